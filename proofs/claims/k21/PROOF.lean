import PyProof.Rows.All
import Wide.All
import OpenK.AllK
import Wide.FinOn
import PyProof.EqAt
import PyProof.EqKinds
import PyProof.TupleCall
import PySem.Challenge.RW_surecounts_k21_facts_told_apart
import HandS.ForMost
import HandS.Exc
import HandS.ExcOwn
import HandS.TryOnly
import HandS.WordsExc
import HandS.Zip
import HandS.Conv
import HandS.IsInst
import HandS.Deep
import HandS.TupAny
import HandS.Strs
import HandS.SetFor
import HandS.Evl
import HandS.Style
import HandS.ExcIs
import KE.GoesEnum
import KE.GoesMore
import HandS.CallSlots
import OpenK.KMeth
import HandS.TupSets
import HandS.SortKw
import KE.DataMinMax
import HandS.Defaults
import HandS.ForExc
import HandS.Property
import HandS.Star
import HandS.ClsMeth
import HandS.CallLocal
import PyProof.InstNe
import KE.KOpsOwn
import HandS.OwnEq
import PyProof.NeKinds
import HandS.Small
import HandS.Dict
set_option Elab.async false
set_option linter.all false
set_option maxRecDepth 100000
set_option maxHeartbeats 2100000
/-! several clauses «except X as n», one after the other -/
namespace TA5
open PySem L2 PySem.Spec PyProof.Rows
abbrev TSx := Addr → Value → Option Addr → TS
def wAll (K : PySem.W.Frag) (Wout : WX) (D : Ends) : List (Value × Nat × TSx) → WX
  | [] => Wout
  | (c, i, ts) :: r => fun cls d σ H => ∃ b, PySem.W.exmOne K cls c = some b ∧
    (b = true → ∀ a, H a = none → ts a cls d { nx := fun σ' H' => D.nx (σ'.set i none) H', rt := D.rt, bk := fun σ' H' => D.bk (σ'.set i none) H', ct := fun σ' H' => D.ct (σ'.set i none) H' } (σ.set i (some (.ref a))) H) ∧ (b = false → wAll K Wout D r cls d σ H)
inductive Hds (X : Cx) : List ExceptHandler → List (Value × Nat × TSx) → Prop
  | nil : Hds X [] []
  | cons {x n : Str} {i : Nat} {c : Value} {ts : TSx} {b₀ : Stmt} {suite : List Stmt} {np pos' : Pos} {hds : List ExceptHandler} {l : List (Value × Nat × TSx)} (hi : X.N[i]? = some n) (hln : X.env.kindOf n = some .local) (hc : Names X x c)
      (hsu : ∀ (a : Addr) (oe : Obj) (cls : Value) (d : Option Addr) (pn : List (Addr × Obj)), Zc cls d oe → (∃ vs, oe.data = .fields vs) → PSs (X.suite a ((a, oe) :: pn)) (b₀ :: suite) (ts a cls d)) (r : Hds X hds l) :
      Hds X (.ExceptHandler (some (.Name x np)) (some n) (b₀ :: suite) pos' :: hds) ((c, i, ts) :: l)
section
variable {X : Cx} {body : List Stmt} {h₀ : ExceptHandler} {hds : List ExceptHandler} {l : List (Value × Nat × TSx)} {pos : Pos} {tb : WX → TS} {Wout : WX}
theorem ps_try_all (hs : X.stack = X.env :: X.outer) (hf : X.env.frame = some X.env.locals) (hN : X.N.Nodup) (tk : Takes X Wout)
    (hb : ∀ (W : WX) (pn : List (Addr × Obj)) (xe : Value → Shared → Prop), Takes (X.tr pn xe) W → PassesOwn (model X.prog X.w) X.A X.env xe → PSs (X.tr pn xe) body (tb W))
    (hh : Hds X (h₀ :: hds) l) : PS X (.Try body (h₀ :: hds) [] [] pos) (fun D σ H => tb (wAll X.K Wout D l) D σ H) := by
  refine ⟨fun pins s σ H D I h => ?_⟩
  have ok := I.ok; have hfr : X.A.frames = some (X.env :: X.outer) := by rw [I.ok.frames, hs]
  refine wpAny_Try_except ?_
  refine wpAny_mono ((hb (wAll X.K Wout D l) (X.pn ++ pins) (fun e s₁ => wpAny (model X.prog X.w) X.A (noteFrame e X.env) (fun _ s₂ => wpAny (model X.prog X.w) X.A (setFlight e none) (fun _ s₃ =>
    wpAny (model X.prog X.w) X.A (handleBy e X.env (h₀ :: hds)) (SP X pins D) X.xe s₃) X.xe s₂) X.xe s₁) (fun u s' xx => ?_) PassesOwn.looking).run [] s σ H D (I.toTry _) h) (fun f s1 hsp => ?_) (fun e s1 he => he)
  · obtain ⟨a, B, sI, pins', σ', H', cls, d, rfl, J', nb, up, sky, na, os, ag, w⟩ := xx
    have J : Inv X pins σ' H' sI := J'.ofTry ok; have sky' : Sky B (X.env :: X.outer) a (Zc cls d) X.env.locals s'.heap := by rw [← hs]; exact sky
    show wpAny (model X.prog X.w) X.A (noteFrame (.ref a) X.env) _ _ _
    refine Sky.land Zc.steady hfr hf sky' fun h3 fl3 up3 => ?_
    have J3 : Inv X pins σ' H' { s' with heap := h3 } := J.landed nb fl3.1 (up.trans up3) os ag; obtain ⟨oe3, vs3, he3, hz3, hd3⟩ := fl3.there
    have notFr : ∀ {hq : Heap} {oq : Obj} {vq : Array Value}, hq.FunFrames B (X.env :: X.outer) → hq.get? a = some oq → oq.data = .fields vq → a ∉ frs (X.env :: X.outer) := fun {hq oq vq} ff e dd hm => by
      obtain ⟨_, o', e', hnf⟩ := ff.mem hm; rw [e] at e'; cases e'
      exact hnf _ dd
    have nfr := notFr fl3.2.2.1 he3 hd3
    have nL : a ≠ X.env.locals := fun z => nfr (List.mem_filterMap.mpr ⟨X.env, List.mem_cons_self, by rw [hf, z]⟩); have nF : a ∉ X.fs := fun hm => by
      obtain ⟨e, he, q⟩ := List.mem_filterMap.mp hm; exact nfr (List.mem_filterMap.mpr ⟨e, List.mem_cons_of_mem _ he, q⟩)
    have S3 := J3.suite he3 hd3 na nL nF
    have go : ∀ {hds' : List ExceptHandler} {l' : List (Value × Nat × TSx)}, Hds X hds' l' → wAll X.K Wout D l' cls d σ' H' → wpAny (model X.prog X.w) X.A (handleBy (.ref a) X.env hds') (SP X pins D) X.xe { s' with heap := h3 } := by
      intro hds' l' hk
      induction hk with
      | nil =>
        intro w
        refine wpAny_handleBy_nil ?_
        obtain ⟨k1, k2, k3, oe, vs, T, oT, ts', he, hz, hd, h1, hr⟩ := id fl3
        unfold PySem.passOn
        refine wpAny_bind (wpAny_field he hd h1 ?_); rw [if_neg (show ¬ ((Value.ref T == Value.none) = true) from by simp)]
        have fin : wpAny (model X.prog X.w) X.A (setFlight (.ref a) X.env.frame) (fun _ s4 => wpAny (model X.prog X.w) X.A (throw (.ref a) : Sem Flow) (SP X pins D) X.xe s4) X.xe { s' with heap := h3 } := by
          rw [hf]
          refine HandSPX.setFlight_upZ fl3 fun h4 hh4 up4 => wpAny_throw (tk _ _ ?_)
          exact ⟨a, B, sI, pins, σ', H', cls, d, rfl, J, nb, (up.trans up3).trans up4, .inr (.inr (by rw [hs]; exact hh4)), na, os, ag, w⟩
        first
          | exact wpAny_bind (wpAny_pure (wpAny_bind fin))
          | exact wpAny_bind fin
      | @cons x n i c ts b₀ suite np pos' hds2 l2 hi hln hc hsu r ih =>
        intro w
        obtain ⟨b, hb1, hyes, hno⟩ := w
        refine wpAny_handleBy_cons (codeAny_handlers_test ?_) (by intro q; cases q)
        have LT : PySem.W.Looks (model X.prog X.w) h3 (typeOf (.ref a)) cls := fun A Q E s k q => wpAny_typeOf_ref (k _ _ he3) (by rw [hz3.1]; exact q)
        have LM := PySem.W.exm_one (M := model X.prog X.w) (J3.kIn) LT hb1
        have test : ∀ {Q : Value → Shared → Prop} {E : Value → Shared → Prop}, Q c { s' with heap := h3 } → wpAny (model X.prog X.w) (X.A.mark (some (.ref a))) (eval (.Name x np) X.env) Q E { s' with heap := h3 } := fun {Q E} q => by
          obtain ⟨hg, hdbg, hm | ⟨hm, hv, hnn⟩⟩ := hc
          · exact ld_glob (X := X.suite a ((a, oe3) :: (X.pn ++ pins))) S3 hg hm q hdbg
          · exact ld_blt (X := X.suite a ((a, oe3) :: (X.pn ++ pins))) S3 hg hm hv q hnn hdbg
        refine test (LM.here ?_)
        cases b with
        | true =>
          refine codeAny_handlers_suite_as ?_
          refine HandSPX.lands_againZ fl3 fun h4 fl4 up4 => ?_
          have J4 : Inv X pins σ' H' { s' with heap := h4 } := J.landed nb fl4.1 ((up.trans up3).trans up4) os ag
          obtain ⟨oe4, vs4, he4, hz4, hd4⟩ := fl4.there
          have S4 := J4.suite he4 hd4 na nL nF
          refine store_ok (X := X.suite a ((a, oe4) :: (X.pn ++ pins))) (v := .ref a) S4 hN hi (.inl hln) rfl (fun s5 S5 => ?_) (.inr hln)
          refine wpAny_mono ((hsu a oe4 cls d (X.pn ++ pins) hz4 ⟨_, hd4⟩).run [] s5 _ H' _ S5 (hyes rfl a na)) (fun f s6 hsp => ?_) (fun _ _ z => False.elim z)
          have end_ : ∀ {σ6 : L2.St} {H6 : Hp} {Q : Shared → Prop}, Inv (X.suite a ((a, oe4) :: (X.pn ++ pins))) [] σ6 H6 s6 → (∀ s7, Inv X pins (σ6.set i none) H6 s7 → Q s7) →
              wpAny (model X.prog X.w) X.A (do bindName X.env n .none; unbindBehindTheSuite X.env n pos') (fun _ s7 => Q s7) X.xe s6 := fun {σ6 H6 Q} S6 hq => gone_ok (S6.unsuite ok) hN hi hln hq
          cases f with
          | next => obtain ⟨σ6, H6, S6, q6⟩ := hsp; exact end_ S6 fun s7 J7 => ⟨_, _, J7, q6⟩
          | brk => obtain ⟨σ6, H6, S6, q6⟩ := hsp; exact end_ S6 fun s7 J7 => ⟨_, _, J7, q6⟩
          | cont => obtain ⟨σ6, H6, S6, q6⟩ := hsp; exact end_ S6 fun s7 J7 => ⟨_, _, J7, q6⟩
          | ret u => obtain ⟨v6, σ6, H6, S6, r6, q6⟩ := hsp; exact end_ S6 fun s7 J7 => ⟨_, _, _, J7, r6, q6⟩
        | false =>
          show wpAny _ X.A (handleBy (.ref a) X.env hds2) _ _ _
          exact ih (hno rfl)
    exact go hh w
  · cases f with
    | next => obtain ⟨σ', H', J', q⟩ := hsp; exact wpAny_execs_nil ⟨σ', H', J'.ofTry ok, q⟩
    | brk => obtain ⟨σ', H', J', q⟩ := hsp; exact ⟨σ', H', J'.ofTry ok, q⟩
    | cont => obtain ⟨σ', H', J', q⟩ := hsp; exact ⟨σ', H', J'.ofTry ok, q⟩
    | ret u => obtain ⟨v, σ', H', J', r, q⟩ := hsp; exact ⟨v, σ', H', J'.ofTry ok, r, q⟩
end
end TA5

namespace PySem
open Builtin
/-- a class's chain behind itself: own classes, then a base's -/
structure Tail (bm : List Value) (newId : String) : Prop where
  base : ∃ B initId tail, ExcBaseFacts B newId initId tail ∧ ∀ X : String, bm.contains (.type X) = tail.contains (.type X)
  pass : ∀ self C, refuseLoop self "__setattr__" (.ref C :: bm) = pure ()
  obj : bm.contains (.type "object") = true
end PySem
namespace TA5
open PySem PySem.W PySem.Calls PyProof.Rows PySem.HandSPX PySem.Builtin PySem.Builtin.ObjectAttr
theorem tail_ve : Tail [.type "ValueError", .type "Exception", .type "BaseException", .type "object"] "ValueError.__new__" := ⟨⟨_, _, _, PySem.F.excBase_ValueError, fun _ => rfl⟩, fun self C => by rw [refuseLoop_ref]; exact PySem.F.store_ValueError.passes self, rfl⟩
theorem tail_ex {S : Addr} : Tail [.ref S, .type "Exception", .type "BaseException", .type "object"] "Exception.__new__" := ⟨⟨_, _, _, PySem.F.excBase_Exception, fun X => by rw [List.contains_cons]; rfl⟩, fun self C => by rw [refuseLoop_ref, refuseLoop_ref]; exact PySem.F.store_Exception.passes self, rfl⟩
theorem one_size (v : Value) : [v].length ≤ sizeLine := by
  rw [sizeLine_eq]
  exact (by decide : 1 ≤ 16777216)
theorem ldC {M : Model} {s : Shared} {name : Str} {scope : Scope} {L a : Addr} {cd : Value} {m : Str → Option Value} {x : Str} {pos : Pos} {v : Value} {Q : Value → Shared → Prop} {A : Around} {E : Value → Shared → Prop} (hn : s.heap.Ns L m) (hv : m x = some v) (h : Q v s)
    (hk : scope.kind = .function := by rfl) (hl : (envOfC name scope L a cd).kindOf x = some .local := by rfl) (hd : (x == ("__debug__" : Str)) = false := by decide) :
    wpAny M A (eval (.Name x pos) (envOfC name scope L a cd)) Q E s := wpAny_Name (wpAny_loadName_local hk hl hn hv h) hd
section
variable {prog : Program} {w : World} {A : Around} {R : Result → Shared → Prop} {hp : Heap} {g : Array GenState} {d : Drawn} {t : Nat} {os : OsState}
theorem exc_osaT {K : W.Frag} {name : Str} {tk : Tok} {v : Value} {x C : Addr} {fv : Array Value} {cd : ClassData} {bm : List Value}
    (X : K.In hp) (hx : hp.get? x = some { cls := .ref C, data := .fields fv }) (hcd : W.clsIn K C = some cd) (hps : ∀ self C, refuseLoop self "__setattr__" (.ref C :: bm) = pure ()) (hobj : bm.contains (.type "object") = true) (hmro : cd.mro = .ref C :: bm) (ha : W.findIn K (.ref C) name = some none)
    (hq : ∀ h' tk' dx, (∀ b o, b ≠ x → hp.get? b = some o → h'.get? b = some o) → hp.objs.size ≤ dx → dx ≠ x → h'.get? x = some { cls := .ref C, dict := some dx, data := .fields fv } →
      h'.Ns1 dx (fun y => if y = name then some v else none) → R (.ok (.ret .none)) ⟨h', g, d, tk', os⟩) (hh : cd.hasDict = true := by rfl) :
    codeAny (model prog w) A (.call (.builtin "object.__setattr__") ⟨[.ref x, .str name tk, v], []⟩) R ⟨hp, g, d, t, os⟩ := by
  have I : W.InstAt hp x { cls := .ref C, data := .fields fv } C none := ⟨hx, rfl, rfl, trivial⟩
  have SF := F.store_object
  have ne : cd.mro.isEmpty = false := by rw [hmro] <;> rfl
  have hob : cd.mro.contains (.type "object") = true := by rw [hmro, List.contains_cons, hobj, Bool.or_true]
  have hxs : x ≠ hp.objs.size := Nat.ne_of_lt (Heap.lt_size hx)
  have sub : W.Looks (model prog w) hp (isInstance (.ref x) (.type "object")) true := I.type.andThen (W.looks_mroIn X (by unfold W.mroIn; rw [hcd, Option.bind_some, if_neg (by rw [ne]; decide), hob]))
  refine codeAny_call_builtin SF.slot.plain SF.entry (@W.check_slot (model prog w) _ _ ⟨hp, g, d, t, os⟩ "object.__setattr__" "object" "__setattr__" (.ref x) [.str name tk, v] [] _ SF.kind SF.split sub (SF.args (.ref x) (.str name tk) v) ?_)
  have hmr : W.Looks (model prog w) hp (mroOf (.ref C)) cd.mro := (W.looks_clsIn X hcd).andThen .now
  have L3 : W.Looks (model prog w) hp (storeTaker? none) none := .now
  have hcls : W.Looks (model prog w) hp (classData C) cd := W.looks_clsIn X hcd
  rw [W.osa_eq, refuse_eq]
  refine wpAny_bind (wpAny_bind (I.type.at (wpAny_bind (hmr.at ?_))))
  rw [hmro, hps]
  refine wpAny_pure (wpAny_bind (I.type.at (wpAny_bind ((W.looks_findIn X ha).at (wpAny_bind (L3.at ?_))))))
  show wpAny _ _ (storeInOwnDict (.ref x) (.ref C) (.str name tk) name v false) _ _ _
  clear hmro ne hob hmr sub
  obtain ⟨nm, bs, mro, ns, qn, hd, sn, sb, ab, col, del⟩ := cd
  dsimp only at hh
  subst hh
  unfold storeInOwnDict ownDictForStores
  repeat (first | with_reducible refine store_in_new ?_ ?_ | with_reducible refine wpAny_loadPart_at hx ?_ | with_reducible refine hcls.at ?_ | wp_step)
  · exact ⟨_, #[], _, (Heap.get?_update_ne _ _ _ _ hxs.symm).trans (Heap.get?_push_at rfl rfl), rfl, fun e he => absurd he (by simp), fun _ => rfl⟩
  · intro h' tk' hn' hs
    have hx₁ : (hp.push { cls := .type "dict", data := .dict #[] }).get? x = some { cls := .ref C, data := .fields fv } := Heap.get?_push_of_some _ hx
    refine hq h' tk' hp.objs.size (fun b o hb ho => ?_) (Nat.le_refl _) hxs.symm ?_ hn'
    · exact (hs.2 b (Nat.ne_of_lt (Heap.lt_size ho))).trans ((Heap.get?_update_ne _ _ _ _ hb).trans (Heap.get?_push_of_some _ ho))
    · exact (hs.2 x hxs).trans (Heap.get?_update_self _ hx₁ rfl)
end
end TA5

namespace PySem
namespace ErrP
open PySem.W PySem.Calls PyProof.Rows PySem.HandSPX
def iA (p1 p2 : Pos) : Arguments := { posonlyargs := [], args := [{ arg := "self", annotation := none, pos := p1 }, { arg := "place", annotation := none, pos := p2 }], vararg := none, kwonlyargs := [], kw_defaults := [], kwarg := none, defaults := [] }
def iB (q1 q2 q3 q4 : Pos) : List Stmt := [.Assign [.Attribute (.Name "self" q1) "place" q2] (.Name "place" q3) q4]
def iS : Scope := { kind := .function, names := [(PySem.Str.ofString "self", .local), (PySem.Str.ofString "place", .local)], isGenerator := false, isCoroutine := false, more := [] }
/-- what the written part says of the error class x, at C, and of its __init__, at fI -/
structure ErrTxt (K : Frag) (mg : Str → Option Value) (x q : Str) (C fI : Addr) : Prop where
  gC : mg x = some (.ref C)
  cls : ∃ nm qq N bs bm sn sub ab col dd k0 k1 k2 k3 k5 newId, K.lookup C = some (excClassObj nm qq C N bs bm true sn sub ab col dd k0 k1 k2 k3 k5 newId) ∧ Tail bm newId
  sa : findIn K (.ref C) "__setattr__" = some (some (.builtin "object.__setattr__"))
  ga : findIn K (.ref C) "__getattribute__" = some (some (.builtin "BaseException.__getattribute__"))
  gg : findIn K (.ref C) "__getattr__" = some none
  noN : findIn K (.ref C) "place" = some none
  iC : findIn K (.ref C) "__init__" = some (some (.ref fI))
  tC : typeIn K (.ref fI) = some (.type "function")
  kC : keepIn K (.ref C) = true
  exC : subIn K (.ref C) (.type "BaseException") = some true
  tyC : typeIn K (.ref C) = some (.type "type")
  hdC : hasDictIn K C = true
  te : exmOne K (.ref C) (.ref C) = some true
  fn : ∃ (oc : Value) (od : Option Addr) (doc pm : Value) (an : Option Addr) (cdv ct : Value) (osl : Array (Option Value)) (p1 p2 q1 q2 q3 q4 : Pos),
    K.lookup fI = some ⟨oc, od, .func (fnOf "__init__" q (iA p1 p2) (iB q1 q2 q3 q4) iS .none .none doc pm an cdv ct), osl⟩ ∧ codeIn K cdv q = true
structure InitEnd (h h' : Heap) (x C dx t1 : Addr) (v : Value) : Prop where
  keep : ∀ b o, b ≠ x → h.get? b = some o → h'.get? b = some o
  obj : h'.get? x = some { cls := .ref C, dict := some dx, data := .fields #[.ref t1, .none, .none, .none, .bool false, .none] }
  dbig : h.objs.size ≤ dx
  dne : dx ≠ x
  ns : h'.Ns1 dx (fun y => if y = "place" then some v else none)
structure OwnMade (h h' : Heap) (e C d : Addr) (v : Value) : Prop where
  keep : ∀ b o, h.get? b = some o → h'.get? b = some o
  new : h.objs.size ≤ e
  obj : ∃ oe vs, h'.get? e = some oe ∧ oe.cls = .ref C ∧ oe.dict = some d ∧ oe.data = .fields vs ∧ vs[1]? = some .none
  dbig : h.objs.size ≤ d
  dne : d ≠ e
  ns : h'.Ns1 d (fun y => if y = "place" then some v else none)
section
variable {prog : Program} {w : World} {A : Around} {E : Value → Shared → Prop} {R : Result → Shared → Prop} {s : Shared} {K : Frag} {mg : Str → Option Value} {C fI : Addr} {xn q : Str}
theorem err_init (T : ErrTxt K mg xn q C fI) {x t0 : Addr} {v : Value} (X : K.In s.heap) (hlim : s.heap.NoLimit) (hx : s.heap.get? x = some (excO C t0)) (hnx : K.lookup x = none) (hroom : A.depth < recursionLimit)
    (hq : ∀ h' tk dx, InitEnd s.heap h' x C dx t0 v → R (.ok (.ret .none)) { s with heap := h', toks := tk }) :
    codeAny (model prog w) A (.call (.ref fI) ⟨[.ref x, v], []⟩) R s := by
  obtain ⟨oc, od, doc, pm, an, cdv, ct, osl, p1, p2, q1, q2, q3, q4, ho, hcd⟩ := T.fn
  obtain ⟨nm, qq, N, bs, bm, sn, sub, ab, col, dd, k0, k1, k2, k3, k5, newId, hC, hbm⟩ := T.cls
  have hcl : clsIn K C = some { name := nm, bases := bs, mro := .ref C :: bm, ns := N, qualname := qq, hasDict := true, slotNames := sn, subclasses := sub, abstract := ab, collection := col, hasDel := false } := by unfold clsIn; rw [hC] <;> rfl
  refine Att.call_fn (binds := [("self", .ref x), ("place", v)]) X hlim ho hcd hroom (BindsTo.of_eq (by first | rfl | with_unfolding_all rfl)) (by first | rfl | decide | with_unfolding_all rfl) (fun s₁ IC => ?_) rfl rfl rfl
  obtain ⟨h₁, tk₁, rfl⟩ := IC.toInCall.same
  have k : ∀ b o, s.heap.get? b = some o → h₁.get? b = some o := IC.toInCall.keep
  have hn := IC.toInCall.ns
  have hxL : s.heap.objs.size ≠ x := Nat.ne_of_gt (Heap.lt_size hx)
  have X₁ : K.In h₁ := X.keeps k
  have hx₁ := k _ _ hx
  show wpAny _ _ (execs _ _) _ _ _
  refine wpAny_execs_cons (plainObj_wpAny_Assign_Attribute ?_)
  refine TA5.ldC (v := v) hn (by first | rfl | with_unfolding_all rfl | kernel_rfl) (TA5.ldC (v := .ref x) hn (by first | rfl | with_unfolding_all rfl | kernel_rfl) ?_)
  refine set_plain X₁ (ox := excO C t0) (od := none) ⟨hx₁, rfl, rfl, trivial⟩ T.sa ?_
  refine TA5.exc_osaT X₁ hx₁ hcl hbm.pass hbm.obj rfl T.noN (fun h₃ tk₃ dx k₃ dn dne hx₃ hn₃ => ?_)
  show wpAny _ _ (execs _ _) _ _ _
  have z : s.heap.objs.size < h₁.objs.size := hn.lt
  exact wpAny_execs_nil (hq h₃ tk₃ dx ⟨fun b o hb e => k₃ b o hb (k b o e), hx₃, Nat.le_of_lt (Nat.lt_of_lt_of_le z dn), dne, hn₃⟩)
theorem err_made (T : ErrTxt K mg xn q C fI) {v : Value} (X : K.In s.heap) (hlim : s.heap.NoLimit) (hroom : A.depth + 1 < recursionLimit)
    (hq : ∀ h' tk e d, OwnMade s.heap h' e C d v → R (.ok (.ret (.ref e))) { s with heap := h', toks := tk }) :
    codeAny (model prog w) A (.call (.ref C) ⟨[v], []⟩) R s := by
  obtain ⟨nm, qq, N, bs, bm, sn, sub, ab, col, dd, k0, k1, k2, k3, k5, newId, hC, hbm⟩ := T.cls
  obtain ⟨B, initId, tail, F, hT⟩ := hbm.base
  obtain ⟨hp, g, dr, tk, os⟩ := s
  have k : ∀ b o, hp.get? b = some o → ((hp.push (kdv_tup [v])).push (excO C hp.objs.size)).get? b = some o := fun b o e => Heap.get?_push_of_some _ (Heap.get?_push_of_some _ e)
  have hget : ((hp.push (kdv_tup [v])).push (excO C hp.objs.size)).get? (hp.objs.size + 1) = some (excO C hp.objs.size) := by heap_get
  have hnx : K.lookup (hp.objs.size + 1) = none := by
    cases e : K.lookup (hp.objs.size + 1) with
    | none => rfl
    | some o =>
      have z : hp.get? (hp.objs.size + 1) = some o := X _ _ e
      exact absurd (Nat.lt_of_succ_lt (Heap.lt_size z)) (Nat.lt_irrefl _)
  refine call_own F hT (X _ _ hC) (looks_findIn X T.iC) (fun self => bind_fn X self T.tC) (TA5.one_size v) ?_
  refine err_init (s := ⟨(hp.push (kdv_tup [v])).push (excO C hp.objs.size), g, dr, tk, os⟩) T (X.keeps k) (hlim.keeps k) hget hnx ?_ fun h' tk' dx ⟨k', hx, dn, dne, hns⟩ => ?_
  · show A.depth + 1 < recursionLimit
    exact hroom
  · have old : ∀ b o, hp.get? b = some o → h'.get? b = some o := fun b o e => k' b o (Nat.ne_of_lt (Nat.lt_succ_of_lt (Heap.lt_size e))) (k b o e)
    have z : hp.objs.size + 1 + 1 ≤ dx := by
      first
        | (simpa only [Heap.size_push] using dn)
        | exact dn
        | (have q := dn; rw [Heap.size_push, Heap.size_push] at q; exact q)
    exact ⟨rfl, hq h' tk' (hp.objs.size + 1) dx ⟨old, Nat.le_succ _, ⟨_, _, hx, rfl, rfl, rfl, rfl⟩, Nat.le_trans (Nat.le_trans (Nat.le_succ _) (Nat.le_succ _)) z, dne, hns⟩⟩
end
end ErrP
end PySem
namespace ErrPL
open PySem L2 PySem.Spec PyProof.Rows
theorem relO_err {v : V} {v' : Value} (r : RelV v v') (f : Str) : RelO (List.lookup f [(("place" : Str), v)]) (if f = "place" then some v' else none) := by
  by_cases hw : f = "place"
  · subst hw
    rw [if_pos rfl]
    have q : List.lookup ("place" : Str) [(("place" : Str), v)] = some v := by simp [List.lookup]
    rw [q]
    exact r
  · rw [if_neg hw]
    have qw : (f == ("place" : Str)) = false := by simpa using hw
    have q2 : List.lookup f [(("place" : Str), v)] = none := by simp [List.lookup, qw]
    rw [q2]
    trivial
section
variable {X : Cx} {C fI : Addr} {xn q : Str}
def tMkErr (C : Addr) (ta : TA) : L2.St → Hp → XK → Prop := fun σ H Q => ta σ H fun vs H1 => ∃ v, vs = [v] ∧ ∀ d, H1 d = none → Q (.ref C) (some d) (upd H1 d (.xd [(("place" : Str), v)]))
theorem pmk_err {a : Expr} {ta : TA} {p pos : Pos} {k : Nat} (T : PySem.ErrP.ErrTxt X.K X.mg xn q C fI) (hr : Room k X.A) (ha : PA X [a] ta) (hg : Gl X xn := by rfl) (hdb : (xn == ("__debug__" : Str)) = false := by decide)
    (he : starEach (a :: []) X.env = (false, eval a X.env) :: starEach [] X.env := by rfl) (hpl : (backTo pos (starEach [] X.env)).any (·.1) = false := by rfl) :
    PMk X (.Call (.Name xn p) [a] [] pos) (tMkErr C ta) := by
  intro pins s σ H Q I h
  refine wpAny_Call_Name_kw (ld_glob I hg T.gC ?_ hdb)
  refine PySem.W.callWith_K (h₀ := X.base) I.ok.mod.kin T.kC (thn (ha.run pos pins s σ H _ I h) fun us s1 hh => ?_) he hpl
  obtain ⟨vs, H1, I1, r1, v, ev, q1⟩ := hh
  subst ev
  refine ⟨I1.kIn, ?_⟩
  cases r1 with
  | cons rv rn =>
    rename_i v' us'
    cases rn
    show wpAny _ _ (call (.ref C) [v']) _ _ _
    have hlim := I1.nolimit
    obtain ⟨hp, g, dr, tk, os⟩ := s1
    refine wpAny_call (PySem.ErrP.err_made T I1.kIn hlim (by have := hr.dp; omega) fun h' tk' e d M => ?_)
    show MkP X pins σ Q (.ref e) ⟨h', g, dr, tk', os⟩
    obtain ⟨oe, fv, hoe, hc, hd, hdat, h1⟩ := M.obj
    have hns := M.ns
    obtain ⟨G', g1, g2⟩ := restrict h' fun b => decide (b ≠ e)
    have gk : ∀ b, b ≠ e → G'.get? b = h'.get? b := fun b hb => g1 b (decide_eq_true hb)
    have ge : G'.get? e = none := g2 e (by simp)
    have old : ∀ b o, hp.get? b = some o → G'.get? b = some o := fun b o q => (gk b (Nat.ne_of_lt (Nat.lt_of_lt_of_le (Heap.lt_size q) M.new))).trans (M.keep b o q)
    have ob : ObjOk X.prog X.w (upd H1 d (.xd [(("place" : Str), v)])) G' d (.xd [(("place" : Str), v)]) :=
      ⟨_, hns.at (fun o q => (gk d M.dne).trans q), fun f => relO_err rv f⟩
    have J : Inv X pins σ (upd H1 d (.xd [(("place" : Str), v)])) ⟨G', g, dr, tk', os⟩ := I1.laid (t' := tk') old M.dbig ob
    refine ⟨e, oe, fv, ⟨G', g, dr, tk', os⟩, _, .ref C, some d, rfl, J, fun b o q => ?_, ge, hoe, ⟨hc, hd⟩, hdat, h1, ?_, rfl, I1.bare, raises_own T.exC T.tyC, q1 d (I1.hok.fresh M.dbig)⟩
    · by_cases hb : b = e
      · have q' : G'.get? b = some o := q
        rw [hb, ge] at q'; cases q'
      · exact (gk b hb).symm.trans q
    · rw [upd_ne (Ne.symm M.dne)]
      exact I1.hok.fresh M.new
def tRaiseErr (C : Addr) (W : WX) (ta : TA) : TS := fun _ σ H => tMkErr C ta σ H fun cls d H' => W cls d σ H'
theorem ps_raiseErr {a : Expr} {ta : TA} {W : WX} {p pos pos2 : Pos} {k : Nat} (hc : X.calm = true) (T : PySem.ErrP.ErrTxt X.K X.mg xn q C fI) (hr : Room k X.A) (tk : Takes X W) (ha : PA X [a] ta) (hg : Gl X xn := by rfl) (hdb : (xn == ("__debug__" : Str)) = false := by decide)
    (he : starEach (a :: []) X.env = (false, eval a X.env) :: starEach [] X.env := by rfl) (hpl : (backTo pos (starEach [] X.env)).any (·.1) = false := by rfl) :
    PS X (.Raise (some (.Call (.Name xn p) [a] [] pos)) none pos2) (tRaiseErr C W ta) := ps_raise hc tk (pmk_err T hr ha hg hdb he hpl)
def tFldErr (C : Addr) (a : Addr) (cls : Value) (d : Option Addr) (te : TE) : TE := fun σ H Q => te σ H fun x H1 => x = .ref a ∧ cls = .ref C ∧ ∃ (dd : Addr) (v : V), d = some dd ∧ H1 dd = some (.xd [(("place" : Str), v)]) ∧ Q v H1
theorem pe_fldErr {a : Addr} {oe : Obj} {cls : Value} {d : Option Addr} {pn : List (Addr × Obj)} {e : Expr} {te : TE} {pos : Pos} (T : PySem.ErrP.ErrTxt X.K X.mg xn q C fI) (hz : Zc cls d oe) (hf : ∃ vs, oe.data = .fields vs) (he : PE (X.suite a ((a, oe) :: pn)) e te)
    (hb : attributeBase e "place" X.env (eval e X.env) = eval e X.env := by rfl) :
    PE (X.suite a ((a, oe) :: pn)) (.Attribute e "place" pos) (tFldErr C a cls d te) := by
  refine ⟨fun pins s σ H Q I h => ?_⟩
  refine attr_of hb (thn (he.run pins s σ H _ I h) fun u s1 hh => ?_)
  obtain ⟨x, H1, I1, rx, ex, ec, dd, v, ed, ea, q⟩ := hh
  subst ex
  obtain rfl : u = Value.ref a := rx
  subst ec
  subst ed
  obtain ⟨ha, _⟩ := I1.pin (a, oe) (List.mem_append_left _ List.mem_cons_self)
  obtain ⟨vs, hd⟩ := hf
  have hx : ObjOk X.prog X.w H1 s1.heap dd (.xd [(("place" : Str), v)]) := I1.hok dd _ ea
  obtain ⟨mA, hns, hr⟩ := hx
  obtain ⟨od, ho, hl⟩ := lookIn_ns hns
  have l : List.lookup ("place" : Str) [(("place" : Str), v)] = some v := by simp [List.lookup]
  obtain ⟨u, hu, ru⟩ := RelO.some_of (v := v) (o := mA "place") (by rw [← l]; exact hr "place")
  have J : PySem.W.InstAt s1.heap a oe C (some od) := ⟨ha, hz.1, by unfold PySem.W.notCls; rw [hd] <;> rfl, by rw [hz.2]; exact ho⟩
  exact HandSPX.exc_get I1.kIn J T.ga T.gg T.exC (PySem.W.findObj_own T.hdC T.noN rfl (by rw [hl, hu])) (handed_of ru) ⟨v, H1, I1.tok _, ru, q⟩
end
end ErrPL

namespace PySem
namespace ErrV
open PySem.W PySem.Calls PyProof.Rows PySem.HandSPX
def iA (p1 p2 : Pos) : Arguments := { posonlyargs := [], args := [{ arg := "self", annotation := none, pos := p1 }, { arg := "value", annotation := none, pos := p2 }], vararg := none, kwonlyargs := [], kw_defaults := [], kwarg := none, defaults := [] }
def iB (q1 q2 q3 q4 : Pos) : List Stmt := [.Assign [.Attribute (.Name "self" q1) "value" q2] (.Name "value" q3) q4]
def iS : Scope := { kind := .function, names := [(PySem.Str.ofString "self", .local), (PySem.Str.ofString "value", .local)], isGenerator := false, isCoroutine := false, more := [] }
/-- what the written part says of the error class x, at C, and of its __init__, at fI -/
structure ErrTxt (K : Frag) (mg : Str → Option Value) (x q : Str) (C fI : Addr) : Prop where
  gC : mg x = some (.ref C)
  cls : ∃ nm qq N bs bm sn sub ab col dd k0 k1 k2 k3 k5 newId, K.lookup C = some (excClassObj nm qq C N bs bm true sn sub ab col dd k0 k1 k2 k3 k5 newId) ∧ Tail bm newId
  sa : findIn K (.ref C) "__setattr__" = some (some (.builtin "object.__setattr__"))
  ga : findIn K (.ref C) "__getattribute__" = some (some (.builtin "BaseException.__getattribute__"))
  gg : findIn K (.ref C) "__getattr__" = some none
  noN : findIn K (.ref C) "value" = some none
  iC : findIn K (.ref C) "__init__" = some (some (.ref fI))
  tC : typeIn K (.ref fI) = some (.type "function")
  kC : keepIn K (.ref C) = true
  exC : subIn K (.ref C) (.type "BaseException") = some true
  tyC : typeIn K (.ref C) = some (.type "type")
  hdC : hasDictIn K C = true
  te : exmOne K (.ref C) (.ref C) = some true
  fn : ∃ (oc : Value) (od : Option Addr) (doc pm : Value) (an : Option Addr) (cdv ct : Value) (osl : Array (Option Value)) (p1 p2 q1 q2 q3 q4 : Pos),
    K.lookup fI = some ⟨oc, od, .func (fnOf "__init__" q (iA p1 p2) (iB q1 q2 q3 q4) iS .none .none doc pm an cdv ct), osl⟩ ∧ codeIn K cdv q = true
structure InitEnd (h h' : Heap) (x C dx t1 : Addr) (v : Value) : Prop where
  keep : ∀ b o, b ≠ x → h.get? b = some o → h'.get? b = some o
  obj : h'.get? x = some { cls := .ref C, dict := some dx, data := .fields #[.ref t1, .none, .none, .none, .bool false, .none] }
  dbig : h.objs.size ≤ dx
  dne : dx ≠ x
  ns : h'.Ns1 dx (fun y => if y = "value" then some v else none)
structure OwnMade (h h' : Heap) (e C d : Addr) (v : Value) : Prop where
  keep : ∀ b o, h.get? b = some o → h'.get? b = some o
  new : h.objs.size ≤ e
  obj : ∃ oe vs, h'.get? e = some oe ∧ oe.cls = .ref C ∧ oe.dict = some d ∧ oe.data = .fields vs ∧ vs[1]? = some .none
  dbig : h.objs.size ≤ d
  dne : d ≠ e
  ns : h'.Ns1 d (fun y => if y = "value" then some v else none)
section
variable {prog : Program} {w : World} {A : Around} {E : Value → Shared → Prop} {R : Result → Shared → Prop} {s : Shared} {K : Frag} {mg : Str → Option Value} {C fI : Addr} {xn q : Str}
theorem err_init (T : ErrTxt K mg xn q C fI) {x t0 : Addr} {v : Value} (X : K.In s.heap) (hlim : s.heap.NoLimit) (hx : s.heap.get? x = some (excO C t0)) (hnx : K.lookup x = none) (hroom : A.depth < recursionLimit)
    (hq : ∀ h' tk dx, InitEnd s.heap h' x C dx t0 v → R (.ok (.ret .none)) { s with heap := h', toks := tk }) :
    codeAny (model prog w) A (.call (.ref fI) ⟨[.ref x, v], []⟩) R s := by
  obtain ⟨oc, od, doc, pm, an, cdv, ct, osl, p1, p2, q1, q2, q3, q4, ho, hcd⟩ := T.fn
  obtain ⟨nm, qq, N, bs, bm, sn, sub, ab, col, dd, k0, k1, k2, k3, k5, newId, hC, hbm⟩ := T.cls
  have hcl : clsIn K C = some { name := nm, bases := bs, mro := .ref C :: bm, ns := N, qualname := qq, hasDict := true, slotNames := sn, subclasses := sub, abstract := ab, collection := col, hasDel := false } := by unfold clsIn; rw [hC] <;> rfl
  refine Att.call_fn (binds := [("self", .ref x), ("value", v)]) X hlim ho hcd hroom (BindsTo.of_eq (by first | rfl | with_unfolding_all rfl)) (by first | rfl | decide | with_unfolding_all rfl) (fun s₁ IC => ?_) rfl rfl rfl
  obtain ⟨h₁, tk₁, rfl⟩ := IC.toInCall.same
  have k : ∀ b o, s.heap.get? b = some o → h₁.get? b = some o := IC.toInCall.keep
  have hn := IC.toInCall.ns
  have hxL : s.heap.objs.size ≠ x := Nat.ne_of_gt (Heap.lt_size hx)
  have X₁ : K.In h₁ := X.keeps k
  have hx₁ := k _ _ hx
  show wpAny _ _ (execs _ _) _ _ _
  refine wpAny_execs_cons (plainObj_wpAny_Assign_Attribute ?_)
  refine TA5.ldC (v := v) hn (by first | rfl | with_unfolding_all rfl | kernel_rfl) (TA5.ldC (v := .ref x) hn (by first | rfl | with_unfolding_all rfl | kernel_rfl) ?_)
  refine set_plain X₁ (ox := excO C t0) (od := none) ⟨hx₁, rfl, rfl, trivial⟩ T.sa ?_
  refine TA5.exc_osaT X₁ hx₁ hcl hbm.pass hbm.obj rfl T.noN (fun h₃ tk₃ dx k₃ dn dne hx₃ hn₃ => ?_)
  show wpAny _ _ (execs _ _) _ _ _
  have z : s.heap.objs.size < h₁.objs.size := hn.lt
  exact wpAny_execs_nil (hq h₃ tk₃ dx ⟨fun b o hb e => k₃ b o hb (k b o e), hx₃, Nat.le_of_lt (Nat.lt_of_lt_of_le z dn), dne, hn₃⟩)
theorem err_made (T : ErrTxt K mg xn q C fI) {v : Value} (X : K.In s.heap) (hlim : s.heap.NoLimit) (hroom : A.depth + 1 < recursionLimit)
    (hq : ∀ h' tk e d, OwnMade s.heap h' e C d v → R (.ok (.ret (.ref e))) { s with heap := h', toks := tk }) :
    codeAny (model prog w) A (.call (.ref C) ⟨[v], []⟩) R s := by
  obtain ⟨nm, qq, N, bs, bm, sn, sub, ab, col, dd, k0, k1, k2, k3, k5, newId, hC, hbm⟩ := T.cls
  obtain ⟨B, initId, tail, F, hT⟩ := hbm.base
  obtain ⟨hp, g, dr, tk, os⟩ := s
  have k : ∀ b o, hp.get? b = some o → ((hp.push (kdv_tup [v])).push (excO C hp.objs.size)).get? b = some o := fun b o e => Heap.get?_push_of_some _ (Heap.get?_push_of_some _ e)
  have hget : ((hp.push (kdv_tup [v])).push (excO C hp.objs.size)).get? (hp.objs.size + 1) = some (excO C hp.objs.size) := by heap_get
  have hnx : K.lookup (hp.objs.size + 1) = none := by
    cases e : K.lookup (hp.objs.size + 1) with
    | none => rfl
    | some o =>
      have z : hp.get? (hp.objs.size + 1) = some o := X _ _ e
      exact absurd (Nat.lt_of_succ_lt (Heap.lt_size z)) (Nat.lt_irrefl _)
  refine call_own F hT (X _ _ hC) (looks_findIn X T.iC) (fun self => bind_fn X self T.tC) (TA5.one_size v) ?_
  refine err_init (s := ⟨(hp.push (kdv_tup [v])).push (excO C hp.objs.size), g, dr, tk, os⟩) T (X.keeps k) (hlim.keeps k) hget hnx ?_ fun h' tk' dx ⟨k', hx, dn, dne, hns⟩ => ?_
  · show A.depth + 1 < recursionLimit
    exact hroom
  · have old : ∀ b o, hp.get? b = some o → h'.get? b = some o := fun b o e => k' b o (Nat.ne_of_lt (Nat.lt_succ_of_lt (Heap.lt_size e))) (k b o e)
    have z : hp.objs.size + 1 + 1 ≤ dx := by
      first
        | (simpa only [Heap.size_push] using dn)
        | exact dn
        | (have q := dn; rw [Heap.size_push, Heap.size_push] at q; exact q)
    exact ⟨rfl, hq h' tk' (hp.objs.size + 1) dx ⟨old, Nat.le_succ _, ⟨_, _, hx, rfl, rfl, rfl, rfl⟩, Nat.le_trans (Nat.le_trans (Nat.le_succ _) (Nat.le_succ _)) z, dne, hns⟩⟩
end
end ErrV
end PySem
namespace ErrVL
open PySem L2 PySem.Spec PyProof.Rows
theorem relO_err {v : V} {v' : Value} (r : RelV v v') (f : Str) : RelO (List.lookup f [(("value" : Str), v)]) (if f = "value" then some v' else none) := by
  by_cases hw : f = "value"
  · subst hw
    rw [if_pos rfl]
    have q : List.lookup ("value" : Str) [(("value" : Str), v)] = some v := by simp [List.lookup]
    rw [q]
    exact r
  · rw [if_neg hw]
    have qw : (f == ("value" : Str)) = false := by simpa using hw
    have q2 : List.lookup f [(("value" : Str), v)] = none := by simp [List.lookup, qw]
    rw [q2]
    trivial
section
variable {X : Cx} {C fI : Addr} {xn q : Str}
def tMkErr (C : Addr) (ta : TA) : L2.St → Hp → XK → Prop := fun σ H Q => ta σ H fun vs H1 => ∃ v, vs = [v] ∧ ∀ d, H1 d = none → Q (.ref C) (some d) (upd H1 d (.xd [(("value" : Str), v)]))
theorem pmk_err {a : Expr} {ta : TA} {p pos : Pos} {k : Nat} (T : PySem.ErrV.ErrTxt X.K X.mg xn q C fI) (hr : Room k X.A) (ha : PA X [a] ta) (hg : Gl X xn := by rfl) (hdb : (xn == ("__debug__" : Str)) = false := by decide)
    (he : starEach (a :: []) X.env = (false, eval a X.env) :: starEach [] X.env := by rfl) (hpl : (backTo pos (starEach [] X.env)).any (·.1) = false := by rfl) :
    PMk X (.Call (.Name xn p) [a] [] pos) (tMkErr C ta) := by
  intro pins s σ H Q I h
  refine wpAny_Call_Name_kw (ld_glob I hg T.gC ?_ hdb)
  refine PySem.W.callWith_K (h₀ := X.base) I.ok.mod.kin T.kC (thn (ha.run pos pins s σ H _ I h) fun us s1 hh => ?_) he hpl
  obtain ⟨vs, H1, I1, r1, v, ev, q1⟩ := hh
  subst ev
  refine ⟨I1.kIn, ?_⟩
  cases r1 with
  | cons rv rn =>
    rename_i v' us'
    cases rn
    show wpAny _ _ (call (.ref C) [v']) _ _ _
    have hlim := I1.nolimit
    obtain ⟨hp, g, dr, tk, os⟩ := s1
    refine wpAny_call (PySem.ErrV.err_made T I1.kIn hlim (by have := hr.dp; omega) fun h' tk' e d M => ?_)
    show MkP X pins σ Q (.ref e) ⟨h', g, dr, tk', os⟩
    obtain ⟨oe, fv, hoe, hc, hd, hdat, h1⟩ := M.obj
    have hns := M.ns
    obtain ⟨G', g1, g2⟩ := restrict h' fun b => decide (b ≠ e)
    have gk : ∀ b, b ≠ e → G'.get? b = h'.get? b := fun b hb => g1 b (decide_eq_true hb)
    have ge : G'.get? e = none := g2 e (by simp)
    have old : ∀ b o, hp.get? b = some o → G'.get? b = some o := fun b o q => (gk b (Nat.ne_of_lt (Nat.lt_of_lt_of_le (Heap.lt_size q) M.new))).trans (M.keep b o q)
    have ob : ObjOk X.prog X.w (upd H1 d (.xd [(("value" : Str), v)])) G' d (.xd [(("value" : Str), v)]) :=
      ⟨_, hns.at (fun o q => (gk d M.dne).trans q), fun f => relO_err rv f⟩
    have J : Inv X pins σ (upd H1 d (.xd [(("value" : Str), v)])) ⟨G', g, dr, tk', os⟩ := I1.laid (t' := tk') old M.dbig ob
    refine ⟨e, oe, fv, ⟨G', g, dr, tk', os⟩, _, .ref C, some d, rfl, J, fun b o q => ?_, ge, hoe, ⟨hc, hd⟩, hdat, h1, ?_, rfl, I1.bare, raises_own T.exC T.tyC, q1 d (I1.hok.fresh M.dbig)⟩
    · by_cases hb : b = e
      · have q' : G'.get? b = some o := q
        rw [hb, ge] at q'; cases q'
      · exact (gk b hb).symm.trans q
    · rw [upd_ne (Ne.symm M.dne)]
      exact I1.hok.fresh M.new
def tRaiseErr (C : Addr) (W : WX) (ta : TA) : TS := fun _ σ H => tMkErr C ta σ H fun cls d H' => W cls d σ H'
theorem ps_raiseErr {a : Expr} {ta : TA} {W : WX} {p pos pos2 : Pos} {k : Nat} (hc : X.calm = true) (T : PySem.ErrV.ErrTxt X.K X.mg xn q C fI) (hr : Room k X.A) (tk : Takes X W) (ha : PA X [a] ta) (hg : Gl X xn := by rfl) (hdb : (xn == ("__debug__" : Str)) = false := by decide)
    (he : starEach (a :: []) X.env = (false, eval a X.env) :: starEach [] X.env := by rfl) (hpl : (backTo pos (starEach [] X.env)).any (·.1) = false := by rfl) :
    PS X (.Raise (some (.Call (.Name xn p) [a] [] pos)) none pos2) (tRaiseErr C W ta) := ps_raise hc tk (pmk_err T hr ha hg hdb he hpl)
def tFldErr (C : Addr) (a : Addr) (cls : Value) (d : Option Addr) (te : TE) : TE := fun σ H Q => te σ H fun x H1 => x = .ref a ∧ cls = .ref C ∧ ∃ (dd : Addr) (v : V), d = some dd ∧ H1 dd = some (.xd [(("value" : Str), v)]) ∧ Q v H1
theorem pe_fldErr {a : Addr} {oe : Obj} {cls : Value} {d : Option Addr} {pn : List (Addr × Obj)} {e : Expr} {te : TE} {pos : Pos} (T : PySem.ErrV.ErrTxt X.K X.mg xn q C fI) (hz : Zc cls d oe) (hf : ∃ vs, oe.data = .fields vs) (he : PE (X.suite a ((a, oe) :: pn)) e te)
    (hb : attributeBase e "value" X.env (eval e X.env) = eval e X.env := by rfl) :
    PE (X.suite a ((a, oe) :: pn)) (.Attribute e "value" pos) (tFldErr C a cls d te) := by
  refine ⟨fun pins s σ H Q I h => ?_⟩
  refine attr_of hb (thn (he.run pins s σ H _ I h) fun u s1 hh => ?_)
  obtain ⟨x, H1, I1, rx, ex, ec, dd, v, ed, ea, q⟩ := hh
  subst ex
  obtain rfl : u = Value.ref a := rx
  subst ec
  subst ed
  obtain ⟨ha, _⟩ := I1.pin (a, oe) (List.mem_append_left _ List.mem_cons_self)
  obtain ⟨vs, hd⟩ := hf
  have hx : ObjOk X.prog X.w H1 s1.heap dd (.xd [(("value" : Str), v)]) := I1.hok dd _ ea
  obtain ⟨mA, hns, hr⟩ := hx
  obtain ⟨od, ho, hl⟩ := lookIn_ns hns
  have l : List.lookup ("value" : Str) [(("value" : Str), v)] = some v := by simp [List.lookup]
  obtain ⟨u, hu, ru⟩ := RelO.some_of (v := v) (o := mA "value") (by rw [← l]; exact hr "value")
  have J : PySem.W.InstAt s1.heap a oe C (some od) := ⟨ha, hz.1, by unfold PySem.W.notCls; rw [hd] <;> rfl, by rw [hz.2]; exact ho⟩
  exact HandSPX.exc_get I1.kIn J T.ga T.gg T.exC (PySem.W.findObj_own T.hdC T.noN rfl (by rw [hl, hu])) (handed_of ru) ⟨v, H1, I1.tok _, ru, q⟩
end
end ErrVL
namespace TA5
open PySem L2 PySem.Spec PyProof.Rows
section
variable {X : Cx}
/-- set(t), t a tuple of ints -/
def rSetTI (K : PySem.W.Frag) (w : World) : List V → Hp → VK → Prop := fun xs H Q => ∃ (p : Addr) (ns : List Int), xs = [.ref p] ∧ SqT K H p (ns.map V.int) ∧ ns.length ≤ 1000 ∧ ∀ (a : Addr) (c : Nat), H a = none → c ≤ ns.length → Q (.ref a) (upd H a (SetO w a (fun j => decide (j ∈ ns)) c))
theorem cr_setTI (hc : X.calm = true) : CallR X (.type "set") (rSetTI X.K X.w) := by
  intro pins s σ H xs us Q I r h
  obtain ⟨p, ns, e, hq, hl, q⟩ := h
  subst e
  cases r with
  | cons r rr =>
    cases rr
    cases r
    obtain ⟨its, rv, pt, hz⟩ := I.tuple hq
    have hi : IntsAre its.toArray.toList ns := ints_of_vals rv
    refine call_set_tupI ns (I.ok.hd hc) (show s.heap.IsTuple p its.toArray from pt) hi (by unfold scanBound; omega) fun h' tk c R1 hcn k => ?_
    have fr : H s.heap.objs.size = none := I.hok.fresh (Nat.le_refl _)
    exact ⟨.ref s.heap.objs.size, _, I.laid (t' := tk) k (Nat.le_refl _) (setO_new R1), rfl, q _ c fr hcn⟩
end
end TA5
namespace Ev2
open PySem PySem.Spec PyProof.Rows L2 Evl RZ

abbrev HP := V → Hp → Prop
def Mono (P : HP) : Prop := ∀ v H H', Evl.Ex H H' → P v H → P v H'
/-- what never changes is kept: all but lists -/
def Fx (H H' : Hp) : Prop := ∀ a o, H a = some o → (∀ xs, o ≠ .lst xs) → H' a = some o
theorem Fx.of {H H' : Hp} (e : Evl.Ex H H') : Fx H H' := fun a o h _ => e a o h
theorem Fx.refl (H : Hp) : Fx H H := fun _ _ h _ => h
theorem Fx.trans {H H1 H2 : Hp} (a : Fx H H1) (b : Fx H1 H2) : Fx H H2 := fun x o h n => b x o (a x o h n) n
theorem Fx.lst {H : Hp} {D : Addr} {xs ys : List V} (h : H D = some (.lst xs)) : Fx H (upd H D (.lst ys)) := fun a o e n => by
  by_cases ha : a = D
  · subst ha; rw [h] at e; cases e; exact absurd rfl (n xs)
  · rw [upd_ne ha]; exact e
def MonoF (P : HP) : Prop := ∀ v H H', Fx H H' → P v H → P v H'
theorem MonoF.mono {P : HP} (m : MonoF P) : Mono P := fun v H H' e p => m v H H' (Fx.of e) p
def EvP (te : TE) (σ : L2.St) (H : Hp) (P : HP) : Prop := ∀ H1, Evl.Ex H H1 → ∀ Q : VK, (∀ v H2, Evl.Ex H1 H2 → P v H2 → Q v H2) → te σ H1 Q
def EvAP (ta : TA) (σ : L2.St) (H : Hp) (P : List V → Hp → Prop) : Prop := ∀ H1, Evl.Ex H H1 → ∀ Q : List V → Hp → Prop, (∀ v H2, Evl.Ex H1 H2 → P v H2 → Q v H2) → ta σ H1 Q
def EvTP (tt : TT) (σ : L2.St) (H : Hp) (b : Bool) : Prop := EvT tt σ H b
def RP (r : R2) (x y : V) (H : Hp) (P : HP) : Prop := ∀ Q : VK, (∀ v H2, Evl.Ex H H2 → P v H2 → Q v H2) → r x y H Q
/-- a list just made whose items are so -/
def LstP (n : Nat) (P : Nat → HP) : HP := fun v H => ∃ p ys, v = .ref p ∧ H p = some (.lst ys) ∧ ys.length = n ∧ ∀ i y, ys[i]? = some y → P i y H
def TupP (n : Nat) (P : Nat → HP) : HP := fun v H => ∃ p ys, v = .ref p ∧ H p = some (.tup ys) ∧ ys.length = n ∧ ∀ i y, ys[i]? = some y → P i y H
def Is (x : V) : HP := fun v _ => v = x
theorem mono_is {x : V} : Mono (Is x) := fun _ _ _ _ h => h
theorem mono_lst {n : Nat} {P : Nat → HP} (m : ∀ i, Mono (P i)) : Mono (LstP n P) := fun v H H' e ⟨p, ys, h1, h2, h3, h4⟩ => ⟨p, ys, h1, e _ _ h2, h3, fun i y hy => m i _ _ _ e (h4 i y hy)⟩
theorem mono_tup {n : Nat} {P : Nat → HP} (m : ∀ i, Mono (P i)) : Mono (TupP n P) := fun v H H' e ⟨p, ys, h1, h2, h3, h4⟩ => ⟨p, ys, h1, e _ _ h2, h3, fun i y hy => m i _ _ _ e (h4 i y hy)⟩
section
variable {K : PySem.W.Frag} {σ : L2.St} {H H' : Hp} {ta tb te : TE} {P R S : HP} {r : R2} {v : V}
theorem EvP.mono (h : EvP te σ H P) (e : Evl.Ex H H') : EvP te σ H' P := fun H1 a Q q => h H1 (e.trans a) Q q
theorem EvP.imp (h : EvP te σ H P) (k : ∀ v H1, Evl.Ex H H1 → P v H1 → R v H1) : EvP te σ H R := fun H1 a Q q => h H1 a Q fun v H2 e p => q v H2 e (k v H2 (a.trans e) p)
theorem evp_of (h : Ev te σ H v) : EvP te σ H (Is v) := fun H1 a Q q => h H1 a Q fun H2 e => q v H2 e rfl
theorem EvP.ev (h : EvP te σ H (Is v)) : Ev te σ H v := fun H1 a Q q => h H1 a Q fun x H2 e p => by rw [show x = v from p]; exact q H2 e
theorem evp_var {i : Nat} (h : σ[i]? = some (some v)) (p : P v H) (m : Mono P) : EvP (tVar i) σ H P := fun H1 e Q q => ⟨v, h, q v H1 (Ex.refl H1) (m _ _ _ e p)⟩
theorem evp_op (ha : EvP ta σ H P) (hb : EvP tb σ H R) (m : Mono P) (hr : ∀ x y H1, Evl.Ex H H1 → P x H1 → R y H1 → RP r x y H1 S) : EvP (tOp r ta tb) σ H S := fun H1 e Q q =>
  ha H1 e _ fun x H2 e2 p => hb H2 (e.trans e2) _ fun y H3 e3 p' => hr x y H3 ((e.trans e2).trans e3) (m _ _ _ e3 p) p' Q fun z H4 e4 s => q z H4 ((e2.trans e3).trans e4) s
theorem evp_un {u : V → Hp → VK → Prop} (ha : EvP ta σ H P) (hr : ∀ x H1, Evl.Ex H H1 → P x H1 → ∀ Q : VK, (∀ v H2, Evl.Ex H1 H2 → S v H2 → Q v H2) → u x H1 Q) : EvP (tUn u ta) σ H S := fun H1 e Q q =>
  ha H1 e _ fun x H2 e2 p => hr x H2 (e.trans e2) p Q fun z H4 e4 s => q z H4 (e2.trans e4) s
theorem eap_nil : EvAP tNil σ H (fun vs _ => vs = []) := fun H1 e Q q => q [] H1 (Ex.refl H1) rfl
theorem eap_one (h : EvP te σ H P) : EvAP (tCons te tNil) σ H (fun vs H1 => ∃ x, vs = [x] ∧ P x H1) := fun H1 e Q q => h H1 e _ fun x H2 e2 p => q [x] H2 e2 ⟨x, rfl, p⟩
theorem eap_two (h : EvP te σ H P) (h2 : EvP ta σ H R) (m : Mono P) : EvAP (tCons te (tCons ta tNil)) σ H (fun vs H1 => ∃ x y, vs = [x, y] ∧ P x H1 ∧ R y H1) := fun H1 e Q q =>
  h H1 e _ fun x H2 e2 p => h2 H2 (e.trans e2) _ fun y H3 e3 p' => q [x, y] H3 (e2.trans e3) ⟨x, y, rfl, m _ _ _ e3 p, p'⟩
theorem eap_three {tc : TE} (h : EvP te σ H P) (h2 : EvP ta σ H R) (h3 : EvP tc σ H S) (m : Mono P) (m2 : Mono R) : EvAP (tCons te (tCons ta (tCons tc tNil))) σ H (fun vs H1 => ∃ x y z, vs = [x, y, z] ∧ P x H1 ∧ R y H1 ∧ S z H1) := fun H1 e Q q =>
  h H1 e _ fun x H2 e2 p => h2 H2 (e.trans e2) _ fun y H3 e3 p' => h3 H3 ((e.trans e2).trans e3) _ fun z H4 e4 p'' => q [x, y, z] H4 ((e2.trans e3).trans e4) ⟨x, y, z, rfl, m _ _ _ (e3.trans e4) p, m2 _ _ _ e4 p', p''⟩
/-- a def's promise, of such arguments -/
def SpP (sp : Sp) (A : List V → Hp → Prop) (S : HP) : Prop := ∀ vs H1, A vs H1 → ∀ Q : VK, (∀ v H2, Evl.Ex H1 H2 → S v H2 → Q v H2) → ∀ E : XK, sp vs H1 Q E
theorem evp_call {sp : Sp} {E : XK} {ta : TA} {A : List V → Hp → Prop} (h : EvAP ta σ H A) (hs : SpP sp A S) : EvP (tCall sp [] E ta) σ H S := fun H1 e Q q =>
  h H1 e _ fun vs H2 e2 a => by
    have z := hs vs H2 a Q (fun v H3 e3 s => q v H3 (e2.trans e3) s) E
    show sp (vs ++ []) H2 Q E
    rw [List.append_nil]
    exact z
theorem evp_cb {rr : List V → Hp → VK → Prop} {ta : TA} {A : List V → Hp → Prop} (h : EvAP ta σ H A) (hs : ∀ vs H1, A vs H1 → ∀ Q : VK, (∀ v H2, Evl.Ex H1 H2 → S v H2 → Q v H2) → rr vs H1 Q) : EvP (tCB rr ta) σ H S := fun H1 e Q q =>
  h H1 e _ fun vs H2 e2 a => hs vs H2 a Q fun v H3 e3 s => q v H3 (e2.trans e3) s
theorem eu_tupP {ta : TA} {A : List V → Hp → Prop} (h : EvAP ta σ H A) (hl : ∀ vs H1, A vs H1 → vs.length ≤ 100000) (m : ∀ vs H1 H2, Evl.Ex H1 H2 → A vs H1 → A vs H2) : EvP (tTup ta) σ H (fun v H1 => ∃ p vs, v = .ref p ∧ H1 p = some (.tup vs) ∧ A vs H1) := fun H1 e Q q =>
  h H1 e _ fun vs H2 e2 a => ⟨sz_of (hl vs H2 a), fun p hp => q _ _ (e2.trans (Ex.new hp)) ⟨p, vs, rfl, upd_same, m _ _ _ (Ex.new hp) a⟩⟩
/-- tuple(a new list) -/
theorem evp_tuple {n : Nat} {Pi : Nat → HP} (h : EvP te σ H (LstP n Pi)) (m : ∀ i, Mono (Pi i)) :
    EvP (tCB (fun xs H Q => ∃ p ys, xs = [.ref p] ∧ ((SqL K H p ys ∧ ∀ l, H l = none → Q (.ref l) (upd H l (.tup ys))) ∨ (SqT K H p ys ∧ Q (.ref p) H))) (tCons te tNil)) σ H (TupP n Pi) := fun H1 e Q q =>
  h H1 e _ fun v H2 e2 ⟨p, ys, hv, hp, hl, hi⟩ => by
    subst hv
    exact ⟨p, ys, rfl, .inl ⟨sq_of hp, fun l hl' => q _ _ (e2.trans (Ex.new hl')) ⟨l, ys, rfl, upd_same, hl, fun i y hy => m i _ _ _ (Ex.new hl') (hi i y hy)⟩⟩⟩

/-! ### what is walked -/
structure Turns (J : It) (n : Nat) (Pre : Hp → Prop) (item : Nat → V → Hp → Prop) : Prop where
  mono : ∀ H H', Fx H H' → Pre H → Pre H'
  go : ∀ i H, i < n → Pre H → J.go i H
  stop : ∀ H, Pre H → J.stop n H
  yld : ∀ i H x H', i < n → Pre H → J.yld i H x H' → Evl.Ex H H' ∧ item i x H'
def WiP (wi : TI) (σ : L2.St) (H : Hp) (n : Nat) (item : Nat → V → Hp → Prop) : Prop := ∀ H1, Evl.Ex H H1 → ∀ R : It → Hp → Prop, (∀ J H2 Pre, Evl.Ex H1 H2 → Turns J n Pre item → Pre H2 → R J H2) → wi σ H1 R
theorem wi_tup {tl : TE} {n : Nat} {Pi : Nat → HP} (h : EvP tl σ H (TupP n Pi)) (m : ∀ i, MonoF (Pi i)) : WiP (iTup K tl) σ H n (fun i x H => Pi i x H) := fun H1 e R k =>
  h H1 e _ fun v H2 e2 ⟨p, ys, hv, hp, hl, hi⟩ => by
    subst hv
    refine ⟨p, rfl, ⟨ys, st_of hp⟩, k _ H2 (fun H => H p = some (.tup ys) ∧ ∀ i y, ys[i]? = some y → Pi i y H) e2 ?_ ⟨hp, hi⟩⟩
    refine ⟨fun H H' e ⟨a, b⟩ => ⟨e _ _ a (fun _ z => nomatch z), fun i y hy => m i _ _ _ e (b i y hy)⟩, fun i H hlt ⟨a, _⟩ => ?_, fun H ⟨a, _⟩ => ?_, fun i H x H' hlt ⟨a, b⟩ y => ?_⟩
    · exact ⟨ys, _, st_of a, List.getElem?_eq_getElem (by omega)⟩
    · exact ⟨ys, st_of a, by omega⟩
    · obtain ⟨rfl, f⟩ := y
      have hx : ys[i]? = some x := by first | exact f ys (st_of a) | (obtain ⟨zs, z1, z2⟩ := f; exact z2)
      exact ⟨Ex.refl _, b i x hx⟩
theorem wi_rng {ta : TA} {n : Nat} (h : EvAP ta σ H (fun vs _ => vs = [.int (n : Int)])) (hn : n ≤ 100000) : WiP (iRng1 ta) σ H n (fun i x _ => x = .int (i : Int)) := fun H1 e R k =>
  h H1 e _ fun vs H2 e2 hv => by
    subst hv
    refine ⟨(n : Int), rfl, by omega, by omega, ?_⟩
    refine k _ H2 (fun _ => True) e2 ⟨fun _ _ _ _ => trivial, fun i H hlt _ => ?_, fun H _ => ?_, fun i H x H' hlt _ y => ?_⟩ trivial
    · show i < (n : Int).toNat
      simpa using hlt
    · show (n : Int).toNat ≤ n
      simp
    · obtain ⟨rfl, rfl⟩ := y
      exact ⟨Ex.refl _, by rw [Int.zero_add]⟩
theorem wi_zip {tl tr : TE} {n : Nat} {Pi Ri : Nat → HP} (h : EvP tl σ H (TupP n Pi)) (h2 : EvP tr σ H (TupP n Ri)) (m : ∀ i, MonoF (Pi i)) (m2 : ∀ i, MonoF (Ri i)) :
    WiP (iZipA K (tCons tl (tCons tr tNil))) σ H n (fun i x H => ∃ T u v, x = .ref T ∧ H T = some (.tup [u, v]) ∧ Pi i u H ∧ Ri i v H) := fun H1 e R k =>
  h H1 e _ fun v H2 e2 ⟨p, ys, hv, hp, hl, hi⟩ => h2 H2 (e.trans e2) _ fun v' H3 e3 ⟨q, zs, hv', hq, hl', hi'⟩ => by
    subst hv
    subst hv'
    refine ⟨p, q, ys, zs, rfl, .inr ⟨st_of (e3 _ _ hp), st_of hq, ?_⟩⟩
    refine k _ H3 (fun H => H p = some (.tup ys) ∧ H q = some (.tup zs) ∧ (∀ i y, ys[i]? = some y → Pi i y H) ∧ ∀ i y, zs[i]? = some y → Ri i y H) (e2.trans e3) ?_ ⟨e3 _ _ hp, hq, fun i y hy => (m i).mono _ _ _ e3 (hi i y hy), hi'⟩
    refine ⟨fun H H' e ⟨a, b, c, d⟩ => ⟨e _ _ a (fun _ z => nomatch z), e _ _ b (fun _ z => nomatch z), fun i y hy => m i _ _ _ e (c i y hy), fun i y hy => m2 i _ _ _ e (d i y hy)⟩, fun i H hlt ⟨a, b, _, _⟩ => ?_, fun H ⟨a, b, _, _⟩ => ?_, fun i H x H' hlt ⟨a, b, c, d⟩ y => ?_⟩
    · exact ⟨ys, zs, _, _, st_of a, st_of b, List.getElem?_eq_getElem (by omega), List.getElem?_eq_getElem (by omega)⟩
    · exact ⟨ys, zs, st_of a, st_of b, .inl (by omega)⟩
    · obtain ⟨T, u, w, rfl, hT, rfl, f1, f2⟩ := y
      have ex := Ex.new (o := .tup [u, w]) hT
      exact ⟨ex, T, u, w, rfl, upd_same, (m i).mono _ _ _ ex (c i u (f1 ys (st_of a))), (m2 i).mono _ _ _ ex (d i w (f2 zs (st_of b)))⟩
/-- targets -/
def GP (g : TG) (x : V) (σ0 : L2.St) (H : Hp) (S : L2.St → Hp → Prop) : Prop := ∀ Q : L2.St → Hp → Prop, (∀ σ2, S σ2 H → Q σ2 H) → g x σ0 H Q
theorem g_pair {x : V} {T : Addr} {u w : V} {σ0 : L2.St} {i j : Nat} (hx : x = .ref T) (h : H T = some (.tup [u, w])) : GP (gTup K 2 (gCons (gName i) (gCons (gName j) gNil))) x σ0 H (fun σ2 _ => σ2 = (σ0.set i (some u)).set j (some w)) := fun Q q =>
  ⟨T, [u, w], hx, st_of h, rfl, u, [w], rfl, w, [], rfl, rfl, q _ rfl⟩
/-- a comprehension without tests -/
theorem evp_lc {wi : TI} {g : TG} {vs : List Nat} {n : Nat} {item : Nat → V → Hp → Prop} {Sg : Nat → L2.St → Hp → Prop} {Pi : Nat → HP} (hw : WiP wi σ H n item) (hn : n ≤ 40000)
    (hg : ∀ i x H1, i < n → Evl.Ex H H1 → item i x H1 → GP g x (wipe σ vs) H1 (fun σ2 H2 => wipe σ2 vs = wipe σ vs ∧ Sg i σ2 H2)) (he : ∀ i σ2 H1, i < n → Evl.Ex H H1 → Sg i σ2 H1 → EvP te σ2 H1 (Pi i)) (m : ∀ i, MonoF (Pi i)) :
    EvP (tLc wi g tYes te vs) σ H (LstP n Pi) := fun H1 e Q q => hw H1 e _ fun J H2 Pre e2 T pre => fun D hD => by
  refine ⟨fun i k H3 => k = n - i ∧ i ≤ n ∧ H2 D = none ∧ Evl.Ex H2 H3 ∧ ∃ ys, H3 D = some (.lst ys) ∧ ys.length = i ∧ ∀ j y, ys[j]? = some y → Pi j y H3, ⟨n, by simp, Nat.zero_le _, hD, Ex.new hD, [], upd_same, rfl, fun j y hy => by simp at hy⟩, ?_⟩
  rintro i k H3 ⟨rfl, hi, hD', ex, ys, hys, hl, hP⟩
  have pre3 := T.mono _ _ (Fx.of ex) pre
  by_cases hlt : i < n
  · refine .inr ⟨T.go i H3 hlt pre3, fun H4 => H2 D = none ∧ Evl.Ex H2 H4 ∧ ∃ ys, H4 D = some (.lst ys) ∧ ys.length = i + 1 ∧ ∀ j y, ys[j]? = some y → Pi j y H4, fun H4 ⟨a, b, c⟩ => ⟨n - (i + 1), by omega, rfl, by omega, a, b, c⟩, fun x H4 y => ?_⟩
    obtain ⟨e4, it⟩ := T.yld i H3 x H4 hlt pre3 y
    refine hg i x H4 hlt (((e.trans e2).trans ex).trans e4) it _ fun σ2 ⟨hw2, hs⟩ => ⟨hw2, ?_⟩
    unfold tYes
    dsimp only
    rw [if_pos rfl]
    refine he i σ2 H4 hlt (((e.trans e2).trans ex).trans e4) hs H4 (Ex.refl _) _ fun z H5 e5 hz => ?_
    have hys5 := e5 _ _ (e4 _ _ hys)
    have ex5 : Evl.Ex H2 (upd H5 D (.lst (ys ++ [z]))) := Ex.mut ((ex.trans e4).trans e5) hD'
    refine ⟨ys, hys5, sz_lt (by omega), hD', ex5, ys ++ [z], upd_same, by simp [hl], fun j y hy => ?_⟩
    have key : Pi j y H5 := by
      by_cases hj : j < ys.length
      · rw [List.getElem?_append_left hj] at hy
        exact (m j).mono _ _ _ (e4.trans e5) (hP j y hy)
      · rw [List.getElem?_append_right (by omega)] at hy
        have : j - ys.length = 0 := by
          rcases Nat.eq_zero_or_pos (j - ys.length) with z0 | z0
          · exact z0
          · rw [List.getElem?_eq_none (by simp; omega)] at hy; cases hy
        rw [this] at hy
        have ej : j = i := by omega
        have ey : z = y := by simpa using hy
        rw [ej, ← ey]
        exact hz
    exact m j _ _ _ (Fx.lst hys5) key
  · have hinn : i = n := by omega
    subst hinn
    exact .inl ⟨T.stop H3 pre3, q _ H3 (e2.trans ex) ⟨D, ys, rfl, hys, hl, hP⟩⟩
end
end Ev2
namespace Ev2
open PySem PySem.Spec PyProof.Rows L2 Evl RZ
/-- a state to draw from: the list at s holds the pool's list (at p) and a place -/
structure Dr (s p : Addr) (xs : List Int) (H : Hp) : Prop where
  ne : p ≠ s
  at_ : ∃ k : Nat, H s = some (.lst [.ref p, .int (k : Int)])
  pool : H p = some (.lst (xs.map V.int))
/-- all but the state is kept -/
def Gs (s : Addr) (H H' : Hp) : Prop := ∀ a o, a ≠ s → H a = some o → H' a = some o
theorem Gs.refl (s : Addr) (H : Hp) : Gs s H H := fun _ _ _ h => h
theorem Gs.trans {s : Addr} {H H1 H2 : Hp} (a : Gs s H H1) (b : Gs s H1 H2) : Gs s H H2 := fun x o n h => b x o n (a x o n h)
theorem Gs.of {s : Addr} {H H' : Hp} (e : Evl.Ex H H') : Gs s H H' := fun a o _ h => e a o h
theorem Dr.ex {s p : Addr} {xs : List Int} {H H' : Hp} (d : Dr s p xs H) (e : Evl.Ex H H') : Dr s p xs H' := ⟨d.ne, let ⟨k, h⟩ := d.at_; ⟨k, e _ _ h⟩, e _ _ d.pool⟩
theorem Gs.fx {s p : Addr} {xs : List Int} {H H' : Hp} (g : Gs s H H') (d : Dr s p xs H) : Fx H H' := fun a o h n => by
  by_cases ha : a = s
  · subst ha
    obtain ⟨k, hk⟩ := d.at_
    rw [hk] at h; cases h; exact absurd rfl (n _)
  · exact g a o ha h
def EvD (s p : Addr) (xs : List Int) (te : TE) (σ : L2.St) (H : Hp) (P : HP) : Prop := ∀ H1, Gs s H H1 → Dr s p xs H1 → ∀ Q : VK, (∀ v H2, Gs s H1 H2 → Dr s p xs H2 → P v H2 → Q v H2) → te σ H1 Q
section
variable {K : PySem.W.Frag} {σ : L2.St} {H H' : Hp} {ta tb te : TE} {P R S : HP} {r : R2} {v : V} {s p : Addr} {xs : List Int}
theorem EvD.imp (h : EvD s p xs te σ H P) (k : ∀ v H1, P v H1 → R v H1) : EvD s p xs te σ H R := fun H1 a d Q q => h H1 a d Q fun v H2 e d2 p => q v H2 e d2 (k v H2 p)
/-- a comprehension over range(n) whose items draw -/
theorem evd_lc {tn : TA} {vs : List Nat} {n j : Nat} {Pi : Nat → HP} (hw : ∀ H1, EvAP tn σ H1 (fun vs _ => vs = [.int (n : Int)])) (hn : n ≤ 40000) (hz : ∀ x, wipe ((wipe σ vs).set j (some x)) vs = wipe σ vs)
    (he : ∀ (i : Nat), i < n → EvD s p xs te ((wipe σ vs).set j (some (.int (i : Int)))) H (Pi i)) (m : ∀ i, MonoF (Pi i)) :
    EvD s p xs (tLc (iRng1 tn) (gName j) tYes te vs) σ H (LstP n Pi) := fun H1 e d Q q => hw H1 H1 (Ex.refl _) _ fun vs' H2 e2 hv => by
  subst hv
  refine ⟨(n : Int), rfl, by omega, by omega, fun D hD => ?_⟩
  have d2 := d.ex e2
  have hDs : D ≠ s := fun z => by obtain ⟨k, hk⟩ := d2.at_; rw [z, hk] at hD; cases hD
  have hDp : D ≠ p := fun z => by have := d2.pool; rw [← z, hD] at this; cases this
  refine ⟨fun i k H3 => k = n - i ∧ i ≤ n ∧ Gs s H2 H3 ∧ Dr s p xs H3 ∧ ∃ ys, H3 D = some (.lst ys) ∧ ys.length = i ∧ ∀ j y, ys[j]? = some y → Pi j y H3, ⟨n, by simp, Nat.zero_le _, Gs.of (Ex.new hD), d2.ex (Ex.new hD), [], upd_same, rfl, fun j y hy => by simp at hy⟩, ?_⟩
  rintro i k H3 ⟨rfl, hi, ex, d3, ys, hys, hl, hP⟩
  by_cases hlt : i < n
  · refine .inr ⟨by show i < (n : Int).toNat; simpa using hlt, fun H4 => Gs s H2 H4 ∧ Dr s p xs H4 ∧ ∃ ys, H4 D = some (.lst ys) ∧ ys.length = i + 1 ∧ ∀ j y, ys[j]? = some y → Pi j y H4, fun H4 ⟨a, b, c⟩ => ⟨n - (i + 1), by omega, rfl, by omega, a, b, c⟩, fun x H4 y => ?_⟩
    obtain ⟨rfl, rfl⟩ := y
    refine ⟨hz _, ?_⟩
    unfold tYes
    dsimp only
    rw [if_pos rfl]
    rw [Int.zero_add]
    refine he i hlt H4 ((e.trans (Gs.of e2)).trans ex) d3 _ fun z H5 e5 d5 hz => ?_
    have hys5 := e5 _ _ hDs hys
    refine ⟨ys, hys5, sz_lt (by omega), ?_, ?_, ys ++ [z], upd_same, by simp [hl], fun j y hy => ?_⟩
    · intro a o ha h
      have hna : a ≠ D := fun q => by rw [q, hD] at h; cases h
      rw [upd_ne hna]
      exact e5 _ _ ha (ex _ _ ha h)
    · refine ⟨d5.ne, ?_, ?_⟩
      · obtain ⟨k, hk⟩ := d5.at_
        exact ⟨k, by rw [upd_ne hDs.symm]; exact hk⟩
      · rw [upd_ne hDp.symm]; exact d5.pool
    · have key : Pi j y H5 := by
        by_cases hj : j < ys.length
        · rw [List.getElem?_append_left hj] at hy
          exact m j _ _ _ (Gs.fx e5 d3) (hP j y hy)
        · rw [List.getElem?_append_right (by omega)] at hy
          have : j - ys.length = 0 := by
            rcases Nat.eq_zero_or_pos (j - ys.length) with z0 | z0
            · exact z0
            · rw [List.getElem?_eq_none (by simp; omega)] at hy; cases hy
          rw [this] at hy
          have ej : j = i := by omega
          have ey : z = y := by simpa using hy
          rw [ej, ← ey]
          exact hz
      exact m j _ _ _ (Fx.lst hys5) key
  · have hinn : i = n := by omega
    subst hinn
    exact .inl ⟨by show (i : Int).toNat ≤ i; simp, q _ H3 ((Gs.of e2).trans ex) d3 ⟨D, ys, rfl, hys, hl, hP⟩⟩
theorem evd_tuple {n : Nat} {Pi : Nat → HP} (h : EvD s p xs te σ H (LstP n Pi)) (m : ∀ i, MonoF (Pi i)) :
    EvD s p xs (tCB (fun xs H Q => ∃ p ys, xs = [.ref p] ∧ ((SqL K H p ys ∧ ∀ l, H l = none → Q (.ref l) (upd H l (.tup ys))) ∨ (SqT K H p ys ∧ Q (.ref p) H))) (tCons te tNil)) σ H (TupP n Pi) := fun H1 e d Q q =>
  h H1 e d _ fun v H2 e2 d2 ⟨p, ys, hv, hp, hl, hi⟩ => by
    subst hv
    exact ⟨p, ys, rfl, .inl ⟨sq_of hp, fun l hl' => q _ _ (e2.trans (Gs.of (Ex.new hl'))) (d2.ex (Ex.new hl')) ⟨l, ys, rfl, upd_same, hl, fun i y hy => (m i).mono _ _ _ (Ex.new hl') (hi i y hy)⟩⟩⟩
/-- a pure reading, in a state -/
theorem evd_of (h : ∀ H1, Gs s H H1 → Dr s p xs H1 → EvP te σ H1 P) : EvD s p xs te σ H P := fun H1 e d Q q => h H1 e d H1 (Ex.refl _) Q fun v H2 e2 p => q v H2 (Gs.of e2) (d.ex e2) p

/-! ### two fors: the ints of all, one after the other -/
def acc2 (f : Nat → Nat → V) (m : Nat → Nat) : Nat → List V
  | 0 => []
  | i + 1 => acc2 f m i ++ (List.range (m i)).map (f i)
theorem evp_lc2 {wi wi1 : TI} {g g1 : TG} {vs vs1 : List Nat} {n : Nat} {mm : Nat → Nat} {item : Nat → V → Hp → Prop} {item1 : Nat → Nat → V → Hp → Prop} {Sg : Nat → L2.St → Hp → Prop} {Sg1 : Nat → Nat → L2.St → Hp → Prop} {f : Nat → Nat → V}
    (hw : WiP wi σ H n item) (hn : n ≤ 100) (hmm : ∀ i, mm i ≤ 100)
    (hg : ∀ i x H1, i < n → Evl.Ex H H1 → item i x H1 → GP g x (wipe σ vs) H1 (fun σ2 H2 => wipe σ2 vs = wipe σ vs ∧ Sg i σ2 H2))
    (hw1 : ∀ i σ2 H1, i < n → Evl.Ex H H1 → Sg i σ2 H1 → WiP wi1 σ2 H1 (mm i) (item1 i))
    (hg1 : ∀ i j σ2 x H1 H2, i < n → j < mm i → Evl.Ex H H1 → Sg i σ2 H1 → Fx H1 H2 → item1 i j x H2 → GP g1 x (wipe σ2 vs1) H2 (fun σ3 H3 => wipe σ3 vs1 = wipe σ2 vs1 ∧ Sg1 i j σ3 H3))
    (he : ∀ i j σ3 H1, i < n → j < mm i → Evl.Ex H H1 → Sg1 i j σ3 H1 → Ev te σ3 H1 (f i j)) :
    EvP (tLc2 wi g tYes wi1 g1 tYes te vs vs1) σ H (fun v H1 => ∃ p, v = .ref p ∧ H1 p = some (.lst (acc2 f mm n))) := fun H1 e Q q => hw H1 e _ fun J H2 Pre e2 T pre => fun D hD => by
  have hlen : ∀ i, i ≤ n → (acc2 f mm i).length ≤ 100 * i := by
    intro i
    induction i with
    | zero => intro _; simp [acc2]
    | succ i ih => intro h; have := ih (by omega); have := hmm i; simp [acc2]; omega
  refine ⟨fun i k H3 => k = n - i ∧ i ≤ n ∧ Evl.Ex H2 H3 ∧ H3 D = some (.lst (acc2 f mm i)), ⟨n, by simp, Nat.zero_le _, Ex.new hD, upd_same⟩, ?_⟩
  rintro i k H3 ⟨rfl, hi, ex, hys⟩
  have pre3 := T.mono _ _ (Fx.of ex) pre
  by_cases hlt : i < n
  · refine .inr ⟨T.go i H3 hlt pre3, fun H4 => Evl.Ex H2 H4 ∧ H4 D = some (.lst (acc2 f mm (i + 1))), fun H4 ⟨a, b⟩ => ⟨n - (i + 1), by omega, rfl, by omega, a, b⟩, fun x H4 y => ?_⟩
    obtain ⟨e4, it⟩ := T.yld i H3 x H4 hlt pre3 y
    have exH4 := ((e.trans e2).trans ex).trans e4
    refine hg i x H4 hlt exH4 it _ fun σ2 ⟨hw2, hs⟩ => ⟨hw2, ?_⟩
    unfold tYes
    dsimp only
    rw [if_pos rfl]
    refine hw1 i σ2 H4 hlt exH4 hs H4 (Ex.refl _) _ fun J1 H5 Pre1 e5 T1 pre1 => ?_
    have hys5 := e5 _ _ (e4 _ _ hys)
    refine ⟨fun j k H6 => k = mm i - j ∧ j ≤ mm i ∧ Evl.Ex H2 H6 ∧ Fx H5 H6 ∧ H6 D = some (.lst (acc2 f mm i ++ (List.range j).map (f i))), ⟨mm i, by simp, Nat.zero_le _, (ex.trans e4).trans e5, Fx.refl _, by simpa using hys5⟩, ?_⟩
    rintro j k H6 ⟨rfl, hj, ex6, fx6, hys6⟩
    have pre6 := T1.mono _ _ fx6 pre1
    by_cases hlt1 : j < mm i
    · refine .inr ⟨T1.go j H6 hlt1 pre6, fun H7 => Evl.Ex H2 H7 ∧ Fx H5 H7 ∧ H7 D = some (.lst (acc2 f mm i ++ (List.range (j + 1)).map (f i))), fun H7 ⟨a, b, c⟩ => ⟨mm i - (j + 1), by omega, rfl, by omega, a, b, c⟩, fun x1 H7 y1 => ?_⟩
      obtain ⟨e7, it1⟩ := T1.yld j H6 x1 H7 hlt1 pre6 y1
      have ex7 : Evl.Ex H H7 := (e.trans e2).trans (ex6.trans e7)
      refine hg1 i j σ2 x1 H4 H7 hlt hlt1 exH4 hs ((Fx.of e5).trans (fx6.trans (Fx.of e7))) it1 _ fun σ3 ⟨hw3, hs3⟩ => ⟨hw3, ?_⟩
      rw [if_pos rfl]
      refine he i j σ3 H7 hlt hlt1 ex7 hs3 H7 (Ex.refl _) _ fun H8 e8 => ?_
      have hys8 := e8 _ _ (e7 _ _ hys6)
      have hl8 := hlen i (by omega)
      have hmi := hmm i
      refine ⟨_, hys8, sz_lt (by simp; omega), Ex.mut ((ex6.trans e7).trans e8) hD, (fx6.trans (Fx.of (e7.trans e8))).trans (Fx.lst hys8), ?_⟩
      rw [upd_same, List.range_succ, List.map_append, List.append_assoc]
      rfl
    · have hjm : j = mm i := by omega
      subst hjm
      exact .inl ⟨T1.stop H6 pre6, ex6, hys6⟩
  · have hinn : i = n := by omega
    subst hinn
    exact .inl ⟨T.stop H3 pre3, q _ H3 (e2.trans ex) ⟨D, rfl, hys⟩⟩
end
end Ev2
set_option maxHeartbeats 4100000
namespace K20
open PySem PySem.Spec PyProof.Rows L2 Evl RZ Ev2 TA5
abbrev rLenQ (K : PySem.W.Frag) : List V → Hp → VK → Prop := fun xs H Q => ∃ p ys, xs = [.ref p] ∧ (SqL K H p ys ∨ SqT K H p ys) ∧ Q (.int ys.length) H
abbrev rTupQ (K : PySem.W.Frag) : List V → Hp → VK → Prop := fun xs H Q => ∃ p ys, xs = [.ref p] ∧ ((SqL K H p ys ∧ ∀ l, H l = none → Q (.ref l) (upd H l (.tup ys))) ∨ (SqT K H p ys ∧ Q (.ref p) H))
def topS (i : Nat) : Stmt := PySem.Challenge.pw_surecounts_k21_facts_told_apart.main.body.getD i (.Pass ⟨0, 0, 0, 0⟩)
/-- what the top has written of the built-in names and of the one number -/
structure Txt (mg : Str → Option Value) (tk : Tok) : Prop where
  n_isinstance : mg "isinstance" = none
  n_int : mg "int" = none
  n_bool : mg "bool" = none
  n_tuple : mg "tuple" = none
  n_len : mg "len" = none
  n_all : mg "all" = none
  n_zip : mg "zip" = none
  n_range : mg "range" = none
  n_enumerate : mg "enumerate" = none
  n_max : mg "max" = none
  n_str : mg "str" = none
  n_list : mg "list" = none
  n_sorted : mg "sorted" = none
  n_set : mg "set" = none
  c_MOST_VALUES : mg "MOST_VALUES" = some (.int 8 tk)
structure Df (K : PySem.W.Frag) (mg : Str → Option Value) (x : Str) (st : Stmt) (ps : List Str) (f : Addr) (fd : FuncData) : Prop where
  F : Fun K x x st f fd
  b : Binds K fd ps []
  g : mg x = some (.ref f)
/-- a grid: m rows of n ints, by place -/
def Grid (m n : Nat) (f : Nat → Nat → Int) : HP := TupP m fun i => TupP n fun j => Is (.int (f i j))
theorem mf_is {x : V} : MonoF (Is x) := fun _ _ _ _ h => h
theorem mf_tup {n : Nat} {P : Nat → HP} (m : ∀ i, MonoF (P i)) : MonoF (TupP n P) := fun v H H' e ⟨p, ys, h1, h2, h3, h4⟩ => ⟨p, ys, h1, e _ _ h2 (fun _ z => nomatch z), h3, fun i y hy => m i _ _ _ e (h4 i y hy)⟩
theorem mf_row {n : Nat} {f : Nat → Int} : MonoF (TupP n fun j => Is (.int (f j))) := mf_tup fun _ => mf_is
theorem mf_grid {m n : Nat} {f : Nat → Nat → Int} : MonoF (Grid m n f) := mf_tup fun _ => mf_row
def Tr : HP := Is (.bl true)
section
variable {K : PySem.W.Frag} {σ : L2.St} {H : Hp} {ta tb te : TE} {P : HP}
theorem tup_get {n : Nat} {Pi : Nat → HP} {v : V} {i : Nat} (h : TupP n Pi v H) (hi : i < n) : ∃ p ys y, v = .ref p ∧ H p = some (.tup ys) ∧ ys.length = n ∧ ys[i]? = some y ∧ Pi i y H := by
  obtain ⟨p, ys, h1, h2, h3, h4⟩ := h
  exact ⟨p, ys, _, h1, h2, h3, List.getElem?_eq_getElem (by omega), h4 i _ (List.getElem?_eq_getElem (by omega))⟩
/-- a list whose items are known is known -/
theorem lst_is {n : Nat} {w : Nat → V} {v : V} (h : LstP n (fun i => Is (w i)) v H) : ∃ p, v = .ref p ∧ H p = some (.lst ((List.range n).map w)) := by
  obtain ⟨p, ys, h1, h2, h3, h4⟩ := h
  refine ⟨p, h1, ?_⟩
  rw [h2]
  have : ys = (List.range n).map w := by
    apply List.ext_getElem?
    intro i
    by_cases hi : i < n
    · rw [List.getElem?_map, List.getElem?_range hi, List.getElem?_eq_getElem (by omega)]
      exact congrArg some (h4 i _ (List.getElem?_eq_getElem (by omega)))
    · rw [List.getElem?_eq_none (by omega), List.getElem?_eq_none (by simp; omega)]
  rw [this]
theorem evp_all {n : Nat} (h : EvP te σ H (LstP n (fun _ => Tr))) : EvP (tCB (rAll K) (tCons te tNil)) σ H Tr := fun H1 e Q q => h H1 e _ fun v H2 e2 p => by
  obtain ⟨l, rfl, hl⟩ := lst_is p
  refine ⟨l, (List.range n).map (fun _ => true), rfl, ?_, ?_⟩
  · rw [List.map_map]; exact sq_of hl
  · have : ((List.range n).map (fun _ => true)).all id = true := by simp
    rw [this]
    exact q _ H2 e2 rfl
theorem evp_isi {t u : Value} {c : V} {b : Bool} (h : EvP te σ H P) (ht : ∀ x H1, P x H1 → TyX K H1 x t) (hc : ClsV c u) (e : PySem.W.kitOne K t u = some b) : EvP (tCB (rIsi K) (tCons te (tCons (tC c) tNil))) σ H (Is (.bl b)) := fun H1 e1 Q q =>
  h H1 e1 _ fun x H2 e2 p => ⟨x, c, t, u, b, rfl, hc, ht x H2 p, e, q _ H2 e2 rfl⟩
theorem evp_len {n : Nat} {Pi : Nat → HP} (h : EvP te σ H (TupP n Pi)) : EvP (tCB (rLenQ K) (tCons te tNil)) σ H (Is (.int (n : Int))) := fun H1 e Q q =>
  h H1 e _ fun v H2 e2 ⟨p, ys, h1, h2, h3, h4⟩ => ⟨p, ys, by rw [h1], .inr (st_of h2), by rw [h3]; exact q _ H2 e2 rfl⟩
theorem evp_c {v : V} : EvP (tC v) σ H (Is v) := evp_of ev_c
theorem evp_ixT {n : Nat} {Pi : Nat → HP} {i : Nat} (ha : EvP ta σ H (TupP n Pi)) (hb : EvP tb σ H (Is (.int (i : Int)))) (hi : i < n) (m : ∀ i, MonoF (Pi i)) : EvP (tOp (rIxT K) ta tb) σ H (Pi i) := fun H1 e Q q =>
  ha H1 e _ fun v H2 e2 h => hb H2 (e.trans e2) _ fun y H3 e3 hy => by
    obtain ⟨p, ys, z, rfl, hp, hl, hz, hpz⟩ := tup_get h hi
    exact ⟨p, ys, _, z, rfl, hy, st_of (e3 _ _ hp), atI_nat hz, q z H3 (e2.trans e3) ((m i).mono _ _ _ e3 hpz)⟩
/-- two ints, one operation -/
theorem evp_I0 {g : Int → Int → V} {i j : Int} (ha : EvP ta σ H (Is (.int i))) (hb : EvP tb σ H (Is (.int j))) : EvP (tOp (rI0 g) ta tb) σ H (Is (g i j)) := evp_of (ev_op ha.ev hb.ev rv_I0)
theorem evp_I {C : Int → Int → Prop} {g : Int → Int → V} {i j : Int} (ha : EvP ta σ H (Is (.int i))) (hb : EvP tb σ H (Is (.int j))) (hc : C i j) : EvP (tOp (rI C g) ta tb) σ H (Is (g i j)) := evp_of (ev_op ha.ev hb.ev (rv_I hc))
theorem evp_eq {x y : V} (ha : EvP ta σ H (Is x)) (hb : EvP tb σ H (Is y)) (hs : scal x y = true) : EvP (tOp rEq ta tb) σ H (Is (.bl (decide (x = y)))) := evp_of (ev_op ha.ev hb.ev (rv_eq hs))
theorem evp_ne {x y : V} (ha : EvP ta σ H (Is x)) (hb : EvP tb σ H (Is y)) (hs : scal x y = true) : EvP (tOp rNe ta tb) σ H (Is (.bl (!decide (x = y)))) := evp_of (ev_op ha.ev hb.ev (rv_ne hs))
theorem evp_is {x y : V} (h : EvP te σ H (Is x)) (e : x = y) : EvP te σ H (Is y) := e ▸ h
theorem evp_chain {g g' : Int → Int → V} {i j k : Int} {b b' : Bool} {tc : TE} (ha : EvP ta σ H (Is (.int i))) (hb : EvP tb σ H (Is (.int j))) (hc : EvP tc σ H (Is (.int k))) (h1 : g i j = .bl b) (h2 : g' j k = .bl b') :
    EvP (tChain (rI0 g) (rI0 g') ta tb tc) σ H (Is (.bl (b && b'))) := fun H1 e Q q =>
  ha.ev H1 e _ fun H2 e2 => hb.ev H2 (e.trans e2) _ fun H3 e3 => ⟨i, j, rfl, rfl, b, h1, by
    cases b with
    | true =>
      refine iteT ?_
      exact hc.ev H3 ((e.trans e2).trans e3) _ fun H4 e4 => ⟨j, k, rfl, rfl, by rw [h2]; exact q _ H4 ((e2.trans e3).trans e4) rfl⟩
    | false => exact iteF (q _ H3 (e2.trans e3) rfl)⟩
theorem evp_and {a b : Bool} (h1 : EvP ta σ H (Is (.bl a))) (h2 : a = true → EvP tb σ H (Is (.bl b))) : EvP (tAndV ta tb) σ H (Is (.bl (a && b))) := evp_of (ev_andV h1.ev fun h => (h2 h).ev)
theorem evp_or {a b : Bool} (h1 : EvP ta σ H (Is (.bl a))) (h2 : a = false → EvP tb σ H (Is (.bl b))) : EvP (tOrV ta tb) σ H (Is (.bl (a || b))) := evp_of (ev_orV h1.ev fun h => (h2 h).ev)
theorem evp_not {a : Bool} (h1 : EvP ta σ H (Is (.bl a))) : EvP (tNotV ta) σ H (Is (.bl (!a))) := evp_of (ev_notV h1.ev)
theorem et_bl {b : Bool} (h : EvP te σ H (Is (.bl b))) : EvT (tB te) σ H b := et_B h.ev
theorem et_tst {b : Bool} (h : EvP te σ H (Is (.bl b))) : EvT (tTest te) σ H b := et_test h.ev
theorem evp_gl {m n : Nat} {f : Nat → Nat → Int} {i : Nat} {v : V} (h : σ[i]? = some (some v)) (p : Grid m n f v H) : EvP (tVar i) σ H (Grid m n f) := evp_var h p mf_grid.mono
end
theorem g_name {i : Nat} {x : V} {σ0 : L2.St} {H : Hp} {S : L2.St → Hp → Prop} (h : S (σ0.set i (some x)) H) : GP (gName i) x σ0 H S := fun Q q => q _ h
theorem scs (N ps : List Str) (sc : Scope) (h : sc.kind = .function ∧ sc.isCoroutine = false ∧ sc.isGenerator = false) (h1 : (decide N.Nodup) = true) (h2 : N.take ps.length = ps) (h3 : (ps.all fun x => sc.names.lookup x == some .local || sc.names.lookup x == some .cell) = true) (h4 : (sc.names.all fun y => y.2 != .free) = true) : FnScope N ps sc := by
  refine ⟨h.1, h.2.1, h.2.2, of_decide_eq_true h1, h2, fun x hx => ?_, fun y hy e => ?_⟩
  · have := List.all_eq_true.mp h3 x hx
    simpa using this
  · have := List.all_eq_true.mp h4 y hy
    rw [e] at this
    simp at this
end K20
namespace K20
open PySem PySem.Spec PyProof.Rows L2 Evl RZ Ev2 TA5
abbrev s_law_numbers : Stmt := topS 43
abbrev N_law_numbers : List Str := ["_law_cell", "_law_salt", "_law_sizes", "_law_whole_here", "_law_left", "_law_result", "_law_k", "_law_one"]
theorem sc_law_numbers : FnScope N_law_numbers ["_law_cell", "_law_salt", "_law_sizes"] (defScope s_law_numbers) := ⟨rfl, rfl, rfl, by decide +kernel, rfl, by decide +kernel, by decide +kernel⟩
abbrev s_law_draw : Stmt := topS 44
abbrev N_law_draw : List Str := ["_law_state", "_law_many", "_law_at"]
theorem sc_law_draw : FnScope N_law_draw ["_law_state", "_law_many"] (defScope s_law_draw) := ⟨rfl, rfl, rfl, by decide +kernel, rfl, by decide +kernel, by decide +kernel⟩
abbrev s_law_pool : Stmt := topS 45
abbrev N_law_pool : List Str := ["_law_cell", "_law_salt", "_law_many"]
theorem sc_law_pool : FnScope N_law_pool ["_law_cell", "_law_salt", "_law_many"] (defScope s_law_pool) := ⟨rfl, rfl, rfl, by decide +kernel, rfl, by decide +kernel, by decide +kernel⟩
/-- an int with c -/
def BI (c : Int → Prop) : HP := fun v _ => ∃ i, v = .int i ∧ c i
theorem mf_bi {c : Int → Prop} : MonoF (BI c) := fun _ _ _ _ h => h
section
variable {K : PySem.W.Frag} {σ : L2.St} {H : Hp} {ta tb te : TE} {P : HP} {tz : TS} {D : Ends}
theorem q_asgP {i : Nat} (h : EvP te σ H P) (k : ∀ v H1, Evl.Ex H H1 → P v H1 → tz D (σ.set i (some v)) H1) : tSeq (tAsg te (gName i)) tz D σ H := h H (Ex.refl H) _ fun v H1 e p => k v H1 e p
theorem q_appP {l : Addr} {xs : List V} (hl : H l = some (.lst xs)) (ha : Ev ta σ H (.ref l)) (h : EvP te σ H P) (hz : xs.length < 100000) (k : ∀ v H1, Evl.Ex H H1 → P v H1 → tz D σ (upd H1 l (.lst (xs ++ [v])))) :
    tSeq (tDrop (tBM K "list" rAppend ta (tCons te tNil))) tz D σ H := ha H (Ex.refl H) _ fun H1 e1 =>
  ⟨Or.inl ⟨rfl, xs, sq_of (e1 l _ hl)⟩, h H1 e1 _ fun v H2 e2 p => ⟨l, xs, v, rfl, rfl, e2 l _ (e1 l _ hl), sz_lt hz, k v H2 (e1.trans e2) p⟩⟩
theorem s_appP {l : Addr} {xs : List V} (hl : H l = some (.lst xs)) (ha : Ev ta σ H (.ref l)) (h : EvP te σ H P) (hz : xs.length < 100000) (k : ∀ v H1, Evl.Ex H H1 → P v H1 → D.nx σ (upd H1 l (.lst (xs ++ [v])))) :
    tDrop (tBM K "list" rAppend ta (tCons te tNil)) D σ H := ha H (Ex.refl H) _ fun H1 e1 =>
  ⟨Or.inl ⟨rfl, xs, sq_of (e1 l _ hl)⟩, h H1 e1 _ fun v H2 e2 p => ⟨l, xs, v, rfl, rfl, e2 l _ (e1 l _ hl), sz_lt hz, k v H2 (e1.trans e2) p⟩⟩
theorem evp_bI {C : Int → Int → Prop} {g : Int → Int → Int} {c d e : Int → Prop} (ha : EvP ta σ H (BI c)) (hb : EvP tb σ H (BI d)) (h : ∀ i j, c i → d j → C i j ∧ e (g i j)) : EvP (tOp (rI C fun i j => .int (g i j)) ta tb) σ H (BI e) :=
  evp_op ha hb mf_bi.mono fun x y H1 _ ⟨i, hx, hc⟩ ⟨j, hy, hd⟩ Q q => ⟨i, j, hx, hy, (h i j hc hd).1, q _ H1 (Ex.refl H1) ⟨_, rfl, (h i j hc hd).2⟩⟩
theorem evp_b0 {g : Int → Int → Int} {c d e : Int → Prop} (ha : EvP ta σ H (BI c)) (hb : EvP tb σ H (BI d)) (h : ∀ i j, c i → d j → e (g i j)) : EvP (tOp (rI0 fun i j => .int (g i j)) ta tb) σ H (BI e) :=
  evp_op ha hb mf_bi.mono fun x y H1 _ ⟨i, hx, hc⟩ ⟨j, hy, hd⟩ Q q => ⟨i, j, hx, hy, q _ H1 (Ex.refl H1) ⟨_, rfl, h i j hc hd⟩⟩
theorem evp_bi {i : Int} {c : Int → Prop} (h : EvP te σ H (Is (.int i))) (hc : c i) : EvP te σ H (BI c) := h.imp fun v H1 _ p => ⟨i, p, hc⟩
theorem evp_bv {n : Nat} {i : Int} {c : Int → Prop} (h : σ[n]? = some (some (.int i))) (hc : c i) : EvP (tVar n) σ H (BI c) := evp_bi (evp_var h rfl mono_is) hc
theorem evp_bc {i : Int} {c : Int → Prop} (hc : c i) : EvP (tC (.int i)) σ H (BI c) := evp_bi evp_c hc
theorem evp_ixL {p : Addr} {xs : List V} {i : Nat} {v : V} (ha : EvP ta σ H (Is (.ref p))) (hp : SqL K H p xs) (hb : EvP tb σ H (Is (.int (i : Int)))) (hv : xs[i]? = some v) : EvP (tOp (rIxL K) ta tb) σ H (Is v) := evp_of (ev_op ha.ev hb.ev (rv_ixL hp (atI_nat hv)))
end
section
variable {P : Program} {w : World} {K : PySem.W.Frag} {mg : Str → Option Value} {base : Heap} {tk : Tok} {k : Nat}
def spNum : Sp := fun vs H Q _ => ∃ (c s : Int) (a : Addr) (zs : List Int), vs = [.int c, .int s, .ref a] ∧ H a = some (.lst (zs.map V.int)) ∧ (∀ z ∈ zs, 1 ≤ z ∧ z ≤ 1000) ∧ zs.length ≤ 1000 ∧ (0 ≤ s ∧ s ≤ 100000) ∧
  ∀ (p : Addr) (xs : List Int) (H2 : Hp), Evl.Ex H H2 → H p = none → H2 p = some (.lst (xs.map V.int)) → Q (.ref p) H2
theorem fm {a b : Int} (h : 0 < b) : b ≠ 0 ∧ (0 ≤ a.fmod b ∧ a.fmod b < b) := ⟨by omega, Int.fmod_nonneg_of_pos a h, Int.fmod_lt_of_pos a h⟩
theorem ok_num {fa : Addr} {fd : FuncData} (T : Txt mg tk) (D : Df K mg "_law_numbers" s_law_numbers ["_law_cell", "_law_salt", "_law_sizes"] fa fd) :
    FnOk P w K mg base CX0 (k + 1) fa fd ["_law_cell", "_law_salt", "_law_sizes"] spNum := by
  refine D.F.ok sc_law_numbers (fun vs H Q E h => ?_) (fun cdv A outer s H vs Q E hr h => ?_)
  · obtain ⟨c, s, a, zs, rfl, _⟩ := h
    rfl
  · obtain ⟨c, t, a, zs, rfl, ha, hz, hzl, ht, q⟩ := h
    have nd := sc_law_numbers.nd
    refine ⟨_, (pss_cons (ps_set (i := 3) nd rfl (Or.inl rfl) (pe_callB (call_max2 rfl) (by rfl) T.n_max PyProof.Rows.boot_max (pa_cons (pv 0) (pa_cons (pe_op op_sub (pe_un un_neg pe_int) (pv 0)) pa_nil)))) (pss_cons (ps_set (i := 4) nd rfl (Or.inl rfl) (pv 3)) (pss_cons (ps_set (i := 5) nd rfl (Or.inl rfl) (pe_lst pa_nil)) (pss_cons (ps_for PassesOwn.never rfl (pi_range1 (by rfl) T.n_range (pa_cons (pe_callB (r := rLenQ K) call_len_seq (by rfl) T.n_len PySem.boot_len (pa_cons (pv 2) pa_nil)) pa_nil)) (pg_name (i := 6) nd rfl (Or.inl rfl)) (pss_one (ps_if (PW.pt (pw_and (pt_cmpR op_ge (pv 3) (pe_op op_pow pe_int pe_int) (nomark _)) (pw_and1 (pt_cmpR op_gt (pv 4) pe_int (nomark _))))) (pss_cons (ps_expr (pe_bm PySem.F.plainAttrs_list PySem.F.slot_list_append PySem.F.type_list_append mt_append (pv 5) (pa_cons (pe_op op_modN (pv 4) (pe_ix (r := rIxL K) ix_list (pv 2) (pv 6) (fun _ _ => rfl))) pa_nil))) (pss_one (ps_set (i := 4) nd rfl (Or.inl rfl) (pe_op op_fdivN (pv 4) (pe_ix (r := rIxL K) ix_list (pv 2) (pv 6) (fun _ _ => rfl)))))) (pss_cons (ps_set (i := 7) nd rfl (Or.inl rfl) (pe_op op_modN (pe_op op_pow (pe_op op_add (pe_op op_add (pe_op op_modN (pv 3) pe_int) (pe_op op_mul pe_int (pv 1))) pe_int) pe_int) pe_int)) (pss_cons (ps_set (i := 7) nd rfl (Or.inl rfl) (pe_op op_modN (pe_op op_mul (pe_op op_add (pv 7) (pe_op op_mul pe_int (pe_op op_add (pv 6) pe_int))) (pe_op op_add (pv 6) pe_int)) pe_int)) (pss_cons (ps_set (i := 7) nd rfl (Or.inl rfl) (pe_op op_modN (pe_op op_mul (pe_op op_modN (pe_op op_pow (pv 7) pe_int) pe_int) pe_int) pe_int)) (pss_one (ps_expr (pe_bm PySem.F.plainAttrs_list PySem.F.slot_list_append PySem.F.type_list_append mt_append (pv 5) (pa_cons (pe_op op_modN (pe_op op_fdivN (pv 7) pe_int) (pe_ix (r := rIxL K) ix_list (pv 2) (pv 6) (fun _ _ => rfl))) pa_nil)))))))))) (pss_one (ps_ret (pv 5))))))), ?_⟩
    refine q_asgP (P := BI fun _ => True) (fun H1 e1 Q q => ?_) fun v1 H1 e1 ⟨W, hW, _⟩ => ?_
    · exact ⟨_, rfl, 1, rfl, _, rfl, -1, c, rfl, rfl, c, _, rfl, q _ H1 (Ex.refl _) ⟨_, rfl, trivial⟩⟩
    subst hW
    refine q_asgP (P := Is (.int W)) (evp_var rfl rfl mono_is) fun v2 H2 e2 hv2 => ?_
    subst hv2
    refine q_asgL (el_lst ea_nil (by decide)) fun p H3 hp e3 h3 => ?_
    have hpH : H p = none := fresh_back (e1.trans e2) hp
    have ex3 : Evl.Ex H H3 := (e1.trans e2).trans e3
    have key : ∀ (i : Nat) (σ' : L2.St) (H' : Hp), True := fun _ _ _ => trivial
    refine q_forR1 (n := (zs.length : Int)) (ea_cons (EvP.ev (te := tCB (rLenQ K) (tCons (tVar 2) tNil)) fun H4 e4 Q q => ⟨_, rfl, a, _, rfl, .inl (sq_of ((ex3.trans e4) _ _ ha)), by rw [List.length_map]; exact q _ H4 (Ex.refl _) rfl⟩) ea_nil) (by omega)
      (fun i σ' H' => ∃ (L : Int) (xs : List Int) (k1 k2 : Option V), σ' = [some (.int c), some (.int t), some (.ref a), some (.int W), some (.int L), some (.ref p), k1, k2] ∧ xs.length = i ∧ Evl.Ex H H' ∧ H' p = some (.lst (xs.map V.int)))
      (fun H4 e4 => ⟨W, [], none, none, rfl, rfl, ex3.trans e4, e4 _ _ h3⟩) (fun i σ' H' hi ⟨L, xs, k1, k2, hs, hl, ex', hp'⟩ => ?_) (fun σ' H' ⟨L, xs, k1, k2, hs, hl, ex', hp'⟩ => ?_)
    · subst hs
      have hzi : (zs.map V.int)[i]? = some (.int (zs[i]'(by omega))) := by rw [List.getElem?_map, List.getElem?_eq_getElem (by omega)]; rfl
      have hzb := hz (zs[i]'(by omega)) (List.getElem_mem _)
      generalize zs[i]'(by omega) = z at hzi hzb
      have step : ∀ (σ2 : L2.St) (H5 : Hp) (e : Evl.Ex H' H5), σ2[2]? = some (some (.ref a)) → σ2[6]? = some (some (.int (i : Int))) → EvP (tOp (rIxL K) (tVar 2) (tVar 6)) σ2 H5 (BI fun x => 1 ≤ x ∧ x ≤ 1000) := fun σ2 H5 e h2 h6 =>
        evp_bi (evp_ixL (evp_var h2 rfl mono_is) (sq_of ((ex'.trans e) _ _ ha)) (evp_var h6 rfl mono_is) hzi) hzb
      have fin : ∀ (v : V) (H5 : Hp) (L' : Int) (k2' : Option V), Evl.Ex H' H5 → (∃ x, v = .int x ∧ True) → (fun i σ' H' => ∃ (L : Int) (xs : List Int) (k1 k2 : Option V), σ' = [some (.int c), some (.int t), some (.ref a), some (.int W), some (.int L), some (.ref p), k1, k2] ∧ xs.length = i ∧ Evl.Ex H H' ∧ H' p = some (.lst (xs.map V.int))) (i + 1)
          [some (.int c), some (.int t), some (.ref a), some (.int W), some (.int L'), some (.ref p), some (.int (i : Int)), k2'] (upd H5 p (.lst (xs.map V.int ++ [v]))) := fun v H5 L' k2' e ⟨x, hx, _⟩ => by
        subst hx
        refine ⟨L', xs ++ [x], some (.int (i : Int)), k2', rfl, by simp [hl], Ex.mut (ex'.trans e) hpH, ?_⟩
        rw [upd_same, List.map_append]; rfl
      have hW : EvP (tVar 3) [some (.int c), some (.int t), some (.ref a), some (.int W), some (.int L), some (.ref p), some (.int (i : Int)), k2] H' (Is (.int W)) := evp_var rfl rfl mono_is
      have hpw : EvP (tOp (rI CPow fun i j => .int (i ^ j.toNat)) (tC (.int 10)) (tC (.int 18))) [some (.int c), some (.int t), some (.ref a), some (.int W), some (.int L), some (.ref p), some (.int (i : Int)), k2] H' (Is (.int (10 ^ (18 : Int).toNat))) := evp_I evp_c evp_c ⟨by decide, by decide, by decide⟩
      refine s_if (et_and (et_tst (evp_I0 (g := fun i j => .bl (decide (j ≤ i))) hW hpw)) fun _ => et_tst (evp_I0 (g := fun i j => .bl (decide (j < i))) (evp_var (v := .int L) rfl rfl mono_is) evp_c)) (fun _ H5 e5 => ?_) (fun _ H5 e5 => ?_)
      · refine q_appP (P := BI fun _ => True) (e5 _ _ hp') (ev_var rfl) (evp_bI (c := fun _ => True) (e := fun _ => True) (evp_bv rfl trivial) (step _ H5 e5 rfl rfl) fun i j _ hj => ⟨by omega, trivial⟩) (by simp; omega) fun v H6 e6 hv => ?_
        have st6 : EvP (tOp (rIxL K) (tVar 2) (tVar 6)) [some (.int c), some (.int t), some (.ref a), some (.int W), some (.int L), some (.ref p), some (.int (i : Int)), k2] (upd H6 p (.lst (xs.map V.int ++ [v]))) (BI fun x => 1 ≤ x ∧ x ≤ 1000) :=
          evp_bi (evp_ixL (evp_var rfl rfl mono_is) (sq_of ((Ex.mut ((ex'.trans e5).trans e6) hpH) _ _ ha)) (evp_var rfl rfl mono_is) hzi) hzb
        have hdv := evp_bI (C := CDivN) (g := fun i j => i.fdiv j) (c := fun _ => True) (e := fun _ => True) (evp_bv (n := 4) (i := L) rfl trivial) st6 fun i j _ hj => ⟨⟨by omega, by omega⟩, trivial⟩
        refine hdv _ (Ex.refl _) _ fun v7 H7 e7 ⟨x7, hx7, _⟩ => ?_
        subst hx7
        obtain ⟨x, hx, _⟩ := hv
        subst hx
        refine ⟨x7, xs ++ [x], some (.int (i : Int)), k2, rfl, by simp [hl], (Ex.mut ((ex'.trans e5).trans e6) hpH).trans e7, ?_⟩
        rw [e7 _ _ upd_same, List.map_append]; rfl
      · have hone : ∀ (k2' : Option V) (H6 : Hp), EvP (tVar 3) [some (.int c), some (.int t), some (.ref a), some (.int W), some (.int L), some (.ref p), some (.int (i : Int)), k2'] H6 (BI fun _ => True) := fun k2' H6 => evp_bv rfl trivial
        refine q_asgP (P := BI fun x => 0 ≤ x ∧ x < 2147483647) (evp_bI (c := fun _ => True) (d := fun x => x = 2147483647) (evp_bI (c := fun x => 0 ≤ x ∧ x < 10 ^ 18) (d := fun x => x = 3) (e := fun _ => True) (evp_b0 (c := fun x => 0 ≤ x ∧ x < 10 ^ 17) (d := fun x => x = 1) (evp_b0 (c := fun x => 0 ≤ x ∧ x < 2147483629) (d := fun x => 0 ≤ x ∧ x ≤ 791900000)
          (evp_bI (d := fun x => x = 2147483629) (hone k2 H5) (evp_bc rfl) fun i j _ hj => by subst hj; exact fm (by decide)) (evp_bI (c := fun x => x = 7919) (d := fun x => x = t) (evp_bc rfl) (evp_bv rfl rfl) fun i j hi hj => by subst hi; subst hj; exact ⟨.inl ⟨by decide, by decide⟩, by omega⟩)
          fun i j hi hj => by omega) (evp_bc rfl) fun i j hi hj => by omega) (evp_bc rfl) fun i j hi hj => ⟨⟨by omega, by omega, by omega⟩, trivial⟩) (evp_bc rfl) fun i j _ hj => by subst hj; exact fm (by decide)) fun v6 H6 e6 ⟨x6, hx6, hb6⟩ => ?_
        subst hx6
        refine q_asgP (P := BI fun x => 0 ≤ x ∧ x < 2147483629) (evp_bI (c := fun _ => True) (d := fun x => x = 2147483629) (evp_bI (c := fun _ => True) (d := fun x => 0 ≤ x ∧ x ≤ 2000) (e := fun _ => True) (evp_b0 (c := fun _ => True) (d := fun _ => True) (e := fun _ => True) (evp_bv rfl trivial)
          (evp_bI (c := fun x => x = 104729) (d := fun _ => True) (evp_bc rfl) (evp_b0 (c := fun _ => True) (d := fun _ => True) (evp_bv rfl trivial) (evp_bc trivial) fun _ _ _ _ => trivial) fun i j hi hj => by subst hi; exact ⟨.inl ⟨by decide, by decide⟩, trivial⟩) fun _ _ _ _ => trivial)
          (evp_b0 (c := fun x => x = (i : Int)) (d := fun x => x = 3) (evp_bv rfl rfl) (evp_bc rfl) fun i j hi hj => by omega) fun i j _ hj => ⟨.inr ⟨by omega, by omega⟩, trivial⟩) (evp_bc rfl) fun i j _ hj => by subst hj; exact fm (by decide)) fun v7 H7 e7 ⟨x7, hx7, hb7⟩ => ?_
        subst hx7
        refine q_asgP (P := BI fun x => 0 ≤ x ∧ x < 2147483629) (evp_bI (c := fun _ => True) (d := fun x => x = 2147483629) (evp_bI (c := fun x => 0 ≤ x ∧ x < 2147483647) (d := fun x => x = 48271) (e := fun _ => True) (evp_bI (c := fun _ => True) (d := fun x => x = 2147483647) (evp_bI (c := fun x => 0 ≤ x ∧ x < 2147483629) (d := fun x => x = 5) (e := fun _ => True)
          (evp_bv rfl hb7) (evp_bc rfl) fun i j hi hj => ⟨⟨by omega, by omega, by omega⟩, trivial⟩) (evp_bc rfl) fun i j _ hj => by subst hj; exact fm (by decide)) (evp_bc rfl) fun i j hi hj => ⟨.inl ⟨by omega, by omega⟩, trivial⟩) (evp_bc rfl) fun i j _ hj => by subst hj; exact fm (by decide)) fun v8 H8 e8 ⟨x8, hx8, hb8⟩ => ?_
        subst hx8
        refine s_appP (P := BI fun _ => True) (((e5.trans e6).trans (e7.trans e8)) _ _ hp') (ev_var rfl) (evp_bI (c := fun _ => True) (evp_bI (C := CDivN) (g := fun i j => i.fdiv j) (c := fun _ => True) (d := fun x => x = 16) (e := fun _ => True) (evp_bv rfl trivial) (evp_bc rfl) fun i j _ hj => by subst hj; exact ⟨⟨by decide, by decide⟩, trivial⟩)
          (step _ H8 ((e5.trans e6).trans (e7.trans e8)) rfl rfl) fun i j _ hj => ⟨by omega, trivial⟩) (by simp; omega) fun v9 H9 e9 hv9 => ?_
        exact fin v9 H9 L _ (((e5.trans e6).trans (e7.trans e8)).trans e9) hv9
    · subst hs
      exact ⟨_, rfl, q p xs H' ex' hpH hp'⟩
end
section
variable {P : Program} {w : World} {K : PySem.W.Frag} {mg : Str → Option Value} {base : Heap} {tk : Tok} {k : Nat}
theorem evp_if {σ : L2.St} {H : Hp} {t : TT} {ta tb : TE} {b : Bool} {P : HP} (h : EvT t σ H b) (h1 : b = true → EvP ta σ H P) (h2 : b = false → EvP tb σ H P) : EvP (tIf t ta tb) σ H P := fun H1 e Q q => h H1 e _ fun H2 e2 => by
  cases b with
  | true => exact iteT (h1 rfl H2 (e.trans e2) _ fun v H3 e3 p => q v H3 (e2.trans e3) p)
  | false => exact iteF (h2 rfl H2 (e.trans e2) _ fun v H3 e3 p => q v H3 (e2.trans e3) p)
abbrev rInt1 : List V → Hp → VK → Prop := fun xs H Q => (∃ i, xs = [.int i] ∧ Q (.int i) H) ∨ ∃ k, xs = [.bl k] ∧ Q (.int (if k = true then 1 else 0)) H
theorem evp_int1 {σ : L2.St} {H : Hp} {te : TE} {i : Int} (h : EvP te σ H (Is (.int i))) : EvP (tCB rInt1 (tCons te tNil)) σ H (Is (.int i)) := evp_cb (eap_one h) fun vs H1 ⟨x, e, hx⟩ Q q => .inl ⟨i, by rw [e, show x = .int i from hx], q _ H1 (Ex.refl _) rfl⟩
def spDraw : Sp := fun vs H Q _ => ∃ (s p : Addr) (xs : List Int) (m : Int), vs = [.ref s, .int m] ∧ Dr s p xs H ∧ 1 ≤ m ∧ ∀ v H2, Gs s H H2 → Dr s p xs H2 → BI (fun r => 0 ≤ r ∧ r < m) v H2 → Q v H2
theorem ok_draw {fa : Addr} {fd : FuncData} (T : Txt mg tk) (D : Df K mg "_law_draw" s_law_draw ["_law_state", "_law_many"] fa fd) :
    FnOk P w K mg base CX0 (k + 1) fa fd ["_law_state", "_law_many"] spDraw := by
  refine D.F.ok sc_law_draw (fun vs H Q E h => ?_) (fun cdv A outer s H vs Q E hr h => ?_)
  · obtain ⟨s, p, xs, m, rfl, _⟩ := h
    rfl
  · obtain ⟨s, p, xs, m, rfl, d, hm, q⟩ := h
    have nd := sc_law_draw.nd
    refine ⟨_, (pss_cons (ps_set (i := 2) nd rfl (Or.inl rfl) (pe_ix (r := rIxL K) ix_list (pv 0) pe_int (fun _ _ => rfl))) (pss_cons (ps_asg (pe_op op_add (pv 2) pe_int) (pg_sub (pv 0) pe_int set_list)) (pss_one (ps_ret (pe_ifExp (pt_cmpR op_lt (pv 2) (pe_callB (r := rLenQ K) call_len_seq (by rfl) T.n_len PySem.boot_len (pa_cons (pe_ix (r := rIxL K) ix_list (pv 0) pe_int (fun _ _ => rfl)) pa_nil)) (nomark _)) (pe_op op_modN (pe_callTy call_int1 (by rfl) T.n_int PyProof.Rows.boot_int (pa_cons (pe_ix (r := rIxL K) ix_list (pe_ix (r := rIxL K) ix_list (pv 0) pe_int (fun _ _ => rfl)) (pv 2) (fun _ _ => rfl)) pa_nil)) (pv 1)) pe_int))))), ?_⟩
    obtain ⟨n, hn⟩ := d.at_
    refine q_asgP (evp_ixL (i := 1) (v := .int (n : Int)) (evp_var rfl rfl mono_is) (sq_of hn) evp_c rfl) fun v1 H1 e1 hv1 => ?_
    subst hv1
    refine q_setL (j := 1) (e1 _ _ hn) (EvP.ev (evp_I0 (g := fun i j => .int (i + j)) (evp_var (v := .int (n : Int)) rfl rfl mono_is) evp_c)) (ev_var rfl) ev_c (by simp) fun H2 e2 => ?_
    have d2 := d.ex (e1.trans e2)
    have hset : ([V.ref p, .int (n : Int)].set 1 (.int ((n : Int) + 1))) = [V.ref p, .int ((n + 1 : Nat) : Int)] := rfl
    rw [hset]
    have d3 : Dr s p xs (upd H2 s (.lst [V.ref p, .int ((n + 1 : Nat) : Int)])) := ⟨d.ne, ⟨n + 1, upd_same⟩, by rw [upd_ne d.ne]; exact d2.pool⟩
    have g3 : Gs s H (upd H2 s (.lst [V.ref p, .int ((n + 1 : Nat) : Int)])) := fun a o ha h => by rw [upd_ne ha]; exact (e1.trans e2) _ _ h
    generalize upd H2 s (.lst [V.ref p, .int ((n + 1 : Nat) : Int)]) = H3 at d3 g3
    obtain ⟨n3, hn3⟩ := d3.at_
    have hp : EvP (tOp (rIxL K) (tVar 0) (tC (.int 0))) [some (.ref s), some (.int m), some (.int (n : Int))] H3 (fun v H => v = .ref p ∧ H p = some (.lst (xs.map V.int))) :=
      (evp_ixL (i := 0) (v := .ref p) (evp_var rfl rfl mono_is) (sq_of hn3) evp_c rfl).imp fun v H4 e4 hv => ⟨hv, e4 _ _ d3.pool⟩
    have hlen : EvP (tCB (rLenQ K) (tCons (tOp (rIxL K) (tVar 0) (tC (.int 0))) tNil)) [some (.ref s), some (.int m), some (.int (n : Int))] H3 (Is (.int (xs.length : Int))) := evp_cb (eap_one hp) fun vs H4 ⟨x, e, hx, hpl⟩ Q q =>
      ⟨p, _, by rw [e, hx], .inl (sq_of hpl), by rw [List.length_map]; exact q _ H4 (Ex.refl _) rfl⟩
    have hat : EvP (tVar 2) [some (.ref s), some (.int m), some (.int (n : Int))] H3 (Is (.int (n : Int))) := evp_var rfl rfl mono_is
    refine evp_if (b := decide ((n : Int) < (xs.length : Int))) (P := BI fun r => 0 ≤ r ∧ r < m) (et_tst (evp_I0 (g := fun i j => .bl (decide (i < j))) hat hlen)) (fun hb => ?_) (fun _ => evp_bc (by omega)) H3 (Ex.refl H3) _ fun v H4 e4 hv => q v H4 (g3.trans (Gs.of e4)) (d3.ex e4) hv
    have hlt : n < xs.length := by have := of_decide_eq_true hb; omega
    have hx : (xs.map V.int)[n]? = some (.int xs[n]) := by rw [List.getElem?_map, List.getElem?_eq_getElem hlt]; rfl
    refine evp_bI (c := fun _ => True) (d := fun x => x = m) (evp_bi (evp_int1 (i := xs[n]) (evp_op hp hat (fun v H H' e h => ⟨h.1, e _ _ h.2⟩) fun x y H4 e4 ⟨h1, h2⟩ hy Q q => ⟨p, _, (n : Int), _, h1, hy, sq_of h2, atI_nat hx, q _ H4 (Ex.refl _) rfl⟩)) trivial) (evp_bv rfl rfl) fun i j _ hj => by subst hj; exact fm (by omega)
def spPool : Sp := fun vs H Q _ => ∃ (c s m : Int), vs = [.int c, .int s, .int m] ∧ (0 ≤ s ∧ s ≤ 100000) ∧ (0 ≤ m ∧ m ≤ 1000) ∧ ∀ (a : Addr) (H2 : Hp), Evl.Ex H H2 → H a = none → (∃ p xs, Dr a p xs H2) → Q (.ref a) H2
theorem rep_flat (m : Nat) : (List.replicate m [V.int 420]).flatten = (List.replicate m (420 : Int)).map V.int := by
  induction m with
  | zero => rfl
  | succ m ih => rw [List.replicate_succ, List.flatten_cons, ih]; rfl
theorem ok_pool {fa f1 : Addr} {fd fd1 : FuncData} (D__law_numbers : Df K mg "_law_numbers" s_law_numbers ["_law_cell", "_law_salt", "_law_sizes"] f1 fd1) (G__law_numbers : FnOk P w K mg base CX0 (k + 1) f1 fd1 ["_law_cell", "_law_salt", "_law_sizes"] spNum) (T : Txt mg tk)
    (D : Df K mg "_law_pool" s_law_pool ["_law_cell", "_law_salt", "_law_many"] fa fd) : FnOk P w K mg base CX0 (k + 2) fa fd ["_law_cell", "_law_salt", "_law_many"] spPool := by
  refine D.F.ok sc_law_pool (fun vs H Q E h => ?_) (fun cdv A outer s H vs Q E hr h => ?_)
  · obtain ⟨c, s, m, rfl, _⟩ := h
    rfl
  · obtain ⟨c, t, m, rfl, ht, ⟨hm0, hm1⟩, q⟩ := h
    have nd := sc_law_pool.nd
    refine ⟨_, (pss_one (ps_ret (pe_lst (pa_cons (pe_call G__law_numbers (hr.mono (by omega)) (by rfl) D__law_numbers.g D__law_numbers.F.kp D__law_numbers.b .nil pass0 (pa_cons (pv 0) (pa_cons (pv 1) (pa_cons (pe_op op_rep (pe_lst (pa_cons pe_int pa_nil)) (pv 2)) pa_nil)))) (pa_cons pe_int pa_nil))))), ?_⟩
    refine ⟨_, rfl, _, rfl, by decide, fun l hl => ⟨_, rfl, l, m, [.int 420], rfl, rfl, upd_same, by omega, by omega, sz_of (by simp; omega), fun b hb => ?_⟩⟩
    rw [rep_flat]
    have e1 : Evl.Ex H (upd H l (.lst [.int 420])) := Ex.new hl
    have e2 : Evl.Ex H (upd (upd H l (.lst [.int 420])) b (.lst ((List.replicate m.toNat (420 : Int)).map V.int))) := e1.trans (Ex.new hb)
    refine ⟨c, t, b, List.replicate m.toNat 420, rfl, upd_same, fun z hz => by rw [(List.mem_replicate.mp hz).2]; decide, by simp; omega, ht, fun p xs H2 e3 hp hxs => ?_⟩
    refine ⟨by show 2 ≤ sizeLine; decide, fun a ha => ?_⟩
    have e4 := e2.trans e3
    refine q a _ (e4.trans (Ex.new ha)) (fresh_back e4 ha) ⟨p, xs, fun z => ?_, ⟨0, upd_same⟩, ?_⟩
    · rw [← z, hxs] at ha; cases ha
    · rw [upd_ne (fun z => by rw [← z, hxs] at ha; cases ha)]; exact hxs
end
end K20
namespace K20
open PySem PySem.Spec PyProof.Rows L2 Evl RZ Ev2 TA5
abbrev s_is_whole : Stmt := topS 9
abbrev N_is_whole : List Str := ["value"]
theorem sc_is_whole : FnScope N_is_whole ["value"] (defScope s_is_whole) := ⟨rfl, rfl, rfl, by decide +kernel, rfl, by decide +kernel, by decide +kernel⟩
abbrev s_is_below : Stmt := topS 11
abbrev N_is_below : List Str := ["size", "value"]
theorem sc_is_below : FnScope N_is_below ["size", "value"] (defScope s_is_below) := ⟨rfl, rfl, rfl, by decide +kernel, rfl, by decide +kernel, by decide +kernel⟩
abbrev s_is_ascending : Stmt := topS 12
abbrev N_is_ascending : List Str := ["size", "value", "low", "high", "entry"]
theorem sc_is_ascending : FnScope N_is_ascending ["size", "value"] (defScope s_is_ascending) := ⟨rfl, rfl, rfl, by decide +kernel, rfl, by decide +kernel, by decide +kernel⟩
abbrev s_is_size : Stmt := topS 13
abbrev N_is_size : List Str := ["value"]
theorem sc_is_size : FnScope N_is_size ["value"] (defScope s_is_size) := ⟨rfl, rfl, rfl, by decide +kernel, rfl, by decide +kernel, by decide +kernel⟩
abbrev s_check_sizes : Stmt := topS 14
abbrev N_check_sizes : List Str := ["left", "right", "size"]
theorem sc_check_sizes : FnScope N_check_sizes ["left", "right"] (defScope s_check_sizes) := ⟨rfl, rfl, rfl, by decide +kernel, rfl, by decide +kernel, by decide +kernel⟩
abbrev s_is_values : Stmt := topS 28
abbrev N_is_values : List Str := ["size", "value"]
theorem sc_is_values : FnScope N_is_values ["size", "value"] (defScope s_is_values) := ⟨rfl, rfl, rfl, by decide +kernel, rfl, by decide +kernel, by decide +kernel⟩
abbrev s_has_where_form : Stmt := topS 29
abbrev N_has_where_form : List Str := ["left", "right", "value"]
theorem sc_has_where_form : FnScope N_has_where_form ["left", "right", "value"] (defScope s_has_where_form) := ⟨rfl, rfl, rfl, by decide +kernel, rfl, by decide +kernel, by decide +kernel⟩
abbrev s_is_where : Stmt := topS 30
abbrev N_is_where : List Str := ["left", "right", "value"]
theorem sc_is_where : FnScope N_is_where ["left", "right", "value"] (defScope s_is_where) := ⟨rfl, rfl, rfl, by decide +kernel, rfl, by decide +kernel, by decide +kernel⟩
abbrev s_covers : Stmt := topS 31
abbrev N_covers : List Str := ["where", "left", "right"]
theorem sc_covers : FnScope N_covers ["where", "left", "right"] (defScope s_covers) := ⟨rfl, rfl, rfl, by decide +kernel, rfl, by decide +kernel, by decide +kernel⟩
abbrev s_cells : Stmt := topS 32
abbrev N_cells : List Str := ["left", "right", "where", "a", "b"]
theorem sc_cells : FnScope N_cells ["left", "right", "where"] (defScope s_cells) := ⟨rfl, rfl, rfl, by decide +kernel, rfl, by decide +kernel, by decide +kernel⟩

/-! ### data: flat things, tuples and lists of them, a tuple of these -/
def fl : V → PyData → Prop
  | .non, d => d = .none
  | .bl b, d => d = .bool b
  | .int i, d => d = .int i
  | .str x, d => d = .str x
  | _, _ => False
inductive It (H : Hp) : V → PyData → Prop
  | flat {v : V} {d : PyData} (h : fl v d) : It H v d
  | tup {a : Addr} {xs : List V} {ds : List PyData} (h : H a = some (.tup xs)) (p : Paired fl xs ds) : It H (.ref a) (.tuple ds)
  | lst {a : Addr} {xs : List V} {ds : List PyData} (h : H a = some (.lst xs)) (p : Paired fl xs ds) : It H (.ref a) (.list ds)
def Va (ds : List PyData) : HP := fun v H => ∃ a xs, v = .ref a ∧ H a = some (.tup xs) ∧ Paired (It H) xs ds
theorem fl_flat {v : V} {d : PyData} (h : fl v d) : flatV v = true := by
  cases v <;> first | rfl | exact h.elim
theorem fls_flat : ∀ {xs : List V} {ds : List PyData}, Paired fl xs ds → xs.all flatV = true
  | _, _, .nil => rfl
  | _, _, .cons h t => by rw [List.all_cons, fl_flat h, fls_flat t]; rfl
/-- tuples and lists of flat things are kept -/
def Kx (H H' : Hp) : Prop := ∀ a o, H a = some o → ((∃ xs, o = .tup xs) ∨ (∃ xs, o = .lst xs ∧ xs.all flatV = true)) → H' a = some o
theorem Kx.of {H H' : Hp} (e : Evl.Ex H H') : Kx H H' := fun a o h _ => e a o h
theorem Kx.gs {s p : Addr} {xs : List Int} {H H' : Hp} (g : Gs s H H') (d : Dr s p xs H) : Kx H H' := fun a o h k => by
  by_cases ha : a = s
  · subst ha
    obtain ⟨n, hn⟩ := d.at_
    rw [hn] at h
    cases h
    rcases k with ⟨xs, e⟩ | ⟨xs, e, f⟩
    · cases e
    · cases e; cases f
  · exact g a o ha h
theorem It.mono {H H' : Hp} (k : Kx H H') {v : V} {d : PyData} (h : It H v d) : It H' v d := by
  cases h with
  | flat h => exact .flat h
  | tup h p => exact .tup (k _ _ h (.inl ⟨_, rfl⟩)) p
  | lst h p => exact .lst (k _ _ h (.inr ⟨_, rfl, fls_flat p⟩)) p
theorem its_mono {H H' : Hp} (k : Kx H H') : ∀ {xs : List V} {ds : List PyData}, Paired (It H) xs ds → Paired (It H') xs ds
  | _, _, .nil => .nil
  | _, _, .cons h t => .cons (h.mono k) (its_mono k t)
theorem Va.kx {H H' : Hp} (k : Kx H H') {ds : List PyData} {v : V} (h : Va ds v H) : Va ds v H' := by
  obtain ⟨a, xs, e, ha, p⟩ := h
  exact ⟨a, xs, e, k _ _ ha (.inl ⟨_, rfl⟩), its_mono k p⟩
theorem mono_va {ds : List PyData} : Mono (Va ds) := fun _ _ _ e h => Va.kx (Kx.of e) h
theorem mono_it {d : PyData} : Mono (fun v H => It H v d) := fun _ _ _ e h => h.mono (Kx.of e)
theorem Paired.len {α β : Type} {R : α → β → Prop} : ∀ {xs : List α} {ys : List β}, Paired R xs ys → xs.length = ys.length
  | _, _, .nil => rfl
  | _, _, .cons _ t => by simp [Paired.len t]
theorem Paired.at {α β : Type} {R : α → β → Prop} : ∀ {xs : List α} {ys : List β} {i : Nat} {x : α}, Paired R xs ys → xs[i]? = some x → ∃ y, ys[i]? = some y ∧ R x y
  | _, _, i, x, .nil, h => by simp at h
  | _, _, 0, x, .cons h t, e => by simp at e; subst e; exact ⟨_, rfl, h⟩
  | _, _, i + 1, x, .cons h t, e => by obtain ⟨y, h1, h2⟩ := Paired.at t (i := i) (by simpa using e); exact ⟨y, by simpa using h1, h2⟩
/-! ### the mirrors -/
def isI : PyData → Bool
  | .int _ => true
  | _ => false
def isB (n : Int) : PyData → Bool
  | .int i => decide (0 ≤ i) && decide (i < n)
  | _ => false
def isSz : PyData → Bool
  | .int i => decide (1 ≤ i) && decide (i ≤ 8)
  | _ => false
def dI : PyData → Int
  | .int i => i
  | _ => 0
def ascI : List Int → Bool
  | a :: b :: r => decide (a < b) && ascI (b :: r)
  | _ => true
def isVs (n : Int) : PyData → Bool
  | .tuple ds => !ds.isEmpty && (ds.all (isB n) && ascI (ds.map dI))
  | _ => false
def form (l r : Int) : List PyData → Bool
  | .str w :: rest =>
    if w = "all" then decide (rest.length + 1 = 1)
    else if w = "left" then decide (rest.length + 1 = 2) && isVs l (rest.getD 0 .none)
    else if w = "right" then decide (rest.length + 1 = 2) && isVs r (rest.getD 0 .none)
    else decide (w = "cell") && (decide (rest.length + 1 = 3) && (isB l (rest.getD 0 .none) && isB r (rest.getD 1 .none)))
  | _ => false
theorem ascI_range : ∀ ns : List Int, (List.range (ns.length - 1)).all (fun i => decide (ns.getD i 0 < ns.getD (i + 1) 0)) = ascI ns
  | [] => rfl
  | [_] => rfl
  | a :: b :: r => by
    have ih := ascI_range (b :: r)
    have e : (a :: b :: r).length - 1 = ((b :: r).length - 1) + 1 := by simp
    rw [e, List.range_succ_eq_map, List.all_cons, List.all_map]
    show (decide (a < b) && (List.range ((b :: r).length - 1)).all (fun i => decide ((b :: r).getD i 0 < (b :: r).getD (i + 1) 0))) = ascI (a :: b :: r)
    rw [ih]
    rfl
theorem all_range {α : Type} (f : α → Bool) (d : α) : ∀ ds : List α, (List.range ds.length).all (fun i => f (ds.getD i d)) = ds.all f
  | [] => rfl
  | x :: ds => by
    rw [List.length_cons, List.range_succ_eq_map, List.all_cons, List.all_map, List.all_cons]
    have ih := all_range f d ds
    rw [← ih]
    rfl
section
variable {K : PySem.W.Frag} {σ : L2.St} {H : Hp} {ta tb te : TE} {P : HP}
theorem evp_allB {n : Nat} {b : Nat → Bool} (h : EvP te σ H (LstP n (fun i => Is (.bl (b i))))) : EvP (tCB (rAll K) (tCons te tNil)) σ H (Is (.bl ((List.range n).all b))) := fun H1 e Q q => h H1 e _ fun v H2 e2 p => by
  obtain ⟨l, rfl, hl⟩ := lst_is p
  refine ⟨l, (List.range n).map b, rfl, ?_, ?_⟩
  · rw [List.map_map]; exact sq_of hl
  · rw [List.all_map]
    exact q _ H2 e2 rfl
/-- zip of a tuple and a shorter one -/
theorem wi_zipL {tl tr : TE} {n m : Nat} {Pi Ri : Nat → HP} (h : EvP tl σ H (TupP m Pi)) (h2 : EvP tr σ H (TupP n Ri)) (hnm : n ≤ m) (m1 : ∀ i, MonoF (Pi i)) (m2 : ∀ i, MonoF (Ri i)) :
    WiP (iZipA K (tCons tl (tCons tr tNil))) σ H n (fun i x H => ∃ T u v, x = .ref T ∧ H T = some (.tup [u, v]) ∧ Pi i u H ∧ Ri i v H) := fun H1 e R k =>
  h H1 e _ fun v H2 e2 ⟨p, ys, hv, hp, hl, hi⟩ => h2 H2 (e.trans e2) _ fun v' H3 e3 ⟨q, zs, hv', hq, hl', hi'⟩ => by
    subst hv
    subst hv'
    refine ⟨p, q, ys, zs, rfl, .inr ⟨st_of (e3 _ _ hp), st_of hq, ?_⟩⟩
    refine k _ H3 (fun H => H p = some (.tup ys) ∧ H q = some (.tup zs) ∧ (∀ i y, ys[i]? = some y → Pi i y H) ∧ ∀ i y, zs[i]? = some y → Ri i y H) (e2.trans e3) ?_ ⟨e3 _ _ hp, hq, fun i y hy => (m1 i).mono _ _ _ e3 (hi i y hy), hi'⟩
    refine ⟨fun H H' e ⟨a, b, c, d⟩ => ⟨e _ _ a (fun _ z => nomatch z), e _ _ b (fun _ z => nomatch z), fun i y hy => m1 i _ _ _ e (c i y hy), fun i y hy => m2 i _ _ _ e (d i y hy)⟩, fun i H hlt ⟨a, b, _, _⟩ => ?_, fun H ⟨a, b, _, _⟩ => ?_, fun i H x H' hlt ⟨a, b, c, d⟩ y => ?_⟩
    · exact ⟨ys, zs, _, _, st_of a, st_of b, List.getElem?_eq_getElem (by omega), List.getElem?_eq_getElem (by omega)⟩
    · exact ⟨ys, zs, st_of a, st_of b, .inr (by omega)⟩
    · obtain ⟨T, u, w, rfl, hT, rfl, f1, f2⟩ := y
      have ex := Ex.new (o := .tup [u, w]) hT
      exact ⟨ex, T, u, w, rfl, upd_same, (m1 i).mono _ _ _ ex (c i u (f1 ys (st_of a))), (m2 i).mono _ _ _ ex (d i w (f2 zs (st_of b)))⟩
theorem g_pair' {x : V} {T : Addr} {u w : V} {σ0 : L2.St} {i j : Nat} {S : L2.St → Hp → Prop} (hx : x = .ref T) (h : H T = some (.tup [u, w])) (hS : S ((σ0.set i (some u)).set j (some w)) H) : GP (gTup K 2 (gCons (gName i) (gCons (gName j) gNil))) x σ0 H S := fun Q q =>
  ⟨T, [u, w], hx, st_of h, rfl, u, [w], rfl, w, [], rfl, rfl, q _ hS⟩
/-- types -/
def tyD : PyData → String
  | .none => "NoneType" | .bool _ => "bool" | .int _ => "int" | .str _ => "str" | .tuple _ => "tuple" | .list _ => "list" | _ => "dict"
theorem ty_it {v : V} {d : PyData} (h : It H v d) : TyX K H v (.type (tyD d)) := by
  cases h with
  | flat h => cases v <;> first | exact h.elim | (cases h; exact .base (by constructor))
  | tup h p => exact .base (.tup h)
  | lst h p => exact .base (.lst h)
theorem evp_isiD {T : String} {d : PyData} {b : Bool} (h : EvP te σ H (fun v H => It H v d)) (e : kitB (tyD d) T = some b) : EvP (tCB (rIsi K) (tCons te (tCons (tC (.ty T)) tNil))) σ H (Is (.bl b)) :=
  evp_isi h (fun x H1 p => ty_it p) (.ty T) (kit_ty e)
end
theorem kit_int (d : PyData) : kitB (tyD d) "int" = some (match d with | .bool _ => true | .int _ => true | _ => false) := by
  cases d with
  | none => exact (show kitB "NoneType" "int" = some false by decide +kernel)
  | bool _ => exact (show kitB "bool" "int" = some true by decide +kernel)
  | int _ => exact (show kitB "int" "int" = some true by decide +kernel)
  | str _ => exact (show kitB "str" "int" = some false by decide +kernel)
  | list _ => exact (show kitB "list" "int" = some false by decide +kernel)
  | tuple _ => exact (show kitB "tuple" "int" = some false by decide +kernel)
  | dict _ => exact (show kitB "dict" "int" = some false by decide +kernel)
theorem kit_bool (d : PyData) : kitB (tyD d) "bool" = some (match d with | .bool _ => true | _ => false) := by
  cases d with
  | none => exact (show kitB "NoneType" "bool" = some false by decide +kernel)
  | bool _ => exact (show kitB "bool" "bool" = some true by decide +kernel)
  | int _ => exact (show kitB "int" "bool" = some false by decide +kernel)
  | str _ => exact (show kitB "str" "bool" = some false by decide +kernel)
  | list _ => exact (show kitB "list" "bool" = some false by decide +kernel)
  | tuple _ => exact (show kitB "tuple" "bool" = some false by decide +kernel)
  | dict _ => exact (show kitB "dict" "bool" = some false by decide +kernel)
theorem kit_str (d : PyData) : kitB (tyD d) "str" = some (match d with | .str _ => true | _ => false) := by
  cases d with
  | none => exact (show kitB "NoneType" "str" = some false by decide +kernel)
  | bool _ => exact (show kitB "bool" "str" = some false by decide +kernel)
  | int _ => exact (show kitB "int" "str" = some false by decide +kernel)
  | str _ => exact (show kitB "str" "str" = some true by decide +kernel)
  | list _ => exact (show kitB "list" "str" = some false by decide +kernel)
  | tuple _ => exact (show kitB "tuple" "str" = some false by decide +kernel)
  | dict _ => exact (show kitB "dict" "str" = some false by decide +kernel)
theorem kit_tup (d : PyData) : kitB (tyD d) "tuple" = some (match d with | .tuple _ => true | _ => false) := by
  cases d with
  | none => exact (show kitB "NoneType" "tuple" = some false by decide +kernel)
  | bool _ => exact (show kitB "bool" "tuple" = some false by decide +kernel)
  | int _ => exact (show kitB "int" "tuple" = some false by decide +kernel)
  | str _ => exact (show kitB "str" "tuple" = some false by decide +kernel)
  | list _ => exact (show kitB "list" "tuple" = some false by decide +kernel)
  | tuple _ => exact (show kitB "tuple" "tuple" = some true by decide +kernel)
  | dict _ => exact (show kitB "dict" "tuple" = some false by decide +kernel)
section
variable {P : Program} {w : World} {K : PySem.W.Frag} {mg : Str → Option Value} {base : Heap} {tk : Tok} {k : Nat}
def spWhole : Sp := fun vs H Q _ => ∃ (x : V) (d : PyData), vs = [x] ∧ It H x d ∧ ∀ v H2, Evl.Ex H H2 → v = .bl (isI d) → Q v H2
theorem ok_whole {f : Addr} {fd : FuncData} (T : Txt mg tk) (D : Df K mg "is_whole" s_is_whole ["value"] f fd) : FnOk P w K mg base CX0 (k + 1) f fd ["value"] spWhole := by
  refine D.F.ok sc_is_whole (fun vs H Q E h => ?_) (fun cdv A outer s H vs Q E hr h => ?_)
  · obtain ⟨x, d, rfl, _⟩ := h
    rfl
  · obtain ⟨x, d, rfl, hx, q⟩ := h
    refine ⟨_, (pss_one (ps_ret (pe_and (pe_callB (r := rIsi K) call_isi (by rfl) T.n_isinstance PyProof.Rows.boot_isinstance (pa_cons (pv 0) (pa_cons (pe_bltn (v := .ty "int") (by rfl) T.n_int PyProof.Rows.boot_int rfl) pa_nil))) (pe_one (pe_not (pe_callB (r := rIsi K) call_isi (by rfl) T.n_isinstance PyProof.Rows.boot_isinstance (pa_cons (pv 0) (pa_cons (pe_bltn (v := .ty "bool") (by rfl) T.n_bool PyProof.Rows.boot_bool rfl) pa_nil)))))))), ?_⟩
    have h0 : EvP (tVar 0) (start N_is_whole [x]) H (fun v H => It H v d) := evp_var rfl hx mono_it
    refine evp_is (evp_and (evp_isiD (K := K) h0 (kit_int d)) fun _ => evp_not (evp_isiD (K := K) h0 (kit_bool d))) ?_ H (Ex.refl H) _ q
    cases d <;> rfl
def spBelow : Sp := fun vs H Q _ => ∃ (n : Int) (x : V) (d : PyData), vs = [.int n, x] ∧ It H x d ∧ ∀ v H2, Evl.Ex H H2 → v = .bl (isB n d) → Q v H2
def spSize : Sp := fun vs H Q _ => ∃ (x : V) (d : PyData), vs = [x] ∧ It H x d ∧ ∀ v H2, Evl.Ex H H2 → v = .bl (isSz d) → Q v H2
theorem it_int {H : Hp} {x : V} {d : PyData} (h : It H x d) (hi : isI d = true) : ∃ i, x = .int i ∧ d = .int i := by
  cases h with
  | flat h => cases x <;> first | exact h.elim | (cases h; first | exact ⟨_, rfl, rfl⟩ | cases hi)
  | tup h p => cases hi
  | lst h p => cases hi
theorem ok_below {f f1 : Addr} {fd fd1 : FuncData} (D_is_whole : Df K mg "is_whole" s_is_whole ["value"] f1 fd1) (G_is_whole : FnOk P w K mg base CX0 (k + 1) f1 fd1 ["value"] spWhole) (T : Txt mg tk) (D : Df K mg "is_below" s_is_below ["size", "value"] f fd) :
    FnOk P w K mg base CX0 (k + 2) f fd ["size", "value"] spBelow := by
  refine D.F.ok sc_is_below (fun vs H Q E h => ?_) (fun cdv A outer s H vs Q E hr h => ?_)
  · obtain ⟨n, x, d, rfl, _⟩ := h
    rfl
  · obtain ⟨n, x, d, rfl, hx, q⟩ := h
    refine ⟨_, (pss_one (ps_ret (pe_and (pe_call G_is_whole (hr.mono (by omega)) (by rfl) D_is_whole.g D_is_whole.F.kp D_is_whole.b .nil pass0 (pa_cons (pv 1) pa_nil)) (pe_one (pe_chain op_le op_lt pe_int (pv 1) (pv 0)))))), ?_⟩
    have h1 : EvP (tVar 1) (start N_is_below [.int n, x]) H (fun v H => It H v d) := evp_var rfl hx mono_it
    refine evp_is (evp_and (a := isI d) (b := isB n d) (evp_call (sp := spWhole) (S := Is (.bl (isI d))) (eap_one h1) fun vs H1 ⟨y, e, hy⟩ Q q E => ⟨y, d, e, hy, q⟩) fun hi => ?_) ?_ H (Ex.refl H) _ q
    · obtain ⟨i, rfl, rfl⟩ := it_int hx hi
      exact evp_chain (g := fun i j => .bl (decide (i ≤ j))) (g' := fun i j => .bl (decide (i < j))) (evp_c (v := .int 0)) (evp_var (v := .int i) rfl rfl mono_is) (evp_var (v := .int n) rfl rfl mono_is) rfl rfl
    · cases d <;> rfl
theorem ok_size {f f1 : Addr} {fd fd1 : FuncData} (D_is_whole : Df K mg "is_whole" s_is_whole ["value"] f1 fd1) (G_is_whole : FnOk P w K mg base CX0 (k + 1) f1 fd1 ["value"] spWhole) (T : Txt mg tk) (D : Df K mg "is_size" s_is_size ["value"] f fd) :
    FnOk P w K mg base CX0 (k + 2) f fd ["value"] spSize := by
  refine D.F.ok sc_is_size (fun vs H Q E h => ?_) (fun cdv A outer s H vs Q E hr h => ?_)
  · obtain ⟨x, d, rfl, _⟩ := h
    rfl
  · obtain ⟨x, d, rfl, hx, q⟩ := h
    refine ⟨_, (pss_one (ps_ret (pe_and (pe_call G_is_whole (hr.mono (by omega)) (by rfl) D_is_whole.g D_is_whole.F.kp D_is_whole.b .nil pass0 (pa_cons (pv 0) pa_nil)) (pe_one (pe_chain op_le op_le pe_int (pv 0) (pe_glob (v := .int 8) rfl T.c_MOST_VALUES ⟨_, rfl⟩)))))), ?_⟩
    have h1 : EvP (tVar 0) (start N_is_size [x]) H (fun v H => It H v d) := evp_var rfl hx mono_it
    refine evp_is (evp_and (a := isI d) (b := isSz d) (evp_call (sp := spWhole) (S := Is (.bl (isI d))) (eap_one h1) fun vs H1 ⟨y, e, hy⟩ Q q E => ⟨y, d, e, hy, q⟩) fun hi => ?_) ?_ H (Ex.refl H) _ q
    · obtain ⟨i, rfl, rfl⟩ := it_int hx hi
      exact evp_chain (g := fun i j => .bl (decide (i ≤ j))) (g' := fun i j => .bl (decide (i ≤ j))) (evp_c (v := .int 1)) (evp_var (v := .int i) rfl rfl mono_is) (evp_c (v := .int 8)) rfl rfl
    · cases d <;> rfl
end
end K20
namespace K20
open PySem PySem.Spec PyProof.Rows L2 Evl RZ Ev2 TA5

def Rz (fn : Str) (C : Addr) (x : V) (H : Hp) (E : XK) : Prop := ∀ (d : Addr) (H2 : Hp), Evl.Ex H H2 → H2 d = some (.xd [(fn, x)]) → E (.ref C) (some d) H2
abbrev EVT (K : PySem.W.Frag) (mg : Str → Option Value) (C f : Addr) : Prop := PySem.ErrV.ErrTxt K mg "InvalidNumber" "InvalidNumber.__init__" C f
abbrev EPT (K : PySem.W.Frag) (mg : Str → Option Value) (C f : Addr) : Prop := PySem.ErrP.ErrTxt K mg "InvalidFact" "InvalidFact.__init__" C f
section
variable {P : Program} {w : World} {K : PySem.W.Frag} {mg : Str → Option Value} {base : Heap} {tk : Tok} {k : Nat} {CV iV CP iP : Addr}
def spCheckSizes (C : Addr) : Sp := fun vs H Q E => ∃ (x y : V) (dx dy : PyData), vs = [x, y] ∧ It H x dx ∧ It H y dy ∧ (isSz dx = false → Rz "value" C x H E) ∧ (isSz dx = true → isSz dy = false → Rz "value" C y H E) ∧ (isSz dx = true → isSz dy = true → ∀ H2, Evl.Ex H H2 → Q .non H2)
theorem ok_check_sizes {f f1 : Addr} {fd fd1 : FuncData} (EV : EVT K mg CV iV) (D_is_size : Df K mg "is_size" s_is_size ["value"] f1 fd1) (G_is_size : FnOk P w K mg base CX0 (k + 2) f1 fd1 ["value"] spSize) (T : Txt mg tk) (D : Df K mg "check_sizes" s_check_sizes ["left", "right"] f fd) :
    FnOk P w K mg base (L2.CX P w) (k + 5) f fd ["left", "right"] (spCheckSizes CV) := by
  refine D.F.okX sc_check_sizes (fun vs H Q E h => ?_) (fun cdv A outer s H vs Q E hr h => ?_)
  · obtain ⟨x, y, dx, dy, rfl, _⟩ := h
    rfl
  · obtain ⟨x, y, dx, dy, rfl, hx, hy, k1, k2, k3⟩ := h
    have nd := sc_check_sizes.nd
    refine ⟨_, (pss_one (ps_for (passes_of rfl) rfl (pi_tup (pe_tup (pa_cons (pv 0) (pa_cons (pv 1) pa_nil)))) (pg_name (i := 2) nd rfl (Or.inl rfl)) (pss_one (ps_if (pt_not (pt_val (pe_call G_is_size (hr.mono (by omega)) (by rfl) D_is_size.g D_is_size.F.kp D_is_size.b .nil pass0 (pa_cons (pv 2) pa_nil)))) (pss_one (ErrVL.ps_raiseErr rfl EV hr (takes_of rfl rfl rfl rfl) (pa_cons (pv 2) pa_nil))) pss_nil)))), ?_⟩
    refine ⟨_, rfl, _, rfl, by show 2 ≤ sizeLine; decide, fun p hp => ⟨p, rfl, ⟨[x, y], st_of upd_same⟩, ?_⟩⟩
    have e0 : Evl.Ex H (upd H p (.tup [x, y])) := Ex.new hp
    refine for_tup (xs := [x, y]) (fun i σ' H' => ∃ s2, σ' = [some x, some y, s2] ∧ Evl.Ex H H' ∧ H' p = some (.tup [x, y]) ∧ (1 ≤ i → isSz dx = true) ∧ (2 ≤ i → isSz dy = true)) ⟨none, rfl, e0, upd_same, fun z => absurd z (by decide), fun z => absurd z (by decide)⟩ (fun i σ' H' _ ⟨_, _, _, h, _⟩ => st_of h) (fun i z σ' H' hz ⟨s2, hs, ex, hpt, h1, h2⟩ => ?_) (fun σ' H' ⟨s2, hs, ex, hpt, h1, h2⟩ => k3 (h1 (Nat.le_succ 1)) (h2 (Nat.le_refl 2)) H' ex)
    subst hs
    have turn : ∀ (dz : PyData), It H z dz → (isSz dz = false → Rz "value" CV z H E) → (isSz dz = true → (1 ≤ i + 1 → isSz dx = true) ∧ (2 ≤ i + 1 → isSz dy = true)) → _ := fun dz hz2 hbad hgood =>
      s_when (D := { nx := fun σ' H' => ∃ s2, σ' = [some x, some y, s2] ∧ Evl.Ex H H' ∧ H' p = some (.tup [x, y]) ∧ (1 ≤ i + 1 → isSz dx = true) ∧ (2 ≤ i + 1 → isSz dy = true), rt := Q, bk := fun _ H' => Q .non H', ct := fun σ' H' => ∃ s2, σ' = [some x, some y, s2] ∧ Evl.Ex H H' ∧ H' p = some (.tup [x, y]) ∧ (1 ≤ i + 1 → isSz dx = true) ∧ (2 ≤ i + 1 → isSz dy = true) }) (tu := ErrVL.tRaiseErr CV (fun cls d _ H => E cls d H) (tCons (tVar 2) tNil)) (σ := [some x, some y, some z]) (H := H') (b := !isSz dz)
        (et_not (et_bl (evp_call (sp := spSize) (E := E0) (S := Is (.bl (isSz dz))) (eap_one (evp_var (σ := [some x, some y, some z]) (i := 2) rfl (hz2.mono (Kx.of ex)) mono_it)) fun vs H1 ⟨y, e, hy⟩ Q q E => ⟨y, dz, e, hy, q⟩)))
        (fun hb H1 e1 => ⟨_, rfl, z, rfl, fun d hd => hbad (by simpa using hb) d _ ((ex.trans e1).trans (Ex.new hd)) upd_same⟩) (fun hb H1 e1 => ⟨some z, rfl, ex.trans e1, e1 _ _ hpt, hgood (by simpa using hb)⟩)
    match i, hz with
    | 0, hz => cases hz; exact turn dx hx k1 fun g => ⟨fun _ => g, fun z => absurd z (by decide)⟩
    | 1, hz => cases hz; exact turn dy hy (k2 (h1 (by decide))) fun g => ⟨fun _ => h1 (by decide), fun _ => g⟩
    | i + 2, hz => simp at hz
end
end K20
namespace K20
open PySem PySem.Spec PyProof.Rows L2 Evl RZ Ev2 TA5

section
variable {K : PySem.W.Frag} {σ : L2.St} {H : Hp} {ta tb te : TE} {P : HP}
theorem cutV_from {xs : List V} {k : Nat} : cutV xs (some (k : Int)) none = xs.drop k := by
  unfold cutV
  rw [HT.sIx_nat, HT.sIx_none]
  by_cases h : k ≤ xs.length
  · rw [Nat.min_eq_left h, List.take_of_length_le (by simp)]
  · rw [Nat.min_eq_right (by omega), List.drop_length, List.drop_of_length_le (by omega)]; simp
theorem cutV_to {xs : List V} {k : Nat} : cutV xs none (some (k : Int)) = xs.take k := by
  unfold cutV
  rw [HT.sIx_nat, HT.sIx_none, List.drop_zero, Nat.sub_zero]
  by_cases h : k ≤ xs.length
  · rw [Nat.min_eq_left h]
  · rw [Nat.min_eq_right (by omega), List.take_length, List.take_of_length_le (by omega)]
theorem evp_slA {tl th : TO} {a : Addr} {xs : List V} {lo hi : Option Int} (h : Ev te σ H (.ref a)) (h1 : EvO tl σ H lo) (h2 : EvO th σ H hi) (hs : H a = some (.tup xs)) :
    EvP (tSl (rSlA K) te tl th) σ H (fun v H1 => ∃ p, v = .ref p ∧ H1 p = some (.tup (cutV xs lo hi))) := fun H1 e Q q =>
  h H1 e _ fun H2 e2 => h1 H2 (e.trans e2) _ fun H3 e3 => h2 H3 ((e.trans e2).trans e3) _ fun H4 e4 => by
    have ex := ((e.trans e2).trans e3).trans e4
    refine ⟨a, xs, rfl, st_of (ex _ _ hs), fun ⟨w1, w2⟩ => ?_, fun _ p hp => q _ _ (((e2.trans e3).trans e4).trans (Ex.new hp)) ⟨p, rfl, upd_same⟩⟩
    refine q _ H4 ((e2.trans e3).trans e4) ⟨a, rfl, ?_⟩
    rw [ex _ _ hs]
    unfold cutV
    rw [w1, w2, List.drop_zero, Nat.sub_zero, List.take_length]
theorem fl_it {H : Hp} {v : V} {d : PyData} (h : fl v d) : It H v d := .flat h
theorem getD_some {ds : List PyData} {i : Nat} {d : PyData} (h : ds[i]? = some d) : ds.getD i .none = d := by rw [List.getD_eq_getElem?_getD, h]; rfl
theorem tup_fl {xs : List V} {ds : List PyData} {a : Addr} (p : Paired fl xs ds) (h : H a = some (.tup xs)) : TupP ds.length (fun i v _ => fl v (ds.getD i .none)) (.ref a) H :=
  ⟨a, xs, rfl, h, Paired.len p, fun i y hy => by
    obtain ⟨d, h1, h2⟩ := Paired.at p hy
    rw [getD_some h1]; exact h2⟩
theorem mf_fl {d : PyData} : MonoF (fun v _ => fl v d) := fun _ _ _ _ h => h
def isTup : PyData → Bool
  | .tuple _ => true
  | _ => false
def isStr : PyData → Bool
  | .str _ => true
  | _ => false
theorem kit_tup' (d : PyData) : kitB (tyD d) "tuple" = some (isTup d) := by rw [kit_tup]; cases d <;> rfl
theorem kit_str' (d : PyData) : kitB (tyD d) "str" = some (isStr d) := by rw [kit_str]; cases d <;> rfl
def SmallD : PyData → Bool
  | .tuple ds => decide (ds.length ≤ 50)
  | _ => true
theorem fl_int {v : V} {i : Int} (h : fl v (.int i)) : v = .int i := by
  cases v <;> first | exact h.elim | (cases h; try rfl)
theorem isB_int {n : Int} {d : PyData} (h : isB n d = true) : ∃ i, d = .int i ∧ 0 ≤ i ∧ i < n := by
  cases d <;> first | (cases h; done) | (refine ⟨_, rfl, ?_⟩; simpa [isB] using h)
end
section
variable {P : Program} {w : World} {K : PySem.W.Frag} {mg : Str → Option Value} {base : Heap} {tk : Tok} {k : Nat}
theorem sp_below_it {n : Int} {d : PyData} {H : Hp} : SpP spBelow (fun vs H1 => ∃ x y, vs = [x, y] ∧ Is (.int n) x H1 ∧ It H1 y d) (Is (.bl (isB n d))) := fun vs H1 ⟨x, y, e, hx, hy⟩ Q q E => ⟨n, y, d, by rw [e, show x = .int n from hx], hy, fun v H2 e2 p => q v H2 e2 p⟩
def isAsc (n : Int) : PyData → Bool
  | .tuple ds => ds.all (isB n) && ascI (ds.map dI)
  | _ => false
def spAsc : Sp := fun vs H Q _ => ∃ (n : Int) (x : V) (d : PyData), vs = [.int n, x] ∧ It H x d ∧ SmallD d = true ∧ ∀ v H2, Evl.Ex H H2 → v = .bl (isAsc n d) → Q v H2
theorem ok_asc {f f1 : Addr} {fd fd1 : FuncData} (D_is_below : Df K mg "is_below" s_is_below ["size", "value"] f1 fd1) (G_is_below : FnOk P w K mg base CX0 (k + 2) f1 fd1 ["size", "value"] spBelow) (T : Txt mg tk) (D : Df K mg "is_ascending" s_is_ascending ["size", "value"] f fd) :
    FnOk P w K mg base CX0 (k + 3) f fd ["size", "value"] spAsc := by
  refine D.F.ok sc_is_ascending (fun vs H Q E h => ?_) (fun cdv A outer s H vs Q E hr h => ?_)
  · obtain ⟨n, x, d, rfl, _⟩ := h
    rfl
  · obtain ⟨n, x, d, rfl, hx, hsm, q⟩ := h
    have nd := sc_is_ascending.nd
    refine ⟨_, (pss_cons (ps_if (PW.pt (pw_or (pt_not (pt_val (pe_callB (r := rIsi K) call_isi (by rfl) T.n_isinstance PyProof.Rows.boot_isinstance (pa_cons (pv 1) (pa_cons (pe_bltn (v := .ty "tuple") (by rfl) T.n_tuple PyProof.Rows.boot_tuple rfl) pa_nil))))) (pw_or1 (pt_not (pt_val (pe_callB (r := rAll K) (cr_all rfl) (by rfl) T.n_all PyProof.Rows.boot_all (pa_cons (pe_lc (wi := iTup K _) (g := gName 4) (own := [("entry", 4)]) (by rfl) nd (pi_tup (pv 1)) (blkOk_by (by kernel_rfl)) (fun _ _ _ _ _ => (pg_name (i := 4) nd rfl (Or.inl rfl))) (fun _ _ _ _ _ => pts_nil) (fun _ _ _ _ _ => (pe_call G_is_below (hr.mono (by omega)) (by rfl) D_is_below.g D_is_below.F.kp D_is_below.b .nil pass0 (pa_cons (pv 0) (pa_cons (pv 4) pa_nil))))) pa_nil))))))) (pss_one (ps_ret pe_bl)) pss_nil) (pss_one (ps_ret (pe_callB (r := rAll K) (cr_all rfl) (by rfl) T.n_all PyProof.Rows.boot_all (pa_cons (pe_lc (wi := iZipA K _) (g := gTup K 2 (gCons (gName 2) (gCons (gName 3) gNil))) (own := [("low", 2), ("high", 3)]) (by rfl) nd (pi_zipA (by rfl) T.n_zip (pa_cons (pv 1) (pa_cons (pe_slice (r := rSlA K) sl_tupA (pv 1) (po_some pe_int) po_none) pa_nil))) (blkOk_by (by kernel_rfl)) (fun _ _ _ _ _ => (pg_tup rfl (pgs_cons (pg_name (i := 2) nd rfl (Or.inl rfl)) (pgs_cons (pg_name (i := 3) nd rfl (Or.inl rfl)) pgs_nil)))) (fun _ _ _ _ _ => pts_nil) (fun _ _ _ _ _ => (pe_cmpR op_lt (pv 2) (pv 3) (nomark _)))) pa_nil))))), ?_⟩
    have h1 : EvP (tVar 1) (start N_is_ascending [.int n, x]) H (fun v H => It H v d) := evp_var rfl hx mono_it
    have h0 : ∀ {σ' : L2.St} {H' : Hp}, σ'[0]? = some (some (.int n)) → EvP (tVar 0) σ' H' (Is (.int n)) := fun h => evp_var h rfl mono_is
    have hno : isTup d = false → isAsc n d = false := fun e => by cases d <;> first | rfl | (cases e; done)
    by_cases ht : isTup d = true
    · obtain ⟨ds, rfl⟩ : ∃ ds, d = .tuple ds := by cases d <;> first | exact ⟨_, rfl⟩ | (cases ht; done)
      have hl : ds.length ≤ 50 := by simpa [SmallD] using hsm
      cases hx with
      | flat hx => cases x <;> first | exact hx.elim | (cases hx; done)
      | @tup a xs _ ha p =>
        have hT : ∀ {H' : Hp}, Evl.Ex H H' → EvP (tVar 1) (start N_is_ascending [.int n, .ref a]) H' (TupP ds.length (fun i v _ => fl v (ds.getD i .none))) := fun ex => evp_var rfl (tup_fl p (ex _ _ ha)) (mf_tup fun _ => mf_fl).mono
        have hall : EvP _ (start N_is_ascending [.int n, .ref a]) H (Is (.bl ((List.range ds.length).all fun i => isB n (ds.getD i .none)))) := evp_allB (K := K) (evp_lc (vs := [4]) (g := gName 4) (wi_tup (K := K) (hT (Ex.refl H)) fun _ => mf_fl) (by omega)
            (Sg := fun i σ2 _ => ∃ y, σ2 = [some (.int n), some (.ref a), none, none, some y] ∧ fl y (ds.getD i .none)) (fun i y H2 hi e2 hy => g_name (i := 4) ⟨rfl, y, rfl, hy⟩) (fun i σ2 H2 hi e2 ⟨y, hs, hy⟩ => by
              subst hs
              exact evp_call (E := E0) (eap_two (h0 rfl) (evp_var (v := y) (i := 4) rfl (fl_it hy) mono_it) mono_is) (sp_below_it (H := H2))) fun _ => mf_is)
        rw [all_range (isB n)] at hall
        refine s_when (b := !true || !ds.all (isB n)) (et_or (et_not (et_tst (evp_isiD (K := K) h1 (kit_tup' (.tuple ds))))) fun _ => et_not (et_tst hall)) (fun hb H1 e1 => ?_) (fun hb H1 e1 => ?_)
        · refine s_ret ev_c fun H2 e2 => q _ H2 (e1.trans e2) ?_
          have : ds.all (isB n) = false := by simpa using hb
          simp [isAsc, this]
        · have hgood : ds.all (isB n) = true := by simpa using hb
          have hat : ∀ i, i < ds.length → ds.getD i .none = .int ((ds.map dI).getD i 0) := fun i hi => by
            have hm : ds.getD i .none ∈ ds := by rw [List.getD_eq_getElem?_getD, List.getElem?_eq_getElem hi]; exact List.getElem_mem hi
            obtain ⟨j, hj, _⟩ := isB_int (List.all_eq_true.mp hgood _ hm)
            have e4 : (ds.map dI).getD i 0 = dI (ds.getD i .none) := by
              rw [List.getD_eq_getElem?_getD, List.getElem?_map, List.getElem?_eq_getElem hi, List.getD_eq_getElem?_getD, List.getElem?_eq_getElem hi]; rfl
            rw [e4, hj]; rfl
          have hlen := Paired.len p
          have hsl : EvP _ (start N_is_ascending [.int n, .ref a]) H1 (TupP (ds.length - 1) (fun i v _ => fl v (ds.getD (i + 1) .none))) := (evp_slA (K := K) (lo := some ((1 : Nat) : Int)) (hi := none) (evp_var (P := Is (.ref a)) (i := 1) rfl rfl mono_is).ev (eo_some evp_c.ev) eo_none (e1 _ _ ha)).imp fun v H3 e3 ⟨p', hv, hp'⟩ => by
            subst hv
            rw [cutV_from] at hp'
            refine ⟨p', _, rfl, hp', by rw [List.length_drop, hlen], fun i y hy => ?_⟩
            rw [List.getElem?_drop, Nat.add_comm] at hy
            obtain ⟨d, g1, g2⟩ := Paired.at p hy
            rw [getD_some g1]; exact g2
          have hz : EvP _ (start N_is_ascending [.int n, .ref a]) H1 (Is (.bl ((List.range (ds.length - 1)).all fun i => decide ((ds.map dI).getD i 0 < (ds.map dI).getD (i + 1) 0)))) := evp_allB (K := K) (evp_lc (vs := [2, 3]) (g := gTup K 2 (gCons (gName 2) (gCons (gName 3) gNil))) (wi_zipL (K := K) (hT e1) hsl (by omega) (fun _ => mf_fl) fun _ => mf_fl) (by omega)
            (Sg := fun i σ2 _ => ∃ y z, σ2 = [some (.int n), some (.ref a), some y, some z, none] ∧ fl y (ds.getD i .none) ∧ fl z (ds.getD (i + 1) .none)) (fun i t H3 hi e3 ⟨T', u, v, ht, hT', hu, hv⟩ => g_pair' (i := 2) (j := 3) ht hT' ⟨rfl, u, v, rfl, hu, hv⟩) (fun i σ2 H3 hi e3 ⟨y, z, hs, hy, hz⟩ => by
              subst hs
              rw [hat i (by omega)] at hy
              rw [hat (i + 1) (by omega)] at hz
              rw [fl_int hy, fl_int hz]
              exact evp_I0 (g := fun i j => .bl (decide (i < j))) (evp_var (i := 2) rfl rfl mono_is) (evp_var (i := 3) rfl rfl mono_is)) fun _ => mf_is)
          have e5 := ascI_range (ds.map dI)
          rw [List.length_map] at e5
          rw [e5] at hz
          refine s_ret hz.ev fun H3 e3 => q _ H3 (e1.trans e3) ?_
          simp [isAsc, hgood]
    · have hf : isTup d = false := by simpa using ht
      refine s_when (b := true) (et_is (et_or (b := true) (et_not (et_tst (evp_isiD (K := K) h1 (kit_tup' d)))) fun hc => ?_) ?_) (fun hb H1 e1 => s_ret ev_c fun H2 e2 => q _ H2 (e1.trans e2) (by rw [hno hf])) (fun hb => by cases hb)
      · rw [hf] at hc; cases hc
      · rw [hf]; rfl
theorem sp_asc_it {n : Int} {d : PyData} (hd : SmallD d = true) : SpP spAsc (fun vs H1 => ∃ x y, vs = [x, y] ∧ Is (.int n) x H1 ∧ It H1 y d) (Is (.bl (isAsc n d))) := fun vs H1 ⟨x, y, e, hx, hy⟩ Q q E => ⟨n, y, d, by rw [e, show x = .int n from hx], hy, hd, fun v H2 e2 p => q v H2 e2 p⟩
def spValues : Sp := fun vs H Q _ => ∃ (n : Int) (x : V) (d : PyData), vs = [.int n, x] ∧ It H x d ∧ SmallD d = true ∧ ∀ v H2, Evl.Ex H H2 → v = .bl (isVs n d) → Q v H2
theorem ok_values {f f1 : Addr} {fd fd1 : FuncData} (D_is_ascending : Df K mg "is_ascending" s_is_ascending ["size", "value"] f1 fd1) (G_is_ascending : FnOk P w K mg base CX0 (k + 3) f1 fd1 ["size", "value"] spAsc) (T : Txt mg tk) (D : Df K mg "is_values" s_is_values ["size", "value"] f fd) :
    FnOk P w K mg base CX0 (k + 4) f fd ["size", "value"] spValues := by
  refine D.F.ok sc_is_values (fun vs H Q E h => ?_) (fun cdv A outer s H vs Q E hr h => ?_)
  · obtain ⟨n, x, d, rfl, _⟩ := h
    rfl
  · obtain ⟨n, x, d, rfl, hx, hsm, q⟩ := h
    have nd := sc_is_values.nd
    refine ⟨_, (pss_one (ps_ret (pe_and (pe_call G_is_ascending (hr.mono (by omega)) (by rfl) D_is_ascending.g D_is_ascending.F.kp D_is_ascending.b .nil pass0 (pa_cons (pv 0) (pa_cons (pv 1) pa_nil))) (pe_one (pe_cmpR op_gt (pe_callB (r := rLenQ K) call_len_seq (by rfl) T.n_len PySem.boot_len (pa_cons (pv 1) pa_nil)) pe_int (nomark _)))))), ?_⟩
    have h1 : EvP (tVar 1) (start N_is_values [.int n, x]) H (fun v H => It H v d) := evp_var rfl hx mono_it
    have h0 : ∀ {σ' : L2.St} {H' : Hp}, σ'[0]? = some (some (.int n)) → EvP (tVar 0) σ' H' (Is (.int n)) := fun h => evp_var h rfl mono_is
    refine s_ret (evp_and (b := !(match d with | .tuple ds => ds.isEmpty | _ => true)) (evp_call (E := E0) (eap_two (h0 rfl) h1 mono_is) (sp_asc_it hsm)) fun ha => ?_).ev fun H2 e2 => q _ H2 e2 ?_
    · obtain ⟨ds, rfl⟩ : ∃ ds, d = .tuple ds := by cases d <;> first | exact ⟨_, rfl⟩ | (cases ha; done)
      cases hx with
      | flat hx => cases x <;> first | exact hx.elim | (cases hx; done)
      | @tup a xs _ hxa p =>
        have hT : EvP (tVar 1) (start N_is_values [.int n, .ref a]) H (TupP ds.length (fun i v _ => fl v (ds.getD i .none))) := evp_var rfl (tup_fl p hxa) (mf_tup fun _ => mf_fl).mono
        refine evp_is (evp_I0 (g := fun i j => .bl (decide (i > j))) (evp_len hT) (evp_c (v := .int 0))) ?_
        cases ds with
        | nil => rfl
        | cons d ds => simp
    · congr 1
      cases d <;> simp [isVs, isAsc, Bool.and_comm]
end
end K20
namespace K20
open PySem PySem.Spec PyProof.Rows L2 Evl RZ Ev2 TA5

section
variable {K : PySem.W.Frag} {σ : L2.St} {H : Hp} {ta tb te : TE} {P : HP}
theorem evp_ixM {n : Nat} {Pi : Nat → HP} {i : Nat} (ha : EvP ta σ H (TupP n Pi)) (hb : EvP tb σ H (Is (.int (i : Int)))) (hi : i < n) (m : ∀ i, Mono (Pi i)) : EvP (tOp (rIxT K) ta tb) σ H (Pi i) := fun H1 e Q q =>
  ha H1 e _ fun v H2 e2 h => hb H2 (e.trans e2) _ fun y H3 e3 hy => by
    obtain ⟨p, ys, z, rfl, hp, hl, hz, hpz⟩ := tup_get h hi
    exact ⟨p, ys, _, z, rfl, hy, st_of (e3 _ _ hp), atI_nat hz, q z H3 (e2.trans e3) ((m i) _ _ _ e3 hpz)⟩
theorem va_tup {ds : List PyData} {v : V} (h : Va ds v H) : TupP ds.length (fun i v H => It H v (ds.getD i .none)) v H := by
  obtain ⟨a, xs, rfl, ha, p⟩ := h
  exact ⟨a, xs, rfl, ha, Paired.len p, fun i y hy => by
    obtain ⟨d, h1, h2⟩ := Paired.at p hy
    rw [getD_some h1]; exact h2⟩
theorem va_ty {ds : List PyData} {v : V} (h : Va ds v H) : TyX K H v (.type "tuple") := by
  obtain ⟨a, xs, rfl, ha, p⟩ := h
  exact .base (.tup ha)
theorem it_str {x : V} {w : Str} (h : It H x (.str w)) : x = .str w := by
  cases h with
  | flat h => cases x <;> first | exact h.elim | (cases h; try rfl)
theorem evp_va {ds : List PyData} {i : Nat} {x : V} (hs : σ[i]? = some (some x)) (hx : Va ds x H) : EvP (tVar i) σ H (TupP ds.length (fun i v H => It H v (ds.getD i .none))) := evp_var hs (va_tup hx) (mono_tup fun _ => mono_it)
theorem evp_at {ds : List PyData} {i j : Nat} {x : V} (hs : σ[i]? = some (some x)) (hx : Va ds x H) (hj : j < ds.length) : EvP (tOp (rIxT K) (tVar i) (tC (.int (j : Int)))) σ H (fun v H => It H v (ds.getD j .none)) := evp_ixM (evp_va hs hx) evp_c hj fun _ => mono_it
theorem evp_word {w : Str} {rest : List PyData} {i : Nat} {x : V} (hs : σ[i]? = some (some x)) (hx : Va (.str w :: rest) x H) (u : Str) : EvP (tOp rEq (tOp (rIxT K) (tVar i) (tC (.int ((0 : Nat) : Int)))) (tC (.str u))) σ H (Is (.bl (decide (w = u)))) := by
  refine evp_is (evp_eq (x := .str w) (y := .str u) ((evp_at (K := K) hs hx (by simp)).imp fun v H1 _ p => it_str p) evp_c rfl) ?_
  simp
theorem evp_many {ds : List PyData} {i : Nat} {x : V} (hs : σ[i]? = some (some x)) (hx : Va ds x H) (k : Nat) : EvP (tOp rEq (tCB (rLenQ K) (tCons (tVar i) tNil)) (tC (.int (k : Int)))) σ H (Is (.bl (decide (ds.length = k)))) := by
  refine evp_is (evp_eq (evp_len (evp_va hs hx)) (evp_c (v := .int (k : Int))) rfl) ?_
  simp [Int.ofNat_inj]
def SmallV (ds : List PyData) : Prop := ∀ d ∈ ds, SmallD d = true
theorem SmallV.at {ds : List PyData} (h : SmallV ds) (i : Nat) : SmallD (ds.getD i .none) = true := by
  rw [List.getD_eq_getElem?_getD]
  cases e : ds[i]? with
  | none => rfl
  | some d => exact h d (List.mem_of_getElem? e)
end
section
variable {P : Program} {w : World} {K : PySem.W.Frag} {mg : Str → Option Value} {base : Heap} {tk : Tok} {k : Nat}
theorem sp_values_it {n : Int} {d : PyData} (hd : SmallD d = true) : SpP spValues (fun vs H1 => ∃ x y, vs = [x, y] ∧ Is (.int n) x H1 ∧ It H1 y d) (Is (.bl (isVs n d))) := fun vs H1 ⟨x, y, e, hx, hy⟩ Q q E => ⟨n, y, d, by rw [e, show x = .int n from hx], hy, hd, fun v H2 e2 p => q v H2 e2 p⟩
def spForm : Sp := fun vs H Q _ => ∃ (l r : Int) (x : V) (ds : List PyData), vs = [.int l, .int r, x] ∧ Va ds x H ∧ SmallV ds ∧ ∀ v H2, Evl.Ex H H2 → v = .bl (form l r ds) → Q v H2
theorem form_cons {l r : Int} {w : Str} {rest : List PyData} : form l r (.str w :: rest) = (if w = "all" then decide (rest.length + 1 = 1)
    else if w = "left" then decide (rest.length + 1 = 2) && isVs l (rest.getD 0 .none)
    else if w = "right" then decide (rest.length + 1 = 2) && isVs r (rest.getD 0 .none)
    else decide (w = "cell") && (decide (rest.length + 1 = 3) && (isB l (rest.getD 0 .none) && isB r (rest.getD 1 .none)))) := rfl
theorem form_no {l r : Int} {ds : List PyData} (h : ds = [] ∨ isStr (ds.getD 0 .none) = false) : form l r ds = false := by
  cases ds with
  | nil => rfl
  | cons d ds =>
    rcases h with h | h
    · cases h
    · cases d <;> first | rfl | (cases h; done)
theorem ok_form {f f1 f2 : Addr} {fd fd1 fd2 : FuncData} (D_is_below : Df K mg "is_below" s_is_below ["size", "value"] f1 fd1) (G_is_below : FnOk P w K mg base CX0 (k + 2) f1 fd1 ["size", "value"] spBelow)
    (D_is_values : Df K mg "is_values" s_is_values ["size", "value"] f2 fd2) (G_is_values : FnOk P w K mg base CX0 (k + 4) f2 fd2 ["size", "value"] spValues) (T : Txt mg tk) (D : Df K mg "has_where_form" s_has_where_form ["left", "right", "value"] f fd) :
    FnOk P w K mg base CX0 (k + 5) f fd ["left", "right", "value"] spForm := by
  refine D.F.ok sc_has_where_form (fun vs H Q E h => ?_) (fun cdv A outer s H vs Q E hr h => ?_)
  · obtain ⟨l, r, x, ds, rfl, _⟩ := h
    rfl
  · obtain ⟨l, r, x, ds, rfl, hx, hsm, q⟩ := h
    have nd := sc_has_where_form.nd
    refine ⟨_, (pss_cons (ps_if (PW.pt (pw_or (pt_not (pt_val (pe_callB (r := rIsi K) call_isi (by rfl) T.n_isinstance PyProof.Rows.boot_isinstance (pa_cons (pv 2) (pa_cons (pe_bltn (v := .ty "tuple") (by rfl) T.n_tuple PyProof.Rows.boot_tuple rfl) pa_nil))))) (pw_or (pt_cmpR op_eq (pe_callB (r := rLenQ K) call_len_seq (by rfl) T.n_len PySem.boot_len (pa_cons (pv 2) pa_nil)) pe_int (nomark _)) (pw_or1 (pt_not (pt_val (pe_callB (r := rIsi K) call_isi (by rfl) T.n_isinstance PyProof.Rows.boot_isinstance (pa_cons (pe_ix (r := rIxT K) ix_tup (pv 2) pe_int (fun _ _ => rfl)) (pa_cons (pe_bltn (v := .ty "str") (by rfl) T.n_str PyProof.Rows.boot_str rfl) pa_nil))))))))) (pss_one (ps_ret pe_bl)) pss_nil) (pss_cons (ps_if (pt_cmpR op_eq (pe_ix (r := rIxT K) ix_tup (pv 2) pe_int (fun _ _ => rfl)) pe_str (nomark _)) (pss_one (ps_ret (pe_cmpR op_eq (pe_callB (r := rLenQ K) call_len_seq (by rfl) T.n_len PySem.boot_len (pa_cons (pv 2) pa_nil)) pe_int (nomark _)))) pss_nil) (pss_cons (ps_if (pt_cmpR op_eq (pe_ix (r := rIxT K) ix_tup (pv 2) pe_int (fun _ _ => rfl)) pe_str (nomark _)) (pss_one (ps_ret (pe_and (pe_cmpR op_eq (pe_callB (r := rLenQ K) call_len_seq (by rfl) T.n_len PySem.boot_len (pa_cons (pv 2) pa_nil)) pe_int (nomark _)) (pe_one (pe_call G_is_values (hr.mono (by omega)) (by rfl) D_is_values.g D_is_values.F.kp D_is_values.b .nil pass0 (pa_cons (pv 0) (pa_cons (pe_ix (r := rIxT K) ix_tup (pv 2) pe_int (fun _ _ => rfl)) pa_nil))))))) pss_nil) (pss_cons (ps_if (pt_cmpR op_eq (pe_ix (r := rIxT K) ix_tup (pv 2) pe_int (fun _ _ => rfl)) pe_str (nomark _)) (pss_one (ps_ret (pe_and (pe_cmpR op_eq (pe_callB (r := rLenQ K) call_len_seq (by rfl) T.n_len PySem.boot_len (pa_cons (pv 2) pa_nil)) pe_int (nomark _)) (pe_one (pe_call G_is_values (hr.mono (by omega)) (by rfl) D_is_values.g D_is_values.F.kp D_is_values.b .nil pass0 (pa_cons (pv 1) (pa_cons (pe_ix (r := rIxT K) ix_tup (pv 2) pe_int (fun _ _ => rfl)) pa_nil))))))) pss_nil) (pss_one (ps_ret (pe_and (pe_cmpR op_eq (pe_ix (r := rIxT K) ix_tup (pv 2) pe_int (fun _ _ => rfl)) pe_str (nomark _)) (pe_and (pe_cmpR op_eq (pe_callB (r := rLenQ K) call_len_seq (by rfl) T.n_len PySem.boot_len (pa_cons (pv 2) pa_nil)) pe_int (nomark _)) (pe_and (pe_call G_is_below (hr.mono (by omega)) (by rfl) D_is_below.g D_is_below.F.kp D_is_below.b .nil pass0 (pa_cons (pv 0) (pa_cons (pe_ix (r := rIxT K) ix_tup (pv 2) pe_int (fun _ _ => rfl)) pa_nil))) (pe_one (pe_call G_is_below (hr.mono (by omega)) (by rfl) D_is_below.g D_is_below.F.kp D_is_below.b .nil pass0 (pa_cons (pv 1) (pa_cons (pe_ix (r := rIxT K) ix_tup (pv 2) pe_int (fun _ _ => rfl)) pa_nil))))))))))))), ?_⟩
    have hv : ∀ {H' : Hp}, Evl.Ex H H' → Va ds x H' := fun e => mono_va _ _ _ e hx
    have h0 : ∀ {H' : Hp}, EvP (tVar 0) (start N_has_where_form [.int l, .int r, x]) H' (Is (.int l)) := evp_var rfl rfl mono_is
    have h1 : ∀ {H' : Hp}, EvP (tVar 1) (start N_has_where_form [.int l, .int r, x]) H' (Is (.int r)) := evp_var rfl rfl mono_is
    refine s_when (b := !true || (decide (ds.length = 0) || !isStr (ds.getD 0 .none))) (et_or (et_not (et_tst (evp_isi (K := K) (evp_va rfl hx) (fun y H1 p => ?_) (.ty "tuple") (kit_ty (a := "tuple") (by decide +kernel))))) fun _ => et_or (et_bl (evp_many (K := K) (k := 0) rfl hx)) fun hb => et_not (et_tst (evp_isiD (K := K) (evp_at (K := K) (j := 0) rfl hx ?_) (kit_str' _)))) (fun hb H1 e1 => ?_) (fun hb H1 e1 => ?_)
    · obtain ⟨p', ys, rfl, h2, _⟩ := p
      exact .base (.tup h2)
    · have : ds.length ≠ 0 := by simpa using hb
      omega
    · refine s_ret ev_c fun H2 e2 => q _ H2 (e1.trans e2) ?_
      rw [form_no (by cases ds <;> first | exact .inl rfl | (refine .inr ?_; simpa using hb))]
    · obtain ⟨w', rest, rfl⟩ : ∃ w' rest, ds = .str w' :: rest := by
        cases ds with
        | nil => simp at hb
        | cons d ds => cases d <;> first | exact ⟨_, _, rfl⟩ | (simp [isStr] at hb; done)
      have hlen : (PyData.str w' :: rest).length = rest.length + 1 := rfl
      refine s_when (b := decide (w' = "all")) (et_bl (evp_word (K := K) rfl (hv e1) "all")) (fun hb1 H2 e2 => ?_) (fun hb1 H2 e2 => ?_)
      · refine s_ret (evp_many (K := K) (k := 1) rfl (hv (e1.trans e2))).ev fun H3 e3 => q _ H3 ((e1.trans e2).trans e3) ?_
        have : w' = "all" := of_decide_eq_true hb1
        rw [hlen, form_cons, if_pos this]
      have n1 : ¬ w' = "all" := of_decide_eq_false hb1
      refine s_when (b := decide (w' = "left")) (et_bl (evp_word (K := K) rfl (hv (e1.trans e2)) "left")) (fun hb2 H3 e3 => ?_) (fun hb2 H3 e3 => ?_)
      · have hv3 := hv ((e1.trans e2).trans e3)
        refine s_ret (evp_and (evp_many (K := K) (k := 2) rfl hv3) fun hc => evp_call (E := E0) (eap_two h0 (evp_at (K := K) (j := 1) rfl hv3 (by rw [of_decide_eq_true hc]; decide)) mono_is) (sp_values_it (hsm.at 1))).ev fun H4 e4 => q _ H4 (((e1.trans e2).trans e3).trans e4) ?_
        have : w' = "left" := of_decide_eq_true hb2
        rw [hlen, form_cons, if_neg n1, if_pos this]; rfl
      have n2 : ¬ w' = "left" := of_decide_eq_false hb2
      refine s_when (b := decide (w' = "right")) (et_bl (evp_word (K := K) rfl (hv ((e1.trans e2).trans e3)) "right")) (fun hb3 H4 e4 => ?_) (fun hb3 H4 e4 => ?_)
      · have hv4 := hv (((e1.trans e2).trans e3).trans e4)
        refine s_ret (evp_and (evp_many (K := K) (k := 2) rfl hv4) fun hc => evp_call (E := E0) (eap_two h1 (evp_at (K := K) (j := 1) rfl hv4 (by rw [of_decide_eq_true hc]; decide)) mono_is) (sp_values_it (hsm.at 1))).ev fun H5 e5 => q _ H5 ((((e1.trans e2).trans e3).trans e4).trans e5) ?_
        have : w' = "right" := of_decide_eq_true hb3
        rw [hlen, form_cons, if_neg n1, if_neg n2, if_pos this]; rfl
      have n3 : ¬ w' = "right" := of_decide_eq_false hb3
      have hv4 := hv (((e1.trans e2).trans e3).trans e4)
      refine s_ret (evp_and (evp_word (K := K) rfl hv4 "cell") fun _ => evp_and (evp_many (K := K) (k := 3) rfl hv4) fun hc => evp_and (evp_call (E := E0) (eap_two h0 (evp_at (K := K) (j := 1) rfl hv4 (by rw [of_decide_eq_true hc]; decide)) mono_is) (sp_below_it (H := H))) fun _ => evp_call (E := E0) (eap_two h1 (evp_at (K := K) (j := 2) rfl hv4 (by rw [of_decide_eq_true hc]; decide)) mono_is) (sp_below_it (H := H))).ev fun H5 e5 => q _ H5 ((((e1.trans e2).trans e3).trans e4).trans e5) ?_
      rw [hlen, form_cons, if_neg n1, if_neg n2, if_neg n3]; rfl
end
end K20
namespace K20
open PySem PySem.Spec PyProof.Rows L2 Evl RZ Ev2 TA5

section
variable {K : PySem.W.Frag} {σ : L2.St} {H : Hp} {ta tb te : TE} {P R : HP}
theorem fl_dp {v : V} {d : PyData} (h : fl v d) : Dp K H v d := by
  cases v <;> first | exact h.elim | (cases h; constructor)
theorem fls_dp : ∀ {xs : List V} {ds : List PyData}, Paired fl xs ds → DpAll K H xs ds
  | _, _, .nil => .nil
  | _, _, .cons h t => .cons (fl_dp h) (fls_dp t)
theorem it_dp {v : V} {d : PyData} (h : It H v d) : Dp K H v d := by
  cases h with
  | flat h => exact fl_dp h
  | tup h p => exact .tup (st_of h) (fls_dp p)
  | lst h p => exact .lst (sq_of h) (fls_dp p)
theorem its_dp : ∀ {xs : List V} {ds : List PyData}, Paired (It H) xs ds → DpAll K H xs ds
  | _, _, .nil => .nil
  | _, _, .cons h t => .cons (it_dp h) (its_dp t)
theorem va_dp {v : V} {ds : List PyData} (h : Va ds v H) : Dp K H v (.tuple ds) := by
  obtain ⟨a, xs, rfl, ha, p⟩ := h
  exact .tup (st_of ha) (its_dp p)
theorem evp_eqD {d e : PyData} (ha : EvP ta σ H P) (hb : EvP tb σ H R) (m : Mono P) (hp : ∀ v H1, P v H1 → Dp K H1 v d) (hr : ∀ v H1, R v H1 → Dp K H1 v e) (s1 : SeqAt.shaped d = true) (s2 : SeqAt.shaped e = true) : EvP (tOp (rEqD K) ta tb) σ H (Is (.bl (PyData.eqv d e))) :=
  evp_op ha hb m fun x y H1 _ px py Q q => ⟨d, e, hp _ _ px, hr _ _ py, s1, s2, q _ H1 (Ex.refl _) rfl⟩
theorem evp_neD {d e : PyData} (ha : EvP ta σ H P) (hb : EvP tb σ H R) (m : Mono P) (hp : ∀ v H1, P v H1 → Dp K H1 v d) (hr : ∀ v H1, R v H1 → Dp K H1 v e) (s1 : SeqAt.shaped d = true) (s2 : SeqAt.shaped e = true) : EvP (tOp (rNeD K) ta tb) σ H (Is (.bl (!PyData.eqv d e))) :=
  evp_op ha hb m fun x y H1 _ px py Q q => ⟨d, e, hp _ _ px, hr _ _ py, s1, s2, q _ H1 (Ex.refl _) rfl⟩
theorem it_fl_int {v : V} {i : Int} (h : It H v (.int i)) : fl v (.int i) := by
  cases h with
  | flat h => exact h
/-- a tuple of two ints -/
def Pr (i j : Int) : HP := fun v H => ∃ a, v = .ref a ∧ H a = some (.tup [.int i, .int j])
theorem mono_pr {i j : Int} : Mono (Pr i j) := fun _ _ _ e ⟨a, h1, h2⟩ => ⟨a, h1, e _ _ h2⟩
theorem mf_pr {i j : Int} : MonoF (Pr i j) := fun _ _ _ e ⟨a, h1, h2⟩ => ⟨a, h1, e _ _ h2 (fun _ z => nomatch z)⟩
theorem pr_dp {i j : Int} {v : V} (h : Pr i j v H) : Dp K H v (.tuple [.int i, .int j]) := by
  obtain ⟨a, rfl, h⟩ := h
  exact .tup (st_of h) (.cons (.int i) (.cons (.int j) .nil))
theorem evp_pr {i j : Int} (ha : EvP ta σ H (Is (.int i))) (hb : EvP tb σ H (Is (.int j))) : EvP (tTup (tCons ta (tCons tb tNil))) σ H (Pr i j) := fun H1 e Q q =>
  ha.ev H1 e _ fun H2 e2 => hb.ev H2 (e.trans e2) _ fun H3 e3 => ⟨sz_of (show 2 ≤ 100000 by decide), fun p hp => q _ _ ((e2.trans e3).trans (Ex.new hp)) ⟨p, rfl, upd_same⟩⟩
end
theorem sh_pr {i j : Int} : SeqAt.shaped (.tuple [.int i, .int j]) = true := rfl
theorem eqv_pr {i j a b : Int} : PyData.eqv (.tuple [.int i, .int j]) (.tuple [.int a, .int b]) = (decide (i = a) && decide (j = b)) := by
  show ((i == a) && ((j == b) && true)) = _
  rw [Bool.and_true]
  rfl
/-! ### which cells -/
def inTs (a : Int) : PyData → Bool
  | .tuple es => (es.map dI).any (fun i => i == a)
  | _ => false
def cov (a b : Int) : List PyData → Bool
  | .str w :: rest =>
    if w = "left" then inTs a (rest.getD 0 .none)
    else if w = "right" then inTs b (rest.getD 0 .none)
    else decide (w = "all") || (decide (dI (rest.getD 0 .none) = a) && decide (dI (rest.getD 1 .none) = b))
  | _ => false
theorem cov_cons {a b : Int} {w : Str} {rest : List PyData} : cov a b (.str w :: rest) = (if w = "left" then inTs a (rest.getD 0 .none)
    else if w = "right" then inTs b (rest.getD 0 .none)
    else decide (w = "all") || (decide (dI (rest.getD 0 .none) = a) && decide (dI (rest.getD 1 .none) = b))) := rfl
theorem inV_ints {n a : Int} : ∀ {xs : List V} {es : List PyData}, Paired fl xs es → es.all (isB n) = true → inV (.int a) xs = (es.map dI).any (fun i => i == a)
  | _, _, .nil, _ => rfl
  | x :: xs, d :: es, .cons h t, hb => by
    rw [List.all_cons, Bool.and_eq_true] at hb
    obtain ⟨i, rfl, _⟩ := isB_int hb.1
    have ih := inV_ints (a := a) t hb.2
    rw [fl_int h]
    show (eqV (.int i) (.int a) || inV (.int a) xs) = ((i == a) || (es.map dI).any _)
    rw [ih]
    rfl
section
variable {K : PySem.W.Frag} {σ : L2.St} {H : Hp} {ta tb te : TE}
theorem evp_inTs {n a : Int} {d : PyData} (ha : EvP ta σ H (Is (.int a))) (hb : EvP tb σ H (fun v H => It H v d)) (hg : isVs n d = true) : EvP (tOp (rIn K false) ta tb) σ H (Is (.bl (inTs a d))) :=
  evp_op ha hb mono_is fun x y H1 _ px py Q q => by
    cases d with
    | tuple es =>
      have hall : es.all (isB n) = true := by
        have : (!es.isEmpty && (es.all (isB n) && ascI (es.map dI))) = true := hg
        simp only [Bool.and_eq_true] at this
        exact this.2.1
      cases py with
      | flat h => cases y <;> first | exact h.elim | (cases h; done)
      | @tup t xs _ ht p =>
        rw [show x = .int a from px]
        refine ⟨t, xs, rfl, .inr (st_of ht), rfl, fls_flat p, q _ H1 (Ex.refl _) ?_⟩
        show V.bl (if false = true then _ else inV (.int a) xs) = _
        rw [if_neg (by decide), inV_ints p hall]
        rfl
    | _ => cases hg
end
section
variable {P : Program} {w : World} {K : PySem.W.Frag} {mg : Str → Option Value} {base : Heap} {tk : Tok} {k : Nat} {CV iV CP iP : Addr}
def spCovers : Sp := fun vs H Q _ => ∃ (l r a b : Int) (x : V) (ds : List PyData), vs = [x, .int a, .int b] ∧ Va ds x H ∧ form l r ds = true ∧ ∀ v H2, Evl.Ex H H2 → v = .bl (cov a b ds) → Q v H2
theorem ok_covers {f : Addr} {fd : FuncData} (D : Df K mg "covers" s_covers ["where", "left", "right"] f fd) :
    FnOk P w K mg base CX0 (k + 1) f fd ["where", "left", "right"] spCovers := by
  refine D.F.ok sc_covers (fun vs H Q E h => ?_) (fun cdv A outer s H vs Q E hr h => ?_)
  · obtain ⟨l, r, a, b, x, ds, rfl, _⟩ := h
    rfl
  · obtain ⟨l, r, a, b, x, ds, rfl, hx, hf, q⟩ := h
    have nd := sc_covers.nd
    refine ⟨_, (pss_cons (ps_if (pt_cmpR op_eq (pe_ix (r := rIxT K) ix_tup (pv 0) pe_int (fun _ _ => rfl)) pe_str (nomark _)) (pss_one (ps_ret (pe_cmpR (r := rIn K false) op_in_seq (pv 1) (pe_ix (r := rIxT K) ix_tup (pv 0) pe_int (fun _ _ => rfl)) (by rfl)))) pss_nil) (pss_cons (ps_if (pt_cmpR op_eq (pe_ix (r := rIxT K) ix_tup (pv 0) pe_int (fun _ _ => rfl)) pe_str (nomark _)) (pss_one (ps_ret (pe_cmpR (r := rIn K false) op_in_seq (pv 2) (pe_ix (r := rIxT K) ix_tup (pv 0) pe_int (fun _ _ => rfl)) (by rfl)))) pss_nil) (pss_one (ps_ret (pe_or (pe_cmpR op_eq (pe_ix (r := rIxT K) ix_tup (pv 0) pe_int (fun _ _ => rfl)) pe_str (nomark _)) (pe_one (pe_cmpR (op_eqD hr.units) (pe_slice (r := rSlA K) sl_tupA (pv 0) (po_some pe_int) po_none) (pe_tup (pa_cons (pv 1) (pa_cons (pv 2) pa_nil))) (nomark _)))))))), ?_⟩
    have hv : ∀ {H' : Hp}, Evl.Ex H H' → Va ds x H' := fun e => mono_va _ _ _ e hx
    have h1 : ∀ {H' : Hp}, EvP (tVar 1) (start N_covers [x, .int a, .int b]) H' (Is (.int a)) := evp_var rfl rfl mono_is
    have h2 : ∀ {H' : Hp}, EvP (tVar 2) (start N_covers [x, .int a, .int b]) H' (Is (.int b)) := evp_var rfl rfl mono_is
    obtain ⟨w', rest, rfl⟩ : ∃ w' rest, ds = .str w' :: rest := by
      cases ds with
      | nil => cases hf
      | cons d ds => cases d <;> first | exact ⟨_, _, rfl⟩ | (cases hf; done)
    have hlen : (PyData.str w' :: rest).length = rest.length + 1 := rfl
    rw [form_cons] at hf
    refine s_when (b := decide (w' = "left")) (et_bl (evp_word (K := K) rfl hx "left")) (fun hb1 H1 e1 => ?_) (fun hb1 H1 e1 => ?_)
    · have hw : w' = "left" := of_decide_eq_true hb1
      rw [if_neg (by rw [hw]; decide), if_pos hw, Bool.and_eq_true, decide_eq_true_eq] at hf
      refine s_ret (evp_inTs (K := K) (n := l) h1 (evp_at (K := K) (j := 1) rfl (hv e1) (by rw [hlen, hf.1]; decide)) hf.2).ev fun H2 e2 => q _ H2 (e1.trans e2) ?_
      rw [cov_cons, if_pos hw]; rfl
    have n1 : ¬ w' = "left" := of_decide_eq_false hb1
    refine s_when (b := decide (w' = "right")) (et_bl (evp_word (K := K) rfl (hv e1) "right")) (fun hb2 H2 e2 => ?_) (fun hb2 H2 e2 => ?_)
    · have hw : w' = "right" := of_decide_eq_true hb2
      rw [if_neg (by rw [hw]; decide), if_neg n1, if_pos hw, Bool.and_eq_true, decide_eq_true_eq] at hf
      refine s_ret (evp_inTs (K := K) (n := r) h2 (evp_at (K := K) (j := 1) rfl (hv (e1.trans e2)) (by rw [hlen, hf.1]; decide)) hf.2).ev fun H3 e3 => q _ H3 ((e1.trans e2).trans e3) ?_
      rw [cov_cons, if_neg n1, if_pos hw]; rfl
    have n2 : ¬ w' = "right" := of_decide_eq_false hb2
    have hv2 := hv (e1.trans e2)
    refine s_ret (evp_or (a := decide (w' = "all")) (b := decide (dI (rest.getD 0 .none) = a) && decide (dI (rest.getD 1 .none) = b)) (evp_word (K := K) rfl hv2 "all") fun hb3 => ?_).ev fun H3 e3 => q _ H3 ((e1.trans e2).trans e3) (by rw [cov_cons, if_neg n1, if_neg n2])
    have n3 : ¬ w' = "all" := of_decide_eq_false hb3
    rw [if_neg n3, if_neg n1, if_neg n2] at hf
    simp only [Bool.and_eq_true, decide_eq_true_eq] at hf
    obtain ⟨_, hl, hi, hj⟩ := hf
    obtain ⟨d0, d1, rfl⟩ : ∃ d0 d1, rest = [d0, d1] := by
      match rest, hl with
      | [d0, d1], _ => exact ⟨d0, d1, rfl⟩
    obtain ⟨i, rfl, _⟩ := isB_int (d := d0) hi
    obtain ⟨j, rfl, _⟩ := isB_int (d := d1) hj
    obtain ⟨t, xs, rfl, ht, p⟩ := hv2
    refine evp_is (evp_eqD (K := K) (P := Pr i j) (R := Pr a b) ((evp_slA (K := K) (lo := some ((1 : Nat) : Int)) (hi := none) (evp_var (P := Is (.ref t)) (i := 0) rfl rfl mono_is).ev (eo_some evp_c.ev) eo_none ht).imp fun v H4 _ ⟨p', hv, hp'⟩ => ?_) (evp_pr h1 h2) mono_pr (fun _ _ h => pr_dp h) (fun _ _ h => pr_dp h) sh_pr sh_pr) (by rw [eqv_pr]; rfl)
    rw [cutV_from] at hp'
    cases p with
    | cons g0 p => cases p with
      | cons g1 p => cases p with
        | cons g2 p =>
          cases p
          rw [show _ = V.int i from fl_int (it_fl_int g1), show _ = V.int j from fl_int (it_fl_int g2)] at hp'
          exact ⟨p', hv, hp'⟩
end
end K20
namespace K20
open PySem PySem.Spec PyProof.Rows L2 Evl RZ Ev2 TA5

theorem Paired.snoc {α β : Type} {R : α → β → Prop} : ∀ {xs : List α} {ys : List β} {x : α} {y : β}, Paired R xs ys → R x y → Paired R (xs ++ [x]) (ys ++ [y])
  | _, _, _, _, .nil, r => .cons r .nil
  | _, _, _, _, .cons h t, r => .cons h (Paired.snoc t r)
theorem Paired.impl {α β : Type} {R S : α → β → Prop} (k : ∀ x y, R x y → S x y) : ∀ {xs : List α} {ys : List β}, Paired R xs ys → Paired S xs ys
  | _, _, .nil => .nil
  | _, _, .cons h t => .cons (k _ _ h) (Paired.impl k t)
/-- a list of pairs of ints -/
def Cs (cs : List (Int × Int)) : HP := fun v H => ∃ p ys, v = .ref p ∧ H p = some (.lst ys) ∧ Paired (fun y c => Pr c.1 c.2 y H) ys cs
theorem cs_mono {cs : List (Int × Int)} : Mono (Cs cs) := fun _ _ _ e ⟨p, ys, h1, h2, h3⟩ => ⟨p, ys, h1, e _ _ h2, Paired.impl (fun _ _ h => mono_pr _ _ _ e h) h3⟩
def rowP (f : Nat → Bool) (i : Nat) (j : Nat) : List (Int × Int) := ((List.range j).filter f).map fun (b : Nat) => ((i : Int), (b : Int))
def accP (f : Nat → Nat → Bool) (m : Nat) : Nat → List (Int × Int)
  | 0 => []
  | i + 1 => accP f m i ++ rowP (f i) i m
theorem rowP_len {f : Nat → Bool} {i j : Nat} : (rowP f i j).length ≤ j := by
  unfold rowP
  rw [List.length_map]
  exact Nat.le_trans (List.length_filter_le _ _) (by simp)
theorem accP_len {f : Nat → Nat → Bool} {m : Nat} (hm : m ≤ 100) : ∀ i, (accP f m i).length ≤ 100 * i
  | 0 => by simp [accP]
  | i + 1 => by have := accP_len (f := f) hm i; have h2 := rowP_len (f := f i) (i := i) (j := m); simp only [accP, List.length_append]; omega
theorem rowP_yes {f : Nat → Bool} {i j : Nat} (h : f j = true) : rowP f i (j + 1) = rowP f i j ++ [((i : Int), (j : Int))] := by
  unfold rowP
  rw [List.range_succ, List.filter_append, List.map_append, List.filter_cons, if_pos h]
  rfl
theorem rowP_no {f : Nat → Bool} {i j : Nat} (h : f j = false) : rowP f i (j + 1) = rowP f i j := by
  unfold rowP
  rw [List.range_succ, List.filter_append, List.map_append, List.filter_cons, if_neg (by rw [h]; decide)]
  simp
section
variable {K : PySem.W.Frag} {σ : L2.St} {H : Hp} {ta tb te : TE} {tt : TT}
theorem evp_lc2c {wi wi1 : TI} {g g1 : TG} {vs vs1 : List Nat} {n m : Nat} {item : Nat → V → Hp → Prop} {item1 : Nat → Nat → V → Hp → Prop} {Sg : Nat → L2.St → Hp → Prop} {Sg1 : Nat → Nat → L2.St → Hp → Prop} {f : Nat → Nat → Bool}
    (hw : WiP wi σ H n item) (hn : n ≤ 100) (hm : m ≤ 100)
    (hg : ∀ i x H1, i < n → Evl.Ex H H1 → item i x H1 → GP g x (wipe σ vs) H1 (fun σ2 H2 => wipe σ2 vs = wipe σ vs ∧ Sg i σ2 H2))
    (hw1 : ∀ i σ2 H1, i < n → Evl.Ex H H1 → Sg i σ2 H1 → WiP wi1 σ2 H1 m (item1 i))
    (hg1 : ∀ i j σ2 x H1 H2, i < n → j < m → Evl.Ex H H1 → Sg i σ2 H1 → Fx H1 H2 → item1 i j x H2 → GP g1 x (wipe σ2 vs1) H2 (fun σ3 H3 => wipe σ3 vs1 = wipe σ2 vs1 ∧ Sg1 i j σ3 H3))
    (ht : ∀ i j σ3 H1, i < n → j < m → Evl.Ex H H1 → Sg1 i j σ3 H1 → EvT tt σ3 H1 (f i j))
    (he : ∀ i j σ3 H1, i < n → j < m → Evl.Ex H H1 → Sg1 i j σ3 H1 → EvP te σ3 H1 (Pr i j)) :
    EvP (tLc2 wi g tYes wi1 g1 tt te vs vs1) σ H (Cs (accP f m n)) := fun H1 e Q q => hw H1 e _ fun J H2 Pre e2 T pre => fun D hD => by
  refine ⟨fun i k H3 => k = n - i ∧ i ≤ n ∧ Evl.Ex H2 H3 ∧ ∃ ys, H3 D = some (.lst ys) ∧ Paired (fun y c => Pr c.1 c.2 y H3) ys (accP f m i), ⟨n, by simp, Nat.zero_le _, Ex.new hD, [], upd_same, .nil⟩, ?_⟩
  rintro i k H3 ⟨rfl, hi, ex, ys, hys, hP⟩
  have pre3 := T.mono _ _ (Fx.of ex) pre
  by_cases hlt : i < n
  · refine .inr ⟨T.go i H3 hlt pre3, fun H4 => Evl.Ex H2 H4 ∧ ∃ ys, H4 D = some (.lst ys) ∧ Paired (fun y c => Pr c.1 c.2 y H4) ys (accP f m (i + 1)), fun H4 ⟨a, b⟩ => ⟨n - (i + 1), by omega, rfl, by omega, a, b⟩, fun x H4 y => ?_⟩
    obtain ⟨e4, it⟩ := T.yld i H3 x H4 hlt pre3 y
    have exH4 := ((e.trans e2).trans ex).trans e4
    refine hg i x H4 hlt exH4 it _ fun σ2 ⟨hw2, hs⟩ => ⟨hw2, ?_⟩
    unfold tYes
    dsimp only
    rw [if_pos rfl]
    refine hw1 i σ2 H4 hlt exH4 hs H4 (Ex.refl _) _ fun J1 H5 Pre1 e5 T1 pre1 => ?_
    refine ⟨fun j k H6 => k = m - j ∧ j ≤ m ∧ Evl.Ex H2 H6 ∧ Fx H5 H6 ∧ ∃ ys, H6 D = some (.lst ys) ∧ Paired (fun y c => Pr c.1 c.2 y H6) ys (accP f m i ++ rowP (f i) i j), ⟨m, by simp, Nat.zero_le _, (ex.trans e4).trans e5, Fx.refl _, ys, e5 _ _ (e4 _ _ hys), ?_⟩, ?_⟩
    · show Paired _ ys (accP f m i ++ [])
      rw [List.append_nil]
      exact Paired.impl (fun _ _ h => mono_pr _ _ _ (e4.trans e5) h) hP
    rintro j k H6 ⟨rfl, hj, ex6, fx6, zs, hzs, hZ⟩
    have pre6 := T1.mono _ _ fx6 pre1
    by_cases hlt1 : j < m
    · refine .inr ⟨T1.go j H6 hlt1 pre6, fun H7 => Evl.Ex H2 H7 ∧ Fx H5 H7 ∧ ∃ ys, H7 D = some (.lst ys) ∧ Paired (fun y c => Pr c.1 c.2 y H7) ys (accP f m i ++ rowP (f i) i (j + 1)), fun H7 ⟨a, b, c⟩ => ⟨m - (j + 1), by omega, rfl, by omega, a, b, c⟩, fun x1 H7 y1 => ?_⟩
      obtain ⟨e7, it1⟩ := T1.yld j H6 x1 H7 hlt1 pre6 y1
      have ex7 : Evl.Ex H H7 := (e.trans e2).trans (ex6.trans e7)
      refine hg1 i j σ2 x1 H4 H7 hlt hlt1 exH4 hs ((Fx.of e5).trans (fx6.trans (Fx.of e7))) it1 _ fun σ3 ⟨hw3, hs3⟩ => ⟨hw3, ?_⟩
      refine ht i j σ3 H7 hlt hlt1 ex7 hs3 H7 (Ex.refl _) _ fun H8 e8 => ?_
      cases hb : f i j with
      | true =>
        rw [if_pos rfl]
        refine he i j σ3 H7 hlt hlt1 ex7 hs3 H8 e8 _ fun z H9 e9 hz => ?_
        have hys9 := e9 _ _ (e8 _ _ (e7 _ _ hzs))
        have hl9 : zs.length ≤ 100 * i + m := by
          rw [Paired.len hZ, List.length_append]
          have := accP_len (f := f) hm i
          have := rowP_len (f := f i) (i := i) (j := j)
          omega
        refine ⟨_, hys9, sz_lt (by omega), Ex.mut (((ex6.trans e7).trans e8).trans e9) hD, (fx6.trans (Fx.of ((e7.trans e8).trans e9))).trans (Fx.lst hys9), _, upd_same, ?_⟩
        rw [rowP_yes hb, ← List.append_assoc]
        refine Paired.impl (fun _ _ h => mf_pr _ _ _ (Fx.lst hys9) h) (Paired.snoc (Paired.impl (fun _ _ h => mono_pr _ _ _ ((e7.trans e8).trans e9) h) hZ) hz)
      | false =>
        rw [if_neg (by decide)]
        refine ⟨ex6.trans (e7.trans e8), fx6.trans (Fx.of (e7.trans e8)), zs, e8 _ _ (e7 _ _ hzs), ?_⟩
        rw [rowP_no hb]
        exact Paired.impl (fun _ _ h => mono_pr _ _ _ (e7.trans e8) h) hZ
    · have hjm : j = m := by omega
      subst hjm
      exact .inl ⟨T1.stop H6 pre6, ex6, zs, hzs, hZ⟩
  · have hinn : i = n := by omega
    subst hinn
    exact .inl ⟨T.stop H3 pre3, q _ H3 (e2.trans ex) ⟨D, ys, rfl, hys, hP⟩⟩
end
section
variable {P : Program} {w : World} {K : PySem.W.Frag} {mg : Str → Option Value} {base : Heap} {tk : Tok} {k : Nat} {CV iV CP iP : Addr}
theorem Rz.ex {fn : Str} {C : Addr} {x : V} {H H' : Hp} {E : XK} (h : Rz fn C x H E) (e : Evl.Ex H H') : Rz fn C x H' E := fun d H2 e2 h2 => h d H2 (e.trans e2) h2
def spIsWhere (C : Addr) : Sp := fun vs H Q E => ∃ (x y z : V) (dx dy : PyData), vs = [x, y, z] ∧ It H x dx ∧ It H y dy ∧ (isSz dx = false → Rz "value" C x H E) ∧ (isSz dx = true → isSz dy = false → Rz "value" C y H E) ∧
  (isSz dx = true → isSz dy = true → ∃ ds, Va ds z H ∧ SmallV ds ∧ ∀ v H2, Evl.Ex H H2 → v = .bl (form (dI dx) (dI dy) ds) → Q v H2)
theorem isSz_int {d : PyData} (h : isSz d = true) : ∃ n : Nat, d = .int (n : Int) ∧ 1 ≤ n ∧ n ≤ 8 := by
  cases d with
  | int i =>
    have : (decide (1 ≤ i) && decide (i ≤ 8)) = true := h
    simp only [Bool.and_eq_true, decide_eq_true_eq] at this
    exact ⟨i.toNat, by rw [Int.toNat_of_nonneg (by omega)], by omega, by omega⟩
  | _ => cases h
theorem it_intE {H : Hp} {x : V} {i : Int} (h : It H x (.int i)) : x = .int i := fl_int (it_fl_int h)
theorem ok_is_where {f f1 f2 : Addr} {fd fd1 fd2 : FuncData} (D_check_sizes : Df K mg "check_sizes" s_check_sizes ["left", "right"] f1 fd1) (G_check_sizes : FnOk P w K mg base (L2.CX P w) (k + 5) f1 fd1 ["left", "right"] (spCheckSizes CV))
    (D_has_where_form : Df K mg "has_where_form" s_has_where_form ["left", "right", "value"] f2 fd2) (G_has_where_form : FnOk P w K mg base CX0 (k + 5) f2 fd2 ["left", "right", "value"] spForm) (T : Txt mg tk) (D : Df K mg "is_where" s_is_where ["left", "right", "value"] f fd) :
    FnOk P w K mg base (L2.CX P w) (k + 6) f fd ["left", "right", "value"] (spIsWhere CV) := by
  refine D.F.okX sc_is_where (fun vs H Q E h => ?_) (fun cdv A outer s H vs Q E hr h => ?_)
  · obtain ⟨x, y, z, dx, dy, rfl, _⟩ := h
    rfl
  · obtain ⟨x, y, z, dx, dy, rfl, hx, hy, k1, k2, k3⟩ := h
    refine ⟨_, (pss_cons (ps_expr (pe_callS G_check_sizes (hr.mono (by omega)) (by rfl) D_check_sizes.g D_check_sizes.F.kp D_check_sizes.b (fun σ => passAt (takes_of rfl rfl rfl rfl) σ) (pa_cons (pv 0) (pa_cons (pv 1) pa_nil)))) (pss_one (ps_ret (pe_call G_has_where_form (hr.mono (by omega)) (by rfl) D_has_where_form.g D_has_where_form.F.kp D_has_where_form.b .nil pass0 (pa_cons (pv 0) (pa_cons (pv 1) (pa_cons (pv 2) pa_nil))))))), ?_⟩
    refine ⟨x, rfl, y, rfl, x, y, dx, dy, rfl, hx, hy, fun hb d H2 e h2 => k1 hb d H2 e h2, fun ha hb d H2 e h2 => k2 ha hb d H2 e h2, fun ha hb H2 e2 => ?_⟩
    obtain ⟨ds, hz, hsm, q⟩ := k3 ha hb
    obtain ⟨n, rfl, _⟩ := isSz_int ha
    obtain ⟨m, rfl, _⟩ := isSz_int hb
    rw [it_intE hx, it_intE hy]
    refine s_ret (EvP.ev (v := .bl (form n m ds)) (evp_call (sp := spForm) (E := E0) (eap_three (P := Is (.int n)) (R := Is (.int m)) (S := Va ds) (evp_var rfl rfl mono_is) (evp_var rfl rfl mono_is) (evp_var (v := z) rfl (mono_va _ _ _ e2 hz) mono_va) mono_is mono_is) fun vs H1 ⟨a, b, c, e, ha, hb, hc⟩ Q q E => ⟨n, m, c, ds, by rw [e, show a = _ from ha, show b = _ from hb], hc, hsm, q⟩)) fun H3 e3 => q _ H3 (e2.trans e3) rfl
end
end K20
namespace K20
open PySem PySem.Spec PyProof.Rows L2 Evl RZ Ev2 TA5

section
variable {P : Program} {w : World} {K : PySem.W.Frag} {mg : Str → Option Value} {base : Heap} {tk : Tok} {k : Nat} {CV iV CP iP : Addr}
def cellsL (l r : Int) (ds : List PyData) : List (Int × Int) := accP (fun i j => cov (i : Int) (j : Int) ds) r.toNat l.toNat
def spCells (C CF : Addr) : Sp := fun vs H Q E => ∃ (x y z : V) (dx dy : PyData), vs = [x, y, z] ∧ It H x dx ∧ It H y dy ∧ (isSz dx = false → Rz "value" C x H E) ∧ (isSz dx = true → isSz dy = false → Rz "value" C y H E) ∧
  (isSz dx = true → isSz dy = true → ∃ ds, Va ds z H ∧ SmallV ds ∧ (form (dI dx) (dI dy) ds = false → Rz "place" CF z H E) ∧ (form (dI dx) (dI dy) ds = true → ∀ v H2, Evl.Ex H H2 → Cs (cellsL (dI dx) (dI dy) ds) v H2 → Q v H2))
theorem ok_cells {f f1 f2 : Addr} {fd fd1 fd2 : FuncData} (EP : EPT K mg CP iP) (D_is_where : Df K mg "is_where" s_is_where ["left", "right", "value"] f1 fd1) (G_is_where : FnOk P w K mg base (L2.CX P w) (k + 6) f1 fd1 ["left", "right", "value"] (spIsWhere CV))
    (D_covers : Df K mg "covers" s_covers ["where", "left", "right"] f2 fd2) (G_covers : FnOk P w K mg base CX0 (k + 1) f2 fd2 ["where", "left", "right"] spCovers) (T : Txt mg tk) (D : Df K mg "cells" s_cells ["left", "right", "where"] f fd) :
    FnOk P w K mg base (L2.CX P w) (k + 7) f fd ["left", "right", "where"] (spCells CV CP) := by
  refine D.F.okX sc_cells (fun vs H Q E h => ?_) (fun cdv A outer s H vs Q E hr h => ?_)
  · obtain ⟨x, y, z, dx, dy, rfl, _⟩ := h
    rfl
  · obtain ⟨x, y, z, dx, dy, rfl, hx, hy, k1, k2, k3⟩ := h
    have nd := sc_cells.nd
    refine ⟨_, (pss_cons (ps_if (pt_not (pt_val (pe_callS G_is_where (hr.mono (by omega)) (by rfl) D_is_where.g D_is_where.F.kp D_is_where.b (fun σ => passAt (takes_of rfl rfl rfl rfl) σ) (pa_cons (pv 0) (pa_cons (pv 1) (pa_cons (pv 2) pa_nil)))))) (pss_one (ErrPL.ps_raiseErr rfl EP hr (takes_of rfl rfl rfl rfl) (pa_cons (pv 2) pa_nil))) pss_nil) (pss_one (ps_ret (pe_lc2 (wi := iRng1 _) (g := gName 3) (wi1 := iRng1 _) (g1 := gName 4) (own := [("a", 3), ("b", 4)]) (vs1 := [4]) (by rfl) nd (pi_range1 (by rfl) T.n_range (pa_cons (pv 0) pa_nil)) (blkOk_by (by kernel_rfl)) (by decide) (fun _ _ _ _ _ => (pg_name (i := 3) nd rfl (Or.inl rfl))) (fun _ _ _ _ _ => pts_nil) (fun _ _ _ _ _ => (pi_range1 (by rfl) T.n_range (pa_cons (pv 1) pa_nil))) (fun _ _ _ _ _ => (pg_name (i := 4) nd rfl (Or.inl rfl))) (fun _ _ _ _ _ => (pts_one (pt_val (pe_call G_covers (hr.mono (by omega)) (by rfl) D_covers.g D_covers.F.kp D_covers.b .nil pass0 (pa_cons (pv 2) (pa_cons (pv 3) (pa_cons (pv 4) pa_nil))))))) (fun _ _ _ _ _ => (pe_tup (pa_cons (pv 3) (pa_cons (pv 4) pa_nil)))))))), ?_⟩
    refine ⟨x, rfl, y, rfl, z, rfl, x, y, z, dx, dy, rfl, hx, hy, fun hb d H2 e h2 => k1 hb d H2 e h2, fun ha hb d H2 e h2 => k2 ha hb d H2 e h2, fun ha hb => ?_⟩
    obtain ⟨ds, hz, hsm, kf, q⟩ := k3 ha hb
    refine ⟨ds, hz, hsm, fun v H1 e1 hv => ?_⟩
    subst hv
    refine ⟨_, rfl, ?_⟩
    cases hf : form (dI dx) (dI dy) ds with
    | false =>
      rw [if_pos (show (!false) = true from rfl)]
      exact ⟨_, rfl, z, rfl, fun d hd => kf hf d _ (e1.trans (Ex.new hd)) upd_same⟩
    | true =>
      rw [if_neg (show ¬ (!true) = true by decide)]
      obtain ⟨n, rfl, _, hn⟩ := isSz_int ha
      obtain ⟨m, rfl, _, hm⟩ := isSz_int hb
      have hz1 := mono_va _ _ _ e1 hz
      rw [it_intE hx, it_intE hy]
      have hc : EvP _ (start N_cells [.int n, .int m, z]) H1 (Cs (accP (fun i j => cov (i : Int) (j : Int) ds) m n)) := evp_lc2c (vs := [3, 4]) (vs1 := [4]) (g := gName 3) (g1 := gName 4)
        (wi_rng (ta := tCons (tVar 0) tNil) (n := n) (fun H2 e2 Q q => ⟨_, rfl, q _ H2 (Ex.refl _) rfl⟩) (by omega)) (by omega) (by omega : m ≤ 100)
        (Sg := fun i σ2 _ => σ2 = [some (.int n), some (.int m), some z, some (.int (i : Int)), none]) (fun i y H2 hi e2 hy => by subst hy; exact g_name (i := 3) ⟨rfl, rfl⟩)
        (fun i σ2 H2 hi e2 hs => by subst hs; exact wi_rng (ta := tCons (tVar 1) tNil) (n := m) (fun H2 e2 Q q => ⟨_, rfl, q _ H2 (Ex.refl _) rfl⟩) (by omega))
        (Sg1 := fun i j σ2 _ => σ2 = [some (.int n), some (.int m), some z, some (.int (i : Int)), some (.int (j : Int))]) (fun i j σ2 y H2 H3 hi hj e2 hs fx hy => by subst hs; subst hy; exact g_name (i := 4) ⟨rfl, rfl⟩)
        (fun i j σ3 H2 hi hj e2 hs => by
          subst hs
          exact et_bl (evp_call (sp := spCovers) (E := E0) (S := Is (.bl (cov (i : Int) (j : Int) ds))) (eap_three (P := Va ds) (R := Is (.int (i : Int))) (S := Is (.int (j : Int))) (evp_var (i := 2) (v := z) rfl (mono_va _ _ _ e2 hz1) mono_va) (evp_var (i := 3) rfl rfl mono_is) (evp_var (i := 4) rfl rfl mono_is) mono_va mono_is) fun vs H1 ⟨a, b, c, e, ha, hb, hc⟩ Q q E => ⟨n, m, i, j, a, ds, by rw [e, show b = _ from hb, show c = _ from hc], ha, hf, q⟩))
        (fun i j σ3 H2 hi hj e2 hs => by subst hs; exact evp_pr (evp_var (i := 3) rfl rfl mono_is) (evp_var (i := 4) rfl rfl mono_is))
      exact hc H1 (Ex.refl _) _ fun v H2 e2 hv => q hf v H2 (e1.trans e2) hv
end
end K20
namespace K20
open PySem PySem.Spec PyProof.Rows L2 Evl RZ Ev2 TA5
theorem u65 {k : Nat} {A : Around} (r : Room k A) : A.units + 65 < cLine := by have := r.un; omega
abbrev rLstQ (K : PySem.W.Frag) : List V → Hp → VK → Prop := fun xs H Q => ∃ p ys, xs = [.ref p] ∧ (SqL K H p ys ∨ SqT K H p ys) ∧ ∀ l, H l = none → Q (.ref l) (upd H l (.lst ys))
/-! ### data that are looked at whole -/
def okD (d : PyData) : Bool := d.canLay0 && (SmallD d && decide (d.depth ≤ 10))
theorem lay_all : ∀ {ds : List PyData}, (∀ d ∈ ds, d.canLay0 = true) → PyData.canLayAll0 ds = true
  | [], _ => rfl
  | d :: ds, h => by
    show (d.canLay0 && PyData.canLayAll0 ds) = true
    rw [h d (List.mem_cons_self ..), lay_all fun e he => h e (List.mem_cons_of_mem _ he)]; rfl
theorem lay_of : ∀ {ds : List PyData}, PyData.canLayAll0 ds = true → ∀ d ∈ ds, d.canLay0 = true
  | [], _, _, h => nomatch h
  | e :: ds, h, d, hd => by
    have h' : (e.canLay0 && PyData.canLayAll0 ds) = true := h
    rw [Bool.and_eq_true] at h'
    rcases List.mem_cons.mp hd with rfl | hd
    · exact h'.1
    · exact lay_of h'.2 d hd
theorem depth_all {n : Nat} : ∀ {ds : List PyData}, (∀ d ∈ ds, d.depth ≤ n) → PyData.depthAll ds ≤ n
  | [], _ => Nat.zero_le _
  | d :: ds, h => by
    show max d.depth (PyData.depthAll ds) ≤ n
    exact Nat.max_le.mpr ⟨h d (List.mem_cons_self ..), depth_all fun e he => h e (List.mem_cons_of_mem _ he)⟩
theorem depth_of {n : Nat} : ∀ {ds : List PyData}, PyData.depthAll ds ≤ n → ∀ d ∈ ds, d.depth ≤ n
  | [], _, _, h => nomatch h
  | e :: ds, h, d, hd => by
    have h' : max e.depth (PyData.depthAll ds) ≤ n := h
    rcases List.mem_cons.mp hd with rfl | hd
    · omega
    · exact depth_of (by omega) d hd
theorem sh_of {d : PyData} (h1 : d.canLay0 = true) (h2 : d.depth ≤ 64) : SeqAt.shaped d = true := by
  unfold SeqAt.shaped
  rw [h1, decide_eq_true h2]; rfl
structure OkV (ds : List PyData) : Prop where
  len : ds.length ≤ 50
  ok : ∀ d ∈ ds, okD d = true
theorem okD_lay {d : PyData} (h : okD d = true) : d.canLay0 = true := by unfold okD at h; simp only [Bool.and_eq_true] at h; exact h.1
theorem okD_small {d : PyData} (h : okD d = true) : SmallD d = true := by unfold okD at h; simp only [Bool.and_eq_true] at h; exact h.2.1
theorem okD_depth {d : PyData} (h : okD d = true) : d.depth ≤ 10 := by unfold okD at h; simp only [Bool.and_eq_true, decide_eq_true_eq] at h; exact h.2.2
theorem OkV.small {ds : List PyData} (h : OkV ds) : SmallV ds := fun d hd => okD_small (h.ok d hd)
theorem OkV.lay {ds : List PyData} (h : OkV ds) : PyData.canLayAll0 ds = true := lay_all fun d hd => okD_lay (h.ok d hd)
theorem OkV.depth {ds : List PyData} (h : OkV ds) : PyData.depthAll ds ≤ 10 := depth_all fun d hd => okD_depth (h.ok d hd)
theorem OkV.sh {ds : List PyData} (h : OkV ds) : SeqAt.shaped (.tuple ds) = true := sh_of h.lay (by show PyData.depthAll ds + 1 ≤ 64; have := h.depth; omega)
theorem OkV.at {ds : List PyData} (h : OkV ds) (i : Nat) : okD (ds.getD i .none) = true := by
  rw [List.getD_eq_getElem?_getD]
  cases e : ds[i]? with
  | none => rfl
  | some d => exact h.ok d (List.mem_of_getElem? e)
theorem sh_it {d : PyData} (h : okD d = true) : SeqAt.shaped d = true := sh_of (okD_lay h) (by have := okD_depth h; omega)
mutual
theorem eqv_self : ∀ d : PyData, d.canLay0 = true → PyData.eqv d d = true
  | .none, _ => rfl
  | .bool b, _ => by cases b <;> rfl
  | .int i, _ => by show (i == i) = true; simp
  | .str x, _ => by show (x == x) = true; simp
  | .list xs, h => eqvs_self xs h
  | .tuple xs, h => eqvs_self xs h
  | .dict _, h => by cases h
theorem eqvs_self : ∀ ds : List PyData, PyData.canLayAll0 ds = true → PyData.eqvAll ds ds = true
  | [], _ => rfl
  | d :: ds, h => by
    have h' : (d.canLay0 && PyData.canLayAll0 ds) = true := h
    rw [Bool.and_eq_true] at h'
    show (PyData.eqv d d && PyData.eqvAll ds ds) = true
    rw [eqv_self d h'.1, eqvs_self ds h'.2]; rfl
end
theorem eqvAll_nil {ds : List PyData} : PyData.eqvAll ds [] = ds.isEmpty := by cases ds <;> rfl
theorem ints_lay (is : List Int) : PyData.canLayAll0 (is.map PyData.int) = true := lay_all fun d hd => by obtain ⟨i, _, rfl⟩ := List.mem_map.mp hd; rfl
theorem ints_depth (is : List Int) : PyData.depthAll (is.map PyData.int) ≤ 0 := depth_all fun d hd => by obtain ⟨i, _, rfl⟩ := List.mem_map.mp hd; exact Nat.le_refl _
theorem eqv_ints : ∀ as bs : List Int, PyData.eqvAll (as.map PyData.int) (bs.map PyData.int) = decide (as = bs)
  | [], [] => rfl
  | [], _ :: _ => rfl
  | _ :: _, [] => rfl
  | a :: as, b :: bs => by
    show ((a == b) && PyData.eqvAll (as.map PyData.int) (bs.map PyData.int)) = _
    rw [eqv_ints as bs]
    by_cases h : a = b
    · subst h; simp
    · simp [h]
/-- two ascending lists of the same ints are one -/
theorem asc_one : ∀ {as bs : List Int}, as.Pairwise (· < ·) → bs.Pairwise (· < ·) → (∀ k, k ∈ as ↔ k ∈ bs) → as = bs
  | [], [], _, _, _ => rfl
  | [], b :: bs, _, _, h => by have := (h b).mpr (List.mem_cons_self ..); cases this
  | a :: as, [], _, _, h => by have := (h a).mp (List.mem_cons_self ..); cases this
  | a :: as, b :: bs, pa, pb, h => by
    rw [List.pairwise_cons] at pa pb
    have e : a = b := by
      rcases List.mem_cons.mp ((h a).mp (List.mem_cons_self ..)) with h1 | h1
      · exact h1
      · rcases List.mem_cons.mp ((h b).mpr (List.mem_cons_self ..)) with h2 | h2
        · exact h2.symm
        · have := pa.1 b h2; have := pb.1 a h1; omega
    subst e
    rw [asc_one pa.2 pb.2 fun k => ⟨fun hk => ?_, fun hk => ?_⟩]
    · rcases List.mem_cons.mp ((h k).mp (List.mem_cons_of_mem _ hk)) with h1 | h1
      · have := pa.1 k hk; omega
      · exact h1
    · rcases List.mem_cons.mp ((h k).mpr (List.mem_cons_of_mem _ hk)) with h1 | h1
      · have := pb.1 k hk; omega
      · exact h1
theorem asc_pw : ∀ {as : List Int}, ascI as = true ↔ as.Pairwise (· < ·)
  | [] => by simp [ascI]
  | [a] => by simp [ascI]
  | a :: b :: r => by
    have ih := asc_pw (as := b :: r)
    have : ascI (a :: b :: r) = (decide (a < b) && ascI (b :: r)) := rfl
    rw [this, Bool.and_eq_true, ih, decide_eq_true_eq, List.pairwise_cons (a := a) (l := b :: r)]
    refine ⟨fun ⟨h, p⟩ => ⟨fun c hc => ?_, p⟩, fun ⟨h, p⟩ => ⟨h b (List.mem_cons_self ..), p⟩⟩
    rcases List.mem_cons.mp hc with rfl | hc
    · exact h
    · rw [List.pairwise_cons] at p
      have := p.1 c hc; omega
theorem asc_is {as bs : List Int} (pb : bs.Pairwise (· < ·)) (h : ∀ k, k ∈ bs ↔ k ∈ as) : decide (as = bs) = ascI as := by
  by_cases ha : ascI as = true
  · rw [ha, asc_one (asc_pw.mp ha) pb fun k => (h k).symm]; simp
  · have : ¬ as = bs := fun e => ha (by rw [e]; exact asc_pw.mpr pb)
    rw [decide_eq_false this]; simpa using ha
/-! ### a comprehension with a test -/
def WiX (wi : TI) (σ : L2.St) (H : Hp) (n : Nat) (item : Nat → V → Hp → Prop) : Prop := ∀ H1, Evl.Ex H H1 → ∀ R : L2.It → Hp → Prop, (∀ J H2, Evl.Ex H1 H2 → (∀ i H3, Evl.Ex H2 H3 → (i < n → J.go i H3) ∧ (n ≤ i → J.stop i H3) ∧ (i < n → ∀ x H', J.yld i H3 x H' → Evl.Ex H3 H' ∧ item i x H')) → R J H2) → wi σ H1 R
section
variable {K : PySem.W.Frag} {σ : L2.St} {H : Hp} {ta tb te tl : TE} {tt : TT}
theorem wx_list {a : Addr} {xs : List V} (h : Ev tl σ H (.ref a)) (hs : H a = some (.lst xs)) : WiX (iList K tl) σ H xs.length (fun i x _ => xs[i]? = some x) := fun H1 e R k =>
  h H1 e _ fun H2 e2 => ⟨a, rfl, ⟨xs, sq_of ((e.trans e2) _ _ hs)⟩, k _ H2 e2 fun i H3 e3 => by
    have h3 := sq_of (K := K) ((e.trans e2).trans e3 _ _ hs)
    exact ⟨fun hi => ⟨xs, _, h3, List.getElem?_eq_getElem hi⟩, fun hi => ⟨xs, h3, hi⟩, fun hi x H' ⟨y1, y2⟩ => by rw [y1]; exact ⟨Ex.refl _, y2 xs h3⟩⟩⟩
theorem wx_tup {n : Nat} {Pi : Nat → HP} (h : EvP tl σ H (TupP n Pi)) (m : ∀ i, Mono (Pi i)) : WiX (iTup K tl) σ H n Pi := fun H1 e R k =>
  h H1 e _ fun v H2 e2 ⟨a, xs, hv, ha, hl, hi⟩ => ⟨a, hv, ⟨xs, st_of ha⟩, k _ H2 e2 fun i H3 e3 => by
    have h3 := st_of (K := K) (e3 _ _ ha)
    exact ⟨fun hlt => ⟨xs, _, h3, List.getElem?_eq_getElem (by omega)⟩, fun hlt => ⟨xs, h3, by omega⟩, fun hlt x H' ⟨y1, y2⟩ => by rw [y1]; exact ⟨Ex.refl _, m i _ _ _ e3 (hi i x (y2 xs h3))⟩⟩⟩
theorem evp_lcF {wi : TI} {g : TG} {vs : List Nat} {n : Nat} {item : Nat → V → Hp → Prop} {Sg : Nat → L2.St → Hp → Prop} {f : Nat → Bool} {Pi : Nat → HP} (hw : WiX wi σ H n item) (hn : n ≤ 40000)
    (hg : ∀ i x H1, i < n → Evl.Ex H H1 → item i x H1 → GP g x (wipe σ vs) H1 (fun σ2 H2 => wipe σ2 vs = wipe σ vs ∧ Sg i σ2 H2)) (ht : ∀ i σ2 H1, i < n → Evl.Ex H H1 → Sg i σ2 H1 → EvT tt σ2 H1 (f i))
    (he : ∀ i σ2 H1, i < n → Evl.Ex H H1 → Sg i σ2 H1 → EvP te σ2 H1 (Pi i)) (m : ∀ i, MonoF (Pi i)) :
    EvP (tLc wi g tt te vs) σ H (fun v H1 => ∃ p ys, v = .ref p ∧ H1 p = some (.lst ys) ∧ Paired (fun y i => Pi i y H1) ys ((List.range n).filter f)) := fun H1 e Q q => hw H1 e _ fun J H2 e2 T => fun D hD => by
  refine ⟨fun i k H3 => k = n - i ∧ i ≤ n ∧ Evl.Ex H2 H3 ∧ ∃ ys, H3 D = some (.lst ys) ∧ Paired (fun y i => Pi i y H3) ys ((List.range i).filter f), ⟨n, by simp, Nat.zero_le _, Ex.new hD, [], upd_same, .nil⟩, ?_⟩
  rintro i k H3 ⟨rfl, hi, ex, ys, hys, hP⟩
  obtain ⟨tg, ts, ty⟩ := T i H3 ex
  by_cases hlt : i < n
  · refine .inr ⟨tg hlt, fun H4 => Evl.Ex H2 H4 ∧ ∃ ys, H4 D = some (.lst ys) ∧ Paired (fun y i => Pi i y H4) ys ((List.range (i + 1)).filter f), fun H4 ⟨a, b⟩ => ⟨n - (i + 1), by omega, rfl, by omega, a, b⟩, fun x H4 y => ?_⟩
    obtain ⟨e4, it⟩ := ty hlt x H4 y
    have ex4 := ((e.trans e2).trans ex).trans e4
    refine hg i x H4 hlt ex4 it _ fun σ2 ⟨hw2, hs⟩ => ⟨hw2, ?_⟩
    refine ht i σ2 H4 hlt ex4 hs H4 (Ex.refl _) _ fun H5 e5 => ?_
    cases hb : f i with
    | true =>
      rw [if_pos rfl]
      refine he i σ2 H4 hlt ex4 hs H5 e5 _ fun z H6 e6 hz => ?_
      have hys6 := e6 _ _ (e5 _ _ (e4 _ _ hys))
      have hl6 : ys.length ≤ i := by
        rw [Paired.len hP]
        exact Nat.le_trans (List.length_filter_le _ _) (by simp)
      refine ⟨_, hys6, sz_lt (by omega), Ex.mut (((ex.trans e4).trans e5).trans e6) hD, _, upd_same, ?_⟩
      rw [List.range_succ, List.filter_append, List.filter_cons, if_pos hb]
      exact Paired.impl (fun _ j h => m j _ _ _ (Fx.lst hys6) h) (Paired.snoc (Paired.impl (fun _ j h => (m j).mono _ _ _ ((e4.trans e5).trans e6) h) hP) hz)
    | false =>
      rw [if_neg (by decide)]
      refine ⟨(ex.trans e4).trans e5, ys, e5 _ _ (e4 _ _ hys), ?_⟩
      rw [List.range_succ, List.filter_append, List.filter_cons, if_neg (by rw [hb]; decide)]
      simp only [List.filter_nil, List.append_nil]
      exact Paired.impl (fun _ j h => (m j).mono _ _ _ (e4.trans e5) h) hP
  · have hinn : i = n := by omega
    subst hinn
    exact .inl ⟨ts (Nat.le_refl _), q _ H3 (e2.trans ex) ⟨D, ys, rfl, hys, hP⟩⟩
end
section
variable {P : Program} {w : World} {K : PySem.W.Frag} {mg : Str → Option Value} {base : Heap} {tk : Tok} {k : Nat}
end
end K20
namespace K20
open PySem PySem.Spec PyProof.Rows L2 Evl RZ Ev2 TA5

/-- a list of such things -/
def Ls (xs : List V) : HP := fun v H => ∃ p, v = .ref p ∧ H p = some (.lst xs)
theorem mono_ls {xs : List V} : Mono (Ls xs) := fun _ _ _ e ⟨p, h1, h2⟩ => ⟨p, h1, e _ _ h2⟩
def Ts (xs : List V) : HP := fun v H => ∃ p, v = .ref p ∧ H p = some (.tup xs)
theorem mono_ts {xs : List V} : Mono (Ts xs) := fun _ _ _ e ⟨p, h1, h2⟩ => ⟨p, h1, e _ _ h2⟩
theorem fls_ints {n : Int} : ∀ {xs : List V} {es : List PyData}, Paired fl xs es → es.all (isB n) = true → xs = (es.map dI).map V.int ∧ es = (es.map dI).map PyData.int
  | _, _, .nil, _ => ⟨rfl, rfl⟩
  | x :: xs, d :: es, .cons h t, hb => by
    rw [List.all_cons, Bool.and_eq_true] at hb
    obtain ⟨i, rfl, _⟩ := isB_int hb.1
    obtain ⟨h1, h2⟩ := fls_ints t hb.2
    rw [fl_int h]
    exact ⟨by show V.int i :: xs = V.int i :: _; rw [← h1], by show PyData.int i :: es = PyData.int i :: _; rw [← h2]⟩
def inW (d : PyData) : Bool := [PyData.str "all", .str "left", .str "right", .str "cell"].any fun z => PyData.eqv z d
theorem inW_str {d : PyData} (h : inW d = true) : ∃ w : Str, d = .str w ∧ (w = "all" ∨ w = "left" ∨ w = "right" ∨ w = "cell") := by
  cases d with
  | str w =>
    refine ⟨w, rfl, ?_⟩
    have h' : ((("all" : Str) == w) || ((("left" : Str) == w) || ((("right" : Str) == w) || ((("cell" : Str) == w) || false)))) = true := h
    simp only [Bool.or_eq_true, beq_iff_eq, Bool.or_false] at h'
    rcases h' with h | h | h | h
    · exact .inl h.symm
    · exact .inr (.inl h.symm)
    · exact .inr (.inr (.inl h.symm))
    · exact .inr (.inr (.inr h.symm))
  | _ => cases h
theorem inW_word {w : Str} (h : inW (.str w) = false) : ¬ w = "all" ∧ ¬ w = "left" ∧ ¬ w = "right" ∧ ¬ w = "cell" :=
  ⟨fun e => by subst e; exact absurd h (by decide +kernel), fun e => by subst e; exact absurd h (by decide +kernel), fun e => by subst e; exact absurd h (by decide +kernel), fun e => by subst e; exact absurd h (by decide +kernel)⟩
theorem form_out {l r : Int} {ds : List PyData} (h : inW (ds.getD 0 .none) = false) : form l r ds = false := by
  cases ds with
  | nil => rfl
  | cons d rest =>
    cases d with
    | str w =>
      obtain ⟨h1, h2, h3, h4⟩ := inW_word h
      rw [form_cons, if_neg h1, if_neg h2, if_neg h3, decide_eq_false h4]; rfl
    | _ => rfl
theorem isVs_no {n : Int} {d : PyData} (h : isTup d = false ∨ PyData.eqv d (.tuple []) = true) : isVs n d = false := by
  cases d with
  | tuple es =>
    rcases h with h | h
    · cases h
    · have h' : PyData.eqvAll es [] = true := h
      rw [eqvAll_nil] at h'
      simp [isVs, h']
  | _ => rfl
section
variable {K : PySem.W.Frag} {w : World} {σ : L2.St} {H : Hp} {ta tb te tl : TE} {tt : TT} {P : HP}
theorem evp_ofL {xs : List V} (h : EvL te σ H xs) : EvP te σ H (Ls xs) := fun H1 e Q q => h H1 e Q fun p H2 _ e2 hp => q _ H2 e2 ⟨p, rfl, hp⟩
theorem evp_ofU {xs : List V} (h : EvU te σ H xs) : EvP te σ H (Ts xs) := fun H1 e Q q => h H1 e Q fun p H2 _ e2 hp => q _ H2 e2 ⟨p, rfl, hp⟩
theorem evp_notInW {d : PyData} (ha : EvP ta σ H (fun v H => It H v d)) (hb : EvP tb σ H (Ls [.str "all", .str "left", .str "right", .str "cell"])) (hd : okD d = true) : EvP (tOp (rNotInD K) ta tb) σ H (Is (.bl (!inW d))) :=
  evp_op ha hb mono_it fun x y H1 _ hx ⟨p, hy, hp⟩ Q q => by
    subst hy
    exact ⟨d, [.str "all", .str "left", .str "right", .str "cell"], it_dp hx, .lst (sq_of hp) (.cons (.str _) (.cons (.str _) (.cons (.str _) (.cons (.str _) .nil)))), sh_it hd, by decide +kernel, q _ H1 (Ex.refl _) rfl⟩
theorem evp_eq0 {d : PyData} (ha : EvP ta σ H P) (m : Mono P) (hp : ∀ v H1, P v H1 → Dp K H1 v d) (s1 : SeqAt.shaped d = true) : EvP (tOp (rEqD K) ta (tTup tNil)) σ H (Is (.bl (PyData.eqv d (.tuple [])))) :=
  evp_eqD (R := Ts []) ha (evp_ofU (eu_tup ea_nil (by decide))) m hp (fun v H1 ⟨p, h1, h2⟩ => by subst h1; exact .tup (st_of h2) .nil) s1 rfl
theorem it_tup {es : List PyData} {v : V} (h : It H v (.tuple es)) : ∃ a xs, v = .ref a ∧ H a = some (.tup xs) ∧ Paired fl xs es := by
  cases h with
  | flat h => cases v <;> first | exact h.elim | (cases h; done)
  | tup h p => exact ⟨_, _, rfl, h, p⟩
theorem it_tupP {es : List PyData} {v : V} (h : It H v (.tuple es)) : TupP es.length (fun i v _ => fl v (es.getD i .none)) v H := by
  obtain ⟨a, xs, rfl, ha, p⟩ := it_tup h
  exact tup_fl p ha
theorem evp_list {xs : List V} (h : EvP te σ H (Ts xs)) : EvP (tCB (rLstQ K) (tCons te tNil)) σ H (Ls xs) := fun H1 e Q q =>
  h H1 e _ fun v H2 e2 ⟨p, hv, hp⟩ => by
    subst hv
    exact ⟨p, xs, rfl, .inr (st_of hp), fun l hl => q _ _ (e2.trans (Ex.new hl)) ⟨l, rfl, upd_same⟩⟩
def Srt (is : List Int) : HP := fun v H => ∃ (p : Addr) (ns : List Int), v = .ref p ∧ H p = some (.lst (ns.map V.int)) ∧ ns.Pairwise (· < ·) ∧ ∀ k, k ∈ ns ↔ k ∈ is
theorem evp_sorted {is : List Int} (h : EvP te σ H (Ts (is.map V.int))) (hl : is.length ≤ 50) : EvP (tCB (rSortedSet w) (tCons (tCB (TA5.rSetTI K w) (tCons te tNil)) tNil)) σ H (Srt is) := fun H1 e Q q =>
  h H1 e _ fun v H2 e2 ⟨p, hv, hp⟩ => by
    subst hv
    refine ⟨p, is, rfl, st_of hp, by omega, fun a c ha hc => ?_⟩
    refine ⟨a, _, c, rfl, upd_same, by omega, fun ns p' pw mem _ hp' => ?_⟩
    exact q _ _ ((e2.trans (Ex.new ha)).trans (Ex.new hp')) ⟨p', ns, rfl, upd_same, pw, fun k => by rw [mem k]; simp⟩
theorem ints_dp : ∀ is : List Int, DpAll K H (is.map V.int) (is.map PyData.int)
  | [] => .nil
  | i :: is => .cons (.int i) (ints_dp is)
theorem ints_sh (is : List Int) : SeqAt.shaped (.list (is.map PyData.int)) = true := sh_of (ints_lay is) (by show PyData.depthAll _ + 1 ≤ 64; have := ints_depth is; omega)
theorem evp_asc {is : List Int} (ha : EvP ta σ H (Ls (is.map V.int))) (hb : EvP tb σ H (Srt is)) : EvP (tOp (rEqD K) ta tb) σ H (Is (.bl (ascI is))) :=
  evp_op ha hb mono_ls fun x y H1 _ ⟨p, hx, hp⟩ ⟨p', ns, hy, hp', pw, mem⟩ Q q => by
    subst hx
    subst hy
    refine ⟨.list (is.map PyData.int), .list (ns.map PyData.int), .lst (sq_of hp) (ints_dp is), .lst (sq_of hp') (ints_dp ns), ints_sh is, ints_sh ns, q _ H1 (Ex.refl _) ?_⟩
    show V.bl (PyData.eqvAll (is.map PyData.int) (ns.map PyData.int)) = _
    rw [eqv_ints, asc_is pw mem]
theorem bad_dp {es : List PyData} : ∀ {ys : List V} {js : List Nat}, Paired (fun y i => fl y (es.getD i .none)) ys js → DpAll K H ys (js.map fun i => es.getD i .none)
  | _, _, .nil => .nil
  | _, _, .cons h t => .cons (fl_dp h) (bad_dp t)
end
theorem filter_none {α : Type} (f : α → Bool) (d : α) (ds : List α) : (((List.range ds.length).filter fun i => !f (ds.getD i d)).map fun i => ds.getD i d).isEmpty = ds.all f := by
  rw [← all_range f d ds]
  generalize List.range ds.length = js
  induction js with
  | nil => rfl
  | cons j js ih =>
    rw [List.all_cons, List.filter_cons]
    cases f (ds.getD j d) with
    | true => simpa using ih
    | false => simp
section
variable {P : Program} {w : World} {K : PySem.W.Frag} {mg : Str → Option Value} {base : Heap} {tk : Tok} {k : Nat}
end
end K20
namespace K20
open PySem PySem.Spec PyProof.Rows L2 Evl RZ Ev2 TA5
theorem u1 {k : Nat} {A : Around} (r : Room k A) : A.units + 1 < cLine := by have := r.un; omega
theorem all_sh : SeqAt.shaped (.tuple [.str "all"]) = true := by decide +kernel
section
variable {P : Program} {w : World} {K : PySem.W.Frag} {mg : Str → Option Value} {base : Heap} {tk : Tok} {k : Nat}
theorem eqv_all {w : Str} {rest : List PyData} : PyData.eqv (.tuple (.str w :: rest)) (.tuple [.str "all"]) = (decide (w = "all") && rest.isEmpty) := by
  show ((w == ("all" : Str)) && PyData.eqvAll rest []) = _
  rw [eqvAll_nil]
  rfl
end
end K20
namespace K20
open PySem PySem.Spec PyProof.Rows L2 Evl RZ Ev2 TA5

section
variable {K : PySem.W.Frag} {σ : L2.St} {H : Hp} {ta tb te : TE} {tt : TT} {ta' : TA} {s p : Addr} {xs : List Int}
theorem evd_draw {σ : L2.St} {H : Hp} {ta : TE} {s p : Addr} {xs : List Int} {m : Int} {E : XK} (hs : σ[0]? = some (some (.ref s))) (ha : ∀ H1, EvP ta σ H1 (Is (.int m))) (hm : 1 ≤ m) : EvD s p xs (tCall spDraw [] E (tCons (tVar 0) (tCons ta tNil))) σ H (BI fun r => 0 ≤ r ∧ r < m) := fun H1 e d Q q =>
  eap_two (P := Is (.ref s)) (evp_var hs rfl mono_is) (ha H1) mono_is H1 (Ex.refl _) _ fun vs H2 e2 ⟨x, y, hv, hx, hy⟩ => ⟨s, p, xs, m, by rw [hv, show x = .ref s from hx, show y = .int m from hy]; rfl, d.ex e2, hm, fun v H3 g3 d3 h3 => q v H3 ((Gs.of e2).trans g3) d3 h3⟩
theorem EvAP.one1 {v : V} (h : EvAP ta' σ H (fun vs H1 => ∃ x, vs = [x] ∧ Is v x H1)) : EvAP ta' σ H (fun vs _ => vs = [v]) := fun H1 e Q q => h H1 e Q fun vs H2 e2 ⟨x, e, hx⟩ => q vs H2 e2 (by rw [e, show x = v from hx])
theorem q_asgD {te : TE} {tz : TS} {D : Ends} {i : Nat} (h : te σ H (fun v H1 => tz D (σ.set i (some v)) H1)) : tSeq (tAsg te (gName i)) tz D σ H := h
theorem opD {r : R2} {Q : VK} (h : ta σ H fun x H1 => tb σ H1 fun y H2 => r x y H2 Q) : tOp r ta tb σ H Q := h
theorem evd_lcI {tn : TA} {vs : List Nat} {n j : Nat} (hw : ∀ H1, EvAP tn σ H1 (fun vs _ => vs = [.int (n : Int)])) (hn : n ≤ 40000) (hz : ∀ x, wipe ((wipe σ vs).set j (some x)) vs = wipe σ vs) (hj : ∀ x : V, ((wipe σ vs).set j (some x))[j]? = some (some x))
    (ht : ∀ (i : Nat), i < n → ∀ H1, Dr s p xs H1 → ∀ Q : Bool → Hp → Prop, (∀ b H2, Gs s H1 H2 → Dr s p xs H2 → Q b H2) → tt ((wipe σ vs).set j (some (.int (i : Int)))) H1 Q) :
    EvD s p xs (tLc (iRng1 tn) (gName j) tt (tVar j) vs) σ H (fun v H1 => ∃ (q : Addr) (is : List Int), v = .ref q ∧ H1 q = some (.lst (is.map V.int)) ∧ is.length ≤ n) := fun H1 e d Q q => hw H1 H1 (Ex.refl _) _ fun vs' H2 e2 hv => by
  subst hv
  refine ⟨(n : Int), rfl, by omega, by omega, fun D hD => ?_⟩
  have d2 := d.ex e2
  have hDs : D ≠ s := fun z => by obtain ⟨k, hk⟩ := d2.at_; rw [z, hk] at hD; cases hD
  have hDp : D ≠ p := fun z => by have := d2.pool; rw [← z, hD] at this; cases this
  refine ⟨fun i k H3 => k = n - i ∧ i ≤ n ∧ Gs s H2 H3 ∧ Dr s p xs H3 ∧ ∃ is : List Int, H3 D = some (.lst (is.map V.int)) ∧ is.length ≤ i, ⟨n, by simp, Nat.zero_le _, Gs.of (Ex.new hD), d2.ex (Ex.new hD), [], upd_same, Nat.le_refl _⟩, ?_⟩
  rintro i k H3 ⟨rfl, hi, ex, d3, is, hys, hl⟩
  by_cases hlt : i < n
  · refine .inr ⟨by show i < (n : Int).toNat; simpa using hlt, fun H4 => Gs s H2 H4 ∧ Dr s p xs H4 ∧ ∃ is : List Int, H4 D = some (.lst (is.map V.int)) ∧ is.length ≤ i + 1, fun H4 ⟨a, b, c⟩ => ⟨n - (i + 1), by omega, rfl, by omega, a, b, c⟩, fun x H4 y => ?_⟩
    obtain ⟨rfl, rfl⟩ := y
    refine ⟨hz _, ?_⟩
    rw [Int.zero_add]
    refine ht i hlt H4 d3 _ fun b H5 g5 d5 => ?_
    have hys5 := g5 _ _ hDs hys
    cases b with
    | true =>
      rw [if_pos rfl]
      refine ⟨_, hj _, _, hys5, sz_lt (by rw [List.length_map]; omega), ?_, ?_, is ++ [(i : Int)], by rw [upd_same, List.map_append]; rfl, by simp; omega⟩
      · intro a o ha h
        have hna : a ≠ D := fun q => by rw [q, hD] at h; cases h
        rw [upd_ne hna]
        exact g5 _ _ ha (ex _ _ ha h)
      · refine ⟨d5.ne, ?_, ?_⟩
        · obtain ⟨k, hk⟩ := d5.at_
          exact ⟨k, by rw [upd_ne hDs.symm]; exact hk⟩
        · rw [upd_ne hDp.symm]; exact d5.pool
    | false =>
      rw [if_neg (by decide)]
      exact ⟨ex.trans g5, d5, is, hys5, by omega⟩
  · have hinn : i = n := by omega
    subst hinn
    exact .inl ⟨by show (i : Int).toNat ≤ i; simp, q _ H3 ((Gs.of e2).trans ex) d3 ⟨D, is, rfl, hys, hl⟩⟩
theorem evd_tupI {n : Nat} (h : EvD s p xs te σ H (fun v H1 => ∃ (q : Addr) (is : List Int), v = .ref q ∧ H1 q = some (.lst (is.map V.int)) ∧ is.length ≤ n)) :
    EvD s p xs (tCB (rTupQ K) (tCons te tNil)) σ H (fun v H1 => ∃ is : List Int, Ts (is.map V.int) v H1 ∧ is.length ≤ n) := fun H1 e d Q q =>
  h H1 e d _ fun v H2 e2 d2 ⟨a, is, hv, hp, hl⟩ => by
    subst hv
    exact ⟨a, _, rfl, .inl ⟨sq_of hp, fun l hl' => q _ _ (e2.trans (Gs.of (Ex.new hl'))) (d2.ex (Ex.new hl')) ⟨is, ⟨l, rfl, upd_same⟩, hl⟩⟩⟩
end
theorem okD_int {i : Int} : okD (.int i) = true := rfl
theorem okD_ints {is : List Int} (h : is.length ≤ 50) : okD (.tuple (is.map PyData.int)) = true := by
  unfold okD
  have h1 : (PyData.tuple (is.map PyData.int)).canLay0 = true := ints_lay is
  have h2 : SmallD (.tuple (is.map PyData.int)) = true := decide_eq_true (by rw [List.length_map]; exact h)
  have h3 : (PyData.tuple (is.map PyData.int)).depth ≤ 10 := by show PyData.depthAll _ + 1 ≤ 10; have := ints_depth is; omega
  rw [h1, h2, decide_eq_true h3]; rfl
theorem fl_ints : ∀ is : List Int, Paired fl (is.map V.int) (is.map PyData.int)
  | [] => .nil
  | i :: is => .cons rfl (fl_ints is)
section
variable {P : Program} {w : World} {K : PySem.W.Frag} {mg : Str → Option Value} {base : Heap} {tk : Tok} {k : Nat}
theorem word_at {n : Nat} (h : n < 4) : ∃ w : Str, ([V.str "all", .str "left", .str "right", .str "cell"])[n]? = some (.str w) ∧ okD (.str w) = true := by
  match n, h with
  | 0, _ => exact ⟨_, rfl, by decide +kernel⟩
  | 1, _ => exact ⟨_, rfl, by decide +kernel⟩
  | 2, _ => exact ⟨_, rfl, by decide +kernel⟩
  | 3, _ => exact ⟨_, rfl, by decide +kernel⟩
end
end K20
namespace K20
open PySem PySem.Spec PyProof.Rows L2 Evl RZ Ev2 TA5
theorem Paired.take {α β : Type} {R : α → β → Prop} : ∀ {xs : List α} {ys : List β} (n : Nat), Paired R xs ys → Paired R (xs.take n) (ys.take n)
  | _, _, 0, _ => .nil
  | _, _, _ + 1, .nil => .nil
  | _, _, n + 1, .cons h t => .cons h (Paired.take n t)
theorem Paired.drop {α β : Type} {R : α → β → Prop} : ∀ {xs : List α} {ys : List β} (n : Nat), Paired R xs ys → Paired R (xs.drop n) (ys.drop n)
  | _, _, 0, p => p
  | _, _, _ + 1, .nil => .nil
  | _, _, n + 1, .cons _ t => Paired.drop n t
theorem Paired.app {α β : Type} {R : α → β → Prop} : ∀ {xs : List α} {ys : List β} {xs' : List α} {ys' : List β}, Paired R xs ys → Paired R xs' ys' → Paired R (xs ++ xs') (ys ++ ys')
  | _, _, _, _, .nil, p => p
  | _, _, _, _, .cons h t, p => .cons h (Paired.app t p)
/-- a thing that may stand in a tuple -/
def Th : HP := fun v H => ∃ d, It H v d ∧ okD d = true
theorem mono_th : Mono Th := fun _ _ _ e ⟨d, h, k⟩ => ⟨d, h.mono (Kx.of e), k⟩
section
variable {K : PySem.W.Frag} {σ : L2.St} {H : Hp} {ta' : TA} {ta tb te : TE} {s p : Addr} {xs : List Int}
def EvTh (ta : TA) (σ : L2.St) (H : Hp) (n : Nat) : Prop := EvAP ta σ H (fun vs H1 => vs.length = n ∧ ∀ v ∈ vs, Th v H1)
theorem th_nil : EvTh tNil σ H 0 := fun H1 e Q q => q [] H1 (Ex.refl _) ⟨rfl, fun v h => nomatch h⟩
theorem th_cons {n : Nat} (h : EvP te σ H Th) (h2 : EvTh ta' σ H n) : EvTh (tCons te ta') σ H (n + 1) := fun H1 e Q q =>
  h H1 e _ fun v H2 e2 hv => h2 H2 (e.trans e2) _ fun vs H3 e3 ⟨hl, hvs⟩ => q (v :: vs) H3 (e2.trans e3) ⟨by rw [List.length_cons, hl], fun z hz => by
    rcases List.mem_cons.mp hz with rfl | hz
    · exact mono_th _ _ _ e3 hv
    · exact hvs z hz⟩
theorem th_c {v : V} {d : PyData} (h : fl v d) (k : okD d = true) : EvP (tC v) σ H Th := evp_c.imp fun x H1 _ e => ⟨d, by rw [show x = v from e]; exact .flat h, k⟩
theorem th_neg {i : Int} : EvP (tUn (rU fun i => .int (-i)) (tC (.int i))) σ H Th := (evp_un (P := Is (.int i)) (S := Is (.int (-i))) evp_c fun x H1 _ hx Q q => ⟨i, hx, q _ H1 (Ex.refl _) rfl⟩).imp fun x H1 _ e => ⟨.int (-i), by rw [show x = _ from e]; exact .flat rfl, rfl⟩
theorem th_tup {vs : List V} {ds : List PyData} (h : EvA ta' σ H vs) (hl : vs.length ≤ 100000) (p : Paired fl vs ds) (k : okD (.tuple ds) = true) : EvP (tTup ta') σ H Th := (evp_ofU (eu_tup h hl)).imp fun x H1 _ ⟨a, e, ha⟩ => ⟨_, by rw [e]; exact .tup ha p, k⟩
theorem th_lst {vs : List V} {ds : List PyData} (h : EvA ta' σ H vs) (hl : vs.length ≤ 100000) (p : Paired fl vs ds) (k : okD (.list ds) = true) : EvP (tLst ta') σ H Th := (evp_ofL (el_lst h hl)).imp fun x H1 _ ⟨a, e, ha⟩ => ⟨_, by rw [e]; exact .lst ha p, k⟩
theorem th_all {n : Nat} (h : EvTh ta' σ H n) (hn : n ≤ 100000) : EvP (tLst ta') σ H (fun v H1 => ∃ p ys, v = .ref p ∧ H1 p = some (.lst ys) ∧ ys.length = n ∧ ∀ y ∈ ys, Th y H1) := fun H1 e Q q =>
  h H1 e _ fun vs H2 e2 ⟨hl, hvs⟩ => ⟨sz_of (by rw [hl]; exact hn), fun p hp => q _ _ (e2.trans (Ex.new hp)) ⟨p, vs, rfl, upd_same, hl, fun y hy => mono_th _ _ _ (Ex.new hp) (hvs y hy)⟩⟩
theorem evp_cat {xs ys : List V} (ha : EvP ta σ H (Ts xs)) (hb : EvP tb σ H (Ts ys)) (hl : xs.length + ys.length ≤ 100000) : EvP (tOp (rCatA K) ta tb) σ H (Ts (xs ++ ys)) :=
  evp_op ha hb mono_ts fun x y H1 _ ⟨a, hx, h1⟩ ⟨b, hy, h2⟩ Q q => by
    subst hx
    subst hy
    refine ⟨a, b, xs, ys, rfl, rfl, st_of h1, st_of h2, sz_of hl, fun e => q _ H1 (Ex.refl _) ⟨b, rfl, by rw [e]; exact h2⟩, fun _ e => q _ H1 (Ex.refl _) ⟨a, rfl, by rw [e, List.append_nil]; exact h1⟩, fun _ _ p hp => q _ _ (Ex.new hp) ⟨p, rfl, upd_same⟩⟩
theorem draw_at {m : Int} {E : XK} (hs : σ[0]? = some (some (.ref s))) (ha : EvP ta σ H (Is (.int m))) (hm : 1 ≤ m) (d : Dr s p xs H) {Q : VK} (q : ∀ v H2, Gs s H H2 → Dr s p xs H2 → BI (fun r => 0 ≤ r ∧ r < m) v H2 → Q v H2) : tCall spDraw [] E (tCons (tVar 0) (tCons ta tNil)) σ H Q :=
  eap_two (P := Is (.ref s)) (evp_var hs rfl mono_is) ha mono_is H (Ex.refl _) _ fun vs H2 e2 ⟨x, y, hv, hx, hy⟩ => ⟨s, p, xs, m, by rw [hv, show x = .ref s from hx, show y = .int m from hy]; rfl, d.ex e2, hm, fun v H3 g3 d3 h3 => q v H3 ((Gs.of e2).trans g3) d3 h3⟩
theorem q_par3 {t1 t2 t3 : TE} {i j l : Nat} {tz : TS} {D : Ends} (h : t1 σ H fun x H1 => t2 σ H1 fun y H2 => t3 σ H2 fun z H3 => ∃ u v w, [x, y, z] = [u, v, w] ∧ tz D (((σ.set i (some u)).set j (some v)).set l (some w)) H3) : tSeq (tPar3 i j l (tCons t1 (tCons t2 (tCons t3 tNil)))) tz D σ H := h
theorem q_asgG {te : TE} {g : TG} {tz : TS} {D : Ends} (h : te σ H fun v H1 => g v σ H1 fun σ' H' => tz D σ' H') : tSeq (tAsg te g) tz D σ H := h
theorem tup3 {t1 t2 t3 : TE} {Q : VK} (h : t1 σ H fun x H1 => t2 σ H1 fun y H2 => t3 σ H2 fun z H3 => 3 ≤ sizeLine ∧ ∀ p, H3 p = none → Q (.ref p) (upd H3 p (.tup [x, y, z]))) : tTup (tCons t1 (tCons t2 (tCons t3 tNil))) σ H Q := h
theorem evp_ts {x : V} {a : Addr} {xs : List V} {i : Nat} (hs : σ[i]? = some (some (.ref a))) (ha : H a = some (.tup xs)) : EvP (tVar i) σ H (Ts xs) := evp_var hs ⟨a, rfl, ha⟩ mono_ts
theorem evp_from {a : Addr} {xs : List V} {i : Nat} {n : Nat} (hs : σ[i]? = some (some (.ref a))) (ha : H a = some (.tup xs)) (h : EvP te σ H (Is (.int (n : Int)))) : EvP (tSl (rSlA K) (tVar i) (tPart te) tNoPart) σ H (Ts (xs.drop n)) :=
  (evp_slA (K := K) (lo := some (n : Int)) (hi := none) (evp_var (P := Is (.ref a)) (i := i) hs rfl mono_is).ev (eo_some h.ev) eo_none ha).imp fun v H1 _ ⟨p, e, hp⟩ => ⟨p, e, by rw [hp, cutV_from]⟩
theorem evp_to {a : Addr} {xs : List V} {i : Nat} {n : Nat} (hs : σ[i]? = some (some (.ref a))) (ha : H a = some (.tup xs)) (h : EvP te σ H (Is (.int (n : Int)))) : EvP (tSl (rSlA K) (tVar i) tNoPart (tPart te)) σ H (Ts (xs.take n)) :=
  (evp_slA (K := K) (lo := none) (hi := some (n : Int)) (evp_var (P := Is (.ref a)) (i := i) hs rfl mono_is).ev eo_none (eo_some h.ev) ha).imp fun v H1 _ ⟨p, e, hp⟩ => ⟨p, e, by rw [hp, cutV_to]⟩
end
section
variable {P : Program} {w : World} {K : PySem.W.Frag} {mg : Str → Option Value} {base : Heap} {tk : Tok} {k : Nat}
end
end K20
namespace K20
open PySem PySem.Spec PyProof.Rows L2 Evl RZ Ev2 TA5
section
variable {P : Program} {w : World} {K : PySem.W.Frag} {mg : Str → Option Value} {base : Heap} {tk : Tok} {k : Nat} {CV iV CP iP : Addr}
end
end K20
namespace K20
open PySem PySem.Spec PyProof.Rows L2 Evl RZ Ev2 TA5

/-! ### the pairs, in two ways -/
theorem pairs_accP (F : Nat → Nat → Bool) (r : Nat) (hr : 0 < r) : ∀ l : Nat, (((List.range (l * r)).filter fun t => F (t / r) (t % r)).map fun t => (((t / r : Nat) : Int), ((t % r : Nat) : Int))) = accP F r l
  | 0 => by simp [accP]
  | l + 1 => by
    have ih := pairs_accP F r hr l
    have hd : ∀ j, j < r → (l * r + j) / r = l := fun j hj => by rw [Nat.mul_comm, Nat.mul_add_div hr, Nat.div_eq_of_lt hj]; rfl
    have hm : ∀ j, j < r → (l * r + j) % r = j := fun j hj => by rw [Nat.mul_comm, Nat.mul_add_mod, Nat.mod_eq_of_lt hj]
    rw [Nat.succ_mul, List.range_add, List.filter_append, List.map_append, ih, List.filter_map, List.map_map]
    show _ = accP F r l ++ rowP (F l) l r
    congr 1
    unfold rowP
    have e1 : ((List.range r).filter ((fun t => F (t / r) (t % r)) ∘ fun x => l * r + x)) = (List.range r).filter (F l) := List.filter_congr fun j hj => by
      have := List.mem_range.mp hj
      show F ((l * r + j) / r) ((l * r + j) % r) = _
      rw [hd j this, hm j this]
    rw [e1]
    refine List.map_congr_left fun j hj => ?_
    have := List.mem_range.mp (List.mem_filter.mp hj).1
    show ((((l * r + j) / r : Nat) : Int), (((l * r + j) % r : Nat) : Int)) = _
    rw [hd j this, hm j this]
/-- cells as data -/
def cD (cs : List (Int × Int)) : PyData := .list (cs.map fun c => .tuple [.int c.1, .int c.2])
theorem prs_dp {K : PySem.W.Frag} {H : Hp} : ∀ {ys : List V} {cs : List (Int × Int)}, Paired (fun y c => Pr c.1 c.2 y H) ys cs → DpAll K H ys (cs.map fun c => .tuple [.int c.1, .int c.2])
  | _, _, .nil => .nil
  | _, _, .cons h t => .cons (pr_dp h) (prs_dp t)
theorem cs_dp {K : PySem.W.Frag} {H : Hp} {cs : List (Int × Int)} {v : V} (h : Cs cs v H) : Dp K H v (cD cs) := by
  obtain ⟨p, ys, rfl, hp, h⟩ := h
  exact .lst (sq_of hp) (prs_dp h)
theorem cD_lay (cs : List (Int × Int)) : (cD cs).canLay0 = true := lay_all fun d hd => by obtain ⟨c, _, rfl⟩ := List.mem_map.mp hd; rfl
theorem cD_sh (cs : List (Int × Int)) : SeqAt.shaped (cD cs) = true := sh_of (cD_lay cs) (by
  show PyData.depthAll _ + 1 ≤ 64
  have := depth_all (n := 1) (ds := cs.map fun c => PyData.tuple [.int c.1, .int c.2]) fun d hd => by obtain ⟨c, _, rfl⟩ := List.mem_map.mp hd; exact Nat.le_refl _
  omega)
theorem isSz_nat {n : Nat} (h1 : 1 ≤ n) (h8 : n ≤ 8) : isSz (.int (n : Int)) = true := by
  show (decide (1 ≤ (n : Int)) && decide ((n : Int) ≤ 8)) = true
  rw [decide_eq_true (by omega), decide_eq_true (by omega)]; rfl
section
variable {K : PySem.W.Frag} {σ : L2.St} {H : Hp} {ta tb tc te : TE} {E : XK} {P R : HP} {CV : Addr}
theorem evp_pr0 {i j : Int} (h : EvP te σ H (Pr i j)) : EvP (tOp (rIxT K) te (tC (.int 0))) σ H (Is (.int i)) := fun H1 e Q q => h H1 e _ fun v H2 e2 ⟨a, hv, ha⟩ => ⟨a, _, 0, .int i, hv, rfl, st_of ha, rfl, q _ H2 e2 rfl⟩
theorem evp_pr1 {i j : Int} (h : EvP te σ H (Pr i j)) : EvP (tOp (rIxT K) te (tC (.int 1))) σ H (Is (.int j)) := fun H1 e Q q => h H1 e _ fun v H2 e2 ⟨a, hv, ha⟩ => ⟨a, _, 1, .int j, hv, rfl, st_of ha, rfl, q _ H2 e2 rfl⟩
theorem evp_fdm {t r : Nat} (hr : 0 < r) (hr8 : r ≤ 8) (ha : EvP ta σ H (Is (.int (t : Int)))) (hb : EvP tb σ H (Is (.int (r : Int)))) (hc : EvP tc σ H (Is (.int (t : Int)))) (hd : EvP te σ H (Is (.int (r : Int)))) :
    EvP (tTup (tCons (tOp (rI CDivN fun i j => .int (i.fdiv j)) ta tb) (tCons (tOp (rI (fun _ j => j ≠ 0) fun i j => .int (i.fmod j)) tc te) tNil))) σ H (Pr ((t / r : Nat) : Int) ((t % r : Nat) : Int)) := by
  have e1 : (t : Int).fdiv (r : Int) = ((t / r : Nat) : Int) := by rw [Int.fdiv_eq_ediv_of_nonneg _ (by omega)]; rfl
  have e2 : (t : Int).fmod (r : Int) = ((t % r : Nat) : Int) := by rw [Int.fmod_eq_emod_of_nonneg _ (by omega)]; rfl
  exact evp_pr (evp_is (evp_I (C := CDivN) (g := fun i j => .int (i.fdiv j)) ha hb ⟨by omega, by omega⟩) (by rw [e1])) (evp_is (evp_I (C := fun _ j => j ≠ 0) (g := fun i j => .int (i.fmod j)) hc hd (by omega)) (by rw [e2]))
/-- ["number", x] -/
theorem evp_msg {m : Str} {x : V} {i : Nat} (h : σ[i]? = some (some x)) : EvP (tLst (tCons (tC (.str m)) (tCons (tVar i) tNil))) σ H (Ls [.str m, x]) := evp_ofL (el_lst (ea_cons ev_c (ea_cons (ev_var h) ea_nil)) (show 2 ≤ 100000 by decide))
theorem num_dp {m : Str} {x : V} {d : PyData} (hx : fl x d) {v : V} {H : Hp} (h : Ls [.str m, x] v H) : Dp K H v (.list [.str m, d]) := by
  obtain ⟨p, rfl, h⟩ := h
  exact .lst (sq_of h) (.cons (.str m) (.cons (fl_dp hx) .nil))
theorem e_same {m : Str} {x : V} {d : PyData} (hx : fl x d) (hs : SeqAt.shaped (.list [.str m, d]) = true) (ha : EvP ta σ H (Ls [.str m, x])) (hb : EvP tb σ H (Ls [.str m, x])) : EvT (tTest (tOp (rNeD K) ta tb)) σ H false :=
  et_tst (evp_is (evp_neD (K := K) (d := .list [.str m, d]) (e := .list [.str m, d]) ha hb mono_ls (fun _ _ h => num_dp hx h) (fun _ _ h => num_dp hx h) hs hs) (by rw [eqv_self _ (SeqAt.canLay_of_shaped hs)]; rfl))
def Any : HP := fun _ _ => True
theorem mono_any : Mono Any := fun _ _ _ _ _ => trivial
theorem evp_any (h : EvP te σ H P) : EvP te σ H Any := h.imp fun _ _ _ _ => trivial
/-- sizes that are none, told -/
theorem odd_at {i : Nat} {x : V} (h : ([V.int 0, .int 9, .int (-1), .bl true, .non, .str "1"])[i]? = some x) : ∃ d, fl x d ∧ isSz d = false ∧ SeqAt.shaped (.list [.str "number", d]) = true := by
  match i, h with
  | 0, h => cases h; exact ⟨.int 0, rfl, rfl, by decide +kernel⟩
  | 1, h => cases h; exact ⟨.int 9, rfl, rfl, by decide +kernel⟩
  | 2, h => cases h; exact ⟨.int (-1), rfl, rfl, by decide +kernel⟩
  | 3, h => cases h; exact ⟨.bool true, rfl, rfl, by decide +kernel⟩
  | 4, h => cases h; exact ⟨.none, rfl, rfl, by decide +kernel⟩
  | 5, h => cases h; exact ⟨.str "1", rfl, rfl, by decide +kernel⟩
/-- what is due, and what is told -/
def Du (g : Bool) (z : V) (ds : List PyData) (cs : List (Int × Int)) : HP := fun v H => if g = true then Cs cs v H else (Ls [.str "fact", z] v H ∧ Va ds z H)
theorem mono_du {g : Bool} {z : V} {ds : List PyData} {cs : List (Int × Int)} : Mono (Du g z ds cs) := fun v H H' e h => by
  cases g with
  | true => exact cs_mono _ _ _ e h
  | false => exact ⟨mono_ls _ _ _ e h.1, mono_va _ _ _ e h.2⟩
def duD (g : Bool) (ds : List PyData) (cs : List (Int × Int)) : PyData := if g = true then cD cs else .list [.str "fact", .tuple ds]
theorem du_dp {g : Bool} {z : V} {ds : List PyData} {cs : List (Int × Int)} {v : V} {H : Hp} (h : Du g z ds cs v H) : Dp K H v (duD g ds cs) := by
  cases g with
  | true => exact cs_dp h
  | false =>
    obtain ⟨⟨p, rfl, hp⟩, hz⟩ := h
    exact .lst (sq_of hp) (.cons (.str _) (.cons (va_dp hz) .nil))
theorem du_sh {g : Bool} {ds : List PyData} {cs : List (Int × Int)} (hok : OkV ds) : SeqAt.shaped (duD g ds cs) = true := by
  cases g with
  | true => exact cD_sh cs
  | false =>
    refine sh_of ?_ ?_
    · show ((PyData.str "fact").canLay0 && (PyData.canLayAll0 ds && true)) = true
      rw [hok.lay]; decide +kernel
    · show max 0 (max (PyData.depthAll ds + 1) 0) + 1 ≤ 64
      have := hok.depth; omega
theorem e_du {g : Bool} {z : V} {ds : List PyData} {cs : List (Int × Int)} (hok : OkV ds) (ha : EvP ta σ H (Du g z ds cs)) (hb : EvP tb σ H (Du g z ds cs)) : EvT (tTest (tOp (rNeD K) ta tb)) σ H false :=
  et_tst (evp_is (evp_neD (K := K) ha hb mono_du (fun _ _ h => du_dp h) (fun _ _ h => du_dp h) (du_sh hok) (du_sh hok)) (by rw [eqv_self _ (SeqAt.canLay_of_shaped (du_sh hok))]; rfl))
theorem is_du {l r : Nat} {Ef : L2.St → XK} (hl : 1 ≤ l ∧ l ≤ 8) (hr : 1 ≤ r ∧ r ≤ 8) {z : V} {ds : List PyData} (hok : OkV ds) (h1 : EvP ta σ H (Is (.int (l : Int)))) (h2 : EvP tb σ H (Is (.int (r : Int)))) (h3 : EvP tc σ H (fun v H => v = z ∧ Va ds z H)) :
    EvP (tCallS (spIsWhere CV) Ef (tCons ta (tCons tb (tCons tc tNil)))) σ H (Is (.bl (form l r ds))) := fun H1 e Q q =>
  eap_three h1 h2 h3 mono_is mono_is H1 e _ fun vs H2 e2 ⟨a, b, c, hv, ha, hb', hc, hz⟩ => ⟨.int l, .int r, z, .int l, .int r, by rw [hv, show a = _ from ha, show b = _ from hb', hc], .flat rfl, .flat rfl, fun ha => (by rw [isSz_nat hl.1 hl.2] at ha; cases ha), fun _ ha => (by rw [isSz_nat hr.1 hr.2] at ha; cases ha),
    fun _ _ => ⟨ds, hz, hok.small, fun v H3 e3 hv => q v H3 (e2.trans e3) hv⟩⟩
end
end K20
set_option maxHeartbeats 8100000
namespace K20
open PySem PySem.Spec PyProof.Rows L2 Evl RZ Ev2 TA5
theorem dpAll_ints {K : PySem.W.Frag} {H : Hp} : ∀ ns : List Int, DpAll K H (ns.map V.int) (ns.map PyData.int)
  | [] => .nil
  | n :: ns => .cons (.int n) (dpAll_ints ns)
theorem for_enum {K : PySem.W.Frag} {a : Addr} {xs : List V} {g : TG} {tb : TS} {D : Ends} {σ : L2.St} {H : Hp} (Pv : Nat → L2.St → Hp → Prop) (h0 : Pv 0 σ H) (hl : ∀ i σ H, Pv i σ H → SqL K H a xs)
    (hs : ∀ (i : Nat) (x : V) (T : Addr) (σ : L2.St) (H : Hp), xs[i]? = some x → Pv i σ H → H T = none → g (.ref T) σ (upd H T (.tup [.int (i : Nat), x])) fun σ2 H2 => tb { D with nx := Pv (i + 1), ct := Pv (i + 1), bk := D.nx } σ2 H2) (hd : ∀ σ H, Pv xs.length σ H → D.nx σ H) :
    ∃ W : Nat → Nat → L2.St → Hp → Prop, (∃ m, W 0 m σ H) ∧ ∀ i m σ H, W i m σ H → ((Ite K a).stop i H ∧ D.nx σ H) ∨ ((Ite K a).go i H ∧ ∃ N : L2.St → Hp → Prop, (∀ σ' H', N σ' H' → ∃ m', m' < m ∧ W (i + 1) m' σ' H') ∧ ∀ v H', (Ite K a).yld i H v H' → g v σ H' fun σ2 H2 => tb { D with nx := N, ct := N, bk := D.nx } σ2 H2) := by
  refine ⟨fun i m σ H => m = xs.length - i ∧ i ≤ xs.length ∧ Pv i σ H, ⟨xs.length, rfl, Nat.zero_le _, h0⟩, ?_⟩
  rintro i m σ H ⟨rfl, hi, pv⟩
  have ql := hl i σ H pv
  by_cases hlt : i < xs.length
  · refine .inr ⟨⟨xs, xs[i], ql, List.getElem?_eq_getElem hlt⟩, Pv (i + 1), fun σ' H' p' => ⟨xs.length - (i + 1), by omega, rfl, hlt, p'⟩, fun v H' y => ?_⟩
    obtain ⟨T, x, rfl, hT, rfl, f1⟩ := y
    exact hs i x T σ H (f1 xs ql) pv hT
  · have e : i = xs.length := by omega
    subst e
    exact .inl ⟨⟨xs, ql, Nat.le_refl _⟩, hd σ H pv⟩
section
variable {σ : L2.St} {H : Hp} {s p : Addr} {xs : List Int} {E : XK} {i : Nat} {ta : TE}
def Sz : HP := fun v _ => ∃ m : Nat, v = .int (m : Int) ∧ 1 ≤ m ∧ m ≤ 8
theorem drawI {M : Int} (hs : σ[i]? = some (some (.ref s))) (ha : ∀ H1, EvP ta σ H1 (Is (.int M))) (hm : 1 ≤ M) : EvD s p xs (tCall spDraw [] E (tCons (tVar i) (tCons ta tNil))) σ H (BI fun r => 0 ≤ r ∧ r < M) := fun H1 e d Q q =>
  eap_two (P := Is (.ref s)) (evp_var hs rfl mono_is) (ha H1) mono_is H1 (Ex.refl _) _ fun vs H2 e2 ⟨x, y, hv, hx, hy⟩ => ⟨s, p, xs, M, by rw [hv, show x = .ref s from hx, show y = .int M from hy]; rfl, d.ex e2, hm, fun v H3 g3 d3 h3 => q v H3 ((Gs.of e2).trans g3) d3 h3⟩
theorem sizeD (hs : σ[i]? = some (some (.ref s))) : EvD s p xs (tOp (rI0 fun i j => .int (i + j)) (tC (.int 1)) (tCall spDraw [] E (tCons (tVar i) (tCons (tC (.int 8)) tNil)))) σ H Sz := fun H1 e d Q q =>
  drawI (H := H1) hs (fun _ => evp_c) (by decide) H1 (Gs.refl _ _) d _ fun v H2 g2 d2 ⟨r, hv, hr⟩ => ⟨1, r, rfl, hv, q _ H2 g2 d2 ⟨(1 + r).toNat, by rw [show (((1 + r).toNat : Nat) : Int) = 1 + r by omega], by omega, by omega⟩⟩
theorem tup2 {t1 t2 : TE} {Q : VK} (h : t1 σ H fun x H1 => t2 σ H1 fun y H2 => 2 ≤ sizeLine ∧ ∀ p, H2 p = none → Q (.ref p) (upd H2 p (.tup [x, y]))) : tTup (tCons t1 (tCons t2 tNil)) σ H Q := h
end
section
variable {P : Program} {w : World} {K : PySem.W.Frag} {mg : Str → Option Value} {base : Heap} {tk : Tok} {CV iV CP iP : Addr} {k : Nat}
end
end K20
namespace K20
open PySem PySem.Spec PyProof.Rows L2 Evl RZ Ev2 TA5
end K20
open PySem PySem.W PyProof.Rows
set_option maxHeartbeats 2000000
/-! xs[lo:hi:step] of a list -/
namespace L2
open PySem PySem.Spec PyProof.Rows
/-- what is picked, by its places -/
def pickV {α : Type} (xs : List α) (lo hi st : Option Int) : List α := (sliceRange (sliceBounds lo hi st xs.length).1 (sliceBounds lo hi st xs.length).2.1 (sliceBounds lo hi st xs.length).2.2).filterMap (xs[·]?)
theorem vals_at {xs : List V} {its : List Value} (r : Vals xs its) : ∀ i : Nat, (∃ x v, xs[i]? = some x ∧ its[i]? = some v ∧ RelV x v) ∨ (xs[i]? = none ∧ its[i]? = none) := by
  induction r with
  | nil => exact fun i => .inr ⟨rfl, rfl⟩
  | cons h t ih => exact fun i => match i with
    | 0 => .inl ⟨_, _, rfl, rfl, h⟩
    | i + 1 => ih i
theorem vals_pick {xs : List V} {its : List Value} (r : Vals xs its) : ∀ idx : List Nat, Vals (idx.filterMap (xs[·]?)) (idx.filterMap (its[·]?))
  | [] => .nil
  | i :: idx => by
    rcases vals_at r i with ⟨x, v, h1, h2, h3⟩ | ⟨h1, h2⟩
    · rw [List.filterMap_cons, List.filterMap_cons]
      simp only [h1, h2]
      exact .cons h3 (vals_pick r idx)
    · rw [List.filterMap_cons, List.filterMap_cons]
      simp only [h1, h2]
      exact vals_pick r idx
def tSlS (K : PySem.W.Frag) (te : TE) (tl th ts : TO) : TE := fun σ H Q => te σ H fun x H1 => ∃ a xs, x = .ref a ∧ SqL K H1 a xs ∧
  tl σ H1 fun lo H2 => H2 = H1 ∧ th σ H2 fun hi H3 => H3 = H1 ∧ ts σ H3 fun st H4 => H4 = H1 ∧ st ≠ some 0 ∧ (pickV xs lo hi st).length ≤ sizeLine ∧ ∀ p, H4 p = none → Q (.ref p) (upd H4 p (.lst (pickV xs lo hi st)))
section
variable {X : Cx}
theorem pe_slS {e : PySem.Expr} {lo hi st : Option PySem.Expr} {te : TE} {tl th ts : TO} {p2 pos : Pos} (he : PE X e te) (hl : PO X lo tl) (hu : PO X hi th) (hst : PO X st ts)
    (hn : ∀ v : Value, ∀ s : Value, subscripted (.Slice lo hi st p2) false v s = operate [v, s] (getItem v s) := by intros; with_unfolding_all rfl) : PE X (.Subscript e (.Slice lo hi st p2) pos) (tSlS X.K te tl th ts) := by
  refine ⟨fun pins s σ H Q I h => ?_⟩
  refine Subscript_ (thn (he.run pins s σ H _ I h) fun v s1 ⟨x, H1, I1, r1, q1⟩ => ?_)
  obtain ⟨a, xs, ex, hx, q⟩ := q1
  subst ex
  cases r1
  refine wpAny_Slice (thn (hl.run pins s1 σ H1 _ I1 q) fun vl s2 ⟨l, H2, I2, pl, e2, q2⟩ => ?_)
  subst e2
  refine thn (hu.run pins s2 σ _ _ I2 q2) fun vu s3 ⟨u, H3, I3, pu, e3, q3⟩ => ?_
  subst e3
  refine thn (hst.run pins s3 σ _ _ I3 q3) fun vs s4 ⟨o, H4, I4, ps, e4, h0, hlen, q4⟩ => ?_
  subst e4
  have I5 : Inv X pins σ H4 { s4 with heap := s4.heap.push { cls := .type "slice", data := .fields #[vl, vu, vs] } } := I4.kept (t' := s4.toks) fun b ob q => Heap.get?_push_of_some _ q
  obtain ⟨its, r, ht, hz⟩ := I5.list hx
  have hl2 := r.length
  refine tail_any (ops := [.ref a, .ref s4.heap.objs.size]) ht.isList.typeIs (PySem.slot_list_getitem.lookup) ?_ (hn _ _)
  refine wpAny_getItem_list_slice ht.isList (Heap.IsSliceOf.new _ vl vu vs) pl pu ps h0 ?_ (by rw [List.size_toArray]; omega)
  have e5 : slicePick its.toArray l u o = (((sliceRange (sliceBounds l u o xs.length).1 (sliceBounds l u o xs.length).2.1 (sliceBounds l u o xs.length).2.2)).filterMap (its[·]?)).toArray := by
    unfold slicePick
    rw [List.size_toArray, hl2]
    simp
  rw [e5]
  have rv := vals_pick r (sliceRange (sliceBounds l u o xs.length).1 (sliceBounds l u o xs.length).2.1 (sliceBounds l u o xs.length).2.2)
  refine ⟨.ref _, _, I5.laid (t' := s4.toks) (o := .lst (pickV xs l u o)) (fun b ob q => Heap.get?_push_of_some _ q) (Nat.le_refl _) ?_, rfl, q4 _ (I5.hok.fresh (Nat.le_refl _))⟩
  exact ⟨hlen, _, 0, rv, Heap.get?_push_size _ rfl⟩
end
end L2
/-! own rules: a method that may raise, within a try; x is True; enumerate of a tuple -/
namespace OwE
open PySem PySem.Calls PyProof.Rows Sem
/-- enumerate(v): its two new cells -/
theorem meets_enum1 {v : Value} {o : Obj} {H : Heap → Prop} (B : Begins v o H) :
    Meets (Builtin.«enumerate.__new__» ⟨[.type "enumerate", v], []⟩) (fun _ R s => H s.heap ∧
      R (.ok (.ret (.ref (s.heap.push o).objs.size))) { s with heap := (s.heap.push o).push { cls := .type "enumerate", data := .fields #[.none, .bool false, .ref s.heap.objs.size, rawInt 0, .none, .none] } }) :=
  .of_wp fun prog w A R s hh => by
    obtain ⟨hp, gl, dr, tk, os⟩ := s
    obtain ⟨a1, a2⟩ := hh
    have sub := sub_enumerate
    have start : ∀ {A' : Around} {E : Value → Shared → Prop} {Q : Value → Shared → Prop}, Q (.ref hp.objs.size) ⟨hp.push o, gl, dr, tk, os⟩ → wpAny (model prog w) A' (pyIter v) Q E ⟨hp, gl, dr, tk, os⟩ := fun q => B.iter prog w _ _ ⟨hp, gl, dr, tk, os⟩ _ a1 q
    wp_walk using start
    refine wpAny_stack_any fun st => wpAny_pure ?_
    split
    · rename_i c _ _ _ _ _
      cases (c == Value.type "enumerate")
      · wp_walk using start
        exact ⟨_, rfl, a2⟩
      · wp_walk using start
        exact ⟨_, rfl, a2⟩
    · wp_walk using start
      exact ⟨_, rfl, a2⟩
theorem call_enumT {prog : Program} {w : World} {A : Around} {E : Value → Shared → Prop} {s : Shared} {t : Addr} {items : Array Value} {Q : Value → Shared → Prop} (ht : s.heap.IsTuple t items)
    (h : ∀ h', IsEnum h' (s.heap.objs.size + 1) s.heap.objs.size 0 .none → h'.IsTupleIter s.heap.objs.size t 0 → h'.objs.size = s.heap.objs.size + 2 → (∀ b o, s.heap.get? b = some o → h'.get? b = some o) → Q (.ref (s.heap.objs.size + 1)) { s with heap := h' }) :
    wpAny (model prog w) A (call (.type "enumerate") [.ref t]) Q E s := by
  refine callType_new F.called_enumerate (by decide) (F.typeCall_enumerate_1 _) (F.newCall_enumerate_1 _) (fun obj => F.args_object_init_2 obj _) F.entry_enumerate_new (meets_enum1 (begins_tuple t items)) ⟨ht, ?_⟩
  have z : (s.heap.push { cls := .type "tuple_iterator", data := .fields #[.ref t, .int 0 0] }).objs.size = s.heap.objs.size + 1 := Heap.size_push ..
  show _ ∧ _
  rw [z]
  have e : IsEnum ((s.heap.push { cls := .type "tuple_iterator", data := .fields #[.ref t, .int 0 0] }).push { cls := .type "enumerate", data := .fields #[.none, .bool false, .ref s.heap.objs.size, rawInt 0, .none, .none] }) (s.heap.objs.size + 1) s.heap.objs.size 0 .none := by
    have := Heap.get?_push_size (s.heap.push { cls := .type "tuple_iterator", data := .fields #[.ref t, .int 0 0] }) (o := { cls := .type "enumerate", data := .fields #[.none, .bool false, .ref s.heap.objs.size, rawInt 0, .none, .none] }) rfl
    rw [z] at this
    exact this
  exact ⟨⟨_, e, rfl⟩, h _ e ⟨_, Heap.get?_push_of_some _ (Heap.get?_push_size _ rfl), rfl, rfl⟩ (by rw [Heap.size_push, z]) fun b o x => Heap.get?_push_of_some _ (Heap.get?_push_of_some _ x)⟩
end OwE
namespace Ow
open PySem L2 PySem.Spec PyProof.Rows TA5
/-- the tuple at a, each item in a new pair -/
def IteT (K : PySem.W.Frag) (a : Addr) : L2.It :=
  ⟨fun i H => ∃ (xs : List V) (x : V), SqT K H a xs ∧ xs[i]? = some x, fun i H v H' => ∃ T x, v = .ref T ∧ H T = none ∧ H' = upd H T (.tup [.int (i : Nat), x]) ∧ ∀ xs, SqT K H a xs → xs[i]? = some x, fun i H => ∃ xs : List V, SqT K H a xs ∧ xs.length ≤ i⟩
theorem turn_enumT {P : Program} {w : World} {K : PySem.W.Frag} {elts : List Expr} {kk : Nat} {tpos : Pos} (a e it : Addr) (hai : a ≠ it) :
    Turn P w K (.Tuple elts kk tpos) (IteT K a) [e, it] e (fun i h => (∃ old, IsEnum h e it ((i : Nat) : Int) old) ∧ h.IsTupleIter it a i ∧ e ≠ it ∧ e ≠ a) where
  mem := by simp
  obj := fun i h st b hb => by
    obtain ⟨⟨old, he⟩, ⟨o, ho, hc, hd⟩, _⟩ := st
    rcases (show b = e ∨ b = it by simpa using hb) with z | z
    · rw [z]; exact ⟨_, he, fun v q => nomatch q⟩
    · rw [z]; exact ⟨o, ho, fun v q => by rw [hd] at q; cases q⟩
  keep := fun i h h' st k => by
    obtain ⟨⟨old, he⟩, hi, n1, n2⟩ := st
    exact ⟨⟨old, k e (by simp) _ he⟩, hi.at fun o q => k it (by simp) o q, n1, n2⟩
  item := by
    intro X hP hw hK hc i pins s σ H E I hf st hg
    subst hP hw hK
    obtain ⟨⟨old, he⟩, hit, n1, n2⟩ := st
    obtain ⟨xs, x, hq, hx⟩ := hg
    obtain ⟨its, rv, p, hz⟩ := I.tuple hq
    obtain ⟨u, hu, ru⟩ := rv.get hx
    have hel := Heap.lt_size he
    have hil : it < s.heap.objs.size := by obtain ⟨_, q, _⟩ := hit; exact Heap.lt_size q
    have hp : s.heap.IsTuple a its.toArray := p
    have hlt : i < its.toArray.size := by
      have := (List.getElem?_eq_some_iff.mp hu).1
      simpa using this
    refine wpAny_pyNext_enum_itemD (Draws.tuple (A := X.A.in1) (I.ok.hd hc) it a hai its.toArray) he ⟨hit, hp⟩ hlt n1 (by simp [n1, n2]) fun u' h' tk hu' ho ⟨hit', _⟩ hT hsz hk => ?_
    have eu : u' = u := by
      have z : its[i]? = some u' := by simpa using hu'
      rw [hu] at z
      exact (Option.some.inj z).symm
    subst eu
    refine ⟨_, rfl, wpAny_letOwnedTupleGo_enum (s := { s with heap := h', toks := tk + 1 }) ho fun h'' he' sb => ?_⟩
    have hT2 : h''.get? s.heap.objs.size = some { cls := .type "tuple", data := .seq #[.int i tk, u'] } := (sb.2 _ (Nat.ne_of_gt hel)).trans hT
    have new : ObjOk X.prog X.w (upd H s.heap.objs.size (.tup [.int (i : Nat), x])) h'' s.heap.objs.size (.tup [.int (i : Nat), x]) :=
      ⟨by show 2 ≤ sizeLine; decide, [.int i tk, u'], .cons ⟨_, rfl⟩ (.cons ru .nil), ⟨_, hT2, rfl, _, rfl⟩⟩
    have I1 : Inv X pins σ (upd H s.heap.objs.size (.tup [.int (i : Nat), x])) { s with heap := h'', toks := tk + 1 } :=
      I.turnedNew (ch := [e, it]) (fun b ob hb q => (sb.2 b (fun z => hb (by simp [z]))).trans (hk b ob (fun z => hb (by simp [z])) (fun z => hb (by simp [z])) q)) hf (Nat.le_refl _) new
    refine ⟨.ref s.heap.objs.size, _, I1, rfl, ⟨_, x, rfl, I.hok.fresh (Nat.le_refl _), rfl, fun ys hy => by rw [I.tuple_inj hy hq]; exact hx⟩, ⟨⟨u', ?_⟩, hit'.at fun o q => (sb.2 it (Ne.symm n1)).trans q, n1, n2⟩, fun b hb => ?_⟩
    · rw [show ((i + 1 : Nat) : Int) = (i : Int) + 1 by omega]
      exact he'
    · have hb' : b < s.heap.objs.size := by
        rcases (show b = e ∨ b = it by simpa using hb) with z | z
        · rw [z]; exact hel
        · rw [z]; exact hil
      rw [upd_ne (Nat.ne_of_lt hb')]
      exact (hf b hb).1
  done := by
    intro X hP hw hK hc i pins s σ H E I hf st hg
    subst hP hw hK
    obtain ⟨⟨old, he⟩, hit, n1, n2⟩ := st
    obtain ⟨xs, hq, hx⟩ := hg
    obtain ⟨its, rv, p, hz⟩ := I.tuple hq
    obtain ⟨f0, f1, f2, f3, f4, f5⟩ := hf it (by simp)
    have hl := rv.length
    have hp : s.heap.IsTuple a its.toArray := p
    have D : Draws X.prog X.w X.A.in1 it [it, a] 0 (fun _ _ => False) (fun _ h => h.IsTupleIter it a i ∧ h.IsTuple a its.toArray) :=
      { live := fun _ _ st => by obtain ⟨⟨o, ho, _⟩, _⟩ := st; exact ⟨o, ho⟩
        frame := fun _ _ _ st k => ⟨st.1.at fun o q => k it (by simp) o q, st.2.at fun o q => k a (by simp) o q⟩
        item := fun j s Q E hj st hQ => absurd hj (Nat.not_lt_zero _)
        done := fun s Q E st hE => wpAny_nextOf_tuple_end (I.ok.hd hc) st.1 st.2 (by simp; omega) hE }
    exact wpAny_pyNext_enum_endD D he ⟨hit, hp⟩ fun h' eb => ⟨rfl, I.turned (t' := s.toks) (fun b o hb q => eb b o hb q) f0 f1 f3 f4 f5⟩
  self := fun A i s Q E st h => by
    obtain ⟨⟨_, he⟩, _⟩ := st
    exact wpAny_pyIter_enum he h
def iEnumT (K : PySem.W.Frag) (ta : TA) : TI := fun σ H R => ta σ H fun vs H1 => ∃ a xs, vs = [.ref a] ∧ SqT K H1 a xs ∧ R (IteT K a) H1
theorem pi_enumT {X : Cx} {e : Expr} {ta : TA} {p pos tpos : Pos} {elts : List Expr} {kk : Nat} (hg : Gl X "enumerate") (hm : X.mg "enumerate" = none) (ha : PA X [e] ta) (hs : starEach [e] X.env = [(false, eval e X.env)] := by rfl) :
    PI X (.Tuple elts kk tpos) (.Call (.Name "enumerate" p) [e] [] pos) (iEnumT X.K ta) := by
  refine ⟨fun pins s σ H R I h => ?_⟩
  refine Call_ (ld_blt I hg hm boot_enumerate (PyProof.Rows.callWith_type1 (thn (ha.run pos pins s σ H _ I h) fun us s1 ⟨vs, H1, I1, r1, q1⟩ => ?_) hs rfl))
  obtain ⟨a, xs, rfl, hq, q⟩ := q1
  obtain rfl := Vals.ref1 r1
  obtain ⟨its, rv, p', hz⟩ := I1.tuple hq
  have hp : s1.heap.IsTuple a its.toArray := p'
  have hal : a < s1.heap.objs.size := by obtain ⟨o, ho, _⟩ := id hp; exact Heap.lt_size ho
  refine OwE.call_enumT hp fun h' he hit hsz hk => wpAny_pyIter_enum he ?_
  have I2 : Inv X pins σ H1 { s1 with heap := h' } := I1.kept (t' := s1.toks) hk
  refine ⟨s1.heap.objs.size + 1, [s1.heap.objs.size + 1, s1.heap.objs.size], _, _, H1, rfl, I2, turn_enumT a (s1.heap.objs.size + 1) s1.heap.objs.size (Nat.ne_of_lt hal), ⟨⟨.none, he⟩, hit, Nat.succ_ne_self _, Nat.ne_of_gt (Nat.lt_succ_of_lt hal)⟩, fun b hb => ?_, q⟩
  have hle : s1.heap.objs.size ≤ b := by
    rcases (show b = s1.heap.objs.size + 1 ∨ b = s1.heap.objs.size by simpa using hb) with z | z
    · rw [z]; exact Nat.le_add_right _ _
    · rw [z]; exact Nat.le_refl _
  exact I1.fpOk hle (I1.hok.fresh hle)
/-- a method that may raise, what is raised wished for at the caller's slots -/
def tMethE (C : Addr) (m : Str) (sp : Sp) (dvs : List V) (E : L2.St → XK) (ta : TE) (t : TA) : TE := fun σ H Q => tMeth C m sp dvs (E σ) ta t σ H Q
section
variable {X : Cx} {CX : CXT} {k : Nat} {f C : Addr} {fd : FuncData} {ps : List Str} {sp : Sp} {dvs : List V} {ds : List Value} {E : L2.St → XK} {x m : Str} {p pos apos : Pos} {e o : Expr} {es : List Expr} {ta : TE} {t : TA}
theorem pe_methE {pl : Sem Bool} (he : PE X o ta) (c : Cls X.K C) (hm : Meth X.K C m f) (F : FnOk X.prog X.w X.K X.mg X.base CX k f fd ps sp) (hr : Room k X.A) (hb : Binds X.K fd ps ds) (hd : Vals dvs ds) (hx : ∀ σ, PassesAt CX X σ (E σ)) (ha : PA X (e :: es) t)
    (hst : starEach (e :: es) X.env = (false, eval e X.env) :: starEach es X.env := by rfl) (hpl : (backTo pos (starEach es X.env)).any (·.1) = false := by rfl)
    (ht : eval (.Call (.Attribute o m apos) (e :: es) [] pos) X.env = (do
      let ov ← eval o X.env
      standAt apos.atName
      let (f, first) ← holding [ov] (getMethod ov m pl)
      callWith pos f first (backTo pos (starEach (e :: es) X.env)) (backToKw pos (keywordEach [] X.env))) := by rfl) :
    PE X (.Call (.Attribute o m apos) (e :: es) [] pos) (tMethE C m sp dvs E ta t) := by
  refine ⟨fun pins s σ H Q I h => PySem.W.methodCall_KW (pl := pl) (thn (he.run pins s σ H _ I h) fun u s1 ⟨x, H1, I1, rx, a, dx, fs, ex, ea, l, q⟩ => ?_) ht⟩
  subst ex
  cases rx
  refine getmeth_ok I1 ea c hm l (PySem.W.callWith_K (first := [.ref a]) (h₀ := X.base) I.ok.mod.kin hm.kp (thn (ha.run pos pins s1 σ H1 _ I1 q) fun us s2 ⟨vs, H2, I2, r, q2⟩ => ⟨I2.kIn, ?_⟩) hst hpl)
  exact run_fnSD (us := .ref a :: us) (vs := .ref a :: vs) F hr hb hd (hx σ) I2 (.cons rfl r) q2
theorem pe_methE0 {pl : Sem Bool} (he : PE X o ta) (c : Cls X.K C) (hm : Meth X.K C m f) (F : FnOk X.prog X.w X.K X.mg X.base CX k f fd ps sp) (hr : Room k X.A) (hb : Binds X.K fd ps ds) (hd : Vals dvs ds) (hx : ∀ σ, PassesAt CX X σ (E σ))
    (ht : eval (.Call (.Attribute o m apos) [] [] pos) X.env = (do
      let ov ← eval o X.env
      standAt apos.atName
      let (f, first) ← holding [ov] (getMethod ov m pl)
      callWith pos f first (backTo pos (starEach [] X.env)) (backToKw pos (keywordEach [] X.env))) := by rfl) :
    PE X (.Call (.Attribute o m apos) [] [] pos) (tMethE C m sp dvs E ta tNil) := by
  refine ⟨fun pins s σ H Q I h => PySem.W.methodCall_KW (pl := pl) (thn (he.run pins s σ H _ I h) fun u s1 ⟨x, H1, I1, rx, a, dx, fs, ex, ea, l, q⟩ => ?_) ht⟩
  subst ex
  cases rx
  exact getmeth_ok I1 ea c hm l (PySem.W.callWith_K0 (first := [.ref a]) I1.kIn hm.kp (run_fnSD (us := [.ref a]) (vs := [.ref a]) F hr hb hd (hx σ) I1 (.cons rfl .nil) q))
/-- x is True, x is False: x a bool, an int, a text or an object -/
def isV : V → Bool
  | .non => true
  | .bl _ => true
  | .int _ => true
  | .str _ => true
  | .ref _ => true
  | _ => false
def rIsC : R2 := fun x y H Q => ∃ b, y = .bl b ∧ isV x = true ∧ Q (.bl (decide (x = .bl b))) H
def rNotC : R2 := fun x y H Q => ∃ b, y = .bl b ∧ isV x = true ∧ Q (.bl (!decide (x = .bl b))) H
theorem op_isC : OpR X (compareOp .Is) rIsC := by
  intro pins s σ H x y v u Q I rx ry h
  obtain ⟨b, rfl, hv, q⟩ := h
  cases (show u = Value.bool b from ry)
  cases x with
  | bl a =>
    cases (show v = Value.bool a from rx)
    by_cases e : a = b
    · subst e; exact wpAny_is_self rfl ⟨.bl true, H, I, rfl, by simpa using q⟩
    · exact wpAny_is_other rfl (fun z => e (Value.bool.inj z)) ⟨.bl false, H, I, rfl, by simpa [e] using q⟩
  | non => cases (show v = Value.none from rx); exact wpAny_is_other rfl (fun z => nomatch z) ⟨.bl false, H, I, rfl, q⟩
  | int i => obtain ⟨t, rfl⟩ := (show ∃ t, v = Value.int i t from rx); exact wpAny_is_other rfl (fun z => nomatch z) ⟨.bl false, H, I, rfl, q⟩
  | str i => obtain ⟨t, rfl⟩ := (show ∃ t, v = Value.str i t from rx); exact wpAny_is_other rfl (fun z => nomatch z) ⟨.bl false, H, I, rfl, q⟩
  | ref a => cases (show v = Value.ref a from rx); exact wpAny_is_other rfl (fun z => nomatch z) ⟨.bl false, H, I, rfl, q⟩
  | _ => cases hv
theorem op_notC : OpR X (compareOp .IsNot) rNotC := by
  intro pins s σ H x y v u Q I rx ry h
  obtain ⟨b, rfl, hv, q⟩ := h
  cases (show u = Value.bool b from ry)
  cases x with
  | bl a =>
    cases (show v = Value.bool a from rx)
    by_cases e : a = b
    · subst e; exact wpAny_isNot_self rfl ⟨.bl false, H, I, rfl, by simpa using q⟩
    · exact wpAny_isNot_other rfl (fun z => e (Value.bool.inj z)) ⟨.bl true, H, I, rfl, by simpa [e] using q⟩
  | non => cases (show v = Value.none from rx); exact wpAny_isNot_other rfl (fun z => nomatch z) ⟨.bl true, H, I, rfl, q⟩
  | int i => obtain ⟨t, rfl⟩ := (show ∃ t, v = Value.int i t from rx); exact wpAny_isNot_other rfl (fun z => nomatch z) ⟨.bl true, H, I, rfl, q⟩
  | str i => obtain ⟨t, rfl⟩ := (show ∃ t, v = Value.str i t from rx); exact wpAny_isNot_other rfl (fun z => nomatch z) ⟨.bl true, H, I, rfl, q⟩
  | ref a => cases (show v = Value.ref a from rx); exact wpAny_isNot_other rfl (fun z => nomatch z) ⟨.bl true, H, I, rfl, q⟩
  | _ => cases hv
end
end Ow
/-! len(x) by x's own __len__; isinstance(x, (list, tuple)) of a list; max with a default, of a list of ints -/
namespace PySem.W
open PySem PySem.Calls PyProof.Rows Builtin
theorem len_KO {prog : Program} {w : World} {A : Around} {E : Value → Shared → Prop} {s : Shared} {K : Frag} {x C L f : Addr} {h₀ : Heap} {m : Str → Option Value} {ox : Obj} {od : Option Obj} {Q : Value → Shared → Prop} (F : Fr h₀ L s.heap m) (X₀ : K.In h₀) (I : InstAt s.heap x ox C od)
    (hs : findIn K (.ref C) "__len__" = some (some (.ref f))) (hf : isFn K (.ref f) = true)
    (hcall : wpAny (model prog w) A.in1 (call (.ref f) [.ref x]) (fun r s' => ∃ n u, r = .int n u ∧ 0 ≤ n ∧ n < 2 ^ 63 ∧ Q (.int n s'.toks) { s' with toks := s'.toks + 1 }) E s) :
    wpAny (model prog w) A (call (.builtin "len") [.ref x]) Q E s := by
  have X := X₀.keeps F.keep
  refine Calls.call_function_entry kind_len plain_len entry_len (args_len1 _) ?_
  unfold Builtin.«len»
  refine wpAny_bind (m := oneArg "len" _) (wpAny_pure ?_)
  refine wpAny_bind (m := callSpecial? (.ref x) (Str.ofString "__len__")) (special_fn X I hs (beq_iff_eq.mp hf) (wpAny_mono hcall (fun r s' hr => ?_) fun _ _ y => y))
  obtain ⟨n, u, rfl, h0, h1, hq⟩ := hr
  refine wpAny_bind (wpAny_holding (wpAny_pure ?_))
  refine wpAny_bind (wpAny_letGo ?_)
  show wpAny _ _ (if n < 0 then _ else _) _ _ _
  rw [if_neg (by omega)]
  show wpAny _ _ (if n ≥ 2 ^ 63 then _ else _) _ _ _
  rw [if_neg (by omega)]
  exact wpAny_bind (wpAny_mkInt (wpAny_pure ⟨_, rfl, hq⟩))
end PySem.W
namespace OwL
open PySem L2 PySem.Spec PyProof.Rows
section
variable {X : Cx} {CX : CXT} {n : Nat} {C f : Addr} {fd : FuncData} {ps : List Str} {sp : Sp} {E : XK}
theorem own_call1 {pins : List (Addr × Obj)} {σ : L2.St} {H : Hp} {s : Shared} {vs : List V} {us : List Value} {Q : VK} {R : Value → Shared → Prop} (F : FnOk X.prog X.w X.K X.mg X.base CX n f fd ps sp) (hb : Binds X.K fd ps []) (hr : Room (n + 1) X.A) (hx : Passes CX X E)
    (I : Inv X pins σ H s) (r : Vals vs us) (h : sp vs H Q E) (hR : ∀ z w H' s', Inv X pins σ H' s' → RelV z w → Q z H' → R w s') :
    wpAny (model X.prog X.w) X.A.in1 (call (.ref f) us) R X.xe s := by
  have hl := F.len _ _ _ _ h
  refine wpAny_call (codeAny_mono (F.run X.A.in1 X.stack s H ⟨us, []⟩ us vs Q E hr.in1 I.env0.in1 (by
    have := hb s us I.kIn (by simpa [r.length] using hl)
    simpa using this) r h) fun r s' hq => ?_)
  cases r with
  | error er => exact hx pins σ H s er s' I hq
  | ok fl =>
    cases fl with
    | ret w =>
      obtain ⟨z, H', I', rz, q⟩ := I.after hq
      exact hR z w H' s' I' rz q
    | next => exact False.elim hq
    | brk => exact False.elim hq
    | cont => exact False.elim hq
def rLenO (C : Addr) (sp : Sp) (E : XK) : List V → Hp → VK → Prop := fun vs H Q => ∃ a dx fs, vs = [.ref a] ∧ H a = some (.ins C dx fs) ∧ sp [.ref a] H (fun v H1 => ∃ k : Int, v = .int k ∧ 0 ≤ k ∧ k < 2 ^ 62 ∧ Q (.int k) H1) E
theorem cr_lenO (F : FnOk X.prog X.w X.K X.mg X.base CX n f fd ps sp) (hs : PySem.W.findIn X.K (.ref C) "__len__" = some (some (.ref f))) (hf : PySem.W.isFn X.K (.ref f) = true)
    (hb : Binds X.K fd ps []) (hr : Room (n + 1) X.A) (hx : Passes CX X E) : CallR X (.builtin "len") (rLenO C sp E) := by
  intro pins s σ H vs us Q I r hq
  obtain ⟨a, dx, fs, rfl, ha, q⟩ := hq
  rw [Vals.ref1 r]
  obtain ⟨mA, J0, _⟩ := ins_get I.hok ha; obtain ⟨od, J, _⟩ := J0.look
  obtain ⟨m, hF⟩ := I.fr
  refine PySem.W.len_KO hF I.ok.mod.kin J hs hf ?_
  exact own_call1 (vs := [.ref a]) F hb hr hx I (.cons rfl .nil) q fun z w H' s' I' rz ⟨k, hz, h0, h1, qz⟩ => by
    subst hz
    obtain ⟨t, rfl⟩ := (show ∃ t, w = Value.int k t from rz)
    exact ⟨k, t, rfl, h0, by omega, .int k, H', I'.tok _, ⟨_, rfl⟩, qz⟩
end
/-! isinstance(x, (list, tuple)), x a list -/
theorem isi_sub_ll : isSubtype (.type "list") (.type "list") = pure true := by rw [isSubtype_type]; kernel_rfl
theorem isi_ansL (t : Addr) : AnswersAll (fun s => s.TypeIs (.ref t) "list") (.ref t) [.type "list", .type "tuple"] [true, false] :=
  ⟨Answers.of_true PySem.F.isi_meta_list isi_sub_ll, Answers.of_false_list (by decide +kernel) PySem.F.isi_meta_tuple PySem.F.sub_list_tuple, True.intro⟩
def tIsLT (K : PySem.W.Frag) (te : TE) : TE := fun σ H Q => te σ H fun x H1 => (∃ t xs, x = .ref t ∧ SqL K H1 t xs) ∧ ∀ T, H1 T = none → Q (.bl true) (upd H1 T (.tup [.ty "list", .ty "tuple"]))
section
variable {X : Cx} {p pos tpos : Pos} {e : PySem.Expr} {es : List PySem.Expr} {te : TE}
theorem pe_isiLT {k : Nat} (he : PE X e te) (hg : Gl X "isinstance") (hm : X.mg "isinstance" = none) (hes : PA X es (tCons (tC (.ty "list")) (tCons (tC (.ty "tuple")) tNil)))
    (hs1 : starEach [e, .Tuple es k tpos] X.env = (false, eval e X.env) :: starEach [.Tuple es k tpos] X.env := by rfl) (hs2 : starEach [.Tuple es k tpos] X.env = (false, eval (.Tuple es k tpos) X.env) :: starEach [] X.env := by rfl)
    (hpl : (backTo pos (starEach [.Tuple es k tpos] X.env)).any (·.1) = false := by rfl) :
    PE X (.Call (.Name "isinstance" p) [e, .Tuple es k tpos] [] pos) (tIsLT X.K te) := by
  refine ⟨fun pins s σ H Q I h => ?_⟩
  refine wpAny_Call_Name_kw (ld_blt I hg hm PyProof.Rows.boot_isinstance ?_ (by decide) (by decide))
  refine PyProof.Rows.callWith_builtin1 ?_ hs1 hpl
  rw [hs1]
  show wpAny _ _ (spliced ((false, eval e X.env) :: backTo pos (starEach [.Tuple es k tpos] X.env))) _ _ s
  refine Calls.spliced_cons (thn (he.run pins s σ H _ I h) fun u s1 ⟨x, H1, I1, r1, hx, q1⟩ => ?_)
  obtain ⟨t, xs, ex, hT⟩ := hx
  subst ex
  obtain rfl : u = Value.ref t := r1
  rw [hs2]
  show wpAny _ _ (spliced ((false, eval (.Tuple es k tpos) X.env) :: backTo pos (starEach [] X.env))) _ _ s1
  refine Calls.spliced_cons (wpAny_Tuple_spliced (thn (hes.run tpos pins s1 σ H1 (fun ys H' => ys = [.ty "list", .ty "tuple"] ∧ H' = H1) I1 ⟨rfl, rfl⟩) fun us s2 ⟨ys, H2, I2, r2, ey, eH⟩ => ?_))
  subst ey eH
  have eu := vals_ty2 r2
  subst eu
  refine ⟨by show 2 ≤ sizeLine; rw [sizeLine_eq]; omega, ?_⟩
  have hf := I2.hok.fresh (Nat.le_refl s2.heap.objs.size)
  have I3 := I2.laid (a := s2.heap.objs.size) (o := .tup [.ty "list", .ty "tuple"]) (h' := s2.heap.push { cls := .type "tuple", data := .seq [Value.type "list", Value.type "tuple"].toArray }) (t' := s2.toks) (fun b u e => Heap.get?_push_of_some _ e) (Nat.le_refl _)
    ⟨by show 2 ≤ sizeLine; rw [sizeLine_eq]; omega, [.type "list", .type "tuple"], r2, ⟨_, Heap.get?_push_size _ rfl, rfl, _, rfl⟩⟩
  obtain ⟨its, _, ⟨o, n, ho, hc, _⟩, _⟩ := I2.list hT
  refine Calls.spliced_nil ?_
  exact call_isinstance (isinstance_tuple (x := .ref t) (Tx := "list") (tp := s2.heap.objs.size) (isi_ansL t))
    ⟨⟨o, Heap.get?_push_of_some _ ho, hc⟩, Heap.get?_push_size _ rfl, fun tk => ⟨.bl true, _, I3.tok tk, rfl, q1 _ hf⟩⟩
end
section
variable {X : Cx}
/-- min(xs, default=None) of a list of ints -/
def minO : List Int → V
  | [] => .non
  | n :: r => .int (r.foldl min n)
def rMinO (K : PySem.W.Frag) : List V → List V → Hp → VK → Prop := fun vs zs H Q => ∃ (a : Addr) (ns : List Int), vs = [V.ref a] ∧ zs = [.non] ∧ SqL K H a (ns.map V.int) ∧ Q (minO ns) H
theorem alike_ints (ns : List Int) : PySem.W.AlikeAll (ns.map PyData.int) := ⟨fun x hx y hy => by
  obtain ⟨i, _, rfl⟩ := List.mem_map.mp hx
  obtain ⟨j, _, rfl⟩ := List.mem_map.mp hy
  rfl, fun x hx => by
  obtain ⟨i, _, rfl⟩ := List.mem_map.mp hx
  exact fun z => nomatch z⟩
theorem cr_minO (hc : X.calm = true) (hu : X.A.units + 64 < cLine) : CallRK X (.builtin "min") [Str.ofString "default"] (rMinO X.K) := by
  intro pins s σ H vs zs us ws Q I r rz h
  obtain ⟨a, ns, rfl, rfl, hs, q⟩ := h
  obtain ⟨its, rv, hl, _⟩ := I.list hs
  obtain rfl := Vals.ref1 r
  have hws : ws = [.none] := by
    cases rz with
    | cons h1 t => cases t; cases (show _ = Value.none from h1); rfl
  subst hws
  have hdp : PyData.depthAll (ns.map PyData.int) ≤ 0 := by
    induction ns with
    | nil => exact Nat.zero_le _
    | cons n ns _ =>
      have : ∀ l : List Int, PyData.depthAll (l.map PyData.int) = 0 := fun l => by
        induction l with
        | nil => rfl
        | cons i l ih => show max 0 (PyData.depthAll _) = 0; rw [ih]; rfl
      rw [this]; exact Nat.le_refl _
  obtain ⟨bs, hrd⟩ : ∃ bs, ReadsAll s.heap its (ns.map PyData.int) bs := ⟨_, IntsAre.reads _ rv.ints⟩
  refine PySem.W.min_list_default (xs := ns.map PyData.int) (I.ok.hd hc) hl.isList (by simpa using hrd) (alike_ints ns) (by omega) (fun e h' tk hk => ?_) fun y ys i v h' tk bs' e hi hr hk => ?_
  · have : ns = [] := by simpa using e
    subst this
    exact ⟨.non, H, I.kept hk, rfl, q⟩
  · cases ns with
    | nil => cases e
    | cons n ns =>
      rw [List.map_cons] at e
      cases e
      rw [PySem.W.minD_ints] at hr
      cases hr
      exact ⟨.int _, H, I.kept hk, ⟨_, rfl⟩, q⟩
/-- max(xs, default=k) of a list of ints -/
def maxO (z : Int) : List Int → Int
  | [] => z
  | n :: r => r.foldl max n
def rMaxO (K : PySem.W.Frag) : List V → List V → Hp → VK → Prop := fun vs zs H Q => ∃ (a : Addr) (ns : List Int) (z : Int), vs = [V.ref a] ∧ zs = [.int z] ∧ SqL K H a (ns.map V.int) ∧ Q (.int (maxO z ns)) H
theorem cr_maxO (hc : X.calm = true) (hu : X.A.units + 64 < cLine) : CallRK X (.builtin "max") [Str.ofString "default"] (rMaxO X.K) := by
  intro pins s σ H vs zs us ws Q I r rz h
  obtain ⟨a, ns, z, rfl, rfl, hs, q⟩ := h
  obtain ⟨its, rv, hl, _⟩ := I.list hs
  obtain rfl := Vals.ref1 r
  obtain ⟨tz, hws⟩ : ∃ t, ws = [.int z t] := by
    cases rz with
    | cons h1 t => cases t; obtain ⟨t, rfl⟩ := (show ∃ t, _ = Value.int z t from h1); exact ⟨t, rfl⟩
  subst hws
  have hdp : PyData.depthAll (ns.map PyData.int) ≤ 0 := by
    induction ns with
    | nil => exact Nat.zero_le _
    | cons n ns _ =>
      have : ∀ l : List Int, PyData.depthAll (l.map PyData.int) = 0 := fun l => by
        induction l with
        | nil => rfl
        | cons i l ih => show max 0 (PyData.depthAll _) = 0; rw [ih]; rfl
      rw [this]; exact Nat.le_refl _
  obtain ⟨bs, hrd⟩ : ∃ bs, ReadsAll s.heap its (ns.map PyData.int) bs := ⟨_, IntsAre.reads _ rv.ints⟩
  refine PySem.W.max_list_default (xs := ns.map PyData.int) (I.ok.hd hc) hl.isList (by simpa using hrd) (alike_ints ns) (by omega) (fun e h' tk hk => ?_) fun y ys i v h' tk bs' e hi hr hk => ?_
  · have : ns = [] := by simpa using e
    subst this
    exact ⟨.int z, H, I.kept hk, ⟨tz, rfl⟩, q⟩
  · cases ns with
    | nil => cases e
    | cons n ns =>
      rw [List.map_cons] at e
      cases e
      rw [PySem.W.maxD_ints] at hr
      cases hr
      exact ⟨.int _, H, I.kept hk, ⟨_, rfl⟩, q⟩
end
end OwL

namespace K20
open PySem PySem.Spec PyProof.Rows L2 Evl RZ Ev2 TA5
/-! ### lists that are cut and joined -/
section
variable {K : PySem.W.Frag} {σ : L2.St} {H : Hp} {ta tb te : TE} {s p : Addr} {xs : List Int}
theorem evp_catL {as bs : List V} (ha : EvP ta σ H (Ls as)) (hb : EvP tb σ H (Ls bs)) (hl : as.length + bs.length ≤ 100000) : EvP (tOp rCat ta tb) σ H (Ls (as ++ bs)) :=
  evp_op ha hb mono_ls fun x y H1 _ ⟨a, hx, h1⟩ ⟨b, hy, h2⟩ Q q => by
    subst hx
    subst hy
    exact ⟨a, b, as, bs, rfl, rfl, h1, h2, sz_of hl, fun p hp => q _ _ (Ex.new hp) ⟨p, rfl, upd_same⟩⟩
theorem evp_cutL {as : List V} {tl th : TO} {lo hi : Option Int} (h : EvP te σ H (Ls as)) (h1 : ∀ {H' : Hp}, EvO tl σ H' lo) (h2 : ∀ {H' : Hp}, EvO th σ H' hi) : EvP (tSl (rSlL K) te tl th) σ H (Ls (cutV as lo hi)) := fun H1 e Q q =>
  h H1 e _ fun v H2 e2 ⟨a, hv, ha⟩ => h1 H2 (Ex.refl _) _ fun H3 e3 => h2 H3 (Ex.refl _) _ fun H4 e4 => ⟨a, as, hv, sq_of (e4 _ _ (e3 _ _ ha)), fun p hp => q _ _ (((e2.trans e3).trans e4).trans (Ex.new hp)) ⟨p, rfl, upd_same⟩⟩
theorem evp_pick0 {as : List V} {k : Int} (h : EvP te σ H (Ls as)) (hk : k ≠ 0) (hl : (pickV as none none (some k)).length ≤ 100000) : EvP (tSlS K te tNoPart tNoPart (tPart (tC (.int k)))) σ H (Ls (pickV as none none (some k))) := fun H1 e Q q =>
  h H1 e _ fun v H2 e2 ⟨a, hv, ha⟩ => ⟨a, as, hv, sq_of ha, rfl, rfl, k, rfl, rfl, fun z => hk (Option.some.inj z), sz_of hl, fun p hp => q _ _ (e2.trans (Ex.new hp)) ⟨p, rfl, upd_same⟩⟩
theorem evp_pick1 {as : List V} {k j : Int} (h : EvP te σ H (Ls as)) (hk : k ≠ 0) (hl : (pickV as (some j) none (some k)).length ≤ 100000) : EvP (tSlS K te (tPart (tC (.int j))) tNoPart (tPart (tC (.int k)))) σ H (Ls (pickV as (some j) none (some k))) := fun H1 e Q q =>
  h H1 e _ fun v H2 e2 ⟨a, hv, ha⟩ => ⟨a, as, hv, sq_of ha, j, rfl, rfl, rfl, k, rfl, rfl, fun z => hk (Option.some.inj z), sz_of hl, fun p hp => q _ _ (e2.trans (Ex.new hp)) ⟨p, rfl, upd_same⟩⟩
end
def iota (n : Nat) : List Int := (List.range n).map fun i : Nat => (i : Int)
theorem rgV_iota {n : Nat} : rgV 0 (n : Int) = (iota n).map V.int := by
  unfold rgV iota
  rw [List.map_map, Int.sub_zero, Int.toNat_natCast]
  exact List.map_congr_left fun i _ => by show V.int (0 + (i : Int)) = V.int (i : Int); rw [Int.zero_add]
theorem iota_len {n : Nat} : (iota n).length = n := by unfold iota; rw [List.length_map, List.length_range]
theorem iota_nodup {n : Nat} : (iota n).Nodup := List.Pairwise.map _ (fun a b h z => h (Int.ofNat.inj z)) List.nodup_range
theorem iota_mem {n : Nat} {x : Int} : x ∈ iota n ↔ 0 ≤ x ∧ x < n := by
  unfold iota
  rw [List.mem_map]
  exact ⟨fun ⟨i, hi, e⟩ => by have := List.mem_range.mp hi; omega, fun ⟨h1, h2⟩ => ⟨x.toNat, List.mem_range.mpr (by omega), by omega⟩⟩
theorem fm_congr {α β : Type} {f g : α → Option β} : ∀ l : List α, (∀ i, f i = g i) → l.filterMap f = l.filterMap g
  | [], _ => rfl
  | i :: l, h => by rw [List.filterMap_cons, List.filterMap_cons, h i, fm_congr l h]
theorem pickV_map {α β : Type} (f : α → β) (l : List α) (lo hi st : Option Int) : pickV (l.map f) lo hi st = (pickV l lo hi st).map f := by
  unfold pickV
  rw [List.length_map, List.map_filterMap]
  exact fm_congr _ fun i => by rw [List.getElem?_map]
theorem range_pick {α : Type} (l : List α) : (List.range l.length).filterMap (l[·]?) = l := by
  have h : ∀ n, n ≤ l.length → (List.range n).filterMap (l[·]?) = l.take n := by
    intro n
    induction n with
    | zero => intro _; rfl
    | succ n ih =>
      intro hn
      rw [List.range_succ, List.filterMap_append, ih (by omega), List.take_add_one]
      congr 1
  rw [h _ (Nat.le_refl _), List.take_length]
def idx2 (n : Nat) : List Nat := sliceRange (sliceBounds none none (some 2) n).1 (sliceBounds none none (some 2) n).2.1 (sliceBounds none none (some 2) n).2.2 ++ sliceRange (sliceBounds (some 1) none (some 2) n).1 (sliceBounds (some 1) none (some 2) n).2.1 (sliceBounds (some 1) none (some 2) n).2.2
theorem idx2_perm : ∀ n : Nat, n ≤ 8 → (idx2 n).isPerm (List.range n) = true := by decide +kernel
theorem pick2_perm {α : Type} (l : List α) (h : l.length ≤ 8) : (pickV l none none (some 2) ++ pickV l (some 1) none (some 2)).Perm l := by
  have h1 : (idx2 l.length).Perm (List.range l.length) := List.isPerm_iff.mp (idx2_perm _ h)
  have h2 := h1.filterMap (l[·]?)
  rw [range_pick] at h2
  unfold idx2 at h2
  rw [List.filterMap_append] at h2
  exact h2
theorem rot_perm {α : Type} (l : List α) (k : Nat) : (l.drop k ++ l.take k).Perm l := List.perm_append_comm.trans (by rw [List.take_append_drop])
section
variable {P : Program} {w : World} {K : PySem.W.Frag} {mg : Str → Option Value} {base : Heap} {tk : Tok} {k : Nat} {σ : L2.St} {H : Hp} {s p : Addr} {xs : List Int}
theorem not_state {a : Addr} {is : List Int} (d : Dr s p xs H) (h : H a = some (.lst (is.map V.int))) : a ≠ s := fun z => by
  obtain ⟨k, hk⟩ := d.at_
  rw [z, hk] at h
  cases is with
  | nil => cases h
  | cons i is => cases h
/-- a draw, of a state in any place -/
theorem draw_i {i : Nat} {ta : TE} {m : Int} {E : XK} (hs : σ[i]? = some (some (.ref s))) (ha : EvP ta σ H (Is (.int m))) (hm : 1 ≤ m) (d : Dr s p xs H) {Q : VK} (q : ∀ (r : Int) H2, Gs s H H2 → Dr s p xs H2 → 0 ≤ r → r < m → Q (.int r) H2) : tCall spDraw [] E (tCons (tVar i) (tCons ta tNil)) σ H Q :=
  eap_two (P := Is (.ref s)) (evp_var hs rfl mono_is) ha mono_is H (Ex.refl _) _ fun vs H2 e2 ⟨x, y, hv, hx, hy⟩ => ⟨s, p, xs, m, by rw [hv, show x = .ref s from hx, show y = .int m from hy]; rfl, d.ex e2, hm, fun v H3 g3 d3 ⟨r, e, h0, h1⟩ => by rw [e]; exact q r H3 ((Gs.of e2).trans g3) d3 h0 h1⟩
end
end K20

namespace K20
open PySem PySem.Spec PyProof.Rows L2 Evl RZ Ev2 TA5

def Nst (f g : List Int) : Prop := (∀ x ∈ f, x ∈ g) ∨ (∀ x ∈ g, x ∈ f) ∨ (∀ x ∈ f, x ∉ g)
theorem Nst.symm {f g : List Int} (h : Nst f g) : Nst g f := by
  rcases h with h | h | h
  · exact .inr (.inl h)
  · exact .inl h
  · exact .inr (.inr fun x hx hf => h x hf hx)
def Refs (ys : List V) : Prop := ∀ y ∈ ys, ∃ a, y = .ref a
theorem paired_refs {α : Type} {R : V → α → Prop} (hr : ∀ y a, R y a → ∃ b, y = .ref b) : ∀ {ys : List V} {zs : List α}, Paired R ys zs → Refs ys
  | _, _, .nil => fun y h => nomatch h
  | _, _, .cons h t => fun y hy => by
    rcases List.mem_cons.mp hy with rfl | hy
    · exact hr _ _ h
    · exact paired_refs hr t y hy
section
variable {K : PySem.W.Frag} {σ : L2.St} {H H' : Hp} {ta tb te : TE} {s p : Addr} {xs : List Int}
theorem refs_state {a : Addr} {ys : List V} (d : Dr s p xs H) (h : H a = some (.lst ys)) (hr : Refs ys) : a ≠ s := fun z => by
  obtain ⟨k, hk⟩ := d.at_
  rw [z, hk] at h
  cases h
  obtain ⟨b, e⟩ := hr (.int (k : Int)) (by simp)
  cases e
theorem tup_state {a : Addr} {ys : List V} (d : Dr s p xs H) (h : H a = some (.tup ys)) : a ≠ s := fun z => by
  obtain ⟨k, hk⟩ := d.at_
  rw [z, hk] at h
  cases h
theorem ts_gs {us : List V} {v : V} (g : Gs s H H') (d : Dr s p xs H) (h : Ts us v H) : Ts us v H' := by
  obtain ⟨a, e, ha⟩ := h
  exact ⟨a, e, g _ _ (tup_state d ha) ha⟩
theorem evp_tupOf {us : List V} (h : EvP te σ H (Ls us)) : EvP (tCB (rTupQ K) (tCons te tNil)) σ H (Ts us) := fun H1 e Q q => h H1 e _ fun v H2 e2 ⟨a, hv, ha⟩ =>
  ⟨a, us, by rw [hv], .inl ⟨sq_of ha, fun l hl => q _ _ (e2.trans (Ex.new hl)) ⟨l, rfl, upd_same⟩⟩⟩
theorem evp_sortI {is : List Int} (h : EvP te σ H (Ls (is.map V.int))) (hl : is.length < 64) : EvP (tCB (rSorted K) (tCons te tNil)) σ H (fun v H1 => ∃ so : List Int, so.Perm is ∧ so.Pairwise (· ≤ ·) ∧ Ls (so.map V.int) v H1) := fun H1 e Q q => h H1 e _ fun v H2 e2 ⟨a, hv, ha⟩ =>
  ⟨a, is, by rw [hv], sq_of ha, hl, fun so p hp hs hn => q _ _ (e2.trans (Ex.new hn)) ⟨so, hp, hs, p, rfl, upd_same⟩⟩
end
section
variable {P : Program} {w : World} {K : PySem.W.Frag} {mg : Str → Option Value} {base : Heap} {tk : Tok} {k : Nat} {σ : L2.St} {H : Hp} {s p : Addr} {xs : List Int}
end
end K20


namespace K20
open PySem PySem.Spec PyProof.Rows L2 Evl RZ Ev2 TA5 Ow
/-! ### lists of things of one kind -/
def LsP {α : Type} (Pi : α → HP) (zs : List α) : HP := fun v H => ∃ p ys, v = .ref p ∧ H p = some (.lst ys) ∧ Paired (fun y z => Pi z y H) ys zs
def TsP {α : Type} (Pi : α → HP) (zs : List α) : HP := fun v H => ∃ p ys, v = .ref p ∧ H p = some (.tup ys) ∧ Paired (fun y z => Pi z y H) ys zs
theorem mono_lsP {α : Type} {Pi : α → HP} {zs : List α} (m : ∀ z, Mono (Pi z)) : Mono (LsP Pi zs) := fun _ _ _ e ⟨p, ys, h1, h2, h3⟩ => ⟨p, ys, h1, e _ _ h2, Paired.impl (fun _ _ h => m _ _ _ _ e h) h3⟩
theorem mf_tsP {α : Type} {Pi : α → HP} {zs : List α} (m : ∀ z, MonoF (Pi z)) : MonoF (TsP Pi zs) := fun _ _ _ e ⟨p, ys, h1, h2, h3⟩ => ⟨p, ys, h1, e _ _ h2 (fun _ z => nomatch z), Paired.impl (fun _ _ h => m _ _ _ _ e h) h3⟩
def IsRef {α : Type} (Pi : α → HP) : Prop := ∀ z y H, Pi z y H → ∃ a, y = V.ref a
theorem lsP_gs {α : Type} {Pi : α → HP} {zs : List α} {s p : Addr} {xs : List Int} {H H' : Hp} {v : V} (m : ∀ z, MonoF (Pi z)) (hr : IsRef Pi) (g : Gs s H H') (d : Dr s p xs H) (h : LsP Pi zs v H) : LsP Pi zs v H' := by
  obtain ⟨a, ys, e, ha, pr⟩ := h
  exact ⟨a, ys, e, g _ _ (refs_state d ha (paired_refs (fun y f h => hr _ _ _ h) pr)) ha, Paired.impl (fun _ _ h => m _ _ _ _ (Gs.fx g d) h) pr⟩
theorem paired_idx {α : Type} {R : V → α → Prop} {ys : List V} {zs : List α} (pr : Paired R ys zs) : ∀ {i : Nat} {y : V}, ys[i]? = some y → ∃ z, zs[i]? = some z ∧ R y z := by
  induction pr with
  | nil => intro i y h; cases i <;> cases h
  | cons h t ih =>
    intro i y e
    cases i with
    | zero => cases e; exact ⟨_, rfl, h⟩
    | succ i => exact ih e
theorem paired_mapG {α β γ : Type} {R : α → γ → Prop} {g : β → γ} : ∀ {ys : List α} {idx : List β}, Paired (fun y i => R y (g i)) ys idx → Paired R ys (idx.map g)
  | _, _, .nil => .nil
  | _, _, .cons h t => .cons h (paired_mapG t)
theorem range_filter {α : Type} (b : α → Bool) : ∀ zs : List α, ((List.range zs.length).filter fun i => (zs[i]?).any b).map (zs[·]?) = (zs.filter b).map some
  | [] => rfl
  | z :: zs => by
    have ih := range_filter b zs
    rw [List.length_cons, List.range_succ_eq_map, List.filter_cons, List.filter_map]
    have e : ((List.range zs.length).filter ((fun i => ((z :: zs)[i]?).any b) ∘ Nat.succ)) = (List.range zs.length).filter fun i => (zs[i]?).any b := rfl
    rw [e]
    show List.map _ (if b z = true then _ else _) = _
    cases hb : b z with
    | true => rw [if_pos rfl, List.filter_cons_of_pos hb, List.map_cons, List.map_cons, List.map_map, ← ih]; rfl
    | false => rw [if_neg (by decide), List.filter_cons_of_neg (by rw [hb]; decide), List.map_map, ← ih]; rfl
section
variable {K : PySem.W.Frag} {σ : L2.St} {H H' : Hp} {ta tb te tl : TE} {tt : TT} {s p : Addr} {xs : List Int} {α β : Type}
theorem wx_lsP {Pi : α → HP} {zs : List α} (m : ∀ z, Mono (Pi z)) (h : EvP tl σ H (LsP Pi zs)) : WiX (iList K tl) σ H zs.length (fun i x H1 => ∃ z, zs[i]? = some z ∧ Pi z x H1) := fun H1 e R k =>
  h H1 e _ fun v H2 e2 ⟨a, ys, hv, ha, pr⟩ => ⟨a, hv, ⟨ys, sq_of ha⟩, k _ H2 e2 fun i H3 e3 => by
    have h3 := sq_of (K := K) (e3 _ _ ha)
    have hl := Paired.len pr
    exact ⟨fun hlt => ⟨ys, _, h3, List.getElem?_eq_getElem (by omega)⟩, fun hlt => ⟨ys, h3, by omega⟩, fun hlt x H' ⟨y1, y2⟩ => by
      rw [y1]
      obtain ⟨z, hz, hp⟩ := paired_idx pr (y2 ys h3)
      exact ⟨Ex.refl _, z, hz, m z _ _ _ e3 hp⟩⟩⟩
theorem wx_tsP {Pi : α → HP} {zs : List α} (m : ∀ z, Mono (Pi z)) (h : EvP tl σ H (TsP Pi zs)) : WiX (iTup K tl) σ H zs.length (fun i x H1 => ∃ z, zs[i]? = some z ∧ Pi z x H1) := fun H1 e R k =>
  h H1 e _ fun v H2 e2 ⟨a, ys, hv, ha, pr⟩ => ⟨a, hv, ⟨ys, st_of ha⟩, k _ H2 e2 fun i H3 e3 => by
    have h3 := st_of (K := K) (e3 _ _ ha)
    have hl := Paired.len pr
    exact ⟨fun hlt => ⟨ys, _, h3, List.getElem?_eq_getElem (by omega)⟩, fun hlt => ⟨ys, h3, by omega⟩, fun hlt x H' ⟨y1, y2⟩ => by
      rw [y1]
      obtain ⟨z, hz, hp⟩ := paired_idx pr (y2 ys h3)
      exact ⟨Ex.refl _, z, hz, m z _ _ _ e3 hp⟩⟩⟩
/-- enumerate: a new pair at each turn -/
def EnP (Pi : α → HP) (zs : List α) (i : Nat) : HP := fun x H1 => ∃ z y T, zs[i]? = some z ∧ x = .ref T ∧ H1 T = some (.tup [.int (i : Int), y]) ∧ Pi z y H1
theorem wx_enL {Pi : α → HP} {zs : List α} (m : ∀ z, Mono (Pi z)) (h : EvP tl σ H (LsP Pi zs)) : WiX (iEnum K (tCons tl tNil)) σ H zs.length (EnP Pi zs) := fun H1 e R k =>
  h H1 e _ fun v H2 e2 ⟨a, ys, hv, ha, pr⟩ => ⟨a, ys, by rw [hv], sq_of ha, k _ H2 e2 fun i H3 e3 => by
    have h3 := sq_of (K := K) (e3 _ _ ha)
    have hl := Paired.len pr
    exact ⟨fun hlt => ⟨ys, _, h3, List.getElem?_eq_getElem (by omega)⟩, fun hlt => ⟨ys, h3, by omega⟩, fun hlt x H' ⟨T, y, hx, hT, hH, y2⟩ => by
      rw [hH]
      obtain ⟨z, hz, hp⟩ := paired_idx pr (y2 ys h3)
      exact ⟨Ex.new hT, z, y, T, hz, hx, upd_same, m z _ _ _ (e3.trans (Ex.new hT)) hp⟩⟩⟩
theorem wx_enT {Pi : α → HP} {zs : List α} (m : ∀ z, Mono (Pi z)) (h : EvP tl σ H (TsP Pi zs)) : WiX (iEnumT K (tCons tl tNil)) σ H zs.length (EnP Pi zs) := fun H1 e R k =>
  h H1 e _ fun v H2 e2 ⟨a, ys, hv, ha, pr⟩ => ⟨a, ys, by rw [hv], st_of ha, k _ H2 e2 fun i H3 e3 => by
    have h3 := st_of (K := K) (e3 _ _ ha)
    have hl := Paired.len pr
    exact ⟨fun hlt => ⟨ys, _, h3, List.getElem?_eq_getElem (by omega)⟩, fun hlt => ⟨ys, h3, by omega⟩, fun hlt x H' ⟨T, y, hx, hT, hH, y2⟩ => by
      rw [hH]
      obtain ⟨z, hz, hp⟩ := paired_idx pr (y2 ys h3)
      exact ⟨Ex.new hT, z, y, T, hz, hx, upd_same, m z _ _ _ (e3.trans (Ex.new hT)) hp⟩⟩⟩
/-- a list that is walked -/
theorem evp_lcW {wi : TI} {g : TG} {vs : List Nat} {zs : List α} {item : Nat → V → Hp → Prop} {b : α → Bool} {f : α → β} {Ri : β → HP} {Sg : α → L2.St → Hp → Prop} (hw : WiX wi σ H zs.length item) (hl : zs.length ≤ 40000)
    (hg : ∀ i z x H1, zs[i]? = some z → Evl.Ex H H1 → item i x H1 → GP g x (wipe σ vs) H1 (fun σ2 H2 => wipe σ2 vs = wipe σ vs ∧ Sg z σ2 H2)) (ht : ∀ z σ2 H1, z ∈ zs → Evl.Ex H H1 → Sg z σ2 H1 → EvT tt σ2 H1 (b z))
    (he : ∀ z σ2 H1, z ∈ zs → Evl.Ex H H1 → Sg z σ2 H1 → EvP te σ2 H1 (Ri (f z))) (m : ∀ y, MonoF (Ri y)) :
    EvP (tLc wi g tt te vs) σ H (LsP Ri ((zs.filter b).map f)) :=
  (evp_lcF (n := zs.length) (item := item) (Sg := fun i σ2 H1 => ∃ z, zs[i]? = some z ∧ Sg z σ2 H1) (f := fun i => (zs[i]?).any b) (Pi := fun i => match zs[i]? with | some z => Ri (f z) | none => fun _ _ => False) hw hl
    (fun i x H1 hi e hx => by
      obtain ⟨z, hz⟩ : ∃ z, zs[i]? = some z := ⟨_, List.getElem?_eq_getElem hi⟩
      intro Q q
      exact hg i z x H1 hz e hx Q fun σ2 hs => q σ2 ⟨hs.1, z, hz, hs.2⟩)
    (fun i σ2 H1 hi e ⟨z, hz, hs⟩ => by
      have : (zs[i]?).any b = b z := by rw [hz]; rfl
      rw [this]
      exact ht z σ2 H1 (List.mem_of_getElem? hz) e hs)
    (fun i σ2 H1 hi e ⟨z, hz, hs⟩ => by
      rw [hz]
      exact he z σ2 H1 (List.mem_of_getElem? hz) e hs)
    (fun i => by
      cases hz : zs[i]? with
      | none => exact fun _ _ _ _ h => h
      | some z => exact m _)).imp fun v H1 _ ⟨q, ys, hv, hq, pr⟩ => ⟨q, ys, hv, hq, by
    have h1 : Paired (fun y (o : Option α) => match o with | some z => Ri (f z) y H1 | none => False) ys (((List.range zs.length).filter fun i => (zs[i]?).any b).map (zs[·]?)) := paired_mapG (Paired.impl (fun y i h => by
      cases hz : zs[i]? with
      | none => rw [hz] at h; exact h
      | some z => rw [hz] at h; exact h) pr)
    rw [range_filter] at h1
    have h2 : ∀ {ys : List V} {zs : List α}, Paired (fun y (o : Option α) => match o with | some z => Ri (f z) y H1 | none => False) ys (zs.map some) → Paired (fun y z => Ri z y H1) ys (zs.map f) := fun {ys zs} => by
      induction zs generalizing ys with
      | nil => intro h; cases h; exact .nil
      | cons z zs ih => intro h; cases h with | cons h t => exact .cons h (ih t)
    exact h2 h1⟩
end
end K20


namespace K20
open PySem PySem.Spec PyProof.Rows L2 Evl RZ Ev2 TA5 Ow

/-! ### wheres -/
inductive Wh
  | all
  | left (vs : List Int)
  | right (vs : List Int)
  | cell (a b : Int)
def wD : Wh → List PyData
  | .all => [.str "all"]
  | .left vs => [.str "left", .tuple (vs.map .int)]
  | .right vs => [.str "right", .tuple (vs.map .int)]
  | .cell a b => [.str "cell", .int a, .int b]
structure VsOk (n : Int) (vs : List Int) : Prop where
  asc : vs.Pairwise (· < ·)
  ne : vs ≠ []
  lt : ∀ x ∈ vs, 0 ≤ x ∧ x < n
  len : vs.length ≤ 8
def WhOk (l r : Int) : Wh → Prop
  | .all => True
  | .left vs => VsOk l vs
  | .right vs => VsOk r vs
  | .cell a b => (0 ≤ a ∧ a < l) ∧ 0 ≤ b ∧ b < r
theorem isB_is {n i : Int} (h : 0 ≤ i ∧ i < n) : isB n (.int i) = true := by
  show (decide (0 ≤ i) && decide (i < n)) = true
  simp [h.1, h.2]
theorem vsOk_is {n : Int} {vs : List Int} (h : VsOk n vs) : isVs n (.tuple (vs.map .int)) = true := by
  have h1 : (vs.map PyData.int).all (isB n) = true := by
    rw [List.all_eq_true]
    intro d hd
    obtain ⟨i, hi, rfl⟩ := List.mem_map.mp hd
    exact isB_is (h.lt i hi)
  have h2 : (vs.map PyData.int).map dI = vs := by rw [List.map_map]; exact List.map_id _
  have h3 : (vs.map PyData.int).isEmpty = false := by
    have := h.ne
    cases vs with
    | nil => exact absurd rfl this
    | cons => rfl
  show (!(vs.map PyData.int).isEmpty && ((vs.map PyData.int).all (isB n) && ascI ((vs.map PyData.int).map dI))) = true
  rw [h1, h2, h3, asc_pw.mpr h.asc]; rfl
theorem wh_form {l r : Int} {w : Wh} (h : WhOk l r w) : form l r (wD w) = true := by
  cases w with
  | all => rfl
  | left vs => show (decide ((1 : Nat) + 1 = 2) && isVs l (.tuple (vs.map .int))) = true; rw [vsOk_is h]; rfl
  | right vs => show (decide ((1 : Nat) + 1 = 2) && isVs r (.tuple (vs.map .int))) = true; rw [vsOk_is h]; rfl
  | cell a b => show (decide (("cell" : Str) = "cell") && (decide ((2 : Nat) + 1 = 3) && (isB l (.int a) && isB r (.int b)))) = true; rw [isB_is h.1, isB_is h.2]; simp
theorem wh_okV {l r : Int} {w : Wh} (h : WhOk l r w) : OkV (wD w) := by
  have hs : ∀ w : Str, w = "all" ∨ w = "left" ∨ w = "right" ∨ w = "cell" → okD (.str w) = true := fun w h => by rcases h with rfl | rfl | rfl | rfl <;> decide +kernel
  have two : ∀ (w : Str) (vs : List Int), okD (.str w) = true → vs.length ≤ 8 → OkV [.str w, .tuple (vs.map .int)] := fun w vs h1 h2 => ⟨by show 2 ≤ 50; decide, fun d hd => by
    rcases List.mem_cons.mp hd with rfl | hd
    · exact h1
    · rw [List.mem_singleton.mp hd]; exact okD_ints (by omega)⟩
  cases w with
  | all => exact ⟨by decide, fun d hd => by rw [List.mem_singleton.mp hd]; exact hs _ (.inl rfl)⟩
  | left vs => exact two _ vs (hs _ (.inr (.inl rfl))) (show VsOk l vs from h).len
  | right vs => exact two _ vs (hs _ (.inr (.inr (.inl rfl)))) (show VsOk r vs from h).len
  | cell a b => exact ⟨by show 3 ≤ 50; decide, fun d hd => by
      rcases List.mem_cons.mp hd with rfl | hd
      · exact hs _ (.inr (.inr (.inr rfl)))
      rcases List.mem_cons.mp hd with rfl | hd
      · rfl
      · rw [List.mem_singleton.mp hd]; rfl⟩
/-- a where, as it lies -/
def Wv : Wh → HP
  | .all => Ts [.str "all"]
  | .left vs => fun v H => ∃ t, Ts [.str "left", .ref t] v H ∧ H t = some (.tup (vs.map V.int))
  | .right vs => fun v H => ∃ t, Ts [.str "right", .ref t] v H ∧ H t = some (.tup (vs.map V.int))
  | .cell a b => Ts [.str "cell", .int a, .int b]
theorem mf_ts {xs : List V} : MonoF (Ts xs) := fun _ _ _ e ⟨p, h1, h2⟩ => ⟨p, h1, e _ _ h2 (fun _ z => nomatch z)⟩
theorem mf_wv : ∀ w : Wh, MonoF (Wv w)
  | .all => mf_ts
  | .left vs => fun _ _ _ e ⟨t, h1, h2⟩ => ⟨t, mf_ts _ _ _ e h1, e _ _ h2 (fun _ z => nomatch z)⟩
  | .right vs => fun _ _ _ e ⟨t, h1, h2⟩ => ⟨t, mf_ts _ _ _ e h1, e _ _ h2 (fun _ z => nomatch z)⟩
  | .cell a b => mf_ts
theorem ref_wv : IsRef Wv := fun w y H h => by
  cases w with
  | all => obtain ⟨a, e, _⟩ := h; exact ⟨a, e⟩
  | left vs => obtain ⟨t, ⟨a, e, _⟩, _⟩ := h; exact ⟨a, e⟩
  | right vs => obtain ⟨t, ⟨a, e, _⟩, _⟩ := h; exact ⟨a, e⟩
  | cell a b => obtain ⟨a, e, _⟩ := h; exact ⟨a, e⟩
theorem wv_va {w : Wh} {v : V} {H : Hp} (h : Wv w v H) : Va (wD w) v H := by
  cases w with
  | all => obtain ⟨a, e, ha⟩ := h; exact ⟨a, _, e, ha, .cons (.flat rfl) .nil⟩
  | left vs => obtain ⟨t, ⟨a, e, ha⟩, ht⟩ := h; exact ⟨a, _, e, ha, .cons (.flat rfl) (.cons (.tup ht (fl_ints vs)) .nil)⟩
  | right vs => obtain ⟨t, ⟨a, e, ha⟩, ht⟩ := h; exact ⟨a, _, e, ha, .cons (.flat rfl) (.cons (.tup ht (fl_ints vs)) .nil)⟩
  | cell a b => obtain ⟨a, e, ha⟩ := h; exact ⟨a, _, e, ha, .cons (.flat rfl) (.cons (.flat rfl) (.cons (.flat rfl) .nil))⟩
/-- nested or apart -/
def Nsw : Wh → Wh → Prop
  | .left f, .left g => Nst f g
  | .right f, .right g => Nst f g
  | _, _ => True
def Whs (l r : Int) (ws : List Wh) : Prop := (∀ w ∈ ws, WhOk l r w) ∧ ∀ u ∈ ws, ∀ w ∈ ws, Nsw u w
theorem asc_len : ∀ (f : List Int) (lo hi : Int), f.Pairwise (· < ·) → (∀ x ∈ f, lo ≤ x ∧ x < hi) → (f.length : Int) ≤ max 0 (hi - lo)
  | [], _, _, _, _ => by simp; omega
  | x :: f, lo, hi, hp, hs => by
    have h1 := hs x (List.mem_cons_self ..)
    have := asc_len f (x + 1) hi (List.pairwise_cons.mp hp).2 fun y hy => ⟨by have := (List.pairwise_cons.mp hp).1 y hy; omega, (hs y (List.mem_cons_of_mem _ hy)).2⟩
    rw [List.length_cons]
    omega
theorem whs_cell {l r : Int} {ws : List Wh} {a b : Int} (h : Whs l r ws) (ha : 0 ≤ a ∧ a < l) (hb : 0 ≤ b ∧ b < r) : Whs l r (ws ++ [.cell a b]) := by
  refine ⟨fun w hw => ?_, fun u hu w hw => ?_⟩
  · rcases List.mem_append.mp hw with h1 | h1
    · exact h.1 w h1
    · rw [List.mem_singleton.mp h1]; exact ⟨ha, hb⟩
  · rcases List.mem_append.mp hu with h1 | h1
    · rcases List.mem_append.mp hw with h2 | h2
      · exact h.2 u h1 w h2
      · rw [List.mem_singleton.mp h2]; cases u <;> trivial
    · rw [List.mem_singleton.mp h1]; trivial
end K20


namespace K20
open PySem PySem.Spec PyProof.Rows L2 Evl RZ Ev2 TA5 Ow

structure FR where
  w : Wh
  lo : Int
  hi : Option Int
def OI : Option Int → V
  | none => .non
  | some i => .int i
def Fv (f : FR) : HP := fun v H => ∃ x, Ts [x, .int f.lo, OI f.hi] v H ∧ Wv f.w x H
theorem mf_fv (f : FR) : MonoF (Fv f) := fun _ _ _ e ⟨x, h1, h2⟩ => ⟨x, mf_ts _ _ _ e h1, mf_wv _ _ _ _ e h2⟩
theorem ref_fv : IsRef Fv := fun f y H ⟨_, ⟨a, e, _⟩, _⟩ => ⟨a, e⟩
structure FsOk (l r : Int) (fs : List FR) : Prop where
  ws : Whs l r (fs.map (·.w))
  lim : ∀ f ∈ fs, (0 ≤ f.lo ∧ True) ∧ ∀ h, f.hi = some h → f.lo ≤ h ∧ h ≤ 200
theorem Whs.sub {l r : Int} {us ws : List Wh} (h : Whs l r ws) (k : ∀ u ∈ us, u ∈ ws) : Whs l r us := ⟨fun u hu => h.1 u (k u hu), fun u hu w hw => h.2 u (k u hu) w (k w hw)⟩
section
variable {P : Program} {w : World} {K : PySem.W.Frag} {mg : Str → Option Value} {base : Heap} {tk : Tok} {k : Nat} {σ : L2.St} {H : Hp} {s p : Addr} {xs : List Int}
theorem et_yes : EvT tYes σ H true := fun H1 e Q q => q H1 (Ex.refl _)
theorem lc_at {tl te : TE} {g : TG} {tt : TT} {vs : List Nat} {Q : VK} (h : tl σ H fun v H1 => tLc (iList K (tC v)) g tt te vs σ H1 Q) : tLc (iList K tl) g tt te vs σ H Q := h
/-- the tuples of a family, with a word -/
theorem evp_catW {α : Type} {Pi : α → HP} {ta tb : TE} {us ws : List α} (m : ∀ z, Mono (Pi z)) (ha : EvP ta σ H (LsP Pi us)) (hb : EvP tb σ H (LsP Pi ws)) (hl : us.length + ws.length ≤ 100000) : EvP (tOp rCat ta tb) σ H (LsP Pi (us ++ ws)) :=
  evp_op ha hb (mono_lsP m) fun x y H1 _ ⟨a, as, hx, h1, p1⟩ ⟨b, bs, hy, h2, p2⟩ Q q => by
    subst hx
    subst hy
    exact ⟨a, b, as, bs, rfl, rfl, h1, h2, sz_of (by rw [Paired.len p1, Paired.len p2]; exact hl), fun p hp => q _ _ (Ex.new hp) ⟨p, _, rfl, upd_same, Paired.app (Paired.impl (fun _ _ h => m _ _ _ _ (Ex.new hp) h) p1) (Paired.impl (fun _ _ h => m _ _ _ _ (Ex.new hp) h) p2)⟩⟩
end
end K20


namespace K20
open PySem PySem.Spec PyProof.Rows L2 Evl RZ Ev2 TA5 Ow

section
variable {P : Program} {w : World} {K : PySem.W.Frag} {mg : Str → Option Value} {base : Heap} {tk : Tok} {k : Nat} {σ : L2.St} {H : Hp} {s p : Addr} {xs : List Int} {tz : TS} {D : Ends} {ta tb te : TE}
theorem q_parD {i j : Nat} (h : ta σ H fun x H1 => tb σ H1 fun y H2 => ∃ v w, [x, y] = [v, w] ∧ tz D ((σ.set i (some v)).set j (some w)) H2) : tSeq (tPar i j (tCons ta (tCons tb tNil))) tz D σ H := h
theorem Fx.old {H H' : Hp} {l : Addr} {ys zs : List V} (h : H l = some (.lst ys)) : Fx H (upd H l (.lst zs)) := Fx.lst h
/-- a list that is not the one that changes -/
theorem lsP_fx {α : Type} {Pi : α → HP} {zs : List α} {v : V} {l : Addr} {ys us : List V} (m : ∀ z, MonoF (Pi z)) (hl : H l = some (.lst ys)) (hv : v ≠ .ref l) (h : LsP Pi zs v H) : LsP Pi zs v (upd H l (.lst us)) := by
  obtain ⟨a, as, e, ha, pr⟩ := h
  exact ⟨a, as, e, by rw [upd_ne (fun z => hv (by rw [e, z]))]; exact ha, Paired.impl (fun _ _ h => m _ _ _ _ (Fx.lst hl) h) pr⟩
/-- a new list that changes -/
theorem gs_upd {H' : Hp} {l : Addr} {us : List V} (h0 : H l = none) (g : Gs s H H') : Gs s H (upd H' l (.lst us)) := fun a o hna hh => by
  rw [upd_ne (fun z => by rw [z, h0] at hh; cases hh)]
  exact g _ _ hna hh
theorem dr_upd {l : Addr} {ys us : List V} (d : Dr s p xs H) (hl : H l = some (.lst ys)) (hr : Refs ys) (hpl : p ≠ l) : Dr s p xs (upd H l (.lst us)) := ⟨d.ne, by
    obtain ⟨k, hk⟩ := d.at_
    exact ⟨k, by rw [upd_ne (refs_state d hl hr).symm]; exact hk⟩, by rw [upd_ne hpl]; exact d.pool⟩
theorem gs_none {H' : Hp} {l : Addr} (d : Dr s p xs H') (g : Gs s H H') (h : H' l = none) : H l = none := by
  cases hh : H l with
  | none => rfl
  | some o =>
    have hne : l ≠ s := fun z => by obtain ⟨k, hk⟩ := d.at_; rw [z, hk] at h; cases h
    rw [g _ _ hne hh] at h
    cases h
end
end K20

namespace K20
open PySem PySem.Spec PyProof.Rows L2 Evl RZ Ev2 TA5 Ow
abbrev s_is_count : Stmt := topS 10
abbrev N_is_count : List Str := ["value"]
theorem sc_is_count : FnScope N_is_count ["value"] (defScope s_is_count) := ⟨rfl, rfl, rfl, by decide +kernel, rfl, by decide +kernel, by decide +kernel⟩
abbrev s_is_fact : Stmt := topS 35
abbrev N_is_fact : List Str := ["left", "right", "value", "where", "low", "high"]
theorem sc_is_fact : FnScope N_is_fact ["left", "right", "value"] (defScope s_is_fact) := ⟨rfl, rfl, rfl, by decide +kernel, rfl, by decide +kernel, by decide +kernel⟩
abbrev s_crosses : Stmt := topS 36
abbrev N_crosses : List Str := ["one", "other", "common", "value"]
theorem sc_crosses : FnScope N_crosses ["one", "other"] (defScope s_crosses) := ⟨rfl, rfl, rfl, by decide +kernel, rfl, by decide +kernel, by decide +kernel⟩

abbrev rNon : R2 := fun x y H Q => y = .non ∧ Q (.bl (decide (x = .non))) H
abbrev rNoN : R2 := fun x y H Q => y = .non ∧ Q (.bl (!decide (x = .non))) H
def wWord : Wh → Str
  | .all => "all"
  | .left _ => "left"
  | .right _ => "right"
  | .cell _ _ => "cell"
theorem ints_flat : ∀ is : List Int, (is.map V.int).all flatV = true
  | [] => rfl
  | _ :: is => ints_flat is
theorem inV_int {a : Int} : ∀ is : List Int, inV (.int a) (is.map V.int) = is.contains a
  | [] => rfl
  | i :: is => by
    have ih := inV_int (a := a) is
    unfold inV at ih ⊢
    rw [List.map_cons, List.any_cons, ih, List.contains_cons]
    congr 1
    show (i == a) = (a == i)
    exact Bool.eq_iff_iff.mpr ⟨fun h => by simp at h ⊢; exact h.symm, fun h => by simp at h ⊢; exact h.symm⟩
theorem range_cnt (c : Int → Bool) (zs : List Int) : ((List.range zs.length).filter fun i => c (zs.getD i 0)).length = (zs.filter c).length := by
  have h := congrArg List.length (range_filter c zs)
  rw [List.length_map, List.length_map] at h
  rw [← h]
  congr 1
  refine List.filter_congr fun i hi => ?_
  have hi' := List.mem_range.mp hi
  rw [List.getD_eq_getElem?_getD, List.getElem?_eq_getElem hi']
  rfl
def bW (a b : Str) : Bool := (!decide (V.str a = V.str b)) || !(inV (.str a) [.str "left", .str "right"])
theorem nst_cross {f g : List Int} (h : Nst f g) (pf : f.Pairwise (· < ·)) (pg : g.Pairwise (· < ·)) (hf : f.length ≤ 8) (hg : g.length ≤ 8) : (decide ((0 : Int) < ((f.filter fun x => g.contains x).length : Int)) && decide (((f.filter fun x => g.contains x).length : Int) < (if (g.length : Int) < (f.length : Int) then (g.length : Int) else (f.length : Int)))) = false := by
  rcases h with h | h | h
  · have e : (f.filter fun x => g.contains x) = f := List.filter_eq_self.mpr fun x hx => by simpa using h x hx
    rw [e]
    refine Bool.and_eq_false_iff.mpr (.inr (decide_eq_false ?_))
    split <;> omega
  · have e : (f.filter fun x => g.contains x) = g := asc_one (pf.filter _) pg fun k => by
      rw [List.mem_filter]
      exact ⟨fun ⟨_, h2⟩ => by simpa using h2, fun hk => ⟨h k hk, by simpa using hk⟩⟩
    rw [e]
    refine Bool.and_eq_false_iff.mpr (.inr (decide_eq_false ?_))
    split <;> omega
  · have e : (f.filter fun x => g.contains x) = [] := List.filter_eq_nil_iff.mpr fun x hx => by simpa using h x hx
    rw [e]
    rfl
section
variable {K : PySem.W.Frag} {σ : L2.St} {H : Hp} {ta tb te tl : TE}
theorem evp_non {x : V} (h : EvP te σ H (Is x)) : EvP (tOp rNon te (tC .non)) σ H (Is (.bl (decide (x = .non)))) := fun H1 e Q q => h H1 e _ fun v H2 e2 hv => ⟨rfl, by rw [show v = x from hv]; exact q _ H2 e2 rfl⟩
theorem evp_noN {x : V} (h : EvP te σ H (Is x)) : EvP (tOp rNoN te (tC .non)) σ H (Is (.bl (!decide (x = .non)))) := fun H1 e Q q => h H1 e _ fun v H2 e2 hv => ⟨rfl, by rw [show v = x from hv]; exact q _ H2 e2 rfl⟩
theorem wv_first {w : Wh} {x : V} (h : Wv w x H) : ∃ a ys, x = .ref a ∧ H a = some (.tup (.str (wWord w) :: ys)) := by
  cases w with
  | all => obtain ⟨a, e, ha⟩ := h; exact ⟨a, _, e, ha⟩
  | left vs => obtain ⟨t, ⟨a, e, ha⟩, _⟩ := h; exact ⟨a, _, e, ha⟩
  | right vs => obtain ⟨t, ⟨a, e, ha⟩, _⟩ := h; exact ⟨a, _, e, ha⟩
  | cell b c => obtain ⟨a, e, ha⟩ := h; exact ⟨a, _, e, ha⟩
theorem evp_w0 {w : Wh} (h : EvP te σ H (Wv w)) : EvP (tOp (rIxT K) te (tC (.int 0))) σ H (Is (.str (wWord w))) := fun H1 e Q q => h H1 e _ fun v H2 e2 hv => by
  obtain ⟨a, ys, ev, ha⟩ := wv_first hv
  exact ⟨a, _, 0, _, ev, rfl, st_of ha, show atI _ ((0 : Nat) : Int) = _ from atI_nat rfl, q _ H2 e2 rfl⟩
/-- the values of a where -/
theorem evp_w1 {is : List Int} (h : EvP te σ H (fun v H => ∃ (w : Str) (t : Addr), Ts [.str w, .ref t] v H ∧ H t = some (.tup (is.map V.int)))) : EvP (tOp (rIxT K) te (tC (.int 1))) σ H (Ts (is.map V.int)) := fun H1 e Q q => h H1 e _ fun v H2 e2 ⟨w, t, ⟨a, ev, ha⟩, ht⟩ =>
  ⟨a, _, 1, _, ev, rfl, st_of ha, show atI _ ((1 : Nat) : Int) = _ from atI_nat rfl, q _ H2 e2 ⟨t, rfl, ht⟩⟩
theorem wv_vs {is : List Int} {v : V} (h : Wv (.left is) v H ∨ Wv (.right is) v H) : ∃ (w : Str) (t : Addr), Ts [.str w, .ref t] v H ∧ H t = some (.tup (is.map V.int)) := by
  rcases h with ⟨t, h1, h2⟩ | ⟨t, h1, h2⟩
  · exact ⟨_, t, h1, h2⟩
  · exact ⟨_, t, h1, h2⟩
theorem evp_lenTs {xs : List V} (h : EvP te σ H (Ts xs)) : EvP (tCB (rLenQ K) (tCons te tNil)) σ H (Is (.int (xs.length : Int))) := fun H1 e Q q => h H1 e _ fun v H2 e2 ⟨a, ev, ha⟩ => ⟨a, _, by rw [ev], .inr (st_of ha), q _ H2 e2 rfl⟩
theorem evp_inI {a : Int} {is : List Int} (ha : EvP ta σ H (Is (.int a))) (hb : EvP tb σ H (Ts (is.map V.int))) : EvP (tOp (rIn K false) ta tb) σ H (Is (.bl (is.contains a))) :=
  evp_op ha hb mono_is fun x y H1 _ px ⟨t, e, ht⟩ Q q => by
    rw [show x = .int a from px, e]
    refine ⟨t, _, rfl, .inr (st_of ht), rfl, ints_flat is, ?_⟩
    show Q (V.bl (if false = true then _ else inV (.int a) (is.map V.int))) H1
    rw [if_neg (by decide), inV_int]
    exact q _ H1 (Ex.refl _) rfl
theorem wx_ts {xs : List V} (h : EvP tl σ H (Ts xs)) : WiX (iTup K tl) σ H xs.length (fun i x _ => xs[i]? = some x) := fun H1 e R k =>
  h H1 e _ fun v H2 e2 ⟨a, hv, ha⟩ => ⟨a, hv, ⟨xs, st_of ha⟩, k _ H2 e2 fun i H3 e3 => by
    have h3 := st_of (K := K) (e3 _ _ ha)
    exact ⟨fun hlt => ⟨xs, _, h3, List.getElem?_eq_getElem hlt⟩, fun hlt => ⟨xs, h3, hlt⟩, fun hlt x H' ⟨y1, y2⟩ => by
      rw [y1]
      exact ⟨Ex.refl _, y2 xs h3⟩⟩⟩
theorem evp_lenL {N : Nat} (h : EvP te σ H (fun v H1 => ∃ p ys, v = .ref p ∧ H1 p = some (.lst ys) ∧ ys.length = N)) : EvP (tCB (rLenQ K) (tCons te tNil)) σ H (Is (.int (N : Int))) := fun H1 e Q q =>
  h H1 e _ fun v H2 e2 ⟨p, ys, h1, h2, h3⟩ => ⟨p, ys, by rw [h1], .inl (sq_of h2), by rw [h3]; exact q _ H2 e2 rfl⟩
theorem evp_lenLs {α : Type} {Pi : α → HP} {zs : List α} (h : EvP te σ H (LsP Pi zs)) : EvP (tCB (rLenQ K) (tCons te tNil)) σ H (Is (.int (zs.length : Int))) := fun H1 e Q q => h H1 e _ fun v H2 e2 ⟨a, ys, ev, ha, pr⟩ => ⟨a, _, by rw [ev], .inl (sq_of ha), by rw [Paired.len pr]; exact q _ H2 e2 rfl⟩
end
section
variable {P : Program} {w : World} {K : PySem.W.Frag} {mg : Str → Option Value} {base : Heap} {tk : Tok} {k : Nat}
theorem fn_or {CX : CXT} {f : Addr} {fd : FuncData} {ps : List Str} {sp sp' : Sp} (F : FnOk P w K mg base CX k f fd ps sp) (F' : FnOk P w K mg base CX k f fd ps sp') : FnOk P w K mg base CX k f fd ps (fun vs H Q E => sp vs H Q E ∨ sp' vs H Q E) :=
  ⟨fun vs H Q E h => h.elim (F.len vs H Q E) (F'.len vs H Q E), fun A outer s H args us vs Q E hr e hb r h => h.elim (F.run A outer s H args us vs Q E hr e hb r) (F'.run A outer s H args us vs Q E hr e hb r)⟩
theorem fn_imp {CX : CXT} {f : Addr} {fd : FuncData} {ps : List Str} {sp sp' : Sp} (F : FnOk P w K mg base CX k f fd ps sp) (i : ∀ vs H Q E, sp' vs H Q E → sp vs H Q E) : FnOk P w K mg base CX k f fd ps sp' :=
  ⟨fun vs H Q E h => F.len vs H Q E (i _ _ _ _ h), fun A outer s H args us vs Q E hr e hb r h => F.run A outer s H args us vs Q E hr e hb r (i _ _ _ _ h)⟩
/-! ### things: flat, lists of flat things, tuples of such -/
inductive Tg (H : Hp) : V → PyData → Prop
  | flat {v : V} {d : PyData} (h : fl v d) : Tg H v d
  | lst {a : Addr} {xs : List V} {ds : List PyData} (h : H a = some (.lst xs)) (p : Paired fl xs ds) : Tg H (.ref a) (.list ds)
  | va {v : V} {ds : List PyData} (h : Va ds v H) : Tg H v (.tuple ds)
theorem Tg.mono {H H' : Hp} (e : Kx H H') {v : V} {d : PyData} (h : Tg H v d) : Tg H' v d := by
  cases h with
  | flat h => exact .flat h
  | lst h p => exact .lst (e _ _ h (.inr ⟨_, rfl, fls_flat p⟩)) p
  | va h => exact .va (h.kx e)
theorem mono_tg {d : PyData} : Mono (fun v H => Tg H v d) := fun _ _ _ e h => h.mono (Kx.of e)
theorem tgs_mono {H H' : Hp} (e : Kx H H') : ∀ {xs : List V} {ds : List PyData}, Paired (Tg H) xs ds → Paired (Tg H') xs ds
  | _, _, .nil => .nil
  | _, _, .cons h t => .cons (h.mono e) (tgs_mono e t)
theorem Tg.split {H : Hp} {v : V} {d : PyData} (h : Tg H v d) : (isTup d = false ∧ It H v d) ∨ ∃ ds, d = .tuple ds ∧ Va ds v H := by
  cases h with
  | flat h => exact .inl ⟨by cases v <;> first | exact h.elim | (cases h; rfl), .flat h⟩
  | lst h p => exact .inl ⟨rfl, .lst h p⟩
  | va h => exact .inr ⟨_, rfl, h⟩
theorem Tg.dp {K : PySem.W.Frag} {H : Hp} {v : V} {d : PyData} (h : Tg H v d) : Dp K H v d := by
  rcases h.split with ⟨_, hh⟩ | ⟨ds, rfl, hh⟩
  · exact it_dp hh
  · exact va_dp hh
theorem tgs_dp {K : PySem.W.Frag} {H : Hp} : ∀ {xs : List V} {ds : List PyData}, Paired (Tg H) xs ds → DpAll K H xs ds
  | _, _, .nil => .nil
  | _, _, .cons h t => .cons h.dp (tgs_dp t)
theorem tg_int {H : Hp} {x : V} {d : PyData} (h : Tg H x d) (hi : isI d = true) : ∃ i, x = .int i ∧ d = .int i := by
  rcases h.split with ⟨_, h⟩ | ⟨ds, rfl, h⟩
  · exact it_int h hi
  · cases hi
theorem tg_non {H : Hp} {x : V} {d : PyData} (h : Tg H x d) : x = .non ↔ d = .none := by
  constructor
  · intro e
    subst e
    cases h with
    | flat h => exact h
    | va h => obtain ⟨a, xs, e, _⟩ := h; cases e
  · intro e
    subst e
    cases h with
    | flat h => cases x <;> first | rfl | (cases h; done) | exact h.elim
def isC : PyData → Bool
  | .int i => decide (0 ≤ i)
  | _ => false
def formD (l r : Int) : PyData → Bool
  | .tuple ds => form l r ds
  | _ => false
def hiD (lo : PyData) : PyData → Bool
  | .none => true
  | .int h => decide (h ≥ dI lo)
  | _ => false
def factD (l r : Int) : PyData → Bool
  | .tuple [w, lo, hi] => formD l r w && isC lo && hiD lo hi
  | _ => false
theorem factD_len {l r : Int} {ds : List PyData} (h : ds.length ≠ 3) : factD l r (.tuple ds) = false := by
  match ds, h with
  | [], _ => rfl
  | [_], _ => rfl
  | [_, _], _ => rfl
  | [_, _, _], h => exact absurd rfl h
  | _ :: _ :: _ :: _ :: _, _ => rfl
/-! ### one deeper -/
inductive Eld (H : Hp) : V → PyData → Prop
  | flat {v : V} {d : PyData} (h : fl v d) : Eld H v d
  | tup {a : Addr} {xs : List V} {ds : List PyData} (h : H a = some (.tup xs)) (p : Paired (Tg H) xs ds) : Eld H (.ref a) (.tuple ds)
theorem Eld.mono {H H' : Hp} (e : Kx H H') {v : V} {d : PyData} (h : Eld H v d) : Eld H' v d := by
  cases h with
  | flat h => exact .flat h
  | tup h p => exact .tup (e _ _ h (.inl ⟨_, rfl⟩)) (tgs_mono e p)
theorem Eld.dp {K : PySem.W.Frag} {H : Hp} {v : V} {d : PyData} (h : Eld H v d) : Dp K H v d := by
  cases h with
  | flat h => exact it_dp (.flat h)
  | tup h p => exact .tup (st_of h) (tgs_dp p)
structure OkE (d : PyData) : Prop where
  sm : ∀ ds rest, d = .tuple (.tuple ds :: rest) → SmallV ds
  lay : d.canLay0 = true
  dp : d.depth ≤ 13
def spWholeV : Sp := fun vs H Q _ => ∃ (x : V) (ds : List PyData), vs = [x] ∧ Va ds x H ∧ ∀ v H2, Evl.Ex H H2 → v = .bl false → Q v H2
theorem va_tyx {K : PySem.W.Frag} {H : Hp} {x : V} {ds : List PyData} (h : Va ds x H) : TyX K H x (.type "tuple") := by
  obtain ⟨p, ys, rfl, h2, _⟩ := h
  exact .base (.tup h2)
theorem ok_wholeV {f : Addr} {fd : FuncData} (T : Txt mg tk) (D : Df K mg "is_whole" s_is_whole ["value"] f fd) : FnOk P w K mg base CX0 (k + 1) f fd ["value"] spWholeV := by
  refine D.F.ok sc_is_whole (fun vs H Q E h => ?_) (fun cdv A outer s H vs Q E hr h => ?_)
  · obtain ⟨x, d, rfl, _⟩ := h
    rfl
  · obtain ⟨x, ds, rfl, hx, q⟩ := h
    refine ⟨_, (pss_one (ps_ret (pe_and (pe_callB (r := rIsi K) call_isi (by rfl) T.n_isinstance PyProof.Rows.boot_isinstance (pa_cons (pv 0) (pa_cons (pe_bltn (v := .ty "int") (by rfl) T.n_int PyProof.Rows.boot_int rfl) pa_nil))) (pe_one (pe_not (pe_callB (r := rIsi K) call_isi (by rfl) T.n_isinstance PyProof.Rows.boot_isinstance (pa_cons (pv 0) (pa_cons (pe_bltn (v := .ty "bool") (by rfl) T.n_bool PyProof.Rows.boot_bool rfl) pa_nil)))))))), ?_⟩
    have h0 : EvP (tVar 0) (start N_is_whole [x]) H (Va ds) := evp_var rfl hx mono_va
    exact evp_is (evp_and (a := false) (b := false) (evp_isi (K := K) h0 (fun _ _ p => va_tyx p) (.ty "int") (kit_ty (a := "tuple") (by decide +kernel))) fun z => nomatch z) rfl H (Ex.refl H) _ q
def spWholeT : Sp := fun vs H Q _ => ∃ (x : V) (d : PyData), vs = [x] ∧ Tg H x d ∧ ∀ v H2, Evl.Ex H H2 → v = .bl (isI d) → Q v H2
theorem ok_wholeT {f : Addr} {fd : FuncData} (T : Txt mg tk) (D : Df K mg "is_whole" s_is_whole ["value"] f fd) : FnOk P w K mg base CX0 (k + 1) f fd ["value"] spWholeT :=
  fn_imp (fn_or (ok_whole T D) (ok_wholeV T D)) fun vs H Q E ⟨x, d, h1, h2, q⟩ => by
    rcases h2.split with ⟨_, h⟩ | ⟨ds, rfl, h⟩
    · exact .inl ⟨x, d, h1, h, q⟩
    · exact .inr ⟨x, ds, h1, h, q⟩
def spCntT : Sp := fun vs H Q _ => ∃ (x : V) (d : PyData), vs = [x] ∧ Tg H x d ∧ ∀ v H2, Evl.Ex H H2 → v = .bl (isC d) → Q v H2
theorem ok_countT {f f1 : Addr} {fd fd1 : FuncData} (D_is_whole : Df K mg "is_whole" s_is_whole ["value"] f1 fd1) (G_is_whole : FnOk P w K mg base CX0 (k + 1) f1 fd1 ["value"] spWholeT) (D : Df K mg "is_count" s_is_count ["value"] f fd) : FnOk P w K mg base CX0 (k + 2) f fd ["value"] spCntT := by
  refine D.F.ok sc_is_count (fun vs H Q E h => ?_) (fun cdv A outer s0 H vs Q E hr h => ?_)
  · obtain ⟨x, d, rfl, _⟩ := h
    rfl
  · obtain ⟨x, d, rfl, hx, q⟩ := h
    refine ⟨_, (pss_one (ps_ret (pe_and (pe_call G_is_whole (hr.mono (by omega)) (by rfl) D_is_whole.g D_is_whole.F.kp D_is_whole.b .nil pass0 (pa_cons (pv 0) pa_nil)) (pe_one (pe_cmpR op_ge (pv 0) pe_int (nomark _)))))), ?_⟩
    refine evp_is (evp_and (a := isI d) (b := isC d) (evp_call (E := E0) (sp := spWholeT) (S := Is (.bl (isI d))) (eap_one (P := fun v H => Tg H v d) (evp_var rfl hx mono_tg)) fun vs H1 ⟨y, e, hy⟩ Q q E => ⟨y, d, e, hy, q⟩) fun hi => ?_) ?_ H (Ex.refl H) _ q
    · obtain ⟨i, rfl, rfl⟩ := tg_int hx hi
      exact evp_is (evp_I0 (g := fun i j => .bl (decide (i ≥ j))) (evp_var (v := .int i) rfl rfl mono_is) (evp_c (v := .int 0))) rfl
    · cases d <;> rfl
def spFormN : Sp := fun vs H Q _ => ∃ (l r : Int) (x : V) (d : PyData), vs = [.int l, .int r, x] ∧ It H x d ∧ isTup d = false ∧ ∀ v H2, Evl.Ex H H2 → v = .bl false → Q v H2
theorem ok_formN {f f1 f2 : Addr} {fd fd1 fd2 : FuncData} (D_is_below : Df K mg "is_below" s_is_below ["size", "value"] f1 fd1) (G_is_below : FnOk P w K mg base CX0 (k + 2) f1 fd1 ["size", "value"] spBelow)
    (D_is_values : Df K mg "is_values" s_is_values ["size", "value"] f2 fd2) (G_is_values : FnOk P w K mg base CX0 (k + 4) f2 fd2 ["size", "value"] spValues) (T : Txt mg tk) (D : Df K mg "has_where_form" s_has_where_form ["left", "right", "value"] f fd) :
    FnOk P w K mg base CX0 (k + 5) f fd ["left", "right", "value"] spFormN := by
  refine D.F.ok sc_has_where_form (fun vs H Q E h => ?_) (fun cdv A outer s H vs Q E hr h => ?_)
  · obtain ⟨l, r, x, ds, rfl, _⟩ := h
    rfl
  · obtain ⟨l, r, x, d, rfl, hx, hd, q⟩ := h
    have nd := sc_has_where_form.nd
    refine ⟨_, (pss_cons (ps_if (PW.pt (pw_or (pt_not (pt_val (pe_callB (r := rIsi K) call_isi (by rfl) T.n_isinstance PyProof.Rows.boot_isinstance (pa_cons (pv 2) (pa_cons (pe_bltn (v := .ty "tuple") (by rfl) T.n_tuple PyProof.Rows.boot_tuple rfl) pa_nil))))) (pw_or (pt_cmpR op_eq (pe_callB (r := rLenQ K) call_len_seq (by rfl) T.n_len PySem.boot_len (pa_cons (pv 2) pa_nil)) pe_int (nomark _)) (pw_or1 (pt_not (pt_val (pe_callB (r := rIsi K) call_isi (by rfl) T.n_isinstance PyProof.Rows.boot_isinstance (pa_cons (pe_ix (r := rIxT K) ix_tup (pv 2) pe_int (fun _ _ => rfl)) (pa_cons (pe_bltn (v := .ty "str") (by rfl) T.n_str PyProof.Rows.boot_str rfl) pa_nil))))))))) (pss_one (ps_ret pe_bl)) pss_nil) (pss_cons (ps_if (pt_cmpR op_eq (pe_ix (r := rIxT K) ix_tup (pv 2) pe_int (fun _ _ => rfl)) pe_str (nomark _)) (pss_one (ps_ret (pe_cmpR op_eq (pe_callB (r := rLenQ K) call_len_seq (by rfl) T.n_len PySem.boot_len (pa_cons (pv 2) pa_nil)) pe_int (nomark _)))) pss_nil) (pss_cons (ps_if (pt_cmpR op_eq (pe_ix (r := rIxT K) ix_tup (pv 2) pe_int (fun _ _ => rfl)) pe_str (nomark _)) (pss_one (ps_ret (pe_and (pe_cmpR op_eq (pe_callB (r := rLenQ K) call_len_seq (by rfl) T.n_len PySem.boot_len (pa_cons (pv 2) pa_nil)) pe_int (nomark _)) (pe_one (pe_call G_is_values (hr.mono (by omega)) (by rfl) D_is_values.g D_is_values.F.kp D_is_values.b .nil pass0 (pa_cons (pv 0) (pa_cons (pe_ix (r := rIxT K) ix_tup (pv 2) pe_int (fun _ _ => rfl)) pa_nil))))))) pss_nil) (pss_cons (ps_if (pt_cmpR op_eq (pe_ix (r := rIxT K) ix_tup (pv 2) pe_int (fun _ _ => rfl)) pe_str (nomark _)) (pss_one (ps_ret (pe_and (pe_cmpR op_eq (pe_callB (r := rLenQ K) call_len_seq (by rfl) T.n_len PySem.boot_len (pa_cons (pv 2) pa_nil)) pe_int (nomark _)) (pe_one (pe_call G_is_values (hr.mono (by omega)) (by rfl) D_is_values.g D_is_values.F.kp D_is_values.b .nil pass0 (pa_cons (pv 1) (pa_cons (pe_ix (r := rIxT K) ix_tup (pv 2) pe_int (fun _ _ => rfl)) pa_nil))))))) pss_nil) (pss_one (ps_ret (pe_and (pe_cmpR op_eq (pe_ix (r := rIxT K) ix_tup (pv 2) pe_int (fun _ _ => rfl)) pe_str (nomark _)) (pe_and (pe_cmpR op_eq (pe_callB (r := rLenQ K) call_len_seq (by rfl) T.n_len PySem.boot_len (pa_cons (pv 2) pa_nil)) pe_int (nomark _)) (pe_and (pe_call G_is_below (hr.mono (by omega)) (by rfl) D_is_below.g D_is_below.F.kp D_is_below.b .nil pass0 (pa_cons (pv 0) (pa_cons (pe_ix (r := rIxT K) ix_tup (pv 2) pe_int (fun _ _ => rfl)) pa_nil))) (pe_one (pe_call G_is_below (hr.mono (by omega)) (by rfl) D_is_below.g D_is_below.F.kp D_is_below.b .nil pass0 (pa_cons (pv 1) (pa_cons (pe_ix (r := rIxT K) ix_tup (pv 2) pe_int (fun _ _ => rfl)) pa_nil))))))))))))), ?_⟩
    have h2 : EvP (tVar 2) (start N_has_where_form [.int l, .int r, x]) H (fun v H => It H v d) := evp_var rfl hx mono_it
    exact q_when (b := true) (et_is (et_or (a := true) (b := true) (et_is (et_not (et_bl (evp_isiD (K := K) h2 (kit_tup' d)))) (by rw [hd]; rfl)) fun z => nomatch z) rfl) (fun _ H1 e1 => s_ret ev_c fun H2 e2 => q _ H2 (e1.trans e2) rfl) fun z => nomatch z
def spFormT : Sp := fun vs H Q _ => ∃ (l r : Int) (x : V) (d : PyData), vs = [.int l, .int r, x] ∧ Tg H x d ∧ (∀ ds, d = .tuple ds → SmallV ds) ∧ ∀ v H2, Evl.Ex H H2 → v = .bl (formD l r d) → Q v H2
theorem form_or {vs : List V} {H : Hp} {Q : VK} {E : XK} (h : spFormT vs H Q E) : spForm vs H Q E ∨ spFormN vs H Q E := by
  obtain ⟨l, r, x, d, h1, h2, h3, q⟩ := h
  rcases h2.split with ⟨ht, h⟩ | ⟨ds, rfl, h⟩
  · exact .inr ⟨l, r, x, d, h1, h, ht, fun v H2 e hv => q v H2 e (by rw [hv]; cases d <;> first | rfl | cases ht)⟩
  · exact .inl ⟨l, r, x, ds, h1, h, h3 ds rfl, q⟩
theorem ok_formT {f f1 f2 : Addr} {fd fd1 fd2 : FuncData} (D_is_below : Df K mg "is_below" s_is_below ["size", "value"] f1 fd1) (G_is_below : FnOk P w K mg base CX0 (k + 2) f1 fd1 ["size", "value"] spBelow)
    (D_is_values : Df K mg "is_values" s_is_values ["size", "value"] f2 fd2) (G_is_values : FnOk P w K mg base CX0 (k + 4) f2 fd2 ["size", "value"] spValues) (T : Txt mg tk) (D : Df K mg "has_where_form" s_has_where_form ["left", "right", "value"] f fd) :
    FnOk P w K mg base CX0 (k + 5) f fd ["left", "right", "value"] spFormT :=
  fn_imp (fn_or (ok_form D_is_below G_is_below D_is_values G_is_values T D) (ok_formN D_is_below G_is_below D_is_values G_is_values T D)) fun vs H Q E h => form_or h
def spFactG : Sp := fun vs H Q _ => ∃ (l r : Int) (x : V) (d : PyData), vs = [.int l, .int r, x] ∧ Eld H x d ∧ (∀ ds rest, d = .tuple (.tuple ds :: rest) → SmallV ds) ∧ ∀ v H2, Evl.Ex H H2 → v = .bl (factD l r d) → Q v H2
theorem ok_factG {f f1 f2 f3 : Addr} {fd fd1 fd2 fd3 : FuncData} (D_is_whole : Df K mg "is_whole" s_is_whole ["value"] f1 fd1) (G_is_whole : FnOk P w K mg base CX0 (k + 1) f1 fd1 ["value"] spWholeT)
    (D_is_count : Df K mg "is_count" s_is_count ["value"] f2 fd2) (G_is_count : FnOk P w K mg base CX0 (k + 2) f2 fd2 ["value"] spCntT)
    (D_has_where_form : Df K mg "has_where_form" s_has_where_form ["left", "right", "value"] f3 fd3) (G_has_where_form : FnOk P w K mg base CX0 (k + 5) f3 fd3 ["left", "right", "value"] spFormT) (T : Txt mg tk)
    (D : Df K mg "is_fact" s_is_fact ["left", "right", "value"] f fd) : FnOk P w K mg base CX0 (k + 6) f fd ["left", "right", "value"] spFactG := by
  refine D.F.ok sc_is_fact (fun vs H Q E h => ?_) (fun cdv A outer s0 H vs Q E hr h => ?_)
  · obtain ⟨l, r, x, e, rfl, _⟩ := h
    rfl
  · obtain ⟨l, r, x, d, rfl, hx, hsm, q⟩ := h
    have nd := sc_is_fact.nd
    refine ⟨_, (pss_cons (ps_if (PW.pt (pw_or (pt_not (pt_val (pe_callB (r := rIsi K) call_isi (by rfl) T.n_isinstance PyProof.Rows.boot_isinstance (pa_cons (pv 2) (pa_cons (pe_bltn (v := .ty "tuple") (by rfl) T.n_tuple PyProof.Rows.boot_tuple rfl) pa_nil))))) (pw_or1 (pt_cmpR op_ne (pe_callB (r := rLenQ K) call_len_seq (by rfl) T.n_len PySem.boot_len (pa_cons (pv 2) pa_nil)) pe_int (nomark _))))) (pss_one (ps_ret pe_bl)) pss_nil) (pss_cons (ps_asg (pv 2) (pg_tup rfl (pgs_cons (pg_name (i := 3) nd rfl (Or.inl rfl)) (pgs_cons (pg_name (i := 4) nd rfl (Or.inl rfl)) (pgs_cons (pg_name (i := 5) nd rfl (Or.inl rfl)) pgs_nil))))) (pss_cons (ps_if (PW.pt (pw_or (pt_not (pt_val (pe_call G_has_where_form (hr.mono (by omega)) (by rfl) D_has_where_form.g D_has_where_form.F.kp D_has_where_form.b .nil pass0 (pa_cons (pv 0) (pa_cons (pv 1) (pa_cons (pv 3) pa_nil)))))) (pw_or1 (pt_not (pt_val (pe_call G_is_count (hr.mono (by omega)) (by rfl) D_is_count.g D_is_count.F.kp D_is_count.b .nil pass0 (pa_cons (pv 4) pa_nil))))))) (pss_one (ps_ret pe_bl)) pss_nil) (pss_one (ps_ret (pe_or (pe_cmpR (r := rNon) op_isN (pv 5) pe_non (nomark _)) (pe_one (pe_and (pe_call G_is_whole (hr.mono (by omega)) (by rfl) D_is_whole.g D_is_whole.F.kp D_is_whole.b .nil pass0 (pa_cons (pv 5) pa_nil)) (pe_one (pe_cmpR op_ge (pv 5) (pv 4) (nomark _))))))))))), ?_⟩
    cases hx with
    | flat hf =>
      have ht : isTup d = false := by cases x <;> first | exact hf.elim | (cases hf; rfl)
      have h2 : EvP (tVar 2) (start N_is_fact [.int l, .int r, x]) H (fun v H => It H v d) := evp_var rfl (.flat hf) mono_it
      exact q_when (b := true) (et_is (et_or (a := true) (b := true) (et_is (et_not (et_bl (evp_isiD (K := K) h2 (kit_tup' d)))) (by rw [ht]; rfl)) fun z => nomatch z) rfl) (fun _ H1 e1 => s_ret ev_c fun H2 e2 => q _ H2 (e1.trans e2) (by cases d <;> first | rfl | cases ht)) fun z => nomatch z
    | @tup a xs ds ha hp =>
      have v2 : ∀ {H' : Hp}, Evl.Ex H H' → EvP (tVar 2) (start N_is_fact [.int l, .int r, .ref a]) H' (Ts xs) := fun e => evp_var rfl ⟨a, rfl, e _ _ ha⟩ mono_ts
      have hlen := Paired.len hp
      have tst : ∀ b : Bool, (!decide (V.int (xs.length : Int) = .int 3)) = b → EvT (tOr (tNot (tB (tCB (rIsi K) (tCons (tVar 2) (tCons (tC (.ty "tuple")) tNil))))) (tTest (tOp rNe (tCB (rLenQ K) (tCons (tVar 2) tNil)) (tC (.int 3))))) (start N_is_fact [.int l, .int r, .ref a]) H b := fun b hb => et_is (et_or (a := false) (b := b) (et_is (et_not (et_bl (evp_isi (b := true) (v2 (Ex.refl _)) (fun x H1 ⟨p, e, hp⟩ => by rw [e]; exact .base (.tup hp)) (.ty "tuple") (kit_ty (a := "tuple") (by decide +kernel))))) rfl) fun _ => et_tst (evp_is (evp_ne (evp_lenTs (K := K) (v2 (Ex.refl _))) (evp_c (v := .int 3)) rfl) (by rw [hb]))) (by rw [Bool.false_or])
      by_cases hl : xs.length = 3
      · refine q_when (b := false) (tst false (by rw [hl]; rfl)) (fun z => nomatch z) fun _ H1 e1 => ?_
        obtain ⟨w', b, c, rfl⟩ : ∃ w' b c, xs = [w', b, c] := match xs, hl with | [w', b, c], _ => ⟨w', b, c, rfl⟩
        cases hp with
        | @cons _ dw _ _ h1 hp =>
        cases hp with
        | @cons _ lo _ _ h2 hp =>
        cases hp with
        | @cons _ hi _ _ h3 hp =>
        cases hp
        refine q_asgG ⟨.ref a, rfl, ?_⟩
        refine ⟨a, _, rfl, st_of (e1 _ _ ha), rfl, _, _, rfl, _, _, rfl, _, _, rfl, rfl, ?_⟩
        have hfd : factD l r (.tuple [dw, lo, hi]) = (formD l r dw && isC lo && hiD lo hi) := rfl
        refine q_when (σ := [some (.int l), some (.int r), some (.ref a), some w', some b, some c]) (b := !formD l r dw || !isC lo) (et_or (a := !formD l r dw) (b := !isC lo) (et_not (et_bl (evp_call (E := E0) (sp := spFormT) (eap_three (P := Is (.int l)) (R := Is (.int r)) (S := fun v H => Tg H v dw) (evp_var (i := 0) rfl rfl mono_is) (evp_var (i := 1) rfl rfl mono_is) (evp_var (i := 3) rfl (h1.mono (Kx.of e1)) mono_tg) mono_is mono_is) (fun vs H2 ⟨x1, x2, x3, hv, k1, k2, k3⟩ Q q E => ⟨l, r, x3, dw, by rw [hv, show x1 = _ from k1, show x2 = _ from k2], k3, fun ds hds => hsm ds _ (by rw [hds]), q⟩)))) fun _ =>
          et_not (et_bl (evp_call (E := E0) (sp := spCntT) (eap_one (P := fun v H => Tg H v lo) (evp_var (i := 4) rfl (h2.mono (Kx.of e1)) mono_tg)) (fun vs H2 ⟨x1, hv, k1⟩ Q q E => ⟨x1, lo, hv, k1, q⟩)))) (fun hb H2 e2 => ?_) fun hb H2 e2 => ?_
        · refine s_ret ev_c fun H3 e3 => q _ H3 ((e1.trans e2).trans e3) ?_
          rw [hfd]
          cases hF : formD l r dw
          · rfl
          · rw [hF] at hb
            have : isC lo = false := by simpa using hb
            rw [this]; rfl
        have hF : formD l r dw = true := by cases h : formD l r dw <;> rw [h] at hb <;> first | rfl | cases hb
        have hC : isC lo = true := by rw [hF] at hb; simpa using hb
        obtain ⟨lo', rfl⟩ : ∃ i, lo = .int i := by cases lo <;> first | exact ⟨_, rfl⟩ | cases hC
        obtain ⟨_, hb', hlo⟩ := tg_int h2 rfl
        cases hlo
        subst hb'
        have v5 : ∀ {H' : Hp}, Evl.Ex H H' → EvP (tVar 5) [some (.int l), some (.int r), some (.ref a), some w', some (.int lo'), some c] H' (fun v H => v = c ∧ Tg H v hi) := fun e => evp_var rfl ⟨rfl, h3.mono (Kx.of e)⟩ (fun _ _ _ e ⟨a, b⟩ => ⟨a, b.mono (Kx.of e)⟩)
        have ex := e1.trans e2
        have v5c : ∀ {H' : Hp}, Evl.Ex H H' → EvP (tVar 5) [some (.int l), some (.int r), some (.ref a), some w', some (.int lo'), some c] H' (Is c) := fun e => (v5 e).imp fun _ _ _ h => h.1
        refine s_ret (EvP.ev (v := .bl (hiD (.int lo') hi)) ?_) fun H3 e3 => q _ H3 (ex.trans e3) (by rw [hfd, hF, hC]; rfl)
        by_cases hN : c = .non
        · have hh : hi = .none := (tg_non h3).mp hN
          rw [hh]
          exact evp_is (evp_or (a := true) (b := true) (evp_is (evp_non (v5c ex)) (by rw [decide_eq_true hN])) fun z => nomatch z) rfl
        · have hh : hi ≠ .none := fun z => hN ((tg_non h3).mpr z)
          refine evp_is (evp_or (a := false) (b := isI hi && hiD (.int lo') hi) (evp_is (evp_non (v5c ex)) (by rw [decide_eq_false hN])) fun _ => evp_and (a := isI hi) (b := hiD (.int lo') hi) (evp_call (E := E0) (sp := spWholeT) (eap_one (v5 ex)) (fun vs H1 ⟨x, hv, _, hx⟩ Q q E => ⟨x, hi, hv, hx, q⟩)) fun hI => ?_) ?_
          · obtain ⟨i, rfl, rfl⟩ := tg_int h3 hI
            exact evp_is (evp_I0 (g := fun i j => .bl (decide (i ≥ j))) (v5c ex) (evp_var (i := 4) (v := .int lo') rfl rfl mono_is)) rfl
          · cases hi <;> first | rfl | exact absurd rfl hh | (show V.bl (false || (true && _)) = _; rw [Bool.false_or, Bool.true_and])
      · refine q_when (b := true) (tst true (by simp; omega)) (fun _ H1 e1 => s_ret ev_c fun H2 e2 => q _ H2 (e1.trans e2) (by rw [factD_len (by omega)])) fun z => nomatch z
/-! ### something in a list of facts: a fact, as far as its where and its low go, or what is none -/
def gdF (f : FR) : Bool := match f.hi with
  | none => true
  | some h => decide (h ≥ f.lo)
def gdE : Option FR → Bool
  | none => false
  | some f => gdF f
def oD : Option Int → PyData
  | none => .none
  | some i => .int i
def fD (f : FR) : PyData := .tuple [.tuple (wD f.w), .int f.lo, oD f.hi]
theorem fv_eld {f : FR} {v : V} {H : Hp} (h : Fv f v H) : Eld H v (fD f) := by
  obtain ⟨x, ⟨a, rfl, ha⟩, hx⟩ := h
  exact .tup ha (.cons (.va (wv_va hx)) (.cons (.flat rfl) (.cons (.flat (by cases f.hi <;> rfl)) .nil)))
theorem fact_fD {l r : Int} {f : FR} (h : WhOk l r f.w) (h0 : 0 ≤ f.lo) : factD l r (fD f) = gdF f := by
  show (form l r (wD f.w) && decide (0 ≤ f.lo) && hiD (.int f.lo) (oD f.hi)) = gdF f
  rw [wh_form h, decide_eq_true h0]
  unfold gdF
  cases f.hi <;> rfl
def OdE (v : V) (H : Hp) : Prop := ∃ d, Eld H v d ∧ OkE d ∧ ∀ l r : Int, l ≤ 8 → r ≤ 8 → factD l r d = false
def Fe : Option FR → HP
  | none => OdE
  | some f => Fv f
theorem fe_kx {H H' : Hp} {v : V} (e : Kx H H') (h : OdE v H) : OdE v H' := by
  obtain ⟨d, h1, h2, h3⟩ := h
  exact ⟨d, h1.mono e, h2, h3⟩
theorem fe_mono : ∀ e : Option FR, Mono (Fe e)
  | none => fun _ _ _ e h => fe_kx (Kx.of e) h
  | some f => (mf_fv f).mono
theorem mono_tsP {α : Type} {Pi : α → HP} {zs : List α} (m : ∀ z, Mono (Pi z)) : Mono (TsP Pi zs) := fun _ _ _ e ⟨p, ys, h1, h2, h3⟩ => ⟨p, ys, h1, e _ _ h2, Paired.impl (fun _ _ h => m _ _ _ _ e h) h3⟩
def ElOk (l r : Int) : Option FR → Prop
  | none => l ≤ 8 ∧ r ≤ 8
  | some f => WhOk l r f.w ∧ 0 ≤ f.lo
/-- the data of an element -/
def FeD : Option FR → PyData → Prop
  | none, d => OkE d ∧ ∀ l r : Int, l ≤ 8 → r ≤ 8 → factD l r d = false
  | some f, d => d = fD f
theorem fe_eld {e : Option FR} {v : V} {H : Hp} (h : Fe e v H) : ∃ d, Eld H v d ∧ FeD e d := by
  cases e with
  | none => obtain ⟨d, h1, h2⟩ := h; exact ⟨d, h1, h2⟩
  | some f => exact ⟨_, fv_eld h, rfl⟩
theorem feD_sm {l r : Int} {e : Option FR} {d : PyData} (ho : ElOk l r e) (h : FeD e d) : ∀ ds rest, d = .tuple (.tuple ds :: rest) → SmallV ds := fun ds rest hd => by
  cases e with
  | none => exact h.1.sm ds rest hd
  | some f =>
    rw [show d = fD f from h] at hd
    unfold fD at hd
    cases hd
    exact (wh_okV ho.1).small
theorem feD_gd {l r : Int} {e : Option FR} {d : PyData} (ho : ElOk l r e) (h : FeD e d) : factD l r d = gdE e := by
  cases e with
  | none => exact h.2 l r ho.1 ho.2
  | some f => rw [show d = fD f from h]; exact fact_fD ho.1 ho.2
def spFact : Sp := fun vs H Q _ => ∃ (l r : Int) (x : V) (e : Option FR), vs = [.int l, .int r, x] ∧ Fe e x H ∧ ElOk l r e ∧ ∀ v H2, Evl.Ex H H2 → v = .bl (gdE e) → Q v H2
theorem fact_imp {vs : List V} {H : Hp} {Q : VK} {E : XK} (h : spFact vs H Q E) : spFactG vs H Q E := by
  obtain ⟨l, r, x, e, h1, h2, h3, q⟩ := h
  obtain ⟨d, k1, k2⟩ := fe_eld h2
  exact ⟨l, r, x, d, h1, k1, feD_sm h3 k2, fun v H2 e2 hv => q v H2 e2 (by rw [hv, feD_gd h3 k2])⟩
theorem ok_fact {f f1 f2 f3 : Addr} {fd fd1 fd2 fd3 : FuncData} (D_is_whole : Df K mg "is_whole" s_is_whole ["value"] f1 fd1) (G_is_whole : FnOk P w K mg base CX0 (k + 1) f1 fd1 ["value"] spWholeT)
    (D_is_count : Df K mg "is_count" s_is_count ["value"] f2 fd2) (G_is_count : FnOk P w K mg base CX0 (k + 2) f2 fd2 ["value"] spCntT)
    (D_has_where_form : Df K mg "has_where_form" s_has_where_form ["left", "right", "value"] f3 fd3) (G_has_where_form : FnOk P w K mg base CX0 (k + 5) f3 fd3 ["left", "right", "value"] spFormT) (T : Txt mg tk)
    (D : Df K mg "is_fact" s_is_fact ["left", "right", "value"] f fd) : FnOk P w K mg base CX0 (k + 6) f fd ["left", "right", "value"] spFact := fn_imp (ok_factG D_is_whole G_is_whole D_is_count G_is_count D_has_where_form G_has_where_form T D) fun _ _ _ _ h => fact_imp h
def crs (f g : List Int) : Bool := decide ((0 : Int) < ((f.filter fun x => g.contains x).length : Int)) && decide (((f.filter fun x => g.contains x).length : Int) < (if (g.length : Int) < (f.length : Int) then (g.length : Int) else (f.length : Int)))
def crW : Wh → Wh → Bool
  | .left f, .left g => crs f g
  | .right f, .right g => crs f g
  | _, _ => false
theorem crW_no {l r : Int} {u w : Wh} (hu : WhOk l r u) (hw : WhOk l r w) (h : Nsw u w) : crW u w = false := by
  cases u <;> cases w <;> first | rfl | exact nst_cross h (VsOk.asc hu) (VsOk.asc hw) (VsOk.len hu) (VsOk.len hw)
theorem bW_no {u w : Wh} (h : bW (wWord u) (wWord w) = true) : crW u w = false := by
  cases u <;> cases w <;> first | rfl | exact absurd h (by show ¬ bW "left" "left" = true; decide +kernel) | exact absurd h (by show ¬ bW "right" "right" = true; decide +kernel)
def spCross : Sp := fun vs H Q _ => ∃ (x y : V) (l r : Int) (u w : Wh), vs = [x, y] ∧ Wv u x H ∧ Wv w y H ∧ WhOk l r u ∧ WhOk l r w ∧ ∀ v H2, Evl.Ex H H2 → v = .bl (crW u w) → Q v H2
theorem ok_crosses {f : Addr} {fd : FuncData} (n_min : mg "min" = none) (T : Txt mg tk) (D : Df K mg "crosses" s_crosses ["one", "other"] f fd) : FnOk P w K mg base CX0 (k + 1) f fd ["one", "other"] spCross := by
  refine D.F.ok sc_crosses (fun vs H Q E h => ?_) (fun cdv A outer s0 H vs Q E hr h => ?_)
  · obtain ⟨x, y, l, r, u, w, rfl, _⟩ := h
    rfl
  · obtain ⟨x, y, l, r, u, w, rfl, hx, hy, hu, hw, q⟩ := h
    have nd := sc_crosses.nd
    refine ⟨_, (pss_cons (ps_if (PW.pt (pw_or (pt_cmpR op_ne (pe_ix (r := rIxT K) ix_tup (pv 0) pe_int (fun _ _ => rfl)) (pe_ix (r := rIxT K) ix_tup (pv 1) pe_int (fun _ _ => rfl)) (nomark _)) (pw_or1 (pt_cmpR (r := rIn K true) op_notIn_seq (pe_ix (r := rIxT K) ix_tup (pv 0) pe_int (fun _ _ => rfl)) (pe_tup (pa_cons pe_str (pa_cons pe_str pa_nil))) (by rfl))))) (pss_one (ps_ret pe_bl)) pss_nil) (pss_cons (ps_set (i := 2) nd rfl (Or.inl rfl) (pe_callB (r := rLenQ K) call_len_seq (by rfl) T.n_len PySem.boot_len (pa_cons (pe_lc (wi := iTup K _) (g := gName 3) (own := [("value", 3)]) (by rfl) nd (pi_tup (pe_ix (r := rIxT K) ix_tup (pv 0) pe_int (fun _ _ => rfl))) (blkOk_by (by kernel_rfl)) (fun _ _ _ _ _ => (pg_name (i := 3) nd rfl (Or.inl rfl))) (fun _ _ _ _ _ => (pts_one (pt_cmpR (r := rIn K false) op_in_seq (pv 3) (pe_ix (r := rIxT K) ix_tup (pv 1) pe_int (fun _ _ => rfl)) (by rfl)))) (fun _ _ _ _ _ => (pv 3))) pa_nil))) (pss_one (ps_ret (pe_chain op_lt op_lt pe_int (pv 2) (pe_callB (call_min2 rfl) (by rfl) n_min PyProof.Rows.boot_min (pa_cons (pe_callB (r := rLenQ K) call_len_seq (by rfl) T.n_len PySem.boot_len (pa_cons (pe_ix (r := rIxT K) ix_tup (pv 0) pe_int (fun _ _ => rfl)) pa_nil)) (pa_cons (pe_callB (r := rLenQ K) call_len_seq (by rfl) T.n_len PySem.boot_len (pa_cons (pe_ix (r := rIxT K) ix_tup (pv 1) pe_int (fun _ _ => rfl)) pa_nil)) pa_nil)))))))), ?_⟩
    have v0 : ∀ {σ' : L2.St} {H' : Hp}, σ'[0]? = some (some x) → Evl.Ex H H' → EvP (tVar 0) σ' H' (Wv u) := fun h e => evp_var h ((mf_wv u).mono _ _ _ e hx) (mf_wv u).mono
    have v1 : ∀ {σ' : L2.St} {H' : Hp}, σ'[1]? = some (some y) → Evl.Ex H H' → EvP (tVar 1) σ' H' (Wv w) := fun h e => evp_var h ((mf_wv w).mono _ _ _ e hy) (mf_wv w).mono
    refine q_when (σ := [some x, some y, none, none]) (b := bW (wWord u) (wWord w)) (et_or (et_tst (evp_ne (evp_w0 (K := K) (v0 rfl (Ex.refl _))) (evp_w0 (K := K) (v1 rfl (Ex.refl _))) rfl)) fun _ => et_tst (fun H1 e1 Q q => evp_w0 (K := K) (v0 rfl (Ex.refl _)) H1 e1 _ fun a H2 e2 ha => ⟨by show 2 ≤ sizeLine; decide, fun t ht => ⟨t, _, rfl, .inr (st_of upd_same), by rw [show a = _ from ha]; rfl, rfl, by
      rw [show a = _ from ha]
      exact q _ _ (e2.trans (Ex.new ht)) rfl⟩⟩)) (fun hb H1 e1 => s_ret ev_c fun H2 e2 => q _ H2 (e1.trans e2) (by rw [bW_no hb])) fun hb H1 e1 => ?_
    have rest : ∀ (is js : List Int), crW u w = crs is js → is.Pairwise (· < ·) → js.Pairwise (· < ·) → is.length ≤ 8 → js.length ≤ 8 → (∀ {σ' : L2.St} {H' : Hp}, σ'[0]? = some (some x) → Evl.Ex H H' → EvP (tOp (rIxT K) (tVar 0) (tC (.int 1))) σ' H' (Ts (is.map V.int))) → (∀ {σ' : L2.St} {H' : Hp}, σ'[1]? = some (some y) → Evl.Ex H H' → EvP (tOp (rIxT K) (tVar 1) (tC (.int 1))) σ' H' (Ts (js.map V.int))) →
        tSeq (tAsg (tCB (rLenQ K) (tCons (tLc (iTup K (tOp (rIxT K) (tVar 0) (tC (.int 1)))) (gName 3) (tTest (tOp (rIn K false) (tVar 3) (tOp (rIxT K) (tVar 1) (tC (.int 1))))) (tVar 3) [3]) tNil)) (gName 2)) (tRet (tChain (rI0 fun i j => .bl (decide (i < j))) (rI0 fun i j => .bl (decide (i < j))) (tC (.int 0)) (tVar 2) (tCB (fun xs H Q => ∃ i j, xs = [.int i, .int j] ∧ Q (.int (if j < i then j else i)) H) (tCons (tCB (rLenQ K) (tCons (tOp (rIxT K) (tVar 0) (tC (.int 1))) tNil)) (tCons (tCB (rLenQ K) (tCons (tOp (rIxT K) (tVar 1) (tC (.int 1))) tNil)) tNil))))) { nx := fun _ H' => Q .non H', rt := Q } [some x, some y, none, none] H1 := fun is js hn pi pj li lj w0 w1 => by
      have hl := (evp_lcF (σ := [some x, some y, none, none]) (vs := [3]) (g := gName 3) (te := tVar 3) (tt := tTest (tOp (rIn K false) (tVar 3) (tOp (rIxT K) (tVar 1) (tC (.int 1))))) (f := fun i => js.contains (is.getD i 0)) (n := (is.map V.int).length) (Pi := fun i => Is (.int (is.getD i 0))) (wx_ts (K := K) (w0 rfl e1)) (by rw [List.length_map]; omega)
        (Sg := fun i σ2 _ => σ2 = [some x, some y, none, some (.int (is.getD i 0))]) (fun i z H2 hi e2 hz => by
          have : z = .int (is.getD i 0) := by
            rw [List.getElem?_map, List.getElem?_eq_getElem (by simpa using hi)] at hz
            cases hz
            rw [List.getD_eq_getElem?_getD, List.getElem?_eq_getElem (by simpa using hi)]
            rfl
          rw [this]
          exact g_name (i := 3) ⟨rfl, rfl⟩) (fun i σ2 H2 hi e2 hs => by subst hs; exact et_tst (evp_inI (K := K) (evp_var (i := 3) rfl rfl mono_is) (w1 rfl (e1.trans e2)))) (fun i σ2 H2 hi e2 hs => by subst hs; exact evp_var (i := 3) rfl rfl mono_is) fun _ => mf_is)
      have hcnt : ((List.range (is.map V.int).length).filter fun i => js.contains (is.getD i 0)).length = (is.filter fun x => js.contains x).length := by
        rw [List.length_map, range_cnt (fun x => js.contains x)]
      refine q_asgP (P := Is (.int ((is.filter fun x => js.contains x).length : Int))) (evp_lenL (K := K) (hl.imp fun v H3 e3 ⟨p, ys, hv, hp, pr⟩ => ⟨p, ys, hv, hp, by rw [Paired.len pr, hcnt]⟩)) fun v2 H2 e2 hv2 => ?_
      subst hv2
      refine s_ret (EvP.ev (v := .bl (crs is js)) (evp_is (evp_chain (evp_c (v := .int 0)) (evp_var (i := 2) rfl rfl mono_is) (fun H3 e3 Q q => eap_two (evp_lenTs (K := K) (w0 rfl (e1.trans e2))) (evp_lenTs (K := K) (w1 rfl (e1.trans e2))) mono_is H3 e3 _ fun vs H4 e4 ⟨a, b, hv, ha, hb⟩ => ⟨_, _, by rw [hv, show a = _ from ha, show b = _ from hb], q _ H4 e4 rfl⟩) rfl rfl) ?_)) fun H3 e3 => q _ H3 ((e1.trans e2).trans e3) (by rw [hn])
      rw [List.length_map, List.length_map]
      rfl
    cases u with
    | all => cases w <;> exact absurd hb (by first | exact (show ¬ bW "all" "all" = false by decide +kernel) | exact (show ¬ bW "all" "left" = false by decide +kernel) | exact (show ¬ bW "all" "right" = false by decide +kernel) | exact (show ¬ bW "all" "cell" = false by decide +kernel) | exact (show ¬ bW "left" "all" = false by decide +kernel) | exact (show ¬ bW "left" "right" = false by decide +kernel) | exact (show ¬ bW "left" "cell" = false by decide +kernel) | exact (show ¬ bW "right" "all" = false by decide +kernel) | exact (show ¬ bW "right" "left" = false by decide +kernel) | exact (show ¬ bW "right" "cell" = false by decide +kernel) | exact (show ¬ bW "cell" "all" = false by decide +kernel) | exact (show ¬ bW "cell" "left" = false by decide +kernel) | exact (show ¬ bW "cell" "right" = false by decide +kernel) | exact (show ¬ bW "cell" "cell" = false by decide +kernel))
    | cell a b => cases w <;> exact absurd hb (by first | exact (show ¬ bW "all" "all" = false by decide +kernel) | exact (show ¬ bW "all" "left" = false by decide +kernel) | exact (show ¬ bW "all" "right" = false by decide +kernel) | exact (show ¬ bW "all" "cell" = false by decide +kernel) | exact (show ¬ bW "left" "all" = false by decide +kernel) | exact (show ¬ bW "left" "right" = false by decide +kernel) | exact (show ¬ bW "left" "cell" = false by decide +kernel) | exact (show ¬ bW "right" "all" = false by decide +kernel) | exact (show ¬ bW "right" "left" = false by decide +kernel) | exact (show ¬ bW "right" "cell" = false by decide +kernel) | exact (show ¬ bW "cell" "all" = false by decide +kernel) | exact (show ¬ bW "cell" "left" = false by decide +kernel) | exact (show ¬ bW "cell" "right" = false by decide +kernel) | exact (show ¬ bW "cell" "cell" = false by decide +kernel))
    | left is =>
      cases w with
      | left js => exact rest is js rfl (show VsOk l is from hu).asc (show VsOk l js from hw).asc (show VsOk l is from hu).len (show VsOk l js from hw).len (fun h e => evp_w1 (K := K) ((v0 h e).imp fun _ _ _ h => wv_vs (.inl h))) (fun h e => evp_w1 (K := K) ((v1 h e).imp fun _ _ _ h => wv_vs (.inl h)))
      | _ => exact absurd hb (by first | exact (show ¬ bW "all" "all" = false by decide +kernel) | exact (show ¬ bW "all" "left" = false by decide +kernel) | exact (show ¬ bW "all" "right" = false by decide +kernel) | exact (show ¬ bW "all" "cell" = false by decide +kernel) | exact (show ¬ bW "left" "all" = false by decide +kernel) | exact (show ¬ bW "left" "right" = false by decide +kernel) | exact (show ¬ bW "left" "cell" = false by decide +kernel) | exact (show ¬ bW "right" "all" = false by decide +kernel) | exact (show ¬ bW "right" "left" = false by decide +kernel) | exact (show ¬ bW "right" "cell" = false by decide +kernel) | exact (show ¬ bW "cell" "all" = false by decide +kernel) | exact (show ¬ bW "cell" "left" = false by decide +kernel) | exact (show ¬ bW "cell" "right" = false by decide +kernel) | exact (show ¬ bW "cell" "cell" = false by decide +kernel))
    | right is =>
      cases w with
      | right js => exact rest is js rfl (show VsOk r is from hu).asc (show VsOk r js from hw).asc (show VsOk r is from hu).len (show VsOk r js from hw).len (fun h e => evp_w1 (K := K) ((v0 h e).imp fun _ _ _ h => wv_vs (.inr h))) (fun h e => evp_w1 (K := K) ((v1 h e).imp fun _ _ _ h => wv_vs (.inr h)))
      | _ => exact absurd hb (by first | exact (show ¬ bW "all" "all" = false by decide +kernel) | exact (show ¬ bW "all" "left" = false by decide +kernel) | exact (show ¬ bW "all" "right" = false by decide +kernel) | exact (show ¬ bW "all" "cell" = false by decide +kernel) | exact (show ¬ bW "left" "all" = false by decide +kernel) | exact (show ¬ bW "left" "right" = false by decide +kernel) | exact (show ¬ bW "left" "cell" = false by decide +kernel) | exact (show ¬ bW "right" "all" = false by decide +kernel) | exact (show ¬ bW "right" "left" = false by decide +kernel) | exact (show ¬ bW "right" "cell" = false by decide +kernel) | exact (show ¬ bW "cell" "all" = false by decide +kernel) | exact (show ¬ bW "cell" "left" = false by decide +kernel) | exact (show ¬ bW "cell" "right" = false by decide +kernel) | exact (show ¬ bW "cell" "cell" = false by decide +kernel))
end
end K20
namespace TA5
open PySem L2 PySem.Spec PyProof.Rows
section
variable {X : Cx} {CX : CXT} {k : Nat} {f C : Addr} {fd : FuncData} {ps : List Str} {sp : Sp} {dvs : List V} {ds : List Value} {E : L2.St → XK} {x : Str} {p pos : Pos} {e : Expr} {es : List Expr} {t : TA}
def tMakeS (C : Addr) (sp : Sp) (dvs : List V) (E : L2.St → XK) (t : TA) : TE := fun σ H Q => t σ H fun vs H1 => ∀ x dx, H1 x = none → H1 dx = none → dx ≠ x → sp (.ref x :: (vs ++ dvs)) (upd (upd H1 dx (.own x)) x (.ins C dx [])) (fun v H2 => v = .non ∧ Q (.ref x) H2) (E σ)
theorem run_makeS {pins : List (Addr × Obj)} {σ : L2.St} {H : Hp} {s : Shared} {Q : VK} {us : List Value} {vs : List V} (M : Mk X.K C f) (F : FnOk X.prog X.w X.K X.mg X.base CX k f fd ps sp) (hr : Room (k + 1) X.A) (hb : Binds X.K fd ps ds) (hd : Vals dvs ds)
    (hx : PassesAt CX X σ (E σ)) (I : Inv X pins σ H s) (r : Vals vs us)
    (h : ∀ x dx, H x = none → H dx = none → dx ≠ x → sp (.ref x :: (vs ++ dvs)) (upd (upd H dx (.own x)) x (.ins C dx [])) (fun v H2 => v = .non ∧ Q (.ref x) H2) (E σ)) :
    wpAny (model X.prog X.w) X.A (call (.ref C) us) (EP X pins σ Q) X.xe s := by
  have hq := h (s.heap.objs.size + 1) s.heap.objs.size (I.hok.fresh (Nat.le_succ _)) (I.hok.fresh (Nat.le_refl _)) (Nat.ne_of_lt (Nat.lt_succ_self _))
  have I2 := Inv.made (C := C) I
  have r2 : Vals (V.ref (s.heap.objs.size + 1) :: (vs ++ dvs)) (Value.ref (s.heap.objs.size + 1) :: (us ++ ds)) := .cons rfl (r.append hd)
  have hl : (Value.ref (s.heap.objs.size + 1) :: us ++ ds).length = ps.length := by
    have e := r2.length
    rw [F.len _ _ _ _ hq] at e
    exact e.symm
  refine wpAny_call (make_map (f := f) I.kIn M.makes M.init (beq_iff_eq.mp M.fn) (codeAny_mono (F.run _ X.stack _ _ ⟨Value.ref (s.heap.objs.size + 1) :: us, []⟩ (Value.ref (s.heap.objs.size + 1) :: (us ++ ds)) _ _ (E σ) (hr.make C us [])
    (I2.env0.make C us []) (hb _ (Value.ref (s.heap.objs.size + 1) :: us) I2.kIn hl) r2 hq) fun r s' hq' => ?_))
  cases r with
  | error e => exact hx pins _ _ e s' I2 hq'
  | ok fl =>
    cases fl with
    | ret u =>
      obtain ⟨v, H', I3, rv, ev, q3⟩ := I2.after hq'
      subst ev
      exact ⟨rv, ⟨V.ref (s.heap.objs.size + 1), H', I3, rfl, q3⟩⟩
    | next => exact False.elim hq'
    | brk => exact False.elim hq'
    | cont => exact False.elim hq'
theorem pe_makeS (M : Mk X.K C f) (F : FnOk X.prog X.w X.K X.mg X.base CX k f fd ps sp) (hr : Room (k + 1) X.A) (hg : Gl X x) (hm : X.mg x = some (.ref C)) (hb : Binds X.K fd ps ds) (hd : Vals dvs ds) (hx : ∀ σ, PassesAt CX X σ (E σ))
    (ha : PA X (e :: es) t) (hdb : (x == ("__debug__" : Str)) = false := by decide) (he : starEach (e :: es) X.env = (false, eval e X.env) :: starEach es X.env := by rfl) (hpl : (backTo pos (starEach es X.env)).any (·.1) = false := by rfl) :
    PE X (.Call (.Name x p) (e :: es) [] pos) (tMakeS C sp dvs E t) := by
  refine ⟨fun pins s σ H Q I h => ?_⟩
  refine wpAny_Call_Name_kw (ld_glob I hg hm ?_ hdb)
  refine PySem.W.callWith_K (h₀ := X.base) I.ok.mod.kin M.kp (thn (ha.run pos pins s σ H _ I h) fun us s1 ⟨vs, H1, I1, r, q⟩ => ⟨I1.kIn, ?_⟩) he hpl
  exact run_makeS M F hr hb hd (hx σ) I1 r q
end
end TA5
namespace OwL
open PySem L2 PySem.Spec PyProof.Rows
/-! isinstance(x, (list, tuple)), x a tuple -/
theorem isi_ansT (t : Addr) : AnswersAll (fun s => s.TypeIs (.ref t) "tuple") (.ref t) [.type "list", .type "tuple"] [false, true] :=
  ⟨Answers.of_false_tuple (by decide +kernel) PySem.F.isi_meta_list PySem.F.sub_tuple_list, Answers.of_true PySem.F.isi_meta_tuple PySem.F.isi_sub_tuple, True.intro⟩
def tIsTT (K : PySem.W.Frag) (te : TE) : TE := fun σ H Q => te σ H fun x H1 => (∃ t xs, x = .ref t ∧ SqT K H1 t xs) ∧ ∀ T, H1 T = none → Q (.bl true) (upd H1 T (.tup [.ty "list", .ty "tuple"]))
section
variable {X : Cx} {p pos tpos : Pos} {e : PySem.Expr} {es : List PySem.Expr} {te : TE}
theorem pe_isiTT {k : Nat} (he : PE X e te) (hg : Gl X "isinstance") (hm : X.mg "isinstance" = none) (hes : PA X es (tCons (tC (.ty "list")) (tCons (tC (.ty "tuple")) tNil)))
    (hs1 : starEach [e, .Tuple es k tpos] X.env = (false, eval e X.env) :: starEach [.Tuple es k tpos] X.env := by rfl) (hs2 : starEach [.Tuple es k tpos] X.env = (false, eval (.Tuple es k tpos) X.env) :: starEach [] X.env := by rfl)
    (hpl : (backTo pos (starEach [.Tuple es k tpos] X.env)).any (·.1) = false := by rfl) :
    PE X (.Call (.Name "isinstance" p) [e, .Tuple es k tpos] [] pos) (tIsTT X.K te) := by
  refine ⟨fun pins s σ H Q I h => ?_⟩
  refine wpAny_Call_Name_kw (ld_blt I hg hm PyProof.Rows.boot_isinstance ?_ (by decide) (by decide))
  refine PyProof.Rows.callWith_builtin1 ?_ hs1 hpl
  rw [hs1]
  show wpAny _ _ (spliced ((false, eval e X.env) :: backTo pos (starEach [.Tuple es k tpos] X.env))) _ _ s
  refine Calls.spliced_cons (thn (he.run pins s σ H _ I h) fun u s1 ⟨x, H1, I1, r1, hx, q1⟩ => ?_)
  obtain ⟨t, xs, ex, hT⟩ := hx
  subst ex
  obtain rfl : u = Value.ref t := r1
  rw [hs2]
  show wpAny _ _ (spliced ((false, eval (.Tuple es k tpos) X.env) :: backTo pos (starEach [] X.env))) _ _ s1
  refine Calls.spliced_cons (wpAny_Tuple_spliced (thn (hes.run tpos pins s1 σ H1 (fun ys H' => ys = [.ty "list", .ty "tuple"] ∧ H' = H1) I1 ⟨rfl, rfl⟩) fun us s2 ⟨ys, H2, I2, r2, ey, eH⟩ => ?_))
  subst ey eH
  have eu := vals_ty2 r2
  subst eu
  refine ⟨by show 2 ≤ sizeLine; rw [sizeLine_eq]; omega, ?_⟩
  have hf := I2.hok.fresh (Nat.le_refl s2.heap.objs.size)
  have I3 := I2.laid (a := s2.heap.objs.size) (o := .tup [.ty "list", .ty "tuple"]) (h' := s2.heap.push { cls := .type "tuple", data := .seq [Value.type "list", Value.type "tuple"].toArray }) (t' := s2.toks) (fun b u e => Heap.get?_push_of_some _ e) (Nat.le_refl _)
    ⟨by show 2 ≤ sizeLine; rw [sizeLine_eq]; omega, [.type "list", .type "tuple"], r2, ⟨_, Heap.get?_push_size _ rfl, rfl, _, rfl⟩⟩
  obtain ⟨its, _, ⟨o, ho, hc, _⟩, _⟩ := I2.tuple hT
  refine Calls.spliced_nil ?_
  exact call_isinstance (isinstance_tuple (x := .ref t) (Tx := "tuple") (tp := s2.heap.objs.size) (isi_ansT t))
    ⟨⟨o, Heap.get?_push_of_some _ ho, hc⟩, Heap.get?_push_size _ rfl, fun tk => ⟨.bl true, _, I3.tok tk, rfl, q1 _ hf⟩⟩
end
end OwL
namespace K20
open PySem PySem.Spec PyProof.Rows L2 Evl RZ Ev2 TA5 Ow
abbrev s_first_crossing : Stmt := topS 37
abbrev N_first_crossing : List Str := ["facts", "index", "fact", "other"]
theorem sc_first_crossing : FnScope N_first_crossing ["facts"] (defScope s_first_crossing) := ⟨rfl, rfl, rfl, by decide +kernel, rfl, by decide +kernel, by decide +kernel⟩
abbrev s_check_facts : Stmt := topS 38
abbrev N_check_facts : List Str := ["left", "right", "facts", "pair", "index", "fact"]
theorem sc_check_facts : FnScope N_check_facts ["left", "right", "facts"] (defScope s_check_facts) := ⟨rfl, rfl, rfl, by decide +kernel, rfl, by decide +kernel, by decide +kernel⟩
abbrev s_F_init : Stmt := inClass (topS 41) 0
abbrev N_F_init : List Str := ["self", "left", "right", "facts"]
theorem sc_F_init : FnScope N_F_init ["self", "left", "right", "facts"] (defScope s_F_init) := ⟨rfl, rfl, rfl, by decide +kernel, rfl, by decide +kernel, by decide +kernel⟩
section
variable {K : PySem.W.Frag} {σ : L2.St} {H : Hp} {ta tb te tl : TE}
theorem evp_f0 {f : FR} (h : EvP te σ H (Fv f)) : EvP (tOp (rIxT K) te (tC (.int 0))) σ H (Wv f.w) := fun H1 e Q q => h H1 e _ fun v H2 e2 ⟨y, ⟨a, ev, ha⟩, hy⟩ =>
  ⟨a, _, 0, _, ev, rfl, st_of ha, show atI _ ((0 : Nat) : Int) = _ from atI_nat rfl, q _ H2 e2 hy⟩
theorem evp_f1 {f : FR} (h : EvP te σ H (Fv f)) : EvP (tOp (rIxT K) te (tC (.int 1))) σ H (Is (.int f.lo)) := fun H1 e Q q => h H1 e _ fun v H2 e2 ⟨y, ⟨a, ev, ha⟩, hy⟩ =>
  ⟨a, _, 1, _, ev, rfl, st_of ha, show atI _ ((1 : Nat) : Int) = _ from atI_nat rfl, q _ H2 e2 rfl⟩
theorem evp_f2 {f : FR} (h : EvP te σ H (Fv f)) : EvP (tOp (rIxT K) te (tC (.int 2))) σ H (Is (OI f.hi)) := fun H1 e Q q => h H1 e _ fun v H2 e2 ⟨y, ⟨a, ev, ha⟩, hy⟩ =>
  ⟨a, _, 2, _, ev, rfl, st_of ha, show atI _ ((2 : Nat) : Int) = _ from atI_nat rfl, q _ H2 e2 rfl⟩
theorem evp_atL {α : Type} {Pi : α → HP} {zs : List α} {z : α} {n : Nat} (m : ∀ z, Mono (Pi z)) (h : EvP ta σ H (LsP Pi zs)) (hb : EvP tb σ H (Is (.int (n : Int)))) (hz : zs[n]? = some z) : EvP (tOp (rIxL K) ta tb) σ H (Pi z) :=
  evp_op h hb (mono_lsP m) fun x y H1 _ ⟨p, ys, e, hp, pr⟩ hy Q q => by
    have hn : n < ys.length := by
      have := (List.getElem?_eq_some_iff.mp hz).1
      rw [Paired.len pr]; exact this
    obtain ⟨z', hz', hp'⟩ := paired_idx pr (List.getElem?_eq_getElem hn)
    rw [hz] at hz'
    cases hz'
    exact ⟨p, ys, _, _, e, hy, sq_of hp, atI_nat (List.getElem?_eq_getElem hn), q _ H1 (Ex.refl _) hp'⟩
end
theorem wv_mono (w : Wh) : Mono (Wv w) := (mf_wv w).mono
theorem fv_mono (f : FR) : Mono (Fv f) := (mf_fv f).mono
/-! what a list of facts is worth -/
def cx (es : List (Option FR)) (a b : Nat) : Bool := match es[a]?, es[b]? with
  | some (some f), some (some g) => crW f.w g.w
  | _, _ => false
def bad (es : List (Option FR)) (i : Nat) : Bool := (es[i]?).any fun e => !gdE e
inductive Pl
  | non
  | idx (i : Nat)
  | pair (i j : Nat)
def IsF (es : List (Option FR)) (i j : Nat) : Prop := i < j ∧ cx es i j = true ∧ ∀ a b, a < b → cx es a b = true → i < a ∨ (i = a ∧ j ≤ b)
def Err (es : List (Option FR)) : Pl → Prop
  | .non => 40 < es.length
  | .idx i => es.length ≤ 40 ∧ bad es i = true ∧ ∀ j, j < i → bad es j = false
  | .pair i j => es.length ≤ 40 ∧ (∀ k, bad es k = false) ∧ IsF es i j
structure Good (es : List (Option FR)) : Prop where
  len : es.length ≤ 40
  ok : ∀ k, bad es k = false
  no : ∀ a b, a < b → cx es a b = false
theorem err_one {es : List (Option FR)} {p q : Pl} (h : Err es p) (k : Err es q) : p = q := by
  cases p with
  | non => cases q with
    | non => rfl
    | idx i => have h : 40 < es.length := h; have := k.1; omega
    | pair i j => have h : 40 < es.length := h; have := k.1; omega
  | idx i => cases q with
    | non => have k : 40 < es.length := k; have := h.1; omega
    | idx j =>
      obtain ⟨_, h1, h2⟩ := h
      obtain ⟨_, k1, k2⟩ := k
      have : i = j := by
        rcases Nat.lt_trichotomy i j with hl | hl | hl
        · rw [k2 i hl] at h1; cases h1
        · exact hl
        · rw [h2 j hl] at k1; cases k1
      rw [this]
    | pair a b => obtain ⟨_, h1, _⟩ := h; obtain ⟨_, k1, _⟩ := k; rw [k1 i] at h1; cases h1
  | pair i j => cases q with
    | non => have k : 40 < es.length := k; have := h.1; omega
    | idx a => obtain ⟨_, h1, _⟩ := h; obtain ⟨_, k1, _⟩ := k; rw [h1 a] at k1; cases k1
    | pair a b =>
      obtain ⟨_, _, h1, h2, h3⟩ := h
      obtain ⟨_, _, k1, k2, k3⟩ := k
      have := h3 a b k1 k2
      have := k3 i j h1 h2
      have e1 : i = a := by omega
      have e2 : j = b := by omega
      rw [e1, e2]
theorem err_bad {es : List (Option FR)} {p : Pl} (h : Err es p) (g : Good es) : False := by
  cases p with
  | non => have h : 40 < es.length := h; have := g.len; omega
  | idx i => obtain ⟨_, h1, _⟩ := h; rw [g.ok i] at h1; cases h1
  | pair i j => obtain ⟨_, _, h1, h2, _⟩ := h; rw [g.no i j h1] at h2; cases h2
theorem bad_no {es : List (Option FR)} (h : ∀ k, k < es.length → bad es k = false) : ∀ k, bad es k = false := fun k => by
  by_cases hk : k < es.length
  · exact h k hk
  · unfold bad; rw [List.getElem?_eq_none (by omega)]; rfl
theorem cx_lt {es : List (Option FR)} {a b : Nat} (h : cx es a b = true) : a < es.length ∧ b < es.length := by
  constructor
  · refine Nat.lt_of_not_le fun hh => ?_
    unfold cx at h
    rw [List.getElem?_eq_none hh] at h
    cases h
  · refine Nat.lt_of_not_le fun hh => ?_
    unfold cx at h
    rw [List.getElem?_eq_none hh] at h
    cases h1 : es[a]? with
    | none => rw [h1] at h; cases h
    | some e => rw [h1] at h; cases e <;> cases h
theorem somes {es : List (Option FR)} (h : ∀ k, bad es k = false) : ∃ fs : List FR, es = fs.map some ∧ ∀ f ∈ fs, gdF f = true := by
  induction es with
  | nil => exact ⟨[], rfl, fun f h => nomatch h⟩
  | cons e es ih =>
    obtain ⟨fs, rfl, h2⟩ := ih fun k => h (k + 1)
    have h0 := h 0
    cases e with
    | none => cases h0
    | some f =>
      have h1 : gdF f = true := by
        have h0 : (!gdF f) = false := h0
        simpa using h0
      exact ⟨f :: fs, rfl, fun g hg => by
        rcases List.mem_cons.mp hg with rfl | hg
        · exact h1
        · exact h2 g hg⟩
theorem paired_some {H : Hp} : ∀ {ys : List V} {fs : List FR}, Paired (fun y e => Fe e y H) ys (fs.map some) → Paired (fun y f => Fv f y H) ys fs
  | [], [], _ => .nil
  | _ :: _, _ :: _, .cons h t => .cons h (paired_some t)
theorem some_paired {H : Hp} : ∀ {ys : List V} {fs : List FR}, Paired (fun y f => Fv f y H) ys fs → Paired (fun y e => Fe e y H) ys (fs.map some)
  | [], [], _ => .nil
  | _ :: _, _ :: _, .cons h t => .cons h (some_paired t)
theorem lsP_some {H : Hp} {fs : List FR} {v : V} : LsP Fe (fs.map some) v H ↔ LsP Fv fs v H := ⟨fun ⟨p, ys, h1, h2, h3⟩ => ⟨p, ys, h1, h2, paired_some h3⟩, fun ⟨p, ys, h1, h2, h3⟩ => ⟨p, ys, h1, h2, some_paired h3⟩⟩
theorem tsP_some {H : Hp} {fs : List FR} {v : V} : TsP Fe (fs.map some) v H ↔ TsP Fv fs v H := ⟨fun ⟨p, ys, h1, h2, h3⟩ => ⟨p, ys, h1, h2, paired_some h3⟩, fun ⟨p, ys, h1, h2, h3⟩ => ⟨p, ys, h1, h2, some_paired h3⟩⟩
/-- where it is wrong, as a value -/
def PlV : Pl → HP
  | .non => Is .non
  | .idx i => Is (.int (i : Int))
  | .pair i j => Pr (i : Int) (j : Int)
theorem plv_mono : ∀ p, Mono (PlV p)
  | .non => mono_is
  | .idx _ => mono_is
  | .pair _ _ => mono_pr
section
variable {K : PySem.W.Frag} {σ : L2.St} {H : Hp} {ta tb te tl : TE}
theorem evp_atT {α : Type} {Pi : α → HP} {zs : List α} {z : α} {n : Nat} (m : ∀ z, MonoF (Pi z)) (h : EvP ta σ H (TsP Pi zs)) (hb : EvP tb σ H (Is (.int (n : Int)))) (hz : zs[n]? = some z) : EvP (tOp (rIxT K) ta tb) σ H (Pi z) :=
  evp_op h hb (mf_tsP m).mono fun x y H1 _ ⟨p, ys, e, hp, pr⟩ hy Q q => by
    have hn : n < ys.length := by
      have := (List.getElem?_eq_some_iff.mp hz).1
      rw [Paired.len pr]; exact this
    obtain ⟨z', hz', hp'⟩ := paired_idx pr (List.getElem?_eq_getElem hn)
    rw [hz] at hz'
    cases hz'
    exact ⟨p, ys, _, _, e, hy, st_of hp, atI_nat (List.getElem?_eq_getElem hn), q _ H1 (Ex.refl _) hp'⟩
theorem evp_lenTP {α : Type} {Pi : α → HP} {zs : List α} (h : EvP te σ H (TsP Pi zs)) : EvP (tCB (rLenQ K) (tCons te tNil)) σ H (Is (.int (zs.length : Int))) := fun H1 e Q q => h H1 e _ fun v H2 e2 ⟨a, ys, ev, ha, pr⟩ => ⟨a, _, by rw [ev], .inr (st_of ha), by rw [Paired.len pr]; exact q _ H2 e2 rfl⟩
theorem for_enumT {K : PySem.W.Frag} {a : Addr} {xs : List V} {g : TG} {tb : TS} {D : Ends} {σ : L2.St} {H : Hp} (Pv : Nat → L2.St → Hp → Prop) (h0 : Pv 0 σ H) (hl : ∀ i σ H, Pv i σ H → SqT K H a xs)
    (hs : ∀ (i : Nat) (x : V) (T : Addr) (σ : L2.St) (H : Hp), xs[i]? = some x → Pv i σ H → H T = none → g (.ref T) σ (upd H T (.tup [.int (i : Nat), x])) fun σ2 H2 => tb { D with nx := Pv (i + 1), ct := Pv (i + 1), bk := D.nx } σ2 H2) (hd : ∀ σ H, Pv xs.length σ H → D.nx σ H) :
    ∃ W : Nat → Nat → L2.St → Hp → Prop, (∃ m, W 0 m σ H) ∧ ∀ i m σ H, W i m σ H → ((IteT K a).stop i H ∧ D.nx σ H) ∨ ((IteT K a).go i H ∧ ∃ N : L2.St → Hp → Prop, (∀ σ' H', N σ' H' → ∃ m', m' < m ∧ W (i + 1) m' σ' H') ∧ ∀ v H', (IteT K a).yld i H v H' → g v σ H' fun σ2 H2 => tb { D with nx := N, ct := N, bk := D.nx } σ2 H2) := by
  refine ⟨fun i m σ H => m = xs.length - i ∧ i ≤ xs.length ∧ Pv i σ H, ⟨xs.length, rfl, Nat.zero_le _, h0⟩, ?_⟩
  rintro i m σ H ⟨rfl, hi, pv⟩
  have ql := hl i σ H pv
  by_cases hlt : i < xs.length
  · refine .inr ⟨⟨xs, xs[i], ql, List.getElem?_eq_getElem hlt⟩, Pv (i + 1), fun σ' H' p' => ⟨xs.length - (i + 1), by omega, rfl, hlt, p'⟩, fun v H' y => ?_⟩
    obtain ⟨T, x, rfl, hT, rfl, f1⟩ := y
    exact hs i x T σ H (f1 xs ql) pv hT
  · have e : i = xs.length := by omega
    subst e
    exact .inl ⟨⟨xs, ql, Nat.le_refl _⟩, hd σ H pv⟩
end
section
variable {P : Program} {w : World} {K : PySem.W.Frag} {mg : Str → Option Value} {base : Heap} {tk : Tok} {k : Nat} {CV iV CP iP : Addr}
theorem no_first {es : List (Option FR)} (h : ¬ ∃ i j, IsF es i j) : ∀ a b, a < b → cx es a b = false := by
  -- the least number of a pair, counted a * n + b
  have key : ∀ n a b, a * es.length + b ≤ n → a < b → cx es a b = true → ∃ i j, IsF es i j := by
    intro n
    induction n using Nat.strongRecOn with
    | ind n ih =>
      intro a b hn hab hc
      by_cases hx : ∃ a' b', a' < b' ∧ cx es a' b' = true ∧ ¬ (a < a' ∨ (a = a' ∧ b ≤ b'))
      · obtain ⟨a', b', h1, h2, h3⟩ := hx
        have hb' := (cx_lt h2).2
        have hlt : a' * es.length + b' < a * es.length + b := by
          by_cases he : a = a'
          · subst he; omega
          · have h4 : a' < a := by omega
            have h5 : (a' + 1) * es.length ≤ a * es.length := Nat.mul_le_mul_right _ h4
            rw [Nat.succ_mul] at h5
            omega
        exact ih (a' * es.length + b') (by omega) a' b' (Nat.le_refl _) h1 h2
      · refine ⟨a, b, hab, hc, fun a' b' h1 h2 => ?_⟩
        refine Classical.byContradiction fun h3 => hx ⟨a', b', h1, h2, h3⟩
  intro a b hab
  cases hc : cx es a b with
  | false => rfl
  | true => exact absurd (key _ a b (Nat.le_refl _) hab hc) h
def spFirstL : Sp := fun vs H Q _ => ∃ (v : V) (l r : Int) (es : List (Option FR)), vs = [v] ∧ LsP Fe es v H ∧ (∀ e ∈ es, ElOk l r e) ∧ (∀ k, bad es k = false) ∧ es.length ≤ 40 ∧ ((∀ a b, a < b → cx es a b = false) → ∀ H2, Evl.Ex H H2 → Q .non H2) ∧ (∀ i j, IsF es i j → ∀ x H2, Evl.Ex H H2 → Pr (i : Int) (j : Int) x H2 → Q x H2)
theorem ok_firstL {f f1 : Addr} {fd fd1 : FuncData} (D_crosses : Df K mg "crosses" s_crosses ["one", "other"] f1 fd1) (G_crosses : FnOk P w K mg base CX0 (k + 1) f1 fd1 ["one", "other"] spCross) (T : Txt mg tk)
    (D : Df K mg "first_crossing" s_first_crossing ["facts"] f fd) : FnOk P w K mg base CX0 (k + 2) f fd ["facts"] spFirstL := by
  refine D.F.ok sc_first_crossing (fun vs H Q E h => ?_) (fun cdv A outer s0 H vs Q E hr h => ?_)
  · obtain ⟨v, l, r, es, rfl, _⟩ := h
    rfl
  · obtain ⟨v, l, r, es, rfl, ⟨p, ys, rfl, hp, pr⟩, hok, hgd, hlen, q0, q1⟩ := h
    have nd := sc_first_crossing.nd
    refine ⟨_, (pss_cons (ps_for PassesOwn.never rfl (pi_enum (by rfl) T.n_enumerate (pa_cons (pv 0) pa_nil)) (pg_tup rfl (pgs_cons (pg_name (i := 1) nd rfl (Or.inl rfl)) (pgs_cons (pg_name (i := 2) nd rfl (Or.inl rfl)) pgs_nil))) (pss_one (ps_for PassesOwn.never rfl (pi_range2 (by rfl) T.n_range (pa_cons (pe_op op_add (pv 1) pe_int) (pa_cons (pe_callB (r := rLenQ K) call_len_seq (by rfl) T.n_len PySem.boot_len (pa_cons (pv 0) pa_nil)) pa_nil))) (pg_name (i := 3) nd rfl (Or.inl rfl)) (pss_one (ps_if (pt_val (pe_call G_crosses (hr.mono (by omega)) (by rfl) D_crosses.g D_crosses.F.kp D_crosses.b .nil pass0 (pa_cons (pe_ix (r := rIxT K) ix_tup (pv 2) pe_int (fun _ _ => rfl)) (pa_cons (pe_ix (r := rIxT K) ix_tup (pe_ix (r := rIxL K) ix_list (pv 0) (pv 3) (fun _ _ => rfl)) pe_int (fun _ _ => rfl)) pa_nil)))) (pss_one (ps_ret (pe_tup (pa_cons (pv 1) (pa_cons (pv 3) pa_nil))))) pss_nil))))) (pss_one (ps_ret pe_non))), ?_⟩
    obtain ⟨fs, rfl, hgf⟩ := somes hgd
    rw [List.length_map] at hlen
    have prF := paired_some pr
    have hyl := Paired.len prF
    have vf : ∀ {σ' : L2.St} {H' : Hp}, σ'[0]? = some (some (.ref p)) → Evl.Ex H H' → EvP (tVar 0) σ' H' (LsP Fv fs) := fun h e => evp_var h ((mono_lsP fv_mono) _ _ _ e ⟨p, ys, rfl, hp, prF⟩) (mono_lsP fv_mono)
    have hcx : ∀ a b (f g : FR), fs[a]? = some f → fs[b]? = some g → cx (fs.map some) a b = crW f.w g.w := fun a b f g h1 h2 => by
      unfold cx
      rw [List.getElem?_map, List.getElem?_map, h1, h2]
      rfl
    refine ⟨.ref p, rfl, p, ys, rfl, sq_of hp, ?_⟩
    refine for_enum (fun i σ' H' => ∃ s1 s2 s3, σ' = [some (.ref p), s1, s2, s3] ∧ Evl.Ex H H' ∧ ∀ a b, a < b → a < i → cx (fs.map some) a b = false) ⟨_, _, _, rfl, Ex.refl _, fun a b _ h => absurd h (Nat.not_lt_zero _)⟩ (fun i σ' H' ⟨_, _, _, _, e, _⟩ => sq_of (e _ _ hp)) (fun i x T σ' H' hx ⟨s1, s2, s3, hs, e, hno⟩ hT => ?_) (fun σ' H' ⟨s1, s2, s3, hs, e, hno⟩ => ?_)
    · subst hs
      obtain ⟨g, hg, hgx⟩ := paired_idx prF hx
      have hi : i < fs.length := (List.getElem?_eq_some_iff.mp hg).1
      have e1 : Evl.Ex H (upd H' T (.tup [.int (i : Int), x])) := e.trans (Ex.new hT)
      have hT1 : (upd H' T (.tup [.int (i : Int), x])) T = some (.tup [.int (i : Int), x]) := upd_same
      generalize upd H' T (.tup [.int (i : Int), x]) = H1 at e1 hT1
      refine ⟨T, _, rfl, st_of hT1, rfl, _, _, rfl, _, _, rfl, rfl, ?_⟩
      have hevp_lenLs : ∀ {σ' : L2.St} {H' : Hp}, σ'[0]? = some (some (.ref p)) → Evl.Ex H H' → EvP (tCB (rLenQ K) (tCons (tVar 0) tNil)) σ' H' (Is (.int (fs.length : Int))) := fun h e => evp_lenLs (K := K) (vf h e)
      refine s_forR2 (lo := ((i + 1 : Nat) : Int)) (n := (fs.length : Int)) (fun H2 e2 Q q => eap_two (P := Is (.int ((i + 1 : Nat) : Int))) (evp_is (evp_I0 (g := fun i j => .int (i + j)) (evp_var (v := .int (i : Int)) (i := 1) rfl rfl mono_is) (evp_c (v := .int 1))) (by rw [show ((i + 1 : Nat) : Int) = (i : Int) + 1 by omega])) (hevp_lenLs rfl e1) mono_is H2 e2 _ fun vs H3 e3 ⟨a, b, hv, ha, hb⟩ => by rw [hv, show a = _ from ha, show b = _ from hb]; exact q H3 e3) (by omega)
        (fun j σ' H' => ∃ s3, σ' = [some (.ref p), some (.int (i : Int)), some x, s3] ∧ Evl.Ex H H' ∧ ∀ b, i < b → b < i + 1 + j → cx (fs.map some) i b = false) (fun H2 e2 => ⟨_, rfl, e1.trans e2, fun b h1 h2 => by omega⟩) (fun j σ' H' hj ⟨s3, hs, e2, hin⟩ => ?_) (fun σ' H' ⟨s3, hs, e2, hin⟩ => ⟨_, _, _, hs, e2, fun a b h1 h2 => ?_⟩)
      · subst hs
        obtain ⟨g2, hg2⟩ : ∃ g2, fs[i + 1 + j]? = some g2 := ⟨_, List.getElem?_eq_getElem (by omega)⟩
        have m1 : ElOk l r (some g) := hok _ (List.mem_map.mpr ⟨g, List.mem_of_getElem? hg, rfl⟩)
        have m2 : ElOk l r (some g2) := hok _ (List.mem_map.mpr ⟨g2, List.mem_of_getElem? hg2, rfl⟩)
        have hc := hcx i (i + 1 + j) g g2 hg hg2
        refine s_when (σ := [some (.ref p), some (.int (i : Int)), some x, some (.int (((i + 1 : Nat) : Int) + (j : Int)))]) (b := crW g.w g2.w) (et_bl (evp_call (E := E0) (sp := spCross) (eap_two (P := Wv g.w) (R := Wv g2.w) (evp_f0 (K := K) (evp_var (i := 2) rfl (fv_mono _ _ _ _ e2 hgx) (fv_mono g))) (evp_f0 (K := K) (evp_atL (K := K) (n := i + 1 + j) fv_mono (vf rfl e2) (evp_is (evp_var (i := 3) (v := .int (((i + 1 : Nat) : Int) + (j : Int))) rfl rfl mono_is) (by rw [show ((i + 1 + j : Nat) : Int) = ((i + 1 : Nat) : Int) + (j : Int) by omega])) hg2)) (wv_mono _)) (fun vs H2 ⟨a, b, hv, ha, hb⟩ Q q E => ⟨a, b, l, r, g.w, g2.w, hv, ha, hb, m1.1, m2.1, q⟩))) (fun hb H2 e3 => ?_) fun hb H2 e3 => ⟨_, rfl, e2.trans e3, fun b h1 h2 => ?_⟩
        · refine evp_pr (i := (i : Int)) (j := ((i + 1 + j : Nat) : Int)) (evp_var (i := 1) rfl rfl mono_is) (evp_is (evp_var (i := 3) (v := .int (((i + 1 : Nat) : Int) + (j : Int))) rfl rfl mono_is) (by rw [show ((i + 1 + j : Nat) : Int) = ((i + 1 : Nat) : Int) + (j : Int) by omega])) H2 (Ex.refl _) _ fun v H3 e4 hv => q1 i (i + 1 + j) ⟨by omega, by rw [hc, hb], fun a b h1 h2 => ?_⟩ v H3 ((e2.trans e3).trans e4) hv
          by_cases hai : a < i
          · rw [hno a b h1 hai] at h2; cases h2
          · by_cases hai2 : i < a
            · exact .inl hai2
            · have : i = a := by omega
              subst this
              refine .inr ⟨rfl, ?_⟩
              refine Nat.le_of_not_lt fun hlt => ?_
              rw [hin b h1 hlt] at h2; cases h2
        · by_cases h3 : b < i + 1 + j
          · exact hin b h1 h3
          · have : b = i + 1 + j := by omega
            rw [this, hc, hb]
      · by_cases hai : a < i
        · exact hno a b h1 hai
        · have : a = i := by omega
          subst this
          cases hh : cx (fs.map some) a b with
          | false => rfl
          | true =>
            have h4 := (cx_lt hh).2
            rw [List.length_map] at h4
            rw [hin b h1 (by omega)] at hh
            cases hh
    · exact q0 (fun a b h1 => by
        cases hh : cx (fs.map some) a b with
        | false => rfl
        | true =>
          have h4 := (cx_lt hh).1
          rw [List.length_map] at h4
          rw [hno a b h1 (by omega)] at hh
          cases hh) H' e
def spChkL (CP : Addr) : Sp := fun vs H Q E => ∃ (v : V) (l r : Int) (es : List (Option FR)), vs = [.int l, .int r, v] ∧ LsP Fe es v H ∧ (∀ e ∈ es, ElOk l r e) ∧ (Good es → ∀ H2, Evl.Ex H H2 → Q .non H2) ∧ (∀ pl, Err es pl → ∀ x H1, Evl.Ex H H1 → PlV pl x H1 → Rz "place" CP x H1 E)
theorem ok_chkL {f f1 f2 : Addr} {fd fd1 fd2 : FuncData} {tk2 : Tok} (EP : EPT K mg CP iP) (c_MF : mg "MOST_FACTS" = some (.int 40 tk2)) (D_is_fact : Df K mg "is_fact" s_is_fact ["left", "right", "value"] f1 fd1) (G_is_fact : FnOk P w K mg base CX0 (k + 6) f1 fd1 ["left", "right", "value"] spFact)
    (D_first_crossing : Df K mg "first_crossing" s_first_crossing ["facts"] f2 fd2) (G_first_crossing : FnOk P w K mg base CX0 (k + 2) f2 fd2 ["facts"] spFirstL) (T : Txt mg tk)
    (D : Df K mg "check_facts" s_check_facts ["left", "right", "facts"] f fd) : FnOk P w K mg base (L2.CX P w) (k + 7) f fd ["left", "right", "facts"] (spChkL CP) := by
  refine D.F.okX sc_check_facts (fun vs H Q E h => ?_) (fun cdv A outer s0 H vs Q E hr h => ?_)
  · obtain ⟨v, l, r, es, rfl, _⟩ := h
    rfl
  · obtain ⟨v, l, r, es, rfl, ⟨p, ys, rfl, hp, pr⟩, hok, q0, q1⟩ := h
    have nd := sc_check_facts.nd
    refine ⟨_, (pss_cons (ps_if (PW.pt (pw_or (pt_not (pt_val (OwL.pe_isiLT (pv 2) (by rfl) T.n_isinstance (pa_cons (pe_bltn (v := .ty "list") (by rfl) T.n_list PyProof.Rows.boot_list rfl) (pa_cons (pe_bltn (v := .ty "tuple") (by rfl) T.n_tuple PyProof.Rows.boot_tuple rfl) pa_nil))))) (pw_or1 (pt_cmpR op_gt (pe_callB (r := rLenQ K) call_len_seq (by rfl) T.n_len PySem.boot_len (pa_cons (pv 2) pa_nil)) (pe_glob (v := .int 40) rfl c_MF ⟨_, rfl⟩) (nomark _))))) (pss_one (ErrPL.ps_raiseErr rfl EP hr (takes_of rfl rfl rfl rfl) (pa_cons pe_non pa_nil))) pss_nil) (pss_cons (ps_for (passes_of rfl) rfl (pi_enum (by rfl) T.n_enumerate (pa_cons (pv 2) pa_nil)) (pg_tup rfl (pgs_cons (pg_name (i := 4) nd rfl (Or.inl rfl)) (pgs_cons (pg_name (i := 5) nd rfl (Or.inl rfl)) pgs_nil))) (pss_one (ps_if (pt_not (pt_val (pe_call G_is_fact (hr.mono (by omega)) (by rfl) D_is_fact.g D_is_fact.F.kp D_is_fact.b .nil pass0 (pa_cons (pv 0) (pa_cons (pv 1) (pa_cons (pv 5) pa_nil)))))) (pss_one (ErrPL.ps_raiseErr rfl EP hr (takes_of rfl rfl rfl rfl) (pa_cons (pv 4) pa_nil))) pss_nil))) (pss_cons (ps_set (i := 3) nd rfl (Or.inl rfl) (pe_call G_first_crossing (hr.mono (by omega)) (by rfl) D_first_crossing.g D_first_crossing.F.kp D_first_crossing.b .nil pass0 (pa_cons (pv 2) pa_nil))) (pss_one (ps_if (pt_cmpR (r := rNoN) op_notN (pv 3) pe_non (nomark _)) (pss_one (ErrPL.ps_raiseErr rfl EP hr (takes_of rfl rfl rfl rfl) (pa_cons (pv 3) pa_nil))) pss_nil))))), ?_⟩
    have hyl := Paired.len pr
    have vf : ∀ {σ' : L2.St} {H' : Hp}, σ'[2]? = some (some (.ref p)) → Evl.Ex H H' → EvP (tVar 2) σ' H' (LsP Fe es) := fun h e => evp_var h ((mono_lsP fe_mono) _ _ _ e ⟨p, ys, rfl, hp, pr⟩) (mono_lsP fe_mono)
    refine q_when (b := decide (40 < es.length)) (et_is (et_or (a := false) (b := decide (40 < es.length)) (et_is (et_not (et_bl (b := true) (fun H1 e1 Q q => vf rfl (Ex.refl _) H1 e1 _ fun v H2 e2 ⟨a, zs, ev, ha, _⟩ => ⟨⟨a, zs, ev, sq_of ha⟩, fun t ht => q _ _ (e2.trans (Ex.new ht)) rfl⟩))) rfl) fun _ => et_tst (evp_is (evp_I0 (g := fun i j => .bl (decide (i > j))) (evp_lenLs (K := K) (vf rfl (Ex.refl _))) (evp_c (v := .int 40))) (by rw [show decide ((es.length : Int) > 40) = decide (40 < es.length) from decide_eq_decide.mpr (by omega)]))) (by rw [Bool.false_or])) (fun hb H1 e1 => ?_) fun hb H1 e1 => ?_
    · exact ⟨.non, rfl, fun d hd => q1 .non (show Err es .non from (of_decide_eq_true hb : 40 < es.length)) .non H1 e1 rfl d _ (Ex.new hd) upd_same⟩
    have hlen : es.length ≤ 40 := by have := of_decide_eq_false hb; omega
    -- each one
    refine ⟨.ref p, rfl, p, ys, rfl, sq_of (e1 _ _ hp), ?_⟩
    refine for_enum (fun i σ' H' => ∃ s3 s4 s5, σ' = [some (.int l), some (.int r), some (.ref p), s3, s4, s5] ∧ Evl.Ex H H' ∧ ∀ j, j < i → bad es j = false) ⟨_, _, _, rfl, e1, fun j h => absurd h (Nat.not_lt_zero _)⟩ (fun i σ' H' ⟨_, _, _, _, e, _⟩ => sq_of (e _ _ hp)) (fun i x T σ' H' hx ⟨s3, s4, s5, hs, e, hno⟩ hT => ?_) (fun σ' H' ⟨s3, s4, s5, hs, e, hno⟩ => ?_)
    · subst hs
      obtain ⟨g, hg, hgx⟩ := paired_idx pr hx
      have e2 : Evl.Ex H (upd H' T (.tup [.int (i : Int), x])) := e.trans (Ex.new hT)
      have hT1 : (upd H' T (.tup [.int (i : Int), x])) T = some (.tup [.int (i : Int), x]) := upd_same
      generalize upd H' T (.tup [.int (i : Int), x]) = H1 at e2 hT1
      refine ⟨T, _, rfl, st_of hT1, rfl, _, _, rfl, _, _, rfl, rfl, ?_⟩
      have hm := List.mem_of_getElem? hg
      have hbd : bad es i = !gdE g := by unfold bad; rw [hg]; rfl
      refine s_when (σ := [some (.int l), some (.int r), some (.ref p), s3, some (.int (i : Int)), some x]) (b := !gdE g) (et_not (et_bl (evp_call (E := E0) (sp := spFact) (eap_three (P := Is (.int l)) (R := Is (.int r)) (S := Fe g) (evp_var (i := 0) rfl rfl mono_is) (evp_var (i := 1) rfl rfl mono_is) (evp_var (i := 5) rfl (fe_mono _ _ _ _ e2 hgx) (fe_mono g)) mono_is mono_is) (fun vs H2 ⟨a, b, c, hv, ha, hb, hc⟩ Q q E => ⟨l, r, c, g, by rw [hv, show a = _ from ha, show b = _ from hb], hc, hok g hm, q⟩)))) (fun hb H2 e3 => ?_) fun hb H2 e3 => ⟨_, _, _, rfl, e2.trans e3, fun j hj => ?_⟩
      · exact ⟨.int (i : Int), rfl, .int (i : Int), rfl, fun d hd => q1 (.idx i) ⟨hlen, by rw [hbd, hb], hno⟩ (.int (i : Int)) H2 (e2.trans e3) rfl d _ (Ex.new hd) upd_same⟩
      · by_cases h3 : j < i
        · exact hno j h3
        · have : j = i := by omega
          rw [this, hbd, hb]
    · subst hs
      have hall : ∀ k, bad es k = false := bad_no fun k hk => hno k (by rw [hyl]; exact hk)
      by_cases hx : ∃ i j, IsF es i j
      · obtain ⟨i, j, hF⟩ := hx
        refine q_asgP (P := Pr (i : Int) (j : Int)) (evp_call (E := E0) (sp := spFirstL) (eap_one (vf rfl e)) fun vs H2 ⟨a, hv, ha⟩ Q q E => ⟨a, l, r, es, hv, ha, hok, hall, hlen, fun h => absurd hF.2.1 (by rw [h i j hF.1]; decide), fun i' j' hF' x H3 e3 hx => ?_⟩) fun v3 H2 e2 h3 => ?_
        · have := err_one (es := es) (p := .pair i j) (q := .pair i' j') ⟨hlen, hall, hF⟩ ⟨hlen, hall, hF'⟩
          cases this
          exact q x H3 e3 hx
        · have h3a := h3
          obtain ⟨t, rfl, ht⟩ := h3a
          refine s_when (σ := [some (.int l), some (.int r), some (.ref p), some (.ref t), s4, s5]) (b := true) (et_tst (evp_is (evp_noN (evp_var (i := 3) rfl rfl mono_is)) rfl)) (fun _ H3 e3 => ?_) fun z => nomatch z
          exact ⟨.ref t, rfl, .ref t, rfl, fun d hd => q1 (.pair i j) ⟨hlen, hall, hF⟩ (.ref t) H3 ((e.trans e2).trans e3) (mono_pr _ _ _ e3 h3) d _ (Ex.new hd) upd_same⟩
      · have hno2 : ∀ a b, a < b → cx es a b = false := no_first hx
        refine q_asgP (P := Is .non) (evp_call (E := E0) (sp := spFirstL) (eap_one (vf rfl e)) fun vs H2 ⟨a, hv, ha⟩ Q q E => ⟨a, l, r, es, hv, ha, hok, hall, hlen, fun h H3 e3 => q _ H3 e3 rfl, fun i' j' hF' x H3 e3 _ => absurd ⟨i', j', hF'⟩ hx⟩) fun v3 H2 e2 h3 => ?_
        have h3' : v3 = .non := h3
        subst h3'
        exact s_when (σ := [some (.int l), some (.int r), some (.ref p), some .non, s4, s5]) (b := false) (et_tst (evp_is (evp_noN (evp_var (i := 3) rfl rfl mono_is)) rfl)) (fun z => nomatch z) fun _ H3 e3 => q0 ⟨hlen, hall, hno2⟩ H3 ((e.trans e2).trans e3)
def spFirstT : Sp := fun vs H Q _ => ∃ (v : V) (l r : Int) (es : List (Option FR)), vs = [v] ∧ TsP Fe es v H ∧ (∀ e ∈ es, ElOk l r e) ∧ (∀ k, bad es k = false) ∧ es.length ≤ 40 ∧ ((∀ a b, a < b → cx es a b = false) → ∀ H2, Evl.Ex H H2 → Q .non H2) ∧ (∀ i j, IsF es i j → ∀ x H2, Evl.Ex H H2 → Pr (i : Int) (j : Int) x H2 → Q x H2)
theorem ok_firstT {f f1 : Addr} {fd fd1 : FuncData} (D_crosses : Df K mg "crosses" s_crosses ["one", "other"] f1 fd1) (G_crosses : FnOk P w K mg base CX0 (k + 1) f1 fd1 ["one", "other"] spCross) (T : Txt mg tk)
    (D : Df K mg "first_crossing" s_first_crossing ["facts"] f fd) : FnOk P w K mg base CX0 (k + 2) f fd ["facts"] spFirstT := by
  refine D.F.ok sc_first_crossing (fun vs H Q E h => ?_) (fun cdv A outer s0 H vs Q E hr h => ?_)
  · obtain ⟨v, l, r, es, rfl, _⟩ := h
    rfl
  · obtain ⟨v, l, r, es, rfl, ⟨p, ys, rfl, hp, pr⟩, hok, hgd, hlen, q0, q1⟩ := h
    have nd := sc_first_crossing.nd
    refine ⟨_, (pss_cons (ps_for PassesOwn.never rfl (pi_enumT (by rfl) T.n_enumerate (pa_cons (pv 0) pa_nil)) (pg_tup rfl (pgs_cons (pg_name (i := 1) nd rfl (Or.inl rfl)) (pgs_cons (pg_name (i := 2) nd rfl (Or.inl rfl)) pgs_nil))) (pss_one (ps_for PassesOwn.never rfl (pi_range2 (by rfl) T.n_range (pa_cons (pe_op op_add (pv 1) pe_int) (pa_cons (pe_callB (r := rLenQ K) call_len_seq (by rfl) T.n_len PySem.boot_len (pa_cons (pv 0) pa_nil)) pa_nil))) (pg_name (i := 3) nd rfl (Or.inl rfl)) (pss_one (ps_if (pt_val (pe_call G_crosses (hr.mono (by omega)) (by rfl) D_crosses.g D_crosses.F.kp D_crosses.b .nil pass0 (pa_cons (pe_ix (r := rIxT K) ix_tup (pv 2) pe_int (fun _ _ => rfl)) (pa_cons (pe_ix (r := rIxT K) ix_tup (pe_ix (r := rIxT K) ix_tup (pv 0) (pv 3) (fun _ _ => rfl)) pe_int (fun _ _ => rfl)) pa_nil)))) (pss_one (ps_ret (pe_tup (pa_cons (pv 1) (pa_cons (pv 3) pa_nil))))) pss_nil))))) (pss_one (ps_ret pe_non))), ?_⟩
    obtain ⟨fs, rfl, hgf⟩ := somes hgd
    rw [List.length_map] at hlen
    have prF := paired_some pr
    have hyl := Paired.len prF
    have vf : ∀ {σ' : L2.St} {H' : Hp}, σ'[0]? = some (some (.ref p)) → Evl.Ex H H' → EvP (tVar 0) σ' H' (TsP Fv fs) := fun h e => evp_var h ((mf_tsP mf_fv).mono _ _ _ e ⟨p, ys, rfl, hp, prF⟩) (mf_tsP mf_fv).mono
    have hcx : ∀ a b (f g : FR), fs[a]? = some f → fs[b]? = some g → cx (fs.map some) a b = crW f.w g.w := fun a b f g h1 h2 => by
      unfold cx
      rw [List.getElem?_map, List.getElem?_map, h1, h2]
      rfl
    refine ⟨.ref p, rfl, p, ys, rfl, st_of hp, ?_⟩
    refine for_enumT (fun i σ' H' => ∃ s1 s2 s3, σ' = [some (.ref p), s1, s2, s3] ∧ Evl.Ex H H' ∧ ∀ a b, a < b → a < i → cx (fs.map some) a b = false) ⟨_, _, _, rfl, Ex.refl _, fun a b _ h => absurd h (Nat.not_lt_zero _)⟩ (fun i σ' H' ⟨_, _, _, _, e, _⟩ => st_of (e _ _ hp)) (fun i x T σ' H' hx ⟨s1, s2, s3, hs, e, hno⟩ hT => ?_) (fun σ' H' ⟨s1, s2, s3, hs, e, hno⟩ => ?_)
    · subst hs
      obtain ⟨g, hg, hgx⟩ := paired_idx prF hx
      have hi : i < fs.length := (List.getElem?_eq_some_iff.mp hg).1
      have e1 : Evl.Ex H (upd H' T (.tup [.int (i : Int), x])) := e.trans (Ex.new hT)
      have hT1 : (upd H' T (.tup [.int (i : Int), x])) T = some (.tup [.int (i : Int), x]) := upd_same
      generalize upd H' T (.tup [.int (i : Int), x]) = H1 at e1 hT1
      refine ⟨T, _, rfl, st_of hT1, rfl, _, _, rfl, _, _, rfl, rfl, ?_⟩
      have hevp_lenTP : ∀ {σ' : L2.St} {H' : Hp}, σ'[0]? = some (some (.ref p)) → Evl.Ex H H' → EvP (tCB (rLenQ K) (tCons (tVar 0) tNil)) σ' H' (Is (.int (fs.length : Int))) := fun h e => evp_lenTP (K := K) (vf h e)
      refine s_forR2 (lo := ((i + 1 : Nat) : Int)) (n := (fs.length : Int)) (fun H2 e2 Q q => eap_two (P := Is (.int ((i + 1 : Nat) : Int))) (evp_is (evp_I0 (g := fun i j => .int (i + j)) (evp_var (v := .int (i : Int)) (i := 1) rfl rfl mono_is) (evp_c (v := .int 1))) (by rw [show ((i + 1 : Nat) : Int) = (i : Int) + 1 by omega])) (hevp_lenTP rfl e1) mono_is H2 e2 _ fun vs H3 e3 ⟨a, b, hv, ha, hb⟩ => by rw [hv, show a = _ from ha, show b = _ from hb]; exact q H3 e3) (by omega)
        (fun j σ' H' => ∃ s3, σ' = [some (.ref p), some (.int (i : Int)), some x, s3] ∧ Evl.Ex H H' ∧ ∀ b, i < b → b < i + 1 + j → cx (fs.map some) i b = false) (fun H2 e2 => ⟨_, rfl, e1.trans e2, fun b h1 h2 => by omega⟩) (fun j σ' H' hj ⟨s3, hs, e2, hin⟩ => ?_) (fun σ' H' ⟨s3, hs, e2, hin⟩ => ⟨_, _, _, hs, e2, fun a b h1 h2 => ?_⟩)
      · subst hs
        obtain ⟨g2, hg2⟩ : ∃ g2, fs[i + 1 + j]? = some g2 := ⟨_, List.getElem?_eq_getElem (by omega)⟩
        have m1 : ElOk l r (some g) := hok _ (List.mem_map.mpr ⟨g, List.mem_of_getElem? hg, rfl⟩)
        have m2 : ElOk l r (some g2) := hok _ (List.mem_map.mpr ⟨g2, List.mem_of_getElem? hg2, rfl⟩)
        have hc := hcx i (i + 1 + j) g g2 hg hg2
        refine s_when (σ := [some (.ref p), some (.int (i : Int)), some x, some (.int (((i + 1 : Nat) : Int) + (j : Int)))]) (b := crW g.w g2.w) (et_bl (evp_call (E := E0) (sp := spCross) (eap_two (P := Wv g.w) (R := Wv g2.w) (evp_f0 (K := K) (evp_var (i := 2) rfl (fv_mono _ _ _ _ e2 hgx) (fv_mono g))) (evp_f0 (K := K) (evp_atT (K := K) (n := i + 1 + j) mf_fv (vf rfl e2) (evp_is (evp_var (i := 3) (v := .int (((i + 1 : Nat) : Int) + (j : Int))) rfl rfl mono_is) (by rw [show ((i + 1 + j : Nat) : Int) = ((i + 1 : Nat) : Int) + (j : Int) by omega])) hg2)) (wv_mono _)) (fun vs H2 ⟨a, b, hv, ha, hb⟩ Q q E => ⟨a, b, l, r, g.w, g2.w, hv, ha, hb, m1.1, m2.1, q⟩))) (fun hb H2 e3 => ?_) fun hb H2 e3 => ⟨_, rfl, e2.trans e3, fun b h1 h2 => ?_⟩
        · refine evp_pr (i := (i : Int)) (j := ((i + 1 + j : Nat) : Int)) (evp_var (i := 1) rfl rfl mono_is) (evp_is (evp_var (i := 3) (v := .int (((i + 1 : Nat) : Int) + (j : Int))) rfl rfl mono_is) (by rw [show ((i + 1 + j : Nat) : Int) = ((i + 1 : Nat) : Int) + (j : Int) by omega])) H2 (Ex.refl _) _ fun v H3 e4 hv => q1 i (i + 1 + j) ⟨by omega, by rw [hc, hb], fun a b h1 h2 => ?_⟩ v H3 ((e2.trans e3).trans e4) hv
          by_cases hai : a < i
          · rw [hno a b h1 hai] at h2; cases h2
          · by_cases hai2 : i < a
            · exact .inl hai2
            · have : i = a := by omega
              subst this
              refine .inr ⟨rfl, ?_⟩
              refine Nat.le_of_not_lt fun hlt => ?_
              rw [hin b h1 hlt] at h2; cases h2
        · by_cases h3 : b < i + 1 + j
          · exact hin b h1 h3
          · have : b = i + 1 + j := by omega
            rw [this, hc, hb]
      · by_cases hai : a < i
        · exact hno a b h1 hai
        · have : a = i := by omega
          subst this
          cases hh : cx (fs.map some) a b with
          | false => rfl
          | true =>
            have h4 := (cx_lt hh).2
            rw [List.length_map] at h4
            rw [hin b h1 (by omega)] at hh
            cases hh
    · exact q0 (fun a b h1 => by
        cases hh : cx (fs.map some) a b with
        | false => rfl
        | true =>
          have h4 := (cx_lt hh).1
          rw [List.length_map] at h4
          rw [hno a b h1 (by omega)] at hh
          cases hh) H' e
def spChkT (CP : Addr) : Sp := fun vs H Q E => ∃ (v : V) (l r : Int) (es : List (Option FR)), vs = [.int l, .int r, v] ∧ TsP Fe es v H ∧ (∀ e ∈ es, ElOk l r e) ∧ (Good es → ∀ H2, Evl.Ex H H2 → Q .non H2) ∧ (∀ pl, Err es pl → ∀ x H1, Evl.Ex H H1 → PlV pl x H1 → Rz "place" CP x H1 E)
theorem ok_chkT {f f1 f2 : Addr} {fd fd1 fd2 : FuncData} {tk2 : Tok} (EP : EPT K mg CP iP) (c_MF : mg "MOST_FACTS" = some (.int 40 tk2)) (D_is_fact : Df K mg "is_fact" s_is_fact ["left", "right", "value"] f1 fd1) (G_is_fact : FnOk P w K mg base CX0 (k + 6) f1 fd1 ["left", "right", "value"] spFact)
    (D_first_crossing : Df K mg "first_crossing" s_first_crossing ["facts"] f2 fd2) (G_first_crossing : FnOk P w K mg base CX0 (k + 2) f2 fd2 ["facts"] spFirstT) (T : Txt mg tk)
    (D : Df K mg "check_facts" s_check_facts ["left", "right", "facts"] f fd) : FnOk P w K mg base (L2.CX P w) (k + 7) f fd ["left", "right", "facts"] (spChkT CP) := by
  refine D.F.okX sc_check_facts (fun vs H Q E h => ?_) (fun cdv A outer s0 H vs Q E hr h => ?_)
  · obtain ⟨v, l, r, es, rfl, _⟩ := h
    rfl
  · obtain ⟨v, l, r, es, rfl, ⟨p, ys, rfl, hp, pr⟩, hok, q0, q1⟩ := h
    have nd := sc_check_facts.nd
    refine ⟨_, (pss_cons (ps_if (PW.pt (pw_or (pt_not (pt_val (OwL.pe_isiTT (pv 2) (by rfl) T.n_isinstance (pa_cons (pe_bltn (v := .ty "list") (by rfl) T.n_list PyProof.Rows.boot_list rfl) (pa_cons (pe_bltn (v := .ty "tuple") (by rfl) T.n_tuple PyProof.Rows.boot_tuple rfl) pa_nil))))) (pw_or1 (pt_cmpR op_gt (pe_callB (r := rLenQ K) call_len_seq (by rfl) T.n_len PySem.boot_len (pa_cons (pv 2) pa_nil)) (pe_glob (v := .int 40) rfl c_MF ⟨_, rfl⟩) (nomark _))))) (pss_one (ErrPL.ps_raiseErr rfl EP hr (takes_of rfl rfl rfl rfl) (pa_cons pe_non pa_nil))) pss_nil) (pss_cons (ps_for (passes_of rfl) rfl (pi_enumT (by rfl) T.n_enumerate (pa_cons (pv 2) pa_nil)) (pg_tup rfl (pgs_cons (pg_name (i := 4) nd rfl (Or.inl rfl)) (pgs_cons (pg_name (i := 5) nd rfl (Or.inl rfl)) pgs_nil))) (pss_one (ps_if (pt_not (pt_val (pe_call G_is_fact (hr.mono (by omega)) (by rfl) D_is_fact.g D_is_fact.F.kp D_is_fact.b .nil pass0 (pa_cons (pv 0) (pa_cons (pv 1) (pa_cons (pv 5) pa_nil)))))) (pss_one (ErrPL.ps_raiseErr rfl EP hr (takes_of rfl rfl rfl rfl) (pa_cons (pv 4) pa_nil))) pss_nil))) (pss_cons (ps_set (i := 3) nd rfl (Or.inl rfl) (pe_call G_first_crossing (hr.mono (by omega)) (by rfl) D_first_crossing.g D_first_crossing.F.kp D_first_crossing.b .nil pass0 (pa_cons (pv 2) pa_nil))) (pss_one (ps_if (pt_cmpR (r := rNoN) op_notN (pv 3) pe_non (nomark _)) (pss_one (ErrPL.ps_raiseErr rfl EP hr (takes_of rfl rfl rfl rfl) (pa_cons (pv 3) pa_nil))) pss_nil))))), ?_⟩
    have hyl := Paired.len pr
    have vf : ∀ {σ' : L2.St} {H' : Hp}, σ'[2]? = some (some (.ref p)) → Evl.Ex H H' → EvP (tVar 2) σ' H' (TsP Fe es) := fun h e => evp_var h ((mono_tsP fe_mono) _ _ _ e ⟨p, ys, rfl, hp, pr⟩) (mono_tsP fe_mono)
    refine q_when (b := decide (40 < es.length)) (et_is (et_or (a := false) (b := decide (40 < es.length)) (et_is (et_not (et_bl (b := true) (fun H1 e1 Q q => vf rfl (Ex.refl _) H1 e1 _ fun v H2 e2 ⟨a, zs, ev, ha, _⟩ => ⟨⟨a, zs, ev, st_of ha⟩, fun t ht => q _ _ (e2.trans (Ex.new ht)) rfl⟩))) rfl) fun _ => et_tst (evp_is (evp_I0 (g := fun i j => .bl (decide (i > j))) (evp_lenTP (K := K) (vf rfl (Ex.refl _))) (evp_c (v := .int 40))) (by rw [show decide ((es.length : Int) > 40) = decide (40 < es.length) from decide_eq_decide.mpr (by omega)]))) (by rw [Bool.false_or])) (fun hb H1 e1 => ?_) fun hb H1 e1 => ?_
    · exact ⟨.non, rfl, fun d hd => q1 .non (show Err es .non from (of_decide_eq_true hb : 40 < es.length)) .non H1 e1 rfl d _ (Ex.new hd) upd_same⟩
    have hlen : es.length ≤ 40 := by have := of_decide_eq_false hb; omega
    -- each one
    refine ⟨.ref p, rfl, p, ys, rfl, st_of (e1 _ _ hp), ?_⟩
    refine for_enumT (fun i σ' H' => ∃ s3 s4 s5, σ' = [some (.int l), some (.int r), some (.ref p), s3, s4, s5] ∧ Evl.Ex H H' ∧ ∀ j, j < i → bad es j = false) ⟨_, _, _, rfl, e1, fun j h => absurd h (Nat.not_lt_zero _)⟩ (fun i σ' H' ⟨_, _, _, _, e, _⟩ => st_of (e _ _ hp)) (fun i x T σ' H' hx ⟨s3, s4, s5, hs, e, hno⟩ hT => ?_) (fun σ' H' ⟨s3, s4, s5, hs, e, hno⟩ => ?_)
    · subst hs
      obtain ⟨g, hg, hgx⟩ := paired_idx pr hx
      have e2 : Evl.Ex H (upd H' T (.tup [.int (i : Int), x])) := e.trans (Ex.new hT)
      have hT1 : (upd H' T (.tup [.int (i : Int), x])) T = some (.tup [.int (i : Int), x]) := upd_same
      generalize upd H' T (.tup [.int (i : Int), x]) = H1 at e2 hT1
      refine ⟨T, _, rfl, st_of hT1, rfl, _, _, rfl, _, _, rfl, rfl, ?_⟩
      have hm := List.mem_of_getElem? hg
      have hbd : bad es i = !gdE g := by unfold bad; rw [hg]; rfl
      refine s_when (σ := [some (.int l), some (.int r), some (.ref p), s3, some (.int (i : Int)), some x]) (b := !gdE g) (et_not (et_bl (evp_call (E := E0) (sp := spFact) (eap_three (P := Is (.int l)) (R := Is (.int r)) (S := Fe g) (evp_var (i := 0) rfl rfl mono_is) (evp_var (i := 1) rfl rfl mono_is) (evp_var (i := 5) rfl (fe_mono _ _ _ _ e2 hgx) (fe_mono g)) mono_is mono_is) (fun vs H2 ⟨a, b, c, hv, ha, hb, hc⟩ Q q E => ⟨l, r, c, g, by rw [hv, show a = _ from ha, show b = _ from hb], hc, hok g hm, q⟩)))) (fun hb H2 e3 => ?_) fun hb H2 e3 => ⟨_, _, _, rfl, e2.trans e3, fun j hj => ?_⟩
      · exact ⟨.int (i : Int), rfl, .int (i : Int), rfl, fun d hd => q1 (.idx i) ⟨hlen, by rw [hbd, hb], hno⟩ (.int (i : Int)) H2 (e2.trans e3) rfl d _ (Ex.new hd) upd_same⟩
      · by_cases h3 : j < i
        · exact hno j h3
        · have : j = i := by omega
          rw [this, hbd, hb]
    · subst hs
      have hall : ∀ k, bad es k = false := bad_no fun k hk => hno k (by rw [hyl]; exact hk)
      by_cases hx : ∃ i j, IsF es i j
      · obtain ⟨i, j, hF⟩ := hx
        refine q_asgP (P := Pr (i : Int) (j : Int)) (evp_call (E := E0) (sp := spFirstT) (eap_one (vf rfl e)) fun vs H2 ⟨a, hv, ha⟩ Q q E => ⟨a, l, r, es, hv, ha, hok, hall, hlen, fun h => absurd hF.2.1 (by rw [h i j hF.1]; decide), fun i' j' hF' x H3 e3 hx => ?_⟩) fun v3 H2 e2 h3 => ?_
        · have := err_one (es := es) (p := .pair i j) (q := .pair i' j') ⟨hlen, hall, hF⟩ ⟨hlen, hall, hF'⟩
          cases this
          exact q x H3 e3 hx
        · have h3a := h3
          obtain ⟨t, rfl, ht⟩ := h3a
          refine s_when (σ := [some (.int l), some (.int r), some (.ref p), some (.ref t), s4, s5]) (b := true) (et_tst (evp_is (evp_noN (evp_var (i := 3) rfl rfl mono_is)) rfl)) (fun _ H3 e3 => ?_) fun z => nomatch z
          exact ⟨.ref t, rfl, .ref t, rfl, fun d hd => q1 (.pair i j) ⟨hlen, hall, hF⟩ (.ref t) H3 ((e.trans e2).trans e3) (mono_pr _ _ _ e3 h3) d _ (Ex.new hd) upd_same⟩
      · have hno2 : ∀ a b, a < b → cx es a b = false := no_first hx
        refine q_asgP (P := Is .non) (evp_call (E := E0) (sp := spFirstT) (eap_one (vf rfl e)) fun vs H2 ⟨a, hv, ha⟩ Q q E => ⟨a, l, r, es, hv, ha, hok, hall, hlen, fun h H3 e3 => q _ H3 e3 rfl, fun i' j' hF' x H3 e3 _ => absurd ⟨i', j', hF'⟩ hx⟩) fun v3 H2 e2 h3 => ?_
        have h3' : v3 = .non := h3
        subst h3'
        exact s_when (σ := [some (.int l), some (.int r), some (.ref p), some .non, s4, s5]) (b := false) (et_tst (evp_is (evp_noN (evp_var (i := 3) rfl rfl mono_is)) rfl)) (fun z => nomatch z) fun _ H3 e3 => q0 ⟨hlen, hall, hno2⟩ H3 ((e.trans e2).trans e3)
end
end K20
namespace K20
open PySem PySem.Spec PyProof.Rows L2 Evl RZ Ev2 TA5 Ow
abbrev s_F_listed : Stmt := inClass (topS 41) 5
abbrev N_F_listed : List Str := ["self"]
theorem sc_F_listed : FnScope N_F_listed ["self"] (defScope s_F_listed) := ⟨rfl, rfl, rfl, by decide +kernel, rfl, by decide +kernel, by decide +kernel⟩
def Tx (H H' : Hp) : Prop := ∀ b xs, H b = some (.tup xs) → H' b = some (.tup xs)
theorem ts_tx {H H' : Hp} {xs : List V} {v : V} (e : Tx H H') (h : Ts xs v H) : Ts xs v H' := by
  obtain ⟨a, ev, ha⟩ := h
  exact ⟨a, ev, e _ _ ha⟩
theorem wv_tx {H H' : Hp} {w : Wh} {v : V} (e : Tx H H') (h : Wv w v H) : Wv w v H' := by
  cases w with
  | all => exact ts_tx e h
  | left vs => obtain ⟨t, h1, h2⟩ := h; exact ⟨t, ts_tx e h1, e _ _ h2⟩
  | right vs => obtain ⟨t, h1, h2⟩ := h; exact ⟨t, ts_tx e h1, e _ _ h2⟩
  | cell a b => exact ts_tx e h
theorem fv_tx {H H' : Hp} {f : FR} {v : V} (e : Tx H H') (h : Fv f v H) : Fv f v H' := by
  obtain ⟨x, h1, h2⟩ := h
  exact ⟨x, ts_tx e h1, wv_tx e h2⟩
def fldF (l r t : V) : List (Str × V) := [("_left", l), ("_right", r), ("_facts", t)]
structure FaK (K : PySem.W.Frag) (mg : Str → Option Value) (C fI : Addr) : Prop where
  cl : Cls K C
  n1 : NoAttr K C "_left"
  n2 : NoAttr K C "_right"
  n3 : NoAttr K C "_facts"
  gC : mg "Facts" = some (.ref C)
  mkc : Mk K C fI
def Fo (C : Addr) (l r : Int) (fs : List FR) : HP := fun v H => ∃ a dx t, v = .ref a ∧ H a = some (.ins C dx (fldF (.int l) (.int r) t)) ∧ TsP Fv fs t H
theorem mf_fo {C : Addr} {l r : Int} {fs : List FR} : MonoF (Fo C l r fs) := fun _ _ _ e ⟨a, dx, t, h1, h2, h3⟩ => ⟨a, dx, t, h1, e _ _ h2 (fun _ z => nomatch z), mf_tsP mf_fv _ _ _ e h3⟩
def G1 (l : V) : List (Str × V) := [("_left", l)]
def G2 (l r : V) : List (Str × V) := [("_left", l), ("_right", r)]
theorem fput_ne {f g : Str} {v x : V} {r : List (Str × V)} (h : g ≠ f) : putF f v ((g, x) :: r) = (g, x) :: putF f v r := if_neg h
theorem fput1 {l : V} : putF "_left" l [] = G1 l := rfl
theorem fput2 {l r : V} : putF "_right" r (G1 l) = G2 l r := by
  unfold G1 G2
  rw [fput_ne (by decide)]; rfl
theorem fput3 {l r t : V} : putF "_facts" t (G2 l r) = fldF l r t := by
  unfold G2 fldF
  rw [fput_ne (by decide), fput_ne (by decide)]; rfl
section
variable {K : PySem.W.Frag} {mg : Str → Option Value} {σ : L2.St} {H : Hp} {ta tb te tl : TE} {C fI : Addr} {l r : Int} {fs : List FR}
theorem fo_get {v : V} (h : Fo C l r fs v H) : ∃ a dx t, v = .ref a ∧ H a = some (.ins C dx (fldF (.int l) (.int r) t)) ∧ TsP Fv fs t H := h
theorem evp_fL (FK : FaK K mg C fI) (h : EvP te σ H (Fo C l r fs)) : EvP (tFld K te "_left") σ H (Is (.int l)) := fun H1 e Q q => h H1 e _ fun v H2 e2 ⟨a, dx, t, h1, h2, h3⟩ => ⟨a, C, dx, _, .int l, h1, h2, FK.cl, FK.n1, rfl, q _ H2 e2 rfl⟩
theorem evp_fR (FK : FaK K mg C fI) (h : EvP te σ H (Fo C l r fs)) : EvP (tFld K te "_right") σ H (Is (.int r)) := fun H1 e Q q => h H1 e _ fun v H2 e2 ⟨a, dx, t, h1, h2, h3⟩ => ⟨a, C, dx, _, .int r, h1, h2, FK.cl, FK.n2, rfl, q _ H2 e2 rfl⟩
theorem evp_fF (FK : FaK K mg C fI) (h : EvP te σ H (Fo C l r fs)) : EvP (tFld K te "_facts") σ H (TsP Fv fs) := fun H1 e Q q => h H1 e _ fun v H2 e2 ⟨a, dx, t, h1, h2, h3⟩ => ⟨a, C, dx, _, t, h1, h2, FK.cl, FK.n3, rfl, q _ H2 e2 h3⟩
theorem fo_mono : Mono (Fo C l r fs) := mf_fo.mono
theorem ts_ints {idx : List Nat} {ys : List V} (h : Paired (fun y (i : Nat) => Is (.int (i : Int)) y H) ys idx) : ys = (idx.map fun i : Nat => (i : Int)).map V.int := by
  induction h with
  | nil => rfl
  | cons h t ih => rw [List.map_cons, List.map_cons, ← ih]; congr 1
theorem dropS2 {sp : Sp} {E : L2.St → XK} {tz : TS} {D : Ends} {Pa Pb : HP} (ha : EvP ta σ H Pa) (hb : EvP tb σ H Pb) (m : Mono Pa) (h : ∀ x y H1, Evl.Ex H H1 → Pa x H1 → Pb y H1 → sp [x, y] H1 (fun _ H2 => tz D σ H2) (E σ)) : tSeq (tDrop (tCallS sp E (tCons ta (tCons tb tNil)))) tz D σ H :=
  eap_two ha hb m H (Ex.refl _) (fun vs H1 => sp vs H1 (fun _ H2 => tz D σ H2) (E σ)) fun vs H1 e ⟨x, y, hv, hx, hy⟩ => by rw [hv]; exact h x y H1 e hx hy
theorem tsP_list {v : V} (h : TsP Fv fs v H) : ∃ t ys, v = .ref t ∧ H t = some (.tup ys) ∧ Paired (fun y z => Fv z y H) ys fs := h
end
section
variable {P : Program} {w : World} {K : PySem.W.Frag} {mg : Str → Option Value} {base : Heap} {tk : Tok} {k : Nat} {CV iV CP iP : Addr}
def spFIL (C CP : Addr) : Sp := fun vs H Q E => ∃ (a dx : Addr) (l r : Nat) (v : V) (es : List (Option FR)), vs = [.ref a, .int (l : Int), .int (r : Int), v] ∧ H a = some (.ins C dx []) ∧ (1 ≤ l ∧ l ≤ 8) ∧ (1 ≤ r ∧ r ≤ 8) ∧ LsP Fe es v H ∧ (∀ e ∈ es, ElOk l r e) ∧
  (Good es → ∀ fs, es = fs.map some → ∀ H2, Evl.Ex (fun b => if b = a then none else H b) H2 → Fo C l r fs (.ref a) H2 → Q .non H2) ∧ (∀ pl, Err es pl → ∀ x H1, Evl.Ex H H1 → PlV pl x H1 → Rz "place" CP x H1 E)
theorem ok_FIL {f1 f2 : Addr} {fd d1 d2 : FuncData} {C fI : Addr} (EV : EVT K mg CV iV) (FK : FaK K mg C fI) (T : Txt mg tk)
    (D_check_sizes : Df K mg "check_sizes" s_check_sizes ["left", "right"] f1 d1) (G_check_sizes : FnOk P w K mg base (L2.CX P w) (k + 5) f1 d1 ["left", "right"] (spCheckSizes CV))
    (D_check_facts : Df K mg "check_facts" s_check_facts ["left", "right", "facts"] f2 d2) (G_check_facts : FnOk P w K mg base (L2.CX P w) (k + 7) f2 d2 ["left", "right", "facts"] (spChkL CP))
    {dvs : List V} (F : FunD K "__init__" "Facts.__init__" (defArgs s_F_init) (defBody s_F_init) (defScope s_F_init) dvs [] fI fd) : FnOk P w K mg base (L2.CX P w) (k + 8) fI fd ["self", "left", "right", "facts"] (spFIL C CP) := by
  refine F.ok sc_F_init (fun vs H Q E h => ?_) (fun cdv A outer s0 H vs Q E hr h => ?_)
  · obtain ⟨a, dx, l, r, v, es, rfl, _⟩ := h
    rfl
  · obtain ⟨a, dx, l, r, v, es, rfl, ha, hl, hr', hv, hok, qg, qe⟩ := h
    have nd := sc_F_init.nd
    refine ⟨_, (pss_cons (ps_expr (pe_callS G_check_sizes (hr.mono (by omega)) (by rfl) D_check_sizes.g D_check_sizes.F.kp D_check_sizes.b (fun σ => passAt (takes_of rfl rfl rfl rfl) σ) (pa_cons (pv 1) (pa_cons (pv 2) pa_nil)))) (pss_cons (ps_expr (pe_callS G_check_facts (hr.mono (by omega)) (by rfl) D_check_facts.g D_check_facts.F.kp D_check_facts.b (fun σ => passAt (takes_of rfl rfl rfl rfl) σ) (pa_cons (pv 1) (pa_cons (pv 2) (pa_cons (pv 3) pa_nil))))) (pss_cons (ps_fld (pv 0) (pv 1) rfl) (pss_cons (ps_fld (pv 0) (pv 2) rfl) (pss_one (ps_fld (pv 0) (pe_callTy (r := rTupQ K) call_tuple_of (by rfl) T.n_tuple PyProof.Rows.boot_tuple (pa_cons (pv 3) pa_nil)) rfl)))))), ?_⟩
    refine ⟨.int (l : Int), rfl, .int (r : Int), rfl, ?_⟩
    refine ⟨.int (l : Int), .int (r : Int), .int (l : Int), .int (r : Int), rfl, .flat rfl, .flat rfl, fun hb => ?_, fun _ hb => ?_, fun _ _ H1 e1 => ?_⟩
    · exact absurd hb (by show ¬ (decide ((1 : Int) ≤ (l : Int)) && decide ((l : Int) ≤ 8)) = false; simp; omega)
    · exact absurd hb (by show ¬ (decide ((1 : Int) ≤ (r : Int)) && decide ((r : Int) ≤ 8)) = false; simp; omega)
    have hv1 := (mono_lsP fe_mono) _ _ _ e1 hv
    refine ⟨.int (l : Int), rfl, .int (r : Int), rfl, v, rfl, v, l, r, es, rfl, hv1, hok, fun hg H2 e2 => ?_, fun pl he x H2 e2 hx d H3 e3 h3 => qe pl he x H2 (e1.trans e2) hx d H3 e3 h3⟩
    have ex := e1.trans e2
    obtain ⟨fs, rfl, _⟩ := somes hg.ok
    obtain ⟨p, ys, rfl, hp, pr⟩ := (mono_lsP fe_mono) _ _ _ e2 hv1
    have pr := paired_some pr
    -- the fields
    refine ⟨.int (l : Int), rfl, .ref a, rfl, a, C, dx, [], rfl, ex _ _ ha, FK.cl, FK.n1, (by show 0 < 1000; decide), ?_⟩
    rw [fput1]
    refine ⟨.int (r : Int), rfl, .ref a, rfl, a, C, dx, G1 (.int (l : Int)), rfl, upd_same, FK.cl, FK.n2, (by show 1 < 1000; decide), ?_⟩
    rw [fput2]
    have ha2 := ex _ _ ha
    have hpa : p ≠ a := fun z => by rw [z, ha2] at hp; cases hp
    refine ⟨.ref p, rfl, p, ys, rfl, .inl ⟨sq_of (by rw [upd_ne hpa, upd_ne hpa]; exact hp), fun t ht => ?_⟩⟩
    have hta : t ≠ a := fun z => by rw [z, upd_same] at ht; cases ht
    have ht2 : H2 t = none := by rw [upd_ne hta, upd_ne hta] at ht; exact ht
    refine ⟨.ref a, rfl, a, C, dx, G2 (.int (l : Int)) (.int (r : Int)), rfl, by rw [upd_ne hta.symm]; exact upd_same, FK.cl, FK.n3, (by show 2 < 1000; decide), ?_⟩
    rw [fput3]
    have e9 : Evl.Ex (fun b => if b = a then none else H b) (upd (upd (upd (upd H2 a (.ins C dx (G1 (.int (l : Int))))) a (.ins C dx (G2 (.int (l : Int)) (.int (r : Int))))) t (.tup ys)) a (.ins C dx (fldF (.int (l : Int)) (.int (r : Int)) (.ref t)))) := fun b o hb => by
      dsimp only at hb
      by_cases hba : b = a
      · rw [if_pos hba] at hb; cases hb
      · rw [if_neg hba] at hb
        have hb2 := ex _ _ hb
        have hbt : b ≠ t := fun z => by rw [z, ht2] at hb2; cases hb2
        rw [upd_ne hba, upd_ne hbt, upd_ne hba, upd_ne hba]
        exact hb2
    refine qg hg fs rfl _ e9 ⟨a, dx, .ref t, rfl, upd_same, t, ys, rfl, by rw [upd_ne hta]; exact upd_same, ?_⟩
    exact Paired.impl (fun _ _ h => fv_tx (fun b xs hb => by
      have hba : b ≠ a := fun z => by rw [z, ha2] at hb; cases hb
      have hbt : b ≠ t := fun z => by rw [z, ht2] at hb; cases hb
      rw [upd_ne hba, upd_ne hbt, upd_ne hba, upd_ne hba]
      exact hb) h) pr
def spFIT (C CP : Addr) : Sp := fun vs H Q E => ∃ (a dx : Addr) (l r : Nat) (v : V) (es : List (Option FR)), vs = [.ref a, .int (l : Int), .int (r : Int), v] ∧ H a = some (.ins C dx []) ∧ (1 ≤ l ∧ l ≤ 8) ∧ (1 ≤ r ∧ r ≤ 8) ∧ TsP Fe es v H ∧ (∀ e ∈ es, ElOk l r e) ∧
  (Good es → ∀ fs, es = fs.map some → ∀ H2, Evl.Ex (fun b => if b = a then none else H b) H2 → Fo C l r fs (.ref a) H2 → Q .non H2) ∧ (∀ pl, Err es pl → ∀ x H1, Evl.Ex H H1 → PlV pl x H1 → Rz "place" CP x H1 E)
theorem ok_FIT {f1 f2 : Addr} {fd d1 d2 : FuncData} {C fI : Addr} (EV : EVT K mg CV iV) (FK : FaK K mg C fI) (T : Txt mg tk)
    (D_check_sizes : Df K mg "check_sizes" s_check_sizes ["left", "right"] f1 d1) (G_check_sizes : FnOk P w K mg base (L2.CX P w) (k + 5) f1 d1 ["left", "right"] (spCheckSizes CV))
    (D_check_facts : Df K mg "check_facts" s_check_facts ["left", "right", "facts"] f2 d2) (G_check_facts : FnOk P w K mg base (L2.CX P w) (k + 7) f2 d2 ["left", "right", "facts"] (spChkT CP))
    {dvs : List V} (F : FunD K "__init__" "Facts.__init__" (defArgs s_F_init) (defBody s_F_init) (defScope s_F_init) dvs [] fI fd) : FnOk P w K mg base (L2.CX P w) (k + 8) fI fd ["self", "left", "right", "facts"] (spFIT C CP) := by
  refine F.ok sc_F_init (fun vs H Q E h => ?_) (fun cdv A outer s0 H vs Q E hr h => ?_)
  · obtain ⟨a, dx, l, r, v, es, rfl, _⟩ := h
    rfl
  · obtain ⟨a, dx, l, r, v, es, rfl, ha, hl, hr', hv, hok, qg, qe⟩ := h
    have nd := sc_F_init.nd
    refine ⟨_, (pss_cons (ps_expr (pe_callS G_check_sizes (hr.mono (by omega)) (by rfl) D_check_sizes.g D_check_sizes.F.kp D_check_sizes.b (fun σ => passAt (takes_of rfl rfl rfl rfl) σ) (pa_cons (pv 1) (pa_cons (pv 2) pa_nil)))) (pss_cons (ps_expr (pe_callS G_check_facts (hr.mono (by omega)) (by rfl) D_check_facts.g D_check_facts.F.kp D_check_facts.b (fun σ => passAt (takes_of rfl rfl rfl rfl) σ) (pa_cons (pv 1) (pa_cons (pv 2) (pa_cons (pv 3) pa_nil))))) (pss_cons (ps_fld (pv 0) (pv 1) rfl) (pss_cons (ps_fld (pv 0) (pv 2) rfl) (pss_one (ps_fld (pv 0) (pe_callTy (r := rTupQ K) call_tuple_of (by rfl) T.n_tuple PyProof.Rows.boot_tuple (pa_cons (pv 3) pa_nil)) rfl)))))), ?_⟩
    refine ⟨.int (l : Int), rfl, .int (r : Int), rfl, ?_⟩
    refine ⟨.int (l : Int), .int (r : Int), .int (l : Int), .int (r : Int), rfl, .flat rfl, .flat rfl, fun hb => ?_, fun _ hb => ?_, fun _ _ H1 e1 => ?_⟩
    · exact absurd hb (by show ¬ (decide ((1 : Int) ≤ (l : Int)) && decide ((l : Int) ≤ 8)) = false; simp; omega)
    · exact absurd hb (by show ¬ (decide ((1 : Int) ≤ (r : Int)) && decide ((r : Int) ≤ 8)) = false; simp; omega)
    have hv1 := (mono_tsP fe_mono) _ _ _ e1 hv
    refine ⟨.int (l : Int), rfl, .int (r : Int), rfl, v, rfl, v, l, r, es, rfl, hv1, hok, fun hg H2 e2 => ?_, fun pl he x H2 e2 hx d H3 e3 h3 => qe pl he x H2 (e1.trans e2) hx d H3 e3 h3⟩
    have ex := e1.trans e2
    obtain ⟨fs, rfl, _⟩ := somes hg.ok
    obtain ⟨p, ys, rfl, hp, pr⟩ := (mono_tsP fe_mono) _ _ _ e2 hv1
    have pr := paired_some pr
    -- the fields
    refine ⟨.int (l : Int), rfl, .ref a, rfl, a, C, dx, [], rfl, ex _ _ ha, FK.cl, FK.n1, (by show 0 < 1000; decide), ?_⟩
    rw [fput1]
    refine ⟨.int (r : Int), rfl, .ref a, rfl, a, C, dx, G1 (.int (l : Int)), rfl, upd_same, FK.cl, FK.n2, (by show 1 < 1000; decide), ?_⟩
    rw [fput2]
    have ha2 := ex _ _ ha
    have hpa : p ≠ a := fun z => by rw [z, ha2] at hp; cases hp
    refine ⟨.ref p, rfl, p, ys, rfl, .inr ⟨st_of (by rw [upd_ne hpa, upd_ne hpa]; exact hp), ?_⟩⟩
    refine ⟨.ref a, rfl, a, C, dx, G2 (.int (l : Int)) (.int (r : Int)), rfl, upd_same, FK.cl, FK.n3, (by show 2 < 1000; decide), ?_⟩
    rw [fput3]
    have e9 : Evl.Ex (fun b => if b = a then none else H b) (upd (upd (upd H2 a (.ins C dx (G1 (.int (l : Int))))) a (.ins C dx (G2 (.int (l : Int)) (.int (r : Int))))) a (.ins C dx (fldF (.int (l : Int)) (.int (r : Int)) (.ref p)))) := fun b o hb => by
      dsimp only at hb
      by_cases hba : b = a
      · rw [if_pos hba] at hb; cases hb
      · rw [if_neg hba] at hb
        rw [upd_ne hba, upd_ne hba, upd_ne hba]
        exact ex _ _ hb
    refine qg hg fs rfl _ e9 ⟨a, dx, .ref p, rfl, upd_same, p, ys, rfl, by rw [upd_ne hpa, upd_ne hpa, upd_ne hpa]; exact hp, ?_⟩
    exact Paired.impl (fun _ _ h => fv_tx (fun b xs hb => by
      have hba : b ≠ a := fun z => by rw [z, ha2] at hb; cases hb
      rw [upd_ne hba, upd_ne hba, upd_ne hba]
      exact hb) h) pr
end
/-! what comes of it -/
def spFI (C CP : Addr) : Sp := fun vs H Q E => spFIL C CP vs H Q E ∨ spFIT C CP vs H Q E
def Outc (C CP : Addr) (l r : Nat) (es : List (Option FR)) (H : Hp) (Q : VK) (E : XK) : Prop := (Good es → ∀ fs, es = fs.map some → ∀ v H2, Evl.Ex H H2 → Fo C l r fs v H2 → Q v H2) ∧ (∀ pl, Err es pl → ∀ x H1, Evl.Ex H H1 → PlV pl x H1 → Rz "place" CP x H1 E)
theorem Outc.ex {C CP : Addr} {l r : Nat} {es : List (Option FR)} {H H' : Hp} {Q : VK} {E : XK} (h : Outc C CP l r es H Q E) (e : Evl.Ex H H') : Outc C CP l r es H' Q E := ⟨fun g fs he v H2 e2 hv => h.1 g fs he v H2 (e.trans e2) hv, fun pl hp x H1 e1 hx => h.2 pl hp x H1 (e.trans e1) hx⟩
theorem some_inj {fs gs : List FR} (h : fs.map some = gs.map some) : fs = gs := by
  have := congrArg (List.filterMap id) h
  simpa using this
theorem make_ex {H H2 : Hp} {a dx C : Addr} {o : HO} (ha : H a = none) (hd : H dx = none) (hne : dx ≠ a) (e : Evl.Ex (fun b => if b = a then none else (upd (upd H dx (.own a)) a o) b) H2) : Evl.Ex H H2 := fun b o hb => e b o (by
  have hbx : b ≠ a := fun z => by rw [z, ha] at hb; cases hb
  dsimp only
  rw [if_neg hbx, upd_ne hbx, upd_ne (fun z => by rw [z, hd] at hb; cases hb)]
  exact hb)
section
variable {K : PySem.W.Frag} {σ : L2.St} {H : Hp} {ta tb te t1 t2 t3 : TE} {C CP CV : Addr} {l r : Nat} {es : List (Option FR)} {fs gs : List FR}
theorem mk_at {EE : L2.St → XK} {Q : VK} (hl : 1 ≤ l ∧ l ≤ 8) (hr : 1 ≤ r ∧ r ≤ 8) (h1 : EvP t1 σ H (Is (.int (l : Int)))) (h2 : EvP t2 σ H (Is (.int (r : Int)))) (h3 : EvP t3 σ H fun v H1 => LsP Fe es v H1 ∨ TsP Fe es v H1) (hok : ∀ e ∈ es, ElOk l r e) (q : Outc C CP l r es H Q (EE σ)) :
    TA5.tMakeS C (spFI C CP) [] EE (tCons t1 (tCons t2 (tCons t3 tNil))) σ H Q :=
  eap_three h1 h2 h3 mono_is mono_is H (Ex.refl _) (fun vs H2 => ∀ x dx, H2 x = none → H2 dx = none → dx ≠ x → spFI C CP (.ref x :: (vs ++ [])) (upd (upd H2 dx (.own x)) x (.ins C dx [])) (fun v H3 => v = .non ∧ Q (.ref x) H3) (EE σ)) fun vs H2 e2 ⟨a, b, c, hv, ha, hb, hc⟩ x dx hx hdx hne => by
    have e3 : Evl.Ex H2 (upd (upd H2 dx (.own x)) x (.ins C dx [])) := (Ex.new hdx).trans (Ex.new (by rw [upd_ne hne.symm]; exact hx))
    have hgd : Good es → ∀ fs, es = fs.map some → ∀ H3, Evl.Ex (fun b => if b = x then none else (upd (upd H2 dx (.own x)) x (.ins C dx [])) b) H3 → Fo C l r fs (.ref x) H3 → V.non = .non ∧ Q (.ref x) H3 := fun g fs hf H3 e4 hO => ⟨rfl, q.1 g fs hf _ H3 (e2.trans (make_ex (C := C) hx hdx hne e4)) hO⟩
    have hbd : ∀ pl, Err es pl → ∀ y H1, Evl.Ex (upd (upd H2 dx (.own x)) x (.ins C dx [])) H1 → PlV pl y H1 → Rz "place" CP y H1 (EE σ) := fun pl hp y H1 e4 hy => q.2 pl hp y H1 ((e2.trans e3).trans e4) hy
    rcases hc with hc | hc
    · exact .inl ⟨x, dx, l, r, c, es, by rw [hv, show a = _ from ha, show b = _ from hb]; rfl, upd_same, hl, hr, mono_lsP fe_mono _ _ _ e3 hc, hok, hgd, hbd⟩
    · exact .inr ⟨x, dx, l, r, c, es, by rw [hv, show a = _ from ha, show b = _ from hb]; rfl, upd_same, hl, hr, (mono_tsP fe_mono) _ _ _ e3 hc, hok, hgd, hbd⟩
theorem evp_mk {EE : L2.St → XK} (hl : 1 ≤ l ∧ l ≤ 8) (hr : 1 ≤ r ∧ r ≤ 8) (h1 : EvP t1 σ H (Is (.int (l : Int)))) (h2 : EvP t2 σ H (Is (.int (r : Int)))) (h3 : EvP t3 σ H fun v H1 => LsP Fe (fs.map some) v H1 ∨ TsP Fe (fs.map some) v H1) (hok : ∀ e ∈ fs.map some, ElOk l r e) (hg : Good (fs.map some)) :
    EvP (TA5.tMakeS C (spFI C CP) [] EE (tCons t1 (tCons t2 (tCons t3 tNil)))) σ H (Fo C l r fs) := fun H1 e Q q =>
  mk_at hl hr (h1.mono e) (h2.mono e) (h3.mono e) hok ⟨fun _ gs he v H2 e2 hv => q v H2 e2 (by rw [some_inj he]; exact hv), fun pl hp => (err_bad hp hg).elim⟩
theorem evp_ls {te : TE} (h : EvP te σ H (LsP Fv fs)) : EvP te σ H fun v H1 => LsP Fe (fs.map some) v H1 ∨ TsP Fe (fs.map some) v H1 := h.imp fun _ _ _ h => .inl (lsP_some.mpr h)
theorem evp_ts' {te : TE} (h : EvP te σ H (TsP Fv fs)) : EvP te σ H fun v H1 => LsP Fe (fs.map some) v H1 ∨ TsP Fe (fs.map some) v H1 := h.imp fun _ _ _ h => .inr (tsP_some.mpr h)
theorem evp_catP {as bs : List (Option FR)} (ha : EvP ta σ H (TsP Fe as)) (hb : EvP tb σ H (TsP Fe bs)) (hl : as.length + bs.length ≤ 1000) : EvP (tOp (rCatA K) ta tb) σ H (TsP Fe (as ++ bs)) :=
  evp_op ha hb (mono_tsP fe_mono) fun x y H1 _ ⟨a, ys, hx, h1, p1⟩ ⟨b, zs, hy, h2, p2⟩ Q q => by
    subst hx
    subst hy
    have l1 := Paired.len p1
    have l2 := Paired.len p2
    have pp : ∀ H2, Evl.Ex H1 H2 → Paired (fun y e => Fe e y H2) (ys ++ zs) (as ++ bs) := fun H2 e => Paired.app (Paired.impl (fun _ _ h => fe_mono _ _ _ _ e h) p1) (Paired.impl (fun _ _ h => fe_mono _ _ _ _ e h) p2)
    refine ⟨a, b, ys, zs, rfl, rfl, st_of h1, st_of h2, sz_of (by omega), fun e => q _ H1 (Ex.refl _) ⟨b, ys ++ zs, rfl, by rw [e]; exact h2, pp _ (Ex.refl _)⟩, fun _ e => q _ H1 (Ex.refl _) ⟨a, ys ++ zs, rfl, by rw [e, List.append_nil]; exact h1, pp _ (Ex.refl _)⟩, fun _ _ p hp => q _ _ (Ex.new hp) ⟨p, ys ++ zs, rfl, upd_same, pp _ (Ex.new hp)⟩⟩
theorem evp_tup1e {e : Option FR} (h : EvP te σ H (Fe e)) : EvP (tTup (tCons te tNil)) σ H (TsP Fe [e]) := fun H1 e1 Q q => h H1 e1 _ fun v H2 e2 hv => ⟨sz_of (show 1 ≤ 100000 by decide), fun t ht => q _ _ (e2.trans (Ex.new ht)) ⟨t, [v], rfl, upd_same, .cons (fe_mono _ _ _ _ (Ex.new ht) hv) .nil⟩⟩
theorem evp_slB {tl th : TO} {a : Addr} {xs : List V} {lo hi : Option Int} (h : Ev te σ H (.ref a)) (h1 : EvO tl σ H lo) (h2 : EvO th σ H hi) (hs : H a = some (.tup xs)) :
    EvP (tSl (rSlA K) te tl th) σ H (fun v H1 => ∃ p, v = .ref p ∧ H1 p = some (.tup (cutV xs lo hi))) := fun H1 e Q q =>
  h H1 e _ fun H2 e2 => h1 H2 (e.trans e2) _ fun H3 e3 => h2 H3 ((e.trans e2).trans e3) _ fun H4 e4 => by
    have ex := ((e.trans e2).trans e3).trans e4
    refine ⟨a, xs, rfl, st_of (ex _ _ hs), fun ⟨w1, w2⟩ => ?_, fun _ p hp => q _ _ (((e2.trans e3).trans e4).trans (Ex.new hp)) ⟨p, rfl, upd_same⟩⟩
    refine q _ H4 ((e2.trans e3).trans e4) ⟨a, rfl, ?_⟩
    rw [ex _ _ hs]
    unfold cutV
    rw [w1, w2, List.drop_zero, Nat.sub_zero, List.take_length]
theorem cut_lo {xs : List V} {k : Nat} : cutV xs none (some (k : Int)) = xs.take k := by
  unfold cutV
  rw [HT.sIx_nat, HT.sIx_none, List.drop_zero, Nat.sub_zero]
  by_cases h : k ≤ xs.length
  · rw [Nat.min_eq_left h]
  · rw [Nat.min_eq_right (by omega), List.take_length, List.take_of_length_le (by omega)]
theorem cut_hi {xs : List V} {k : Nat} : cutV xs (some (k : Int)) none = xs.drop k := by
  unfold cutV
  rw [HT.sIx_nat, HT.sIx_none]
  by_cases h : k ≤ xs.length
  · rw [Nat.min_eq_left h, List.take_of_length_le (by rw [List.length_drop]; omega)]
  · rw [Nat.min_eq_right (by omega), Nat.sub_self, List.take_zero, List.drop_of_length_le (by omega)]
theorem elok_app {as bs : List (Option FR)} (h1 : ∀ e ∈ as, ElOk l r e) (h2 : ∀ e ∈ bs, ElOk l r e) : ∀ e ∈ as ++ bs, ElOk l r e := fun e he => (List.mem_append.mp he).elim (h1 e) (h2 e)
end
section
variable {P : Program} {w : World} {K : PySem.W.Frag} {mg : Str → Option Value} {base : Heap} {tk : Tok} {k : Nat} {C fI CV iV CP iP : Addr} {dI : FuncData}
def spListed (C : Addr) : Sp := fun vs H Q _ => ∃ (o : V) (l r : Int) (fs : List FR), vs = [o] ∧ Fo C l r fs o H ∧ ∀ v H2, Evl.Ex H H2 → LsP Fv fs v H2 → (∀ p, v = .ref p → H p = none) → Q v H2
theorem ok_listed {f : Addr} {fd : FuncData} (FK : FaK K mg C fI) (T : Txt mg tk) (F : Fun K "listed" "Facts.listed" s_F_listed f fd) : FnOk P w K mg base CX0 (k + 1) f fd ["self"] (spListed C) := by
  refine F.ok sc_F_listed (fun vs H Q E h => ?_) (fun cdv A outer s0 H vs Q E hr h => ?_)
  · obtain ⟨o, l, r, fs, rfl, _⟩ := h
    rfl
  · obtain ⟨o, l, r, fs, rfl, ho, q⟩ := h
    refine ⟨_, (pss_one (ps_ret (pe_callTy (r := rLstQ K) call_list_of (by rfl) T.n_list PyProof.Rows.boot_list (pa_cons (pe_fld (pv 0) rfl) pa_nil)))), ?_⟩
    exact evp_fF FK (evp_var (σ := [some o]) (i := 0) rfl ho fo_mono) H (Ex.refl _) _ fun v H1 e1 ⟨t, ys, hv, ht, pr⟩ => ⟨t, ys, by rw [hv], .inr (st_of ht), fun p hp => q _ _ (e1.trans (Ex.new hp)) ⟨p, ys, rfl, upd_same, Paired.impl (fun _ _ h => fv_mono _ _ _ _ (Ex.new hp) h) pr⟩ (fun p' e => by cases e; cases hh : H p with | none => rfl | some o => rw [e1 _ _ hh] at hp; cases hp)⟩

def Fg (C : Addr) (l r : Nat) (fs : List FR) : HP := fun v H => Fo C l r fs v H ∧ (∀ e ∈ fs.map some, ElOk l r e) ∧ Good (fs.map some) ∧ (1 ≤ l ∧ l ≤ 8) ∧ 1 ≤ r ∧ r ≤ 8
theorem mf_fg {l r : Nat} {fs : List FR} : MonoF (Fg C l r fs) := fun _ _ _ e ⟨h, k⟩ => ⟨mf_fo _ _ _ e h, k⟩
def Fo0 (C : Addr) (l r : Int) : HP := fun v H => ∃ a dx t, v = .ref a ∧ H a = some (.ins C dx (fldF (.int l) (.int r) t))
theorem mf_fo0 {C : Addr} {l r : Int} : MonoF (Fo0 C l r) := fun _ _ _ e ⟨a, dx, t, h1, h2⟩ => ⟨a, dx, t, h1, e _ _ h2 (fun _ z => nomatch z)⟩
theorem evp_fL0 {σ : L2.St} {H : Hp} {te : TE} {l r : Int} (FK : FaK K mg C fI) (h : EvP te σ H (Fo0 C l r)) : EvP (tFld K te "_left") σ H (Is (.int l)) := fun H1 e Q q => h H1 e _ fun v H2 e2 ⟨a, dx, t, h1, h2⟩ => ⟨a, C, dx, _, .int l, h1, h2, FK.cl, FK.n1, rfl, q _ H2 e2 rfl⟩
theorem evp_fR0 {σ : L2.St} {H : Hp} {te : TE} {l r : Int} (FK : FaK K mg C fI) (h : EvP te σ H (Fo0 C l r)) : EvP (tFld K te "_right") σ H (Is (.int r)) := fun H1 e Q q => h H1 e _ fun v H2 e2 ⟨a, dx, t, h1, h2⟩ => ⟨a, C, dx, _, .int r, h1, h2, FK.cl, FK.n2, rfl, q _ H2 e2 rfl⟩
end
end K20
namespace OwC
open PySem L2 PySem.Spec PyProof.Rows

theorem notImp {z : V} {w : Value} {Q : Value → Shared → Prop} {s : Shared} (r : RelV z w) (h : Q w s) : PySem.W.CmpBack Q w s := by
  cases z with
  | non => cases (show w = Value.none from r); exact h
  | bl b => cases (show w = Value.bool b from r); exact h
  | int i => obtain ⟨t, e⟩ := (show ∃ t, w = Value.int i t from r); cases e; exact h
  | str x => obtain ⟨t, e⟩ := (show ∃ t, w = Value.str x t from r); cases e; exact h
  | byt b => obtain ⟨t, e⟩ := (show ∃ t, w = Value.bytes b t from r); cases e; exact h
  | flt b => obtain ⟨t, e⟩ := (show ∃ t, w = Value.float b t from r); cases e; exact h
  | ref a => cases (show w = Value.ref a from r); exact h
  | ty n => cases (show w = Value.type n from r); exact h

section
variable {X : Cx} {CX : CXT} {n : Nat} {C f : Addr} {fd : FuncData} {ps : List Str} {sp : Sp} {E : XK}
/-- a def is called by the machine with values that are known -/
theorem own_call {pins : List (Addr × Obj)} {σ : L2.St} {H : Hp} {s : Shared} {vs : List V} {us : List Value} {Q : VK} {R : Value → Shared → Prop} (F : FnOk X.prog X.w X.K X.mg X.base CX n f fd ps sp) (hb : Binds X.K fd ps []) (hr : Room n X.A) (hx : Passes CX X E)
    (I : Inv X pins σ H s) (r : Vals vs us) (h : sp vs H Q E) (hR : ∀ z w H' s', Inv X pins σ H' s' → RelV z w → Q z H' → R w s') :
    wpAny (model X.prog X.w) X.A (call (.ref f) us) R X.xe s := by
  have hl := F.len _ _ _ _ h
  refine wpAny_call (codeAny_mono (F.run X.A X.stack s H ⟨us, []⟩ us vs Q E hr I.env0 (by
    have := hb s us I.kIn (by simpa [r.length] using hl)
    simpa using this) r h) fun r s' hq => ?_)
  cases r with
  | error er => exact hx pins σ H s er s' I hq
  | ok fl =>
    cases fl with
    | ret w =>
      obtain ⟨z, H', I', rz, q⟩ := I.after hq
      exact hR z w H' s' I' rz q
    | next => exact False.elim hq
    | brk => exact False.elim hq
    | cont => exact False.elim hq

/-- x op y: two instances of the class at C, the class's own def -/
def rOwnB (C : Addr) (sp : Sp) (E : XK) : R2 := fun x y H Q => ∃ a b dx dy fs gs, x = .ref a ∧ y = .ref b ∧ H a = some (.ins C dx fs) ∧ H b = some (.ins C dy gs) ∧ sp [x, y] H Q E
theorem op_own {op : Operator} (F : FnOk X.prog X.w X.K X.mg X.base CX n f fd ps sp) (hc : PySem.W.selfFirst X.K C = true) (hs : PySem.W.findIn X.K (.ref C) (PySem.dunder op.info.2) = some (some (.ref f))) (hf : PySem.W.isFn X.K (.ref f) = true)
    (hb : Binds X.K fd ps []) (hr : Room n X.A) (hx : Passes CX X E) : OpR X (binaryOp op) (rOwnB C sp E) := by
  intro pins s σ H x y v u Q I rx ry hq; obtain ⟨a, b, dx, dy, fs, gs, rfl, rfl, ha, hb', q⟩ := hq
  cases rx
  cases ry
  obtain ⟨mA, J0, _⟩ := ins_get I.hok ha; obtain ⟨mB, J1, _⟩ := ins_get I.hok hb'
  obtain ⟨od, J, _⟩ := J0.look; obtain ⟨od', J', _⟩ := J1.look
  obtain ⟨m, hF⟩ := I.fr
  refine PySem.W.binop_K hF I.ok.mod.kin J J'.type hc hs hf ?_
  exact own_call (vs := [.ref a, .ref b]) F hb hr hx I (.cons rfl (.cons rfl .nil)) q fun z w H' s' I' rz qz => notImp rz ⟨z, H', I', rz, qz⟩

/-- x op k, k an int -/
def rOwnI (C : Addr) (sp : Sp) (E : XK) : R2 := fun x y H Q => ∃ a dx fs i, x = .ref a ∧ y = .int i ∧ H a = some (.ins C dx fs) ∧ sp [x, y] H Q E
theorem op_ownI {op : Operator} {fo ro rc : Option Value} (F : FnOk X.prog X.w X.K X.mg X.base CX n f fd ps sp) (hc : PySem.W.selfFirst X.K C = true) (hs : PySem.W.findIn X.K (.ref C) (PySem.dunder op.info.2) = some (some (.ref f))) (hf : PySem.W.isFn X.K (.ref f) = true)
    (hrr : PySem.W.findIn X.K (.ref C) (PySem.dunderR op.info.2) = some rc) (hp : rc = none ∨ ∃ g : Addr, rc = some (.ref g)) (h1 : PySem.W.findIn X.K (.type "int") (PySem.dunder op.info.2) = some fo) (h2 : PySem.W.findIn X.K (.type "int") (PySem.dunderR op.info.2) = some ro)
    (hsub : PySem.W.subIn X.K (.type "int") (.ref C) = some false)
    (hb : Binds X.K fd ps []) (hr : Room n X.A) (hx : Passes CX X E) : OpR X (binaryOp op) (rOwnI C sp E) := by
  intro pins s σ H x y v u Q I rx ry hq; obtain ⟨a, dx, fs, i, rfl, rfl, ha, q⟩ := hq
  cases rx
  obtain ⟨t, rfl⟩ := ry
  obtain ⟨mA, J0, _⟩ := ins_get I.hok ha; obtain ⟨od, J, _⟩ := J0.look
  obtain ⟨m, hF⟩ := I.fr
  refine PySem.W.ksp_binT (T := "int") hF I.ok.mod.kin J rfl hc hs hf hrr hp h1 h2 hsub ?_
  exact own_call (vs := [.ref a, .int i]) F hb hr hx I (.cons rfl (.cons ⟨_, rfl⟩ .nil)) q fun z w H' s' I' rz qz => notImp rz ⟨z, H', I', rz, qz⟩

/-- -x -/
def rOwnU (C : Addr) (sp : Sp) (E : XK) : V → Hp → VK → Prop := fun x H Q => ∃ a dx fs, x = .ref a ∧ H a = some (.ins C dx fs) ∧ sp [x] H Q E
theorem un_own (F : FnOk X.prog X.w X.K X.mg X.base CX n f fd ps sp) (hs : PySem.W.findIn X.K (.ref C) "__neg__" = some (some (.ref f))) (hf : PySem.W.isFn X.K (.ref f) = true)
    (hb : Binds X.K fd ps []) (hr : Room n X.A) (hx : Passes CX X E) : UnR X (unaryOp .USub) (rOwnU C sp E) := by
  intro pins s σ H x v Q I rx hq
  obtain ⟨a, dx, fs, rfl, ha, q⟩ := hq
  cases rx
  obtain ⟨mA, J0, _⟩ := ins_get I.hok ha; obtain ⟨od, J, _⟩ := J0.look
  obtain ⟨m, hF⟩ := I.fr
  refine PySem.W.ksp_neg hF I.ok.mod.kin J hs hf ?_
  exact own_call (vs := [.ref a]) F hb hr hx I (.cons rfl .nil) q fun z w H' s' I' rz qz => ⟨z, H', I', rz, qz⟩

/-- x == y -/
theorem op_ownEq (F : FnOk X.prog X.w X.K X.mg X.base CX n f fd ps sp) (hs : PySem.W.findIn X.K (.ref C) "__eq__" = some (some (.ref f))) (hf : PySem.W.isFn X.K (.ref f) = true)
    (hb : Binds X.K fd ps []) (hr : Room n X.A) (hx : Passes CX X E) : OpR X (compareOp .Eq) (rOwnB C sp E) := by
  intro pins s σ H x y v u Q I rx ry hq; obtain ⟨a, b, dx, dy, fs, gs, rfl, rfl, ha, hb', q⟩ := hq
  cases rx
  cases ry
  obtain ⟨mA, J0, _⟩ := ins_get I.hok ha; obtain ⟨mB, J1, _⟩ := ins_get I.hok hb'
  obtain ⟨od, J, _⟩ := J0.look; obtain ⟨od', J', _⟩ := J1.look
  obtain ⟨m, hF⟩ := I.fr
  show wpAny (model X.prog X.w) X.A (richCompare .Eq _ _) (EP X pins σ Q) X.xe s
  refine PySem.W.cmp_K (op := .Eq) (tb := .ref C) hr.units0 hF I.ok.mod.kin J J'.type (by simp [PySem.W.notFirst]) hs hf ?_
  exact own_call (vs := [.ref a, .ref b]) F hb hr hx I (.cons rfl (.cons rfl .nil)) q fun z w H' s' I' rz qz => notImp rz ⟨z, H', I', rz, qz⟩
end
end OwC
namespace OwC
open PySem L2 PySem.Spec PyProof.Rows
/-- what is written of a class with its own == and no != -/
structure NeTxt (K : PySem.W.Frag) (C f : Addr) : Prop where
  ex : ∃ (nm q : Str) (N : Addr) (bs : List Value) (hdct : Bool) (sn : List Str) (sub : List Value) (ab : Bool) (col : Option Bool) (dd : Option Addr) (k0 k1 k2 k3 k5 : Option Value) (newId : String) (oc : Value) (od : Option Addr) (es : Array DictEntry) (n : Nat) (osl : Array (Option Value)) (fo : Obj),
    K.lookup C = some (excClassObj nm q C N bs [.type "object"] hdct sn sub ab col dd k0 k1 k2 k3 k5 newId) ∧ K.lookup N = some ⟨oc, od, .dict es n, osl⟩ ∧ StrKeys es ∧ nsFind es "__eq__" = some (.ref f) ∧ nsFind es "__ne__" = none ∧ K.lookup f = some fo ∧ fo.cls = .type "function"
section
variable {X : Cx} {CX : CXT} {n : Nat} {C f : Addr} {fd : FuncData} {ps : List Str} {sp : Sp} {E : XK}
theorem room_lt {A : Around} (hr : Room n A) : A.units + 1 < cLine := hu_of hr
/-- a def is called by the machine, one level in -/
theorem own_call1 {pins : List (Addr × Obj)} {σ : L2.St} {H : Hp} {s : Shared} {vs : List V} {us : List Value} {Q : VK} {R : Value → Shared → Prop} (F : FnOk X.prog X.w X.K X.mg X.base CX n f fd ps sp) (hb : Binds X.K fd ps []) (hr : Room (n + 1) X.A) (hx : Passes CX X E)
    (I : Inv X pins σ H s) (r : Vals vs us) (h : sp vs H Q E) (hR : ∀ z w H' s', Inv X pins σ H' s' → RelV z w → Q z H' → R w s') :
    wpAny (model X.prog X.w) X.A.in1 (call (.ref f) us) R X.xe s := by
  have hl := F.len _ _ _ _ h
  refine wpAny_call (codeAny_mono (F.run X.A.in1 X.stack s H ⟨us, []⟩ us vs Q E hr.in1 I.env0.in1 (by
    have := hb s us I.kIn (by simpa [r.length] using hl)
    simpa using this) r h) fun r s' hq => ?_)
  cases r with
  | error er => exact hx pins σ H s er s' I hq
  | ok fl =>
    cases fl with
    | ret w =>
      obtain ⟨z, H', I', rz, q⟩ := I.after hq
      exact hR z w H' s' I' rz q
    | next => exact False.elim hq
    | brk => exact False.elim hq
    | cont => exact False.elim hq
/-- x != y by the class's own == (which hands back a bool) -/
def rOwnNe (C : Addr) (sp : Sp) (E : XK) : R2 := fun x y H Q => ∃ a b dx dy fs gs, x = .ref a ∧ y = .ref b ∧ H a = some (.ins C dx fs) ∧ H b = some (.ins C dy gs) ∧ sp [x, y] H (fun v H1 => ∃ c, v = .bl c ∧ Q (.bl (!c)) H1) E
theorem op_ownNe (F : FnOk X.prog X.w X.K X.mg X.base CX n f fd ps sp) (N : NeTxt X.K C f) (hb : Binds X.K fd ps []) (hr : Room (n + 1) X.A) (hx : Passes CX X E) : OpR X (compareOp .NotEq) (rOwnNe C sp E) := by
  intro pins s σ H x y v u Q I rx ry hq; obtain ⟨a, b, dx, dy, fs, gs, rfl, rfl, ha, hb', q⟩ := hq
  cases rx
  cases ry
  obtain ⟨mA, J0, _⟩ := ins_get I.hok ha; obtain ⟨mB, J1, _⟩ := ins_get I.hok hb'
  obtain ⟨od, J, _⟩ := J0.look; obtain ⟨od', J', _⟩ := J1.look
  obtain ⟨nm, q1, Na, bs, hdct, sn, sub, ab, col, dd, k0, k1, k2, k3, k5, newId, oc, od2, es, n2, osl, fo, hC, hN, hk, he, hne, hf, hfc⟩ := N.ex
  have hin := I.kIn
  have own : s.heap.OwnEqNoNe a C f "object" [.type "object"] :=
    ⟨_, fo, nm, q1, Na, bs, hdct, sn, sub, ab, col, dd, k0, k1, k2, k3, k5, newId, fun x => nsFind es x, _, J.1, J.cls, hin _ _ hC, ⟨_, es, n2, hin _ _ hN, rfl, hk, fun _ => rfl⟩, he, hin _ _ hf, hfc, PySem.F.mro_object, PySem.F.cmp_object.eq.lookup, hne⟩
  have go := own_call1 (R := fun v s' => ∃ b, v = .bool b ∧ EP X pins σ Q (.bool (!b)) s') (vs := [.ref a, .ref b]) F hb hr hx I (.cons rfl (.cons rfl .nil)) q fun z w H' s' I' rz ⟨c, hz, qz⟩ => by
    subst hz
    exact ⟨c, rz, .bl (!c), H', I', rfl, qz⟩
  have jo := J'.1; have jc := J'.cls
  clear I J J' J0 J1 ha hb' q hin
  obtain ⟨hp, g, dr, tk, os⟩ := s
  exact compareOp_ne_ownEq PySem.F.cmp_object own jo jc (room_lt hr) go
end
end OwC
namespace OwC
open PySem L2 PySem.Spec PyProof.Rows
section
variable {X : Cx} {CX : CXT} {n : Nat} {C f : Addr} {fd : FuncData} {ps : List Str} {sp : Sp} {E : XK}
theorem truthy_bl {M : Model} {A : Around} {c : Bool} {Q : Bool → Shared → Prop} {E : Value → Shared → Prop} {s : Shared} (h : Q c s) : wpAny M A (truthy (.bool c)) Q E s := wpAny_pure h
def rOwnIn (C : Addr) (sp : Sp) (E : XK) (neg : Bool) : R2 := fun x y H Q => ∃ a dx fs, y = .ref a ∧ H a = some (.ins C dx fs) ∧ sp [y, x] H (fun v H1 => ∃ c, v = .bl c ∧ Q (.bl (if neg = true then !c else c)) H1) E
theorem op_ownIn (F : FnOk X.prog X.w X.K X.mg X.base CX n f fd ps sp) (hs : PySem.W.findIn X.K (.ref C) "__contains__" = some (some (.ref f))) (hf : PySem.W.isFn X.K (.ref f) = true)
    (hb : Binds X.K fd ps []) (hr : Room n X.A) (hx : Passes CX X E) : OpR X (compareOp .In) (rOwnIn C sp E false) := by
  intro pins s σ H x y v u Q I rx ry hq; obtain ⟨a, dx, fs, rfl, ha, q⟩ := hq
  cases ry
  obtain ⟨mA, J0, _⟩ := ins_get I.hok ha; obtain ⟨od, J, _⟩ := J0.look
  obtain ⟨m, hF⟩ := I.fr
  refine PySem.W.in_K hF I.ok.mod.kin J hs hf ?_
  exact own_call (vs := [.ref a, x]) F hb hr hx I (.cons rfl (.cons rx .nil)) q fun z w H' s' I' rz ⟨c, hz, qz⟩ => by
    subst hz
    cases (show w = Value.bool c from rz)
    exact truthy_bl ⟨.bl c, H', I', rfl, qz⟩
theorem op_ownNotIn (F : FnOk X.prog X.w X.K X.mg X.base CX n f fd ps sp) (hs : PySem.W.findIn X.K (.ref C) "__contains__" = some (some (.ref f))) (hf : PySem.W.isFn X.K (.ref f) = true)
    (hb : Binds X.K fd ps []) (hr : Room n X.A) (hx : Passes CX X E) : OpR X (compareOp .NotIn) (rOwnIn C sp E true) := by
  intro pins s σ H x y v u Q I rx ry hq; obtain ⟨a, dx, fs, rfl, ha, q⟩ := hq
  cases ry
  obtain ⟨mA, J0, _⟩ := ins_get I.hok ha; obtain ⟨od, J, _⟩ := J0.look
  obtain ⟨m, hF⟩ := I.fr
  refine PySem.W.notIn_K hF I.ok.mod.kin J hs hf ?_
  exact own_call (vs := [.ref a, x]) F hb hr hx I (.cons rfl (.cons rx .nil)) q fun z w H' s' I' rz ⟨c, hz, qz⟩ => by
    subst hz
    cases (show w = Value.bool c from rz)
    exact truthy_bl ⟨.bl (!c), H', I', rfl, qz⟩
/-- what kind a thing is -/
inductive KindOf (K : PySem.W.Frag) (H : Hp) : V → Value → Prop where
  | non : KindOf K H .non (.type "NoneType")
  | bl (x : Bool) : KindOf K H (.bl x) (.type "bool")
  | int (i : Int) : KindOf K H (.int i) (.type "int")
  | str (x : Str) : KindOf K H (.str x) (.type "str")
  | lst {a : Addr} {xs : List V} (e : SqL K H a xs) : KindOf K H (.ref a) (.type "list")
  | tup {a : Addr} {xs : List V} (e : SqT K H a xs) : KindOf K H (.ref a) (.type "tuple")
  | ins {a D dx : Addr} {fs : List (Str × V)} (e : H a = some (.ins D dx fs)) : KindOf K H (.ref a) (.ref D)
theorem KindOf.looks {pins : List (Addr × Obj)} {σ : L2.St} {H : Hp} {s : Shared} {y : V} {u t : Value} (I : Inv X pins σ H s) (r : RelV y u) (k : KindOf X.K H y t) : PySem.W.Looks (model X.prog X.w) s.heap (typeOf u) t := by
  cases k with
  | non => cases (show u = Value.none from r); exact fun A Q E s k q => wpAny_pure q
  | bl x => cases (show u = Value.bool x from r); exact fun A Q E s k q => wpAny_pure q
  | int i => obtain ⟨t, rfl⟩ := (show ∃ t, u = Value.int i t from r); exact fun A Q E s k q => wpAny_pure q
  | str x => obtain ⟨t, rfl⟩ := (show ∃ t, u = Value.str x t from r); exact fun A Q E s k q => wpAny_pure q
  | lst e =>
    obtain rfl : u = Value.ref _ := r
    obtain ⟨its, rv, ⟨o, n, ho, hc, _, hd⟩, _⟩ := I.list e
    exact fun A Q E s k q => wpAny_typeOf_ref (k _ _ ho) (by rw [hc]; exact q)
  | tup e =>
    obtain rfl : u = Value.ref _ := r
    obtain ⟨its, rv, ⟨o, ho, hc, n, hd⟩, _⟩ := I.tuple e
    exact fun A Q E s k q => wpAny_typeOf_ref (k _ _ ho) (by rw [hc]; exact q)
  | ins e =>
    obtain rfl : u = Value.ref _ := r
    obtain ⟨mB, J1, _⟩ := ins_get I.hok e; obtain ⟨od', J', _⟩ := J1.look
    exact J'.type
/-- x == y, y of a kind that is no kind of x's class -/
def rOwnEqX (K : PySem.W.Frag) (C : Addr) (sp : Sp) (E : XK) : R2 := fun x y H Q => ∃ a dx fs t, x = .ref a ∧ H a = some (.ins C dx fs) ∧ KindOf K H y t ∧ PySem.W.notFirst K C t = true ∧ sp [x, y] H Q E
theorem op_ownEqX (F : FnOk X.prog X.w X.K X.mg X.base CX n f fd ps sp) (hs : PySem.W.findIn X.K (.ref C) "__eq__" = some (some (.ref f))) (hf : PySem.W.isFn X.K (.ref f) = true)
    (hb : Binds X.K fd ps []) (hr : Room n X.A) (hx : Passes CX X E) : OpR X (compareOp .Eq) (rOwnEqX X.K C sp E) := by
  intro pins s σ H x y v u Q I rx ry hq; obtain ⟨a, dx, fs, t, rfl, ha, hk, hn, q⟩ := hq
  cases rx
  obtain ⟨mA, J0, _⟩ := ins_get I.hok ha
  obtain ⟨od, J, _⟩ := J0.look
  obtain ⟨m, hF⟩ := I.fr
  show wpAny (model X.prog X.w) X.A (richCompare .Eq _ _) (EP X pins σ Q) X.xe s
  refine PySem.W.cmp_K (op := .Eq) (tb := t) hr.units0 hF I.ok.mod.kin J (hk.looks I ry) hn hs hf ?_
  exact own_call (vs := [.ref a, y]) F hb hr hx I (.cons rfl (.cons ry .nil)) q fun z w H' s' I' rz qz => notImp rz ⟨z, H', I', rz, qz⟩
end
end OwC
namespace OwC
open PySem L2 PySem.Spec PyProof.Rows
section
variable {X : Cx} {CX : CXT} {k : Nat} {g C : Addr} {fd : FuncData} {ps : List Str} {sp : Sp} {E : L2.St → XK} {fe e : PySem.Expr} {es : List PySem.Expr} {tf : TE} {t : TA} {pos : Pos}
theorem codeD {pins : List (Addr × Obj)} {σ : L2.St} {H : Hp} {s : Shared} {Q : VK} {us : List Value} {vs : List V} (F : FnOk X.prog X.w X.K X.mg X.base CX k g fd ps sp) (hr : Room k X.A) (hb : Binds X.K fd ps []) (hx : PassesAt CX X σ (E σ)) (I : Inv X pins σ H s) (r : Vals vs us) (h : sp vs H Q (E σ)) :
    codeAny (model X.prog X.w) X.A (.call (.ref g) ⟨us, []⟩) (fun r s' => match r with | .ok (.ret v) => EP X pins σ Q v s' | .ok _ => False | .error e => X.xe e s') s := by
  have hl := F.len _ _ _ _ h
  refine codeAny_mono (F.run X.A X.stack s H ⟨us, []⟩ us vs Q (E σ) hr I.env0 (by
    have := hb s us I.kIn (by simpa [r.length] using hl)
    simpa using this) r h) fun r s' hq => ?_
  cases r with
  | error er => exact hx pins H s er s' I hq
  | ok fl =>
    cases fl with
    | ret u => exact I.after hq
    | next => exact False.elim hq
    | brk => exact False.elim hq
    | cont => exact False.elim hq
/-- f(e, ..), f an object of C: what is raised is wished for at the caller's slots -/
def tCallOE (C : Addr) (sp : Sp) (E : L2.St → XK) (tf : TE) (t : TA) : TE := fun σ H Q => tf σ H fun y H1 => ∃ a, y = V.ref a ∧ t σ H1 fun vs H2 => (∃ dx fs, H2 a = some (.ins C dx fs)) ∧ sp (V.ref a :: vs) H2 Q (E σ)
theorem pe_callOE (hf : PE X fe tf) (c : StX.CallO X.K C g) (F : FnOk X.prog X.w X.K X.mg X.base CX k g fd ps sp) (hr : Room k X.A) (hb : Binds X.K fd ps []) (hx : ∀ σ, PassesAt CX X σ (E σ)) (ha : PA X (e :: es) t)
    (ht : eval (.Call fe (e :: es) [] pos) X.env = (do callWith pos (← eval fe X.env) [] (backTo pos (starEach (e :: es) X.env)) (backToKw pos (keywordEach [] X.env))) := by rfl)
    (he : starEach (e :: es) X.env = (false, eval e X.env) :: starEach es X.env := by rfl) (hpl : (backTo pos (starEach es X.env)).any (·.1) = false := by rfl) : PE X (.Call fe (e :: es) [] pos) (tCallOE C sp E tf t) := by
  refine ⟨fun pins s σ H Q I h => ?_⟩
  refine Call_ (thn (hf.run pins s σ H _ I h) fun u s1 ⟨y, H1, I1, ry, a, ey, q⟩ => ?_) ht
  subst ey
  obtain rfl : u = Value.ref a := ry
  refine StX.callO_with (thn (ha.run pos pins s1 σ H1 _ I1 q) fun us s2 ⟨vs, H2, I2, r, hi, q2⟩ => ?_) he hpl
  obtain ⟨ox, od, J, hd⟩ := StX.insC_at I2 (.inr hi)
  exact ⟨⟨C, ox, od, J, hd⟩, wpAny_call (PySem.W.kco_code I2.kIn J hd c.at_ c.fn c.fi (codeD (vs := .ref a :: vs) (us := .ref a :: us) F hr hb (hx σ) I2 (.cons rfl r) q2))⟩
end

/-! a class in a variable, called -/
def tMakeL (i : Nat) (C : Addr) (sp : Sp) (E : XK) (t : TA) : TE := fun σ H Q => σ[i]? = some (some (.ref C)) ∧ tMake C sp [] E t σ H Q
section
variable {X : Cx} {CX : CXT} {k i : Nat} {f C : Addr} {fd : FuncData} {ps : List Str} {sp : Sp} {E : XK} {x : Str} {p pos : Pos} {e : PySem.Expr} {es : List PySem.Expr} {t : TA}
theorem pe_makeL (M : Mk X.K C f) (F : FnOk X.prog X.w X.K X.mg X.base CX k f fd ps sp) (hr : Room (k + 1) X.A) (hN : X.N[i]? = some x) (hv : Vis X.env.scope x) (hb : Binds X.K fd ps []) (hx : Passes CX X E) (ha : PA X (e :: es) t)
    (hdb : (x == ("__debug__" : Str)) = false := by decide) (hcd : (x == ("__classdict__" : Str)) = false := by decide)
    (he : starEach (e :: es) X.env = (false, eval e X.env) :: starEach es X.env := by rfl) (hpl : (backTo pos (starEach es X.env)).any (·.1) = false := by rfl) : PE X (.Call (.Name x p) (e :: es) [] pos) (tMakeL i C sp E t) := by
  refine ⟨fun pins s σ H Q I h => ?_⟩
  obtain ⟨hs, ht⟩ := h
  refine wpAny_Call_Name_kw (thn ((pe_var (pos := p) hN hv hdb hcd).run pins s σ H (fun v H1 => v = .ref C ∧ H1 = H) I ⟨.ref C, hs, rfl, rfl⟩) fun u s1 ⟨v, H1, I1, r1, q1⟩ => ?_)
  obtain ⟨rfl, rfl⟩ := q1
  cases r1
  refine PySem.W.callWith_K (h₀ := X.base) I.ok.mod.kin M.kp (thn (ha.run pos pins s1 σ _ _ I1 ht) fun us s2 ⟨vs, H2, I2, r, q⟩ => ⟨I2.kIn, ?_⟩) he hpl
  exact run_make M F hr hb .nil hx I2 r q
end
end OwC
namespace K20
open PySem PySem.Spec PyProof.Rows L2 Evl RZ Ev2 TA5
open Ow
abbrev s_F_left : Stmt := inClass (topS 41) 1
abbrev N_F_left : List Str := ["self"]
theorem sc_F_left : FnScope N_F_left ["self"] (defScope s_F_left) := ⟨rfl, rfl, rfl, by decide +kernel, rfl, by decide +kernel, by decide +kernel⟩
abbrev s_F_right : Stmt := inClass (topS 41) 2
abbrev N_F_right : List Str := ["self"]
theorem sc_F_right : FnScope N_F_right ["self"] (defScope s_F_right) := ⟨rfl, rfl, rfl, by decide +kernel, rfl, by decide +kernel, by decide +kernel⟩
abbrev s_F_len : Stmt := inClass (topS 41) 12
abbrev N_F_len : List Str := ["self"]
theorem sc_F_len : FnScope N_F_len ["self"] (defScope s_F_len) := ⟨rfl, rfl, rfl, by decide +kernel, rfl, by decide +kernel, by decide +kernel⟩
abbrev s_law_told : Stmt := topS 50
abbrev N_law_told : List Str := ["_law_left", "_law_right", "_law_facts", "e", "_law_kept"]
theorem sc_law_told : FnScope N_law_told ["_law_left", "_law_right", "_law_facts"] (defScope s_law_told) := ⟨rfl, rfl, rfl, by decide +kernel, rfl, by decide +kernel, by decide +kernel⟩

/-! ### values of any kind beside list and tuple -/
def KB (K : PySem.W.Frag) (b : Bool) : HP := fun v H => ∀ H1, Evl.Ex H H1 → ∃ t, TyX K H1 v t ∧ PySem.W.kitAny K t [.type "list", .type "tuple"] = some b
theorem mono_kb {K : PySem.W.Frag} {b : Bool} : Mono (KB K b) := fun _ _ _ e h H1 e1 => h H1 (e.trans e1)
theorem kb_no {K : PySem.W.Frag} {a : String} (h1 : kitB a "list" = some false) (h2 : kitB a "tuple" = some false) : PySem.W.kitAny K (.type a) [.type "list", .type "tuple"] = some false :=
  kitAny_cons (b := false) (kit_ty h1) (fun _ => kitAny_cons (b := false) (kit_ty h2) (fun _ => kitAny_nil) (fun z => by cases z)) (fun z => by cases z)
theorem kb_lst {K : PySem.W.Frag} : PySem.W.kitAny K (.type "list") [.type "list", .type "tuple"] = some true :=
  kitAny_cons (b := true) (kit_ty (by decide +kernel)) (fun z => by cases z) (fun _ => rfl)
theorem kb_tup {K : PySem.W.Frag} : PySem.W.kitAny K (.type "tuple") [.type "list", .type "tuple"] = some true :=
  kitAny_cons (b := false) (kit_ty (by decide +kernel)) (fun _ => kitAny_cons (b := true) (kit_ty (by decide +kernel)) (fun z => by cases z) (fun _ => rfl)) (fun z => by cases z)
theorem kb_lsP {K : PySem.W.Frag} {H : Hp} {α : Type} {Pi : α → HP} {zs : List α} {v : V} (h : LsP Pi zs v H) : KB K true v H := fun H1 e => by
  obtain ⟨p, ys, rfl, hp, _⟩ := h
  exact ⟨_, .base (.lst (e _ _ hp)), kb_lst⟩
theorem kb_tsP {K : PySem.W.Frag} {H : Hp} {α : Type} {Pi : α → HP} {zs : List α} {v : V} (h : TsP Pi zs v H) : KB K true v H := fun H1 e => by
  obtain ⟨p, ys, rfl, hp, _⟩ := h
  exact ⟨_, .base (.tup (e _ _ hp)), kb_tup⟩
section
variable {K : PySem.W.Frag} {σ : L2.St} {H : Hp} {ta tb te tl : TE} {ta' : TA}
theorem evp_isT {b : Bool} (h : EvP te σ H (KB K b)) : EvP (tCB (rIsiT K) (tCons te (tCons (tTup (tCons (tC (.ty "list")) (tCons (tC (.ty "tuple")) tNil))) tNil))) σ H (Is (.bl b)) := fun H1 e Q q =>
  h H1 e _ fun v H2 e2 hv => ⟨sz_of (show 2 ≤ 100000 by decide), fun t ht => by
    obtain ⟨ty, k1, k2⟩ := hv _ (Ex.new ht)
    exact ⟨v, t, _, ty, _, b, rfl, upd_same, .cons (.ty _) (.cons (.ty _) .nil), k1, k2, q _ _ (e2.trans (Ex.new ht)) rfl⟩⟩
end
section
variable {P : Program} {w : World} {K : PySem.W.Frag} {mg : Str → Option Value} {base : Heap} {tk : Tok} {k : Nat} {CV iV CP iP C fI : Addr}
def spChkO (K : PySem.W.Frag) (CP : Addr) : Sp := fun vs H _ E => ∃ (v : V) (l r : Int), vs = [.int l, .int r, v] ∧ KB K false v H ∧ Rz "place" CP .non H E
theorem ok_chkO {f f1 f2 : Addr} {fd fd1 fd2 : FuncData} {tk2 : Tok} (EP : EPT K mg CP iP) (c_MF : mg "MOST_FACTS" = some (.int 40 tk2)) (D_is_fact : Df K mg "is_fact" s_is_fact ["left", "right", "value"] f1 fd1) (G_is_fact : FnOk P w K mg base CX0 (k + 6) f1 fd1 ["left", "right", "value"] spFact)
    (D_first_crossing : Df K mg "first_crossing" s_first_crossing ["facts"] f2 fd2) (G_first_crossing : FnOk P w K mg base CX0 (k + 2) f2 fd2 ["facts"] spFirstL) (T : Txt mg tk)
    (D : Df K mg "check_facts" s_check_facts ["left", "right", "facts"] f fd) : FnOk P w K mg base (L2.CX P w) (k + 7) f fd ["left", "right", "facts"] (spChkO K CP) := by
  refine D.F.okX sc_check_facts (fun vs H Q E h => ?_) (fun cdv A outer s0 H vs Q E hr h => ?_)
  · obtain ⟨v, l, r, rfl, _⟩ := h
    rfl
  · obtain ⟨v, l, r, rfl, hv, q1⟩ := h
    have nd := sc_check_facts.nd
    refine ⟨_, (pss_cons (ps_if (PW.pt (pw_or (pt_not (pt_val (pe_callB (r := rIsiT K) call_isiT (by rfl) T.n_isinstance PyProof.Rows.boot_isinstance (pa_cons (pv 2) (pa_cons (pe_tup (pa_cons (pe_bltn (v := .ty "list") (by rfl) T.n_list PyProof.Rows.boot_list rfl) (pa_cons (pe_bltn (v := .ty "tuple") (by rfl) T.n_tuple PyProof.Rows.boot_tuple rfl) pa_nil))) pa_nil))))) (pw_or1 (pt_cmpR op_gt (pe_callB (r := rLenQ K) call_len_seq (by rfl) T.n_len PySem.boot_len (pa_cons (pv 2) pa_nil)) (pe_glob (v := .int 40) rfl c_MF ⟨_, rfl⟩) (nomark _))))) (pss_one (ErrPL.ps_raiseErr rfl EP hr (takes_of rfl rfl rfl rfl) (pa_cons pe_non pa_nil))) pss_nil) (pss_cons (ps_for (passes_of rfl) rfl (pi_enum (by rfl) T.n_enumerate (pa_cons (pv 2) pa_nil)) (pg_tup rfl (pgs_cons (pg_name (i := 4) nd rfl (Or.inl rfl)) (pgs_cons (pg_name (i := 5) nd rfl (Or.inl rfl)) pgs_nil))) (pss_one (ps_if (pt_not (pt_val (pe_call G_is_fact (hr.mono (by omega)) (by rfl) D_is_fact.g D_is_fact.F.kp D_is_fact.b .nil pass0 (pa_cons (pv 0) (pa_cons (pv 1) (pa_cons (pv 5) pa_nil)))))) (pss_one (ErrPL.ps_raiseErr rfl EP hr (takes_of rfl rfl rfl rfl) (pa_cons (pv 4) pa_nil))) pss_nil))) (pss_cons (ps_set (i := 3) nd rfl (Or.inl rfl) (pe_call G_first_crossing (hr.mono (by omega)) (by rfl) D_first_crossing.g D_first_crossing.F.kp D_first_crossing.b .nil pass0 (pa_cons (pv 2) pa_nil))) (pss_one (ps_if (pt_cmpR (r := rNoN) op_notN (pv 3) pe_non (nomark _)) (pss_one (ErrPL.ps_raiseErr rfl EP hr (takes_of rfl rfl rfl rfl) (pa_cons (pv 3) pa_nil))) pss_nil))))), ?_⟩
    refine q_when (b := true) (et_is (et_or (a := true) (b := true) (et_is (et_not (et_bl (evp_isT (K := K) (b := false) (evp_var (i := 2) rfl hv mono_kb)))) rfl) fun z => nomatch z) rfl) (fun hb H1 e1 => ?_) fun z => nomatch z
    exact ⟨.non, rfl, fun d hd => q1 d _ (e1.trans (Ex.new hd)) upd_same⟩
def spFIO (K : PySem.W.Frag) (C CP : Addr) : Sp := fun vs H _ E => ∃ (a dx : Addr) (l r : Nat) (v : V), vs = [.ref a, .int (l : Int), .int (r : Int), v] ∧ H a = some (.ins C dx []) ∧ (1 ≤ l ∧ l ≤ 8) ∧ (1 ≤ r ∧ r ≤ 8) ∧ KB K false v H ∧ Rz "place" CP .non H E
theorem ok_FIO {f1 f2 : Addr} {fd d1 d2 : FuncData} (EV : EVT K mg CV iV) (FK : FaK K mg C fI) (T : Txt mg tk)
    (D_check_sizes : Df K mg "check_sizes" s_check_sizes ["left", "right"] f1 d1) (G_check_sizes : FnOk P w K mg base (L2.CX P w) (k + 5) f1 d1 ["left", "right"] (spCheckSizes CV))
    (D_check_facts : Df K mg "check_facts" s_check_facts ["left", "right", "facts"] f2 d2) (G_check_facts : FnOk P w K mg base (L2.CX P w) (k + 7) f2 d2 ["left", "right", "facts"] (spChkO K CP))
    {dvs : List V} (F : FunD K "__init__" "Facts.__init__" (defArgs s_F_init) (defBody s_F_init) (defScope s_F_init) dvs [] fI fd) : FnOk P w K mg base (L2.CX P w) (k + 8) fI fd ["self", "left", "right", "facts"] (spFIO K C CP) := by
  refine F.ok sc_F_init (fun vs H Q E h => ?_) (fun cdv A outer s0 H vs Q E hr h => ?_)
  · obtain ⟨a, dx, l, r, v, rfl, _⟩ := h
    rfl
  · obtain ⟨a, dx, l, r, v, rfl, ha, hl, hr', hv, qe⟩ := h
    have nd := sc_F_init.nd
    refine ⟨_, (pss_cons (ps_expr (pe_callS G_check_sizes (hr.mono (by omega)) (by rfl) D_check_sizes.g D_check_sizes.F.kp D_check_sizes.b (fun σ => passAt (takes_of rfl rfl rfl rfl) σ) (pa_cons (pv 1) (pa_cons (pv 2) pa_nil)))) (pss_cons (ps_expr (pe_callS G_check_facts (hr.mono (by omega)) (by rfl) D_check_facts.g D_check_facts.F.kp D_check_facts.b (fun σ => passAt (takes_of rfl rfl rfl rfl) σ) (pa_cons (pv 1) (pa_cons (pv 2) (pa_cons (pv 3) pa_nil))))) (pss_cons (ps_fld (pv 0) (pv 1) rfl) (pss_cons (ps_fld (pv 0) (pv 2) rfl) (pss_one (ps_fld (pv 0) (pe_callTy (r := rTupQ K) call_tuple_of (by rfl) T.n_tuple PyProof.Rows.boot_tuple (pa_cons (pv 3) pa_nil)) rfl)))))), ?_⟩
    refine ⟨.int (l : Int), rfl, .int (r : Int), rfl, ?_⟩
    refine ⟨.int (l : Int), .int (r : Int), .int (l : Int), .int (r : Int), rfl, .flat rfl, .flat rfl, fun hb => ?_, fun _ hb => ?_, fun _ _ H1 e1 => ?_⟩
    · exact absurd hb (by show ¬ (decide ((1 : Int) ≤ (l : Int)) && decide ((l : Int) ≤ 8)) = false; simp; omega)
    · exact absurd hb (by show ¬ (decide ((1 : Int) ≤ (r : Int)) && decide ((r : Int) ≤ 8)) = false; simp; omega)
    exact ⟨.int (l : Int), rfl, .int (r : Int), rfl, v, rfl, v, l, r, rfl, mono_kb _ _ _ e1 hv, fun d H2 e2 h2 => qe d H2 (e1.trans e2) h2⟩
def spFIN (CV : Addr) : Sp := fun vs H _ E => ∃ (a : Addr) (x y v : V) (dx dy : PyData), vs = [.ref a, x, y, v] ∧ It H x dx ∧ It H y dy ∧ (isSz dx = true → isSz dy = true → False) ∧ (isSz dx = false → Rz "value" CV x H E) ∧ (isSz dx = true → isSz dy = false → Rz "value" CV y H E)
theorem ok_FIN {f1 f2 : Addr} {fd d1 d2 : FuncData} (EV : EVT K mg CV iV) (FK : FaK K mg C fI) (T : Txt mg tk)
    (D_check_sizes : Df K mg "check_sizes" s_check_sizes ["left", "right"] f1 d1) (G_check_sizes : FnOk P w K mg base (L2.CX P w) (k + 5) f1 d1 ["left", "right"] (spCheckSizes CV))
    (D_check_facts : Df K mg "check_facts" s_check_facts ["left", "right", "facts"] f2 d2) (G_check_facts : FnOk P w K mg base (L2.CX P w) (k + 7) f2 d2 ["left", "right", "facts"] (spChkO K CP))
    {dvs : List V} (F : FunD K "__init__" "Facts.__init__" (defArgs s_F_init) (defBody s_F_init) (defScope s_F_init) dvs [] fI fd) : FnOk P w K mg base (L2.CX P w) (k + 8) fI fd ["self", "left", "right", "facts"] (spFIN CV) := by
  refine F.ok sc_F_init (fun vs H Q E h => ?_) (fun cdv A outer s0 H vs Q E hr h => ?_)
  · obtain ⟨a, x, y, v, dx, dy, rfl, _⟩ := h
    rfl
  · obtain ⟨a, x, y, v, dx, dy, rfl, hx, hy, hno, q1, q2⟩ := h
    have nd := sc_F_init.nd
    refine ⟨_, (pss_cons (ps_expr (pe_callS G_check_sizes (hr.mono (by omega)) (by rfl) D_check_sizes.g D_check_sizes.F.kp D_check_sizes.b (fun σ => passAt (takes_of rfl rfl rfl rfl) σ) (pa_cons (pv 1) (pa_cons (pv 2) pa_nil)))) (pss_cons (ps_expr (pe_callS G_check_facts (hr.mono (by omega)) (by rfl) D_check_facts.g D_check_facts.F.kp D_check_facts.b (fun σ => passAt (takes_of rfl rfl rfl rfl) σ) (pa_cons (pv 1) (pa_cons (pv 2) (pa_cons (pv 3) pa_nil))))) (pss_cons (ps_fld (pv 0) (pv 1) rfl) (pss_cons (ps_fld (pv 0) (pv 2) rfl) (pss_one (ps_fld (pv 0) (pe_callTy (r := rTupQ K) call_tuple_of (by rfl) T.n_tuple PyProof.Rows.boot_tuple (pa_cons (pv 3) pa_nil)) rfl)))))), ?_⟩
    refine ⟨x, rfl, y, rfl, ?_⟩
    exact ⟨x, y, dx, dy, rfl, hx, hy, fun hb d H2 e h2 => q1 hb d H2 e h2, fun ha hb d H2 e h2 => q2 ha hb d H2 e h2, fun ha hb => (hno ha hb).elim⟩
def FoZ (C t : Addr) (l r : Int) : HP := fun v H => ∃ a dx, v = .ref a ∧ H a = some (.ins C dx (fldF (.int l) (.int r) (.ref t)))
def spFirstZ (K : PySem.W.Frag) : Sp := fun vs H Q _ => ∃ t : Addr, vs = [.ref t] ∧ (∀ H', SqT K H' t []) ∧ ∀ H2, Evl.Ex H H2 → Q .non H2
theorem ok_firstZ {f f1 : Addr} {fd fd1 : FuncData} (D_crosses : Df K mg "crosses" s_crosses ["one", "other"] f1 fd1) (G_crosses : FnOk P w K mg base CX0 (k + 1) f1 fd1 ["one", "other"] spCross) (T : Txt mg tk)
    (D : Df K mg "first_crossing" s_first_crossing ["facts"] f fd) : FnOk P w K mg base CX0 (k + 2) f fd ["facts"] (spFirstZ K) := by
  refine D.F.ok sc_first_crossing (fun vs H Q E h => ?_) (fun cdv A outer s0 H vs Q E hr h => ?_)
  · obtain ⟨t, rfl, _⟩ := h
    rfl
  · obtain ⟨p, rfl, hp, q0⟩ := h
    have nd := sc_first_crossing.nd
    refine ⟨_, (pss_cons (ps_for PassesOwn.never rfl (pi_enumT (by rfl) T.n_enumerate (pa_cons (pv 0) pa_nil)) (pg_tup rfl (pgs_cons (pg_name (i := 1) nd rfl (Or.inl rfl)) (pgs_cons (pg_name (i := 2) nd rfl (Or.inl rfl)) pgs_nil))) (pss_one (ps_for PassesOwn.never rfl (pi_range2 (by rfl) T.n_range (pa_cons (pe_op op_add (pv 1) pe_int) (pa_cons (pe_callB (r := rLenQ K) call_len_seq (by rfl) T.n_len PySem.boot_len (pa_cons (pv 0) pa_nil)) pa_nil))) (pg_name (i := 3) nd rfl (Or.inl rfl)) (pss_one (ps_if (pt_val (pe_call G_crosses (hr.mono (by omega)) (by rfl) D_crosses.g D_crosses.F.kp D_crosses.b .nil pass0 (pa_cons (pe_ix (r := rIxT K) ix_tup (pv 2) pe_int (fun _ _ => rfl)) (pa_cons (pe_ix (r := rIxT K) ix_tup (pe_ix (r := rIxT K) ix_tup (pv 0) (pv 3) (fun _ _ => rfl)) pe_int (fun _ _ => rfl)) pa_nil)))) (pss_one (ps_ret (pe_tup (pa_cons (pv 1) (pa_cons (pv 3) pa_nil))))) pss_nil))))) (pss_one (ps_ret pe_non))), ?_⟩
    refine ⟨.ref p, rfl, p, [], rfl, hp H, ?_⟩
    exact for_enumT (fun i σ' H' => Evl.Ex H H') (Ex.refl _) (fun i σ' H' _ => hp H') (fun i x T σ' H' hx _ _ => by cases hx) (fun σ' H' e => q0 H' e)
def spChkZ (K : PySem.W.Frag) : Sp := fun vs H Q _ => ∃ (t : Addr) (l r : Int), vs = [.int l, .int r, .ref t] ∧ (∀ H', SqT K H' t []) ∧ ∀ H2, Evl.Ex H H2 → Q .non H2
theorem ok_chkZ {f f1 f2 : Addr} {fd fd1 fd2 : FuncData} {tk2 : Tok} (EP : EPT K mg CP iP) (c_MF : mg "MOST_FACTS" = some (.int 40 tk2)) (D_is_fact : Df K mg "is_fact" s_is_fact ["left", "right", "value"] f1 fd1) (G_is_fact : FnOk P w K mg base CX0 (k + 6) f1 fd1 ["left", "right", "value"] spFact)
    (D_first_crossing : Df K mg "first_crossing" s_first_crossing ["facts"] f2 fd2) (G_first_crossing : FnOk P w K mg base CX0 (k + 2) f2 fd2 ["facts"] (spFirstZ K)) (T : Txt mg tk)
    (D : Df K mg "check_facts" s_check_facts ["left", "right", "facts"] f fd) : FnOk P w K mg base (L2.CX P w) (k + 7) f fd ["left", "right", "facts"] (spChkZ K) := by
  refine D.F.okX sc_check_facts (fun vs H Q E h => ?_) (fun cdv A outer s0 H vs Q E hr h => ?_)
  · obtain ⟨t, l, r, rfl, _⟩ := h
    rfl
  · obtain ⟨p, l, r, rfl, hp, q0⟩ := h
    have nd := sc_check_facts.nd
    refine ⟨_, (pss_cons (ps_if (PW.pt (pw_or (pt_not (pt_val (OwL.pe_isiTT (pv 2) (by rfl) T.n_isinstance (pa_cons (pe_bltn (v := .ty "list") (by rfl) T.n_list PyProof.Rows.boot_list rfl) (pa_cons (pe_bltn (v := .ty "tuple") (by rfl) T.n_tuple PyProof.Rows.boot_tuple rfl) pa_nil))))) (pw_or1 (pt_cmpR op_gt (pe_callB (r := rLenQ K) call_len_seq (by rfl) T.n_len PySem.boot_len (pa_cons (pv 2) pa_nil)) (pe_glob (v := .int 40) rfl c_MF ⟨_, rfl⟩) (nomark _))))) (pss_one (ErrPL.ps_raiseErr rfl EP hr (takes_of rfl rfl rfl rfl) (pa_cons pe_non pa_nil))) pss_nil) (pss_cons (ps_for (passes_of rfl) rfl (pi_enumT (by rfl) T.n_enumerate (pa_cons (pv 2) pa_nil)) (pg_tup rfl (pgs_cons (pg_name (i := 4) nd rfl (Or.inl rfl)) (pgs_cons (pg_name (i := 5) nd rfl (Or.inl rfl)) pgs_nil))) (pss_one (ps_if (pt_not (pt_val (pe_call G_is_fact (hr.mono (by omega)) (by rfl) D_is_fact.g D_is_fact.F.kp D_is_fact.b .nil pass0 (pa_cons (pv 0) (pa_cons (pv 1) (pa_cons (pv 5) pa_nil)))))) (pss_one (ErrPL.ps_raiseErr rfl EP hr (takes_of rfl rfl rfl rfl) (pa_cons (pv 4) pa_nil))) pss_nil))) (pss_cons (ps_set (i := 3) nd rfl (Or.inl rfl) (pe_call G_first_crossing (hr.mono (by omega)) (by rfl) D_first_crossing.g D_first_crossing.F.kp D_first_crossing.b .nil pass0 (pa_cons (pv 2) pa_nil))) (pss_one (ps_if (pt_cmpR (r := rNoN) op_notN (pv 3) pe_non (nomark _)) (pss_one (ErrPL.ps_raiseErr rfl EP hr (takes_of rfl rfl rfl rfl) (pa_cons (pv 3) pa_nil))) pss_nil))))), ?_⟩
    refine q_when (b := false) (et_is (et_or (a := false) (b := false) (et_is (et_not (et_bl (b := true) (fun H1 e1 Q q => ⟨.ref p, rfl, ⟨p, [], rfl, hp H1⟩, fun t ht => q _ _ (Ex.new ht) rfl⟩))) rfl) fun _ => et_tst (evp_is (evp_I0 (g := fun i j => .bl (decide (i > j))) (i := 0) (fun H1 e1 Q q => ⟨.ref p, rfl, p, [], rfl, .inr (hp H1), q _ H1 (Ex.refl _) rfl⟩) (evp_c (v := .int 40))) rfl)) rfl) (fun z => nomatch z) fun _ H1 e1 => ?_
    refine ⟨.ref p, rfl, p, [], rfl, hp H1, ?_⟩
    refine for_enumT (fun i σ' H' => σ' = start N_check_facts [.int l, .int r, .ref p] ∧ Evl.Ex H H') ⟨rfl, e1⟩ (fun i σ' H' _ => hp H') (fun i x T σ' H' hx _ _ => by cases hx) (fun σ' H' ⟨hs, e⟩ => ?_)
    subst hs
    refine q_asgP (P := Is .non) (evp_call (E := E0) (sp := spFirstZ K) (eap_one (P := Is (.ref p)) (evp_var (i := 2) rfl rfl mono_is)) fun vs H2 ⟨a, hv, ha⟩ Q q E => ⟨p, by rw [hv, show a = _ from ha], hp, fun H3 e3 => q _ H3 e3 rfl⟩) fun v3 H2 e2 h3 => ?_
    have h3' : v3 = .non := h3
    subst h3'
    exact s_when (σ := [some (.int l), some (.int r), some (.ref p), some .non, none, none]) (b := false) (et_tst (evp_is (evp_noN (evp_var (i := 3) rfl rfl mono_is)) rfl)) (fun z => nomatch z) fun _ H3 e3 => q0 H3 ((e.trans e2).trans e3)
def spFIZ (K : PySem.W.Frag) (C : Addr) : Sp := fun vs H Q _ => ∃ (a dx t : Addr) (l r : Nat), vs = [.ref a, .int (l : Int), .int (r : Int), .ref t] ∧ H a = some (.ins C dx []) ∧ (1 ≤ l ∧ l ≤ 8) ∧ (1 ≤ r ∧ r ≤ 8) ∧ (∀ H', SqT K H' t []) ∧
  ∀ H2, Evl.Ex (fun b => if b = a then none else H b) H2 → FoZ C t l r (.ref a) H2 → Q .non H2
theorem ok_FIZ {f1 f2 : Addr} {fd d1 d2 : FuncData} {C fI : Addr} (EV : EVT K mg CV iV) (FK : FaK K mg C fI) (T : Txt mg tk)
    (D_check_sizes : Df K mg "check_sizes" s_check_sizes ["left", "right"] f1 d1) (G_check_sizes : FnOk P w K mg base (L2.CX P w) (k + 5) f1 d1 ["left", "right"] (spCheckSizes CV))
    (D_check_facts : Df K mg "check_facts" s_check_facts ["left", "right", "facts"] f2 d2) (G_check_facts : FnOk P w K mg base (L2.CX P w) (k + 7) f2 d2 ["left", "right", "facts"] (spChkZ K))
    {dvs : List V} (F : FunD K "__init__" "Facts.__init__" (defArgs s_F_init) (defBody s_F_init) (defScope s_F_init) dvs [] fI fd) : FnOk P w K mg base (L2.CX P w) (k + 8) fI fd ["self", "left", "right", "facts"] (spFIZ K C) := by
  refine F.ok sc_F_init (fun vs H Q E h => ?_) (fun cdv A outer s0 H vs Q E hr h => ?_)
  · obtain ⟨a, dx, t, l, r, rfl, _⟩ := h
    rfl
  · obtain ⟨a, dx, p, l, r, rfl, ha, hl, hr', hp, qg⟩ := h
    have nd := sc_F_init.nd
    refine ⟨_, (pss_cons (ps_expr (pe_callS G_check_sizes (hr.mono (by omega)) (by rfl) D_check_sizes.g D_check_sizes.F.kp D_check_sizes.b (fun σ => passAt (takes_of rfl rfl rfl rfl) σ) (pa_cons (pv 1) (pa_cons (pv 2) pa_nil)))) (pss_cons (ps_expr (pe_callS G_check_facts (hr.mono (by omega)) (by rfl) D_check_facts.g D_check_facts.F.kp D_check_facts.b (fun σ => passAt (takes_of rfl rfl rfl rfl) σ) (pa_cons (pv 1) (pa_cons (pv 2) (pa_cons (pv 3) pa_nil))))) (pss_cons (ps_fld (pv 0) (pv 1) rfl) (pss_cons (ps_fld (pv 0) (pv 2) rfl) (pss_one (ps_fld (pv 0) (pe_callTy (r := rTupQ K) call_tuple_of (by rfl) T.n_tuple PyProof.Rows.boot_tuple (pa_cons (pv 3) pa_nil)) rfl)))))), ?_⟩
    refine ⟨.int (l : Int), rfl, .int (r : Int), rfl, ?_⟩
    refine ⟨.int (l : Int), .int (r : Int), .int (l : Int), .int (r : Int), rfl, .flat rfl, .flat rfl, fun hb => ?_, fun _ hb => ?_, fun _ _ H1 e1 => ?_⟩
    · exact absurd hb (by show ¬ (decide ((1 : Int) ≤ (l : Int)) && decide ((l : Int) ≤ 8)) = false; simp; omega)
    · exact absurd hb (by show ¬ (decide ((1 : Int) ≤ (r : Int)) && decide ((r : Int) ≤ 8)) = false; simp; omega)
    refine ⟨.int (l : Int), rfl, .int (r : Int), rfl, .ref p, rfl, p, l, r, rfl, hp, fun H2 e2 => ?_⟩
    have ex := e1.trans e2
    refine ⟨.int (l : Int), rfl, .ref a, rfl, a, C, dx, [], rfl, ex _ _ ha, FK.cl, FK.n1, (by show 0 < 1000; decide), ?_⟩
    rw [fput1]
    refine ⟨.int (r : Int), rfl, .ref a, rfl, a, C, dx, G1 (.int (l : Int)), rfl, upd_same, FK.cl, FK.n2, (by show 1 < 1000; decide), ?_⟩
    rw [fput2]
    refine ⟨.ref p, rfl, p, [], rfl, .inr ⟨hp _, ?_⟩⟩
    refine ⟨.ref a, rfl, a, C, dx, G2 (.int (l : Int)) (.int (r : Int)), rfl, upd_same, FK.cl, FK.n3, (by show 2 < 1000; decide), ?_⟩
    rw [fput3]
    refine qg _ (fun b o hb => ?_) ⟨a, dx, rfl, upd_same⟩
    dsimp only at hb
    by_cases hba : b = a
    · rw [if_pos hba] at hb; cases hb
    · rw [if_neg hba] at hb
      rw [upd_ne hba, upd_ne hba, upd_ne hba]
      exact ex _ _ hb

/-- all of it -/
def spF (K : PySem.W.Frag) (C CP CV : Addr) : Sp := fun vs H Q E => (spFI C CP vs H Q E ∨ spFIO K C CP vs H Q E) ∨ spFIN CV vs H Q E
theorem mk_dflt {σ : L2.St} {H : Hp} {t1 t2 : TE} {t : Addr} {l r : Nat} {EE : L2.St → XK} (hp : ∀ H', SqT K H' t []) (hl : 1 ≤ l ∧ l ≤ 8) (hr : 1 ≤ r ∧ r ≤ 8) (h1 : EvP t1 σ H (Is (.int (l : Int)))) (h2 : EvP t2 σ H (Is (.int (r : Int)))) :
    EvP (TA5.tMakeS C (spFIZ K C) [.ref t] EE (tCons t1 (tCons t2 tNil))) σ H (FoZ C t l r) := fun H1 e Q q =>
  eap_two h1 h2 mono_is H1 e (fun vs H2 => ∀ x dx, H2 x = none → H2 dx = none → dx ≠ x → spFIZ K C (.ref x :: (vs ++ [.ref t])) (upd (upd H2 dx (.own x)) x (.ins C dx [])) (fun v H3 => v = .non ∧ Q (.ref x) H3) (EE σ)) fun vs H2 e2 ⟨a, b, hv, ha, hb⟩ x dx hx hdx hne =>
    ⟨x, dx, t, l, r, by rw [hv, show a = _ from ha, show b = _ from hb]; rfl, upd_same, hl, hr, hp, fun H3 e4 hO => ⟨rfl, q (.ref x) H3 (e2.trans (make_ex (C := C) hx hdx hne e4)) hO⟩⟩
/-! left, right, len -/
def spSide (C : Addr) (b : Bool) : Sp := fun vs H Q _ => ∃ (o : V) (l r : Int) (fs : List FR), vs = [o] ∧ Fo C l r fs o H ∧ ∀ v H2, Evl.Ex H H2 → v = .int (if b then l else r) → Q v H2
theorem ok_leftF {f : Addr} {fd : FuncData} (FK : FaK K mg C fI) (F : Fun K "left" "Facts.left" s_F_left f fd) : FnOk P w K mg base CX0 (k + 1) f fd ["self"] (spSide C true) := by
  refine F.ok sc_F_left (fun vs H Q E h => ?_) (fun cdv A outer s0 H vs Q E hr h => ?_)
  · obtain ⟨o, l, r, fs, rfl, _⟩ := h
    rfl
  · obtain ⟨o, l, r, fs, rfl, ho, q⟩ := h
    refine ⟨_, (pss_one (ps_ret (pe_fld (pv 0) rfl))), ?_⟩
    exact evp_fL FK (evp_var (σ := [some o]) (i := 0) rfl ho fo_mono) H (Ex.refl _) _ fun v H1 e1 hv => q v H1 e1 hv
theorem ok_rightF {f : Addr} {fd : FuncData} (FK : FaK K mg C fI) (F : Fun K "right" "Facts.right" s_F_right f fd) : FnOk P w K mg base CX0 (k + 1) f fd ["self"] (spSide C false) := by
  refine F.ok sc_F_right (fun vs H Q E h => ?_) (fun cdv A outer s0 H vs Q E hr h => ?_)
  · obtain ⟨o, l, r, fs, rfl, _⟩ := h
    rfl
  · obtain ⟨o, l, r, fs, rfl, ho, q⟩ := h
    refine ⟨_, (pss_one (ps_ret (pe_fld (pv 0) rfl))), ?_⟩
    exact evp_fR FK (evp_var (σ := [some o]) (i := 0) rfl ho fo_mono) H (Ex.refl _) _ fun v H1 e1 hv => q v H1 e1 hv
def spLenF (C : Addr) : Sp := fun vs H Q _ => ∃ (o : V) (l r : Int) (fs : List FR), vs = [o] ∧ Fo C l r fs o H ∧ ∀ v H2, Evl.Ex H H2 → v = .int (fs.length : Int) → Q v H2
theorem ok_lenF {f : Addr} {fd : FuncData} (FK : FaK K mg C fI) (T : Txt mg tk) (F : Fun K "__len__" "Facts.__len__" s_F_len f fd) : FnOk P w K mg base CX0 (k + 1) f fd ["self"] (spLenF C) := by
  refine F.ok sc_F_len (fun vs H Q E h => ?_) (fun cdv A outer s0 H vs Q E hr h => ?_)
  · obtain ⟨o, l, r, fs, rfl, _⟩ := h
    rfl
  · obtain ⟨o, l, r, fs, rfl, ho, q⟩ := h
    refine ⟨_, (pss_one (ps_ret (pe_callB (r := rLenQ K) call_len_seq (by rfl) T.n_len PySem.boot_len (pa_cons (pe_fld (pv 0) rfl) pa_nil)))), ?_⟩
    exact evp_fF FK (evp_var (σ := [some o]) (i := 0) rfl ho fo_mono) H (Ex.refl _) _ fun v H1 e1 ⟨t, ys, hv, ht, pr⟩ => ⟨t, ys, by rw [hv], .inr (st_of ht), by rw [Paired.len pr]; exact q _ H1 e1 rfl⟩
def spLenZ (K : PySem.W.Frag) (C : Addr) : Sp := fun vs H Q _ => ∃ (o : V) (t : Addr) (l r : Int), vs = [o] ∧ FoZ C t l r o H ∧ (∀ H', SqT K H' t []) ∧ Q (.int 0) H
theorem ok_lenZ {f : Addr} {fd : FuncData} (FK : FaK K mg C fI) (T : Txt mg tk) (F : Fun K "__len__" "Facts.__len__" s_F_len f fd) : FnOk P w K mg base CX0 (k + 1) f fd ["self"] (spLenZ K C) := by
  refine F.ok sc_F_len (fun vs H Q E h => ?_) (fun cdv A outer s0 H vs Q E hr h => ?_)
  · obtain ⟨o, t, l, r, rfl, _⟩ := h
    rfl
  · obtain ⟨o, t, l, r, rfl, ⟨a, dx, rfl, ha⟩, ht, q⟩ := h
    refine ⟨_, (pss_one (ps_ret (pe_callB (r := rLenQ K) call_len_seq (by rfl) T.n_len PySem.boot_len (pa_cons (pe_fld (pv 0) rfl) pa_nil)))), ?_⟩
    exact ⟨.ref a, rfl, a, C, dx, _, .ref t, rfl, ha, FK.cl, FK.n3, rfl, t, [], rfl, .inr (ht _), q⟩
end
/-! ### data -/
section
variable {K : PySem.W.Frag} {σ : L2.St} {H : Hp} {ta tb te tl : TE} {ta' : TA}
theorem oi_dp {o : Option Int} : Dp K H (OI o) (oD o) := by cases o <;> constructor
theorem fv_dp {f : FR} {v : V} (h : Fv f v H) : Dp K H v (fD f) := by
  obtain ⟨x, ⟨a, rfl, ha⟩, hx⟩ := h
  exact .tup (st_of ha) (.cons (va_dp (wv_va hx)) (.cons (.int _) (.cons oi_dp .nil)))
theorem lsP_dp {fs : List FR} {v : V} (h : LsP Fv fs v H) : Dp K H v (.list (fs.map fD)) := by
  obtain ⟨p, ys, rfl, hp, pr⟩ := h
  refine .lst (sq_of hp) ?_
  clear hp
  induction pr with
  | nil => exact .nil
  | cons h t ih => exact .cons (fv_dp h) ih
theorem fD_lay {l r : Int} {f : FR} (h : WhOk l r f.w) : (fD f).canLay0 = true := by
  show ((PyData.tuple (wD f.w)).canLay0 && (true && ((oD f.hi).canLay0 && true))) = true
  have h1 : (PyData.tuple (wD f.w)).canLay0 = true := (wh_okV h).lay
  have h2 : (oD f.hi).canLay0 = true := by cases f.hi <;> rfl
  rw [h1, h2]; rfl
theorem fD_depth {l r : Int} {f : FR} (h : WhOk l r f.w) : (fD f).depth ≤ 13 := by
  show max (PyData.depthAll (wD f.w) + 1) (max 0 (max (oD f.hi).depth 0)) + 1 ≤ 13
  have h1 := (wh_okV h).depth
  have h2 : (oD f.hi).depth = 0 := by cases f.hi <;> rfl
  rw [h2]
  omega
theorem prd_dp : ∀ {ys : List V} {fs : List FR}, Paired (fun y f => Fv f y H) ys fs → DpAll K H ys (fs.map fD)
  | _, _, .nil => .nil
  | _, _, .cons h t => .cons (fv_dp h) (prd_dp t)
theorem tsP_dp {fs : List FR} {v : V} (h : TsP Fv fs v H) : Dp K H v (.tuple (fs.map fD)) := by
  obtain ⟨p, ys, rfl, hp, pr⟩ := h
  exact .tup (st_of hp) (prd_dp pr)
theorem ret_m0 {ta : TE} {C : Addr} {m : Str} {sp : Sp} {E : XK} {D : Ends} {σ : L2.St} {H : Hp} (h : ta σ H fun x H1 => ∃ a dx fs, x = .ref a ∧ H1 a = some (.ins C dx fs) ∧ fs.lookup m = none ∧ sp (x :: ([] ++ [])) H1 D.rt E) : tRet (tMeth C m sp [] E ta tNil) D σ H := h
def plD : Pl → PyData
  | .non => .none
  | .idx i => .int (i : Int)
  | .pair i j => .tuple [.int (i : Int), .int (j : Int)]
theorem plv_dp {K : PySem.W.Frag} {H : Hp} {p : Pl} {v : V} (h : PlV p v H) : Dp K H v (plD p) := by
  cases p with
  | non => rw [show v = .non from h]; exact .non
  | idx i => rw [show v = .int (i : Int) from h]; exact .int _
  | pair i j => exact pr_dp h
theorem facts_lay {l r : Nat} {fs : List FR} (h : ∀ e ∈ fs.map some, ElOk l r e) : PyData.canLayAll0 (fs.map fD) = true := lay_all fun d hd => by
  obtain ⟨f, hf, rfl⟩ := List.mem_map.mp hd
  exact fD_lay (h _ (List.mem_map.mpr ⟨f, hf, rfl⟩)).1
theorem facts_depth {l r : Nat} {fs : List FR} (h : ∀ e ∈ fs.map some, ElOk l r e) : PyData.depthAll (fs.map fD) ≤ 13 := depth_all fun d hd => by
  obtain ⟨f, hf, rfl⟩ := List.mem_map.mp hd
  exact fD_depth (h _ (List.mem_map.mpr ⟨f, hf, rfl⟩)).1
def TlE (p : Pl) : HP := fun v H => ∃ q x, v = .ref q ∧ H q = some (.lst [.str "fact", x]) ∧ PlV p x H
def Tl (es : List (Option FR)) : HP := fun v H => (Good es ∧ ∃ fs, es = fs.map some ∧ LsP Fv fs v H) ∨ ∃ p, Err es p ∧ TlE p v H
theorem mono_tl {es : List (Option FR)} : Mono (Tl es) := fun _ _ _ e h => h.elim (fun ⟨g, fs, h1, h2⟩ => .inl ⟨g, fs, h1, mono_lsP fv_mono _ _ _ e h2⟩) fun ⟨p, h1, q, x, h2, h3, h4⟩ => .inr ⟨p, h1, q, x, h2, e _ _ h3, plv_mono _ _ _ _ e h4⟩
def TD (es : List (Option FR)) (d : PyData) : Prop := (Good es ∧ ∃ fs : List FR, es = fs.map some ∧ d = .list (fs.map fD)) ∨ ∃ p, Err es p ∧ d = .list [.str "fact", plD p]
theorem tl_dp {K : PySem.W.Frag} {H : Hp} {es : List (Option FR)} {v : V} (h : Tl es v H) : ∃ d, TD es d ∧ Dp K H v d := by
  rcases h with ⟨g, fs, h1, h2⟩ | ⟨p, h1, q, x, rfl, h3, h4⟩
  · exact ⟨_, .inl ⟨g, fs, h1, rfl⟩, lsP_dp h2⟩
  · exact ⟨_, .inr ⟨p, h1, rfl⟩, .lst (sq_of h3) (.cons (.str _) (.cons (plv_dp h4) .nil))⟩
theorem td_one {es : List (Option FR)} {d e : PyData} (h : TD es d) (k : TD es e) : d = e := by
  rcases h with ⟨g, fs, h1, rfl⟩ | ⟨p, h1, rfl⟩ <;> rcases k with ⟨g', fs', k1, rfl⟩ | ⟨p', k1, rfl⟩
  · rw [some_inj (h1.symm.trans k1)]
  · exact (err_bad k1 g).elim
  · exact (err_bad h1 g').elim
  · rw [err_one h1 k1]
theorem td_ok {l r : Nat} {es : List (Option FR)} {d : PyData} (hok : ∀ e ∈ es, ElOk l r e) (h : TD es d) : d.canLay0 = true ∧ SeqAt.shaped d = true := by
  rcases h with ⟨g, fs, rfl, rfl⟩ | ⟨p, h1, rfl⟩
  · have h1 := facts_lay hok
    have h2 := facts_depth hok
    exact ⟨h1, sh_of h1 (by show PyData.depthAll _ + 1 ≤ 64; omega)⟩
  · cases p with
    | non => exact ⟨by decide +kernel, by decide +kernel⟩
    | idx i =>
      have h1 : (PyData.list [.str "fact", .int (i : Int)]).canLay0 = true := by show ((PyData.str "fact").canLay0 && (true && true)) = true; decide +kernel
      exact ⟨h1, sh_of h1 (by show max 0 (max 0 0) + 1 ≤ 64; decide)⟩
    | pair i j =>
      have h1 : (PyData.list [.str "fact", .tuple [.int (i : Int), .int (j : Int)]]).canLay0 = true := by show ((PyData.str "fact").canLay0 && ((true && (true && true)) && true)) = true; decide +kernel
      exact ⟨h1, sh_of h1 (by show max 0 (max (max 0 (max 0 0) + 1) 0) + 1 ≤ 64; decide)⟩
theorem et_tl {l r : Nat} {es : List (Option FR)} (hok : ∀ e ∈ es, ElOk l r e) (ha : EvP ta σ H (Tl es)) (hb : EvP tb σ H (Tl es)) : EvT (tTest (tOp (rNeD K) ta tb)) σ H false :=
  et_tst (evp_op ha hb mono_tl fun x y H1 _ hx hy Q q => by
    obtain ⟨d, h1, h2⟩ := tl_dp (K := K) hx
    obtain ⟨e, k1, k2⟩ := tl_dp (K := K) hy
    cases td_one h1 k1
    obtain ⟨hl, hs⟩ := td_ok hok h1
    exact ⟨d, d, h2, k2, hs, hs, q _ H1 (Ex.refl _) (by rw [eqv_self _ hl]; rfl)⟩)
end
section
variable {K : PySem.W.Frag} {σ : L2.St} {H : Hp} {ta tb te tl : TE} {ta' : TA}
theorem s_appX {D : Ends} {l : Addr} {i : Nat} {xs : List V} (hs : σ[i]? = some (some (.ref l))) (hl : H l = some (.lst xs)) (h : te σ H fun v H2 => rAppend (.ref l) [v] H2 fun _ H3 => D.nx σ H3) : tDrop (tBM K "list" rAppend (tVar i) (tCons te tNil)) D σ H := ⟨.ref l, hs, Or.inl ⟨rfl, xs, sq_of hl⟩, h⟩
theorem if_at {t : TT} {b : Bool} {Q : VK} (h : EvT t σ H b) (h1 : b = true → ∀ H1, Evl.Ex H H1 → ta σ H1 Q) (h2 : b = false → ∀ H1, Evl.Ex H H1 → tb σ H1 Q) : tIf t ta tb σ H Q := h H (Ex.refl _) _ fun H2 e2 => by
  cases b with
  | true => rw [if_pos rfl]; exact h1 rfl H2 e2
  | false => rw [if_neg (by decide)]; exact h2 rfl H2 e2
def i3D (a b c : Int) : PyData := .tuple [.int a, .int b, .int c]
theorem i3_dp {a b c : Int} {v : V} (h : Ts [.int a, .int b, .int c] v H) : Dp K H v (i3D a b c) := by
  obtain ⟨p, rfl, hp⟩ := h
  exact .tup (st_of hp) (.cons (.int _) (.cons (.int _) (.cons (.int _) .nil)))
theorem i3_sh {a b c : Int} : SeqAt.shaped (i3D a b c) = true := sh_of rfl (by show max 0 (max 0 (max 0 0)) + 1 ≤ 64; decide)
theorem evp_i3 {a b c : Int} {t1 t2 t3 : TE} (h1 : EvP t1 σ H (Is (.int a))) (h2 : EvP t2 σ H (Is (.int b))) (h3 : EvP t3 σ H (Is (.int c))) : EvP (tTup (tCons t1 (tCons t2 (tCons t3 tNil)))) σ H (Ts [.int a, .int b, .int c]) := fun H1 e Q q =>
  eap_three h1 h2 h3 mono_is mono_is H1 e _ fun vs H2 e2 ⟨x, y, z, hv, hx, hy, hz⟩ => by
    rw [hv, show x = _ from hx, show y = _ from hy, show z = _ from hz]
    exact ⟨sz_of (show 3 ≤ 100000 by decide), fun t ht => q _ _ (e2.trans (Ex.new ht)) ⟨t, rfl, upd_same⟩⟩
theorem evp_side {C : Addr} {l r : Int} {fs : List FR} {b : Bool} (h : EvP te σ H (Fo C l r fs)) : EvP (tProp C (spSide C b) [] E0 te) σ H (Is (.int (if b then l else r))) := fun H1 e Q q => h H1 e _ fun v H2 e2 ⟨a, dx, t, hv, ha, ht⟩ =>
  ⟨a, dx, _, hv, ha, .ref a, l, r, fs, rfl, ⟨a, dx, t, rfl, ha, ht⟩, fun v H3 e3 h3 => q v H3 (e2.trans e3) h3⟩
theorem evp_lenK {C : Addr} {l r : Int} {fs : List FR} {E : XK} (hl : fs.length ≤ 1000) (h : EvP te σ H (Fo C l r fs)) : EvP (tCB (OwL.rLenO C (spLenF C) E) (tCons te tNil)) σ H (Is (.int (fs.length : Int))) := fun H1 e Q q =>
  h H1 e _ fun v H2 e2 ⟨a, dx, t, hv, ha, ht⟩ => ⟨a, dx, _, by rw [hv], ha, .ref a, l, r, fs, rfl, ⟨a, dx, t, rfl, ha, ht⟩, fun v H3 e3 h3 => ⟨_, h3, by omega, by omega, q _ H3 (e2.trans e3) rfl⟩⟩
end
section
variable {P : Program} {w : World} {K : PySem.W.Frag} {mg : Str → Option Value} {base : Heap} {tk : Tok} {k : Nat} {CV iV CP iP C fI : Addr} {dI : FuncData}
def spTold (K : PySem.W.Frag) : Sp := fun vs H Q _ => ∃ (x y v : V), vs = [x, y, v] ∧
  ((∃ (dx dy : PyData), It H x dx ∧ It H y dy ∧ (isSz dx = true → isSz dy = true → False) ∧ (isSz dx = false → ∀ v H2, Evl.Ex H H2 → Ls [.str "number", x] v H2 → Q v H2) ∧ (isSz dx = true → isSz dy = false → ∀ v H2, Evl.Ex H H2 → Ls [.str "number", y] v H2 → Q v H2)) ∨
   (∃ (l r : Nat), x = .int (l : Int) ∧ y = .int (r : Int) ∧ (1 ≤ l ∧ l ≤ 8) ∧ (1 ≤ r ∧ r ≤ 8) ∧
     ((KB K false v H ∧ ∀ v H2, Evl.Ex H H2 → Ls [.str "fact", .non] v H2 → Q v H2) ∨ ∃ es, (LsP Fe es v H ∨ TsP Fe es v H) ∧ (∀ e ∈ es, ElOk l r e) ∧ ∀ v H2, Evl.Ex H H2 → Tl es v H2 → Q v H2)))
theorem kb_ex {b : Bool} {v : V} {H H' : Hp} (e : Evl.Ex H H') (h : KB K b v H) : KB K b v H' := mono_kb _ _ _ e h
theorem ok_told {f gl ga gb gn pl pr : Addr} {fd dl da db dn : FuncData} (EV : EVT K mg CV iV) (EP : EPT K mg CP iP) (hVP : PySem.W.exmOne K (.ref CV) (.ref CP) = some false) (FK : FaK K mg C fI) (T : Txt mg tk) (b_init : Binds K dI ["self", "left", "right", "facts"] []) (G_init : FnOk P w K mg base (L2.CX P w) (k + 8) fI dI ["self", "left", "right", "facts"] (spF K C CP CV))
    (W_listed : Meth K C "listed" gl) (G_listed : FnOk P w K mg base CX0 (k + 1) gl dl ["self"] (spListed C)) (b_listed : Binds K dl ["self"] [])
    (p_left : PropOf K C "left" pl ga) (G_left : FnOk P w K mg base CX0 (k + 1) ga da ["self"] (spSide C true)) (b_left : Binds K da ["self"] [])
    (p_right : PropOf K C "right" pr gb) (G_right : FnOk P w K mg base CX0 (k + 1) gb db ["self"] (spSide C false)) (b_right : Binds K db ["self"] [])
    (G_len : FnOk P w K mg base CX0 (k + 1) gn dn ["self"] (spLenF C)) (a_len : PySem.W.findIn K (.ref C) "__len__" = some (some (.ref gn))) (i_len : PySem.W.isFn K (.ref gn) = true) (b_len : Binds K dn ["self"] [])
    (D : Df K mg "_law_told" s_law_told ["_law_left", "_law_right", "_law_facts"] f fd) : FnOk P w K mg base CX0 (k + 12) f fd ["_law_left", "_law_right", "_law_facts"] (spTold K) := by
  refine D.F.ok sc_law_told (fun vs H Q E h => ?_) (fun cdv A outer s0 H vs Q E hr h => ?_)
  · obtain ⟨x, y, v, rfl, _⟩ := h
    rfl
  · obtain ⟨x, y, v, rfl, h⟩ := h
    have nd := sc_law_told.nd
    refine ⟨_, (pss_cons (ps_try_all rfl rfl nd takes0 (fun W pn xe tkW po => pss_one (ps_set (i := 4) nd rfl (Or.inl rfl) (TA5.pe_makeS FK.mkc G_init (hr.mono (by omega)) (by rfl) FK.gC b_init .nil (fun σ => passAt tkW σ) (pa_cons (pv 0) (pa_cons (pv 1) (pa_cons (pv 2) pa_nil)))))) (Hds.cons (i := 3) rfl rfl ⟨by rfl, by decide, .inl EP.gC⟩ (fun a oe cls d pn hz hf => pss_one (ps_ret (pe_lst (pa_cons pe_str (pa_cons (ErrPL.pe_fldErr EP hz hf (pv 3)) pa_nil))))) (Hds.cons (i := 3) rfl rfl ⟨by rfl, by decide, .inl EV.gC⟩ (fun a oe cls d pn hz hf => pss_one (ps_ret (pe_lst (pa_cons pe_str (pa_cons (ErrVL.pe_fldErr EV hz hf (pv 3)) pa_nil))))) .nil))) (pss_cons (ps_if (pt_cmpR (r := rNeD K) (op_neD hr.units) (pe_tup (pa_cons (pe_prop (pv 4) FK.cl p_left G_left (hr.mono (by omega)) b_left .nil pass0 rfl) (pa_cons (pe_prop (pv 4) FK.cl p_right G_right (hr.mono (by omega)) b_right .nil pass0 rfl) (pa_cons (pe_callB (r := OwL.rLenO C (spLenF C) E0) (OwL.cr_lenO G_len a_len i_len b_len (hr.mono (by omega)) pass0) (by rfl) T.n_len PySem.boot_len (pa_cons (pv 4) pa_nil)) pa_nil)))) (pe_tup (pa_cons (pv 0) (pa_cons (pv 1) (pa_cons (pe_callB (r := rLenQ K) call_len_seq (by rfl) T.n_len PySem.boot_len (pa_cons (pv 2) pa_nil)) pa_nil)))) (nomark _)) (pss_one (ps_ret pe_non)) pss_nil) (pss_one (ps_ret (pe_meth0 (E := E0) (pv 4) FK.cl W_listed G_listed (hr.mono (by omega)) b_listed .nil pass0))))), ?_⟩
    refine ⟨x, rfl, y, rfl, v, rfl, fun a dxx ha hdx hne => ?_⟩
    have e3 : Evl.Ex H (upd (upd H dxx (.own a)) a (.ins C dxx [])) := (Ex.new hdx).trans (Ex.new (by rw [upd_ne hne.symm]; exact ha))
    rcases h with ⟨dx, dy, hx, hy, hno, q1, q2⟩ | ⟨l, r, rfl, rfl, hl, hr', h⟩
    · exact .inr ⟨a, x, y, v, dx, dy, rfl, hx.mono (Kx.of e3), hy.mono (Kx.of e3), hno, fun hb d H2 e h2 => ⟨false, hVP, fun z => (by cases z), fun _ => ⟨true, EV.te, fun _ a hna => ⟨_, rfl, rfl, rfl, d, x, rfl, h2, sz_of (show 2 ≤ 100000 by decide), fun p hp => q1 hb _ _ ((e3.trans e).trans (Ex.new hp)) ⟨p, rfl, upd_same⟩⟩, fun z => by cases z⟩⟩,
        fun ha hb d H2 e h2 => ⟨false, hVP, fun z => (by cases z), fun _ => ⟨true, EV.te, fun _ a hna => ⟨_, rfl, rfl, rfl, d, y, rfl, h2, sz_of (show 2 ≤ 100000 by decide), fun p hp => q2 ha hb _ _ ((e3.trans e).trans (Ex.new hp)) ⟨p, rfl, upd_same⟩⟩, fun z => by cases z⟩⟩⟩
    · rcases h with ⟨hv, q⟩ | ⟨es, hv, hok, q⟩
      · exact .inl (.inr ⟨a, dxx, l, r, v, rfl, upd_same, hl, hr', kb_ex e3 hv, fun d H2 e h2 => ⟨true, EP.te, fun _ a hna => ⟨_, rfl, rfl, rfl, d, .non, rfl, h2, sz_of (show 2 ≤ 100000 by decide), fun p hp => q _ _ ((e3.trans e).trans (Ex.new hp)) ⟨p, rfl, upd_same⟩⟩, fun z => by cases z⟩⟩)
      · have hlen : ∀ {H' : Hp}, Evl.Ex H H' → EvP (tCB (rLenQ K) (tCons (tVar 2) tNil)) [some (.int (l : Int)), some (.int (r : Int)), some v, none, some (.ref a)] H' (Is (.int (es.length : Int))) := fun e => by
          rcases hv with hv | hv
          · exact evp_lenLs (K := K) (evp_var (i := 2) rfl (mono_lsP fe_mono _ _ _ e hv) (mono_lsP fe_mono))
          · exact evp_lenTP (K := K) (evp_var (i := 2) rfl (mono_tsP fe_mono _ _ _ e hv) (mono_tsP fe_mono))
        have hv' : (LsP Fe es v (upd (upd H dxx (.own a)) a (.ins C dxx [])) ∨ TsP Fe es v (upd (upd H dxx (.own a)) a (.ins C dxx []))) := hv.elim (fun h => .inl (mono_lsP fe_mono _ _ _ e3 h)) (fun h => .inr (mono_tsP fe_mono _ _ _ e3 h))
        rcases hv' with hv' | hv'
        · refine .inl (.inl (.inl ⟨a, dxx, l, r, v, es, rfl, upd_same, hl, hr', hv', hok, fun hg fs hf H3 e4 hO => ⟨rfl, ?_⟩, fun pl he y H1 e1 hy d H2 e h2 => ⟨true, EP.te, fun _ a hna => ⟨_, rfl, rfl, rfl, d, y, rfl, h2, sz_of (show 2 ≤ 100000 by decide), fun p hp => q _ _ (((e3.trans e1).trans e).trans (Ex.new hp)) (.inr ⟨pl, he, p, y, rfl, upd_same, plv_mono pl _ _ _ (e.trans (Ex.new hp)) hy⟩)⟩, fun z => by cases z⟩⟩))
          have ex := make_ex (C := C) ha hdx hne e4
          have w3 : ∀ {H' : Hp}, Evl.Ex H3 H' → EvP (tVar 4) [some (.int (l : Int)), some (.int (r : Int)), some v, none, some (.ref a)] H' (Fo C l r fs) := fun e => evp_var rfl (fo_mono _ _ _ e hO) fo_mono
          have r3 := Ex.refl H3
          have hle : fs.length ≤ 40 := by have := hg.len; rw [hf, List.length_map] at this; exact this
          have hn : (fs.length : Int) = (es.length : Int) := by rw [hf, List.length_map]
          exact (s_when (σ := [some (.int (l : Int)), some (.int (r : Int)), some v, none, some (.ref a)]) (b := false) (et_tst (evp_is (evp_neD (K := K) (d := i3D l r fs.length) (e := i3D l r fs.length) (evp_i3 (evp_side (b := true) (w3 r3)) (evp_side (b := false) (w3 r3)) (evp_lenK (by omega) (w3 r3))) (evp_i3 (evp_var (i := 0) rfl rfl mono_is) (evp_var (i := 1) rfl rfl mono_is) ((hlen ex).imp fun _ _ _ h => by rw [hn]; exact h)) mono_ts (fun _ _ h => i3_dp h) (fun _ _ h => i3_dp h) i3_sh i3_sh) (by rw [eqv_self _ rfl]; rfl)))
            (fun z => nomatch z) fun _ H4 e4' => by
              have hO4 := fo_mono _ _ _ e4' hO
              obtain ⟨a2, dx2, t2, e2, h1, h2⟩ := id hO4
              cases e2
              exact ⟨.ref a, rfl, a, dx2, _, rfl, h1, rfl, .ref a, l, r, fs, rfl, hO4, fun w H5 e5 hw _ => q w H5 ((ex.trans e4').trans e5) (.inl ⟨hg, fs, hf, hw⟩)⟩)
        · refine .inl (.inl (.inr ⟨a, dxx, l, r, v, es, rfl, upd_same, hl, hr', hv', hok, fun hg fs hf H3 e4 hO => ⟨rfl, ?_⟩, fun pl he y H1 e1 hy d H2 e h2 => ⟨true, EP.te, fun _ a hna => ⟨_, rfl, rfl, rfl, d, y, rfl, h2, sz_of (show 2 ≤ 100000 by decide), fun p hp => q _ _ (((e3.trans e1).trans e).trans (Ex.new hp)) (.inr ⟨pl, he, p, y, rfl, upd_same, plv_mono pl _ _ _ (e.trans (Ex.new hp)) hy⟩)⟩, fun z => by cases z⟩⟩))
          have ex := make_ex (C := C) ha hdx hne e4
          have w3 : ∀ {H' : Hp}, Evl.Ex H3 H' → EvP (tVar 4) [some (.int (l : Int)), some (.int (r : Int)), some v, none, some (.ref a)] H' (Fo C l r fs) := fun e => evp_var rfl (fo_mono _ _ _ e hO) fo_mono
          have r3 := Ex.refl H3
          have hle : fs.length ≤ 40 := by have := hg.len; rw [hf, List.length_map] at this; exact this
          have hn : (fs.length : Int) = (es.length : Int) := by rw [hf, List.length_map]
          exact (s_when (σ := [some (.int (l : Int)), some (.int (r : Int)), some v, none, some (.ref a)]) (b := false) (et_tst (evp_is (evp_neD (K := K) (d := i3D l r fs.length) (e := i3D l r fs.length) (evp_i3 (evp_side (b := true) (w3 r3)) (evp_side (b := false) (w3 r3)) (evp_lenK (by omega) (w3 r3))) (evp_i3 (evp_var (i := 0) rfl rfl mono_is) (evp_var (i := 1) rfl rfl mono_is) ((hlen ex).imp fun _ _ _ h => by rw [hn]; exact h)) mono_ts (fun _ _ h => i3_dp h) (fun _ _ h => i3_dp h) i3_sh i3_sh) (by rw [eqv_self _ rfl]; rfl)))
            (fun z => nomatch z) fun _ H4 e4' => by
              have hO4 := fo_mono _ _ _ e4' hO
              obtain ⟨a2, dx2, t2, e2, h1, h2⟩ := id hO4
              cases e2
              exact ⟨.ref a, rfl, a, dx2, _, rfl, h1, rfl, .ref a, l, r, fs, rfl, hO4, fun w H5 e5 hw _ => q w H5 ((ex.trans e4').trans e5) (.inl ⟨hg, fs, hf, hw⟩)⟩)
end
end K20
namespace K20
open PySem PySem.Spec PyProof.Rows L2 Evl RZ Ev2 TA5
open Ow
abbrev s_law_whole : Stmt := topS 46
abbrev N_law_whole : List Str := ["_law_value"]
theorem sc_law_whole : FnScope N_law_whole ["_law_value"] (defScope s_law_whole) := ⟨rfl, rfl, rfl, by decide +kernel, rfl, by decide +kernel, by decide +kernel⟩
abbrev s_law_is_fact : Stmt := topS 47
abbrev N_law_is_fact : List Str := ["_law_left", "_law_right", "_law_value"]
theorem sc_law_is_fact : FnScope N_law_is_fact ["_law_left", "_law_right", "_law_value"] (defScope s_law_is_fact) := ⟨rfl, rfl, rfl, by decide +kernel, rfl, by decide +kernel, by decide +kernel⟩
abbrev s_law_cross : Stmt := topS 48
abbrev N_law_cross : List Str := ["_law_one", "_law_other", "_law_both", "_law_value"]
theorem sc_law_cross : FnScope N_law_cross ["_law_one", "_law_other"] (defScope s_law_cross) := ⟨rfl, rfl, rfl, by decide +kernel, rfl, by decide +kernel, by decide +kernel⟩
abbrev s_law_due : Stmt := topS 49
abbrev N_law_due : List Str := ["_law_left", "_law_right", "_law_facts", "_law_index", "_law_fact_here", "_law_other"]
theorem sc_law_due : FnScope N_law_due ["_law_left", "_law_right", "_law_facts"] (defScope s_law_due) := ⟨rfl, rfl, rfl, by decide +kernel, rfl, by decide +kernel, by decide +kernel⟩

def bX (a b : Str) : Bool := (!decide (V.str a = V.str b)) || inV (.str a) [.str "all", .str "cell"]
theorem bX_all : ∀ a ∈ (["all", "left", "right", "cell"] : List Str), ∀ b ∈ (["all", "left", "right", "cell"] : List Str), bX a b = bW a b := by decide +kernel
theorem wWord_mem (w : Wh) : wWord w ∈ (["all", "left", "right", "cell"] : List Str) := by cases w <;> simp [wWord]
theorem bX_is (u w : Wh) : bX (wWord u) (wWord w) = bW (wWord u) (wWord w) := bX_all _ (wWord_mem u) _ (wWord_mem w)
theorem ints_pair {H : Hp} {f : Nat → Int} : ∀ {ys : List V} {idx : List Nat}, Paired (fun y i => Is (.int (f i)) y H) ys idx → ys = (idx.map f).map V.int
  | _, _, .nil => rfl
  | _, _, .cons h t => by rw [List.map_cons, List.map_cons, ← ints_pair t, show _ = V.int _ from h]
theorem crs_is {is js : List Int} {n : Nat} (h : n = (is.filter fun x => js.contains x).length) : crs is js = (!decide (n = 0) && (decide ((n : Int) < (is.length : Int)) && decide ((n : Int) < (js.length : Int)))) := by
  unfold crs
  rw [← h, Bool.eq_iff_iff]
  simp only [Bool.and_eq_true, decide_eq_true_eq, Bool.not_eq_true', decide_eq_false_iff_not]
  constructor
  · intro ⟨h1, h2⟩
    split at h2 <;> omega
  · intro ⟨h1, h2⟩
    refine ⟨by omega, ?_⟩
    split <;> omega
section
variable {P : Program} {w : World} {K : PySem.W.Frag} {mg : Str → Option Value} {base : Heap} {tk : Tok} {k : Nat} {CV iV CP iP : Addr}
theorem ok_lwhole {f : Addr} {fd : FuncData} (T : Txt mg tk) (D : Df K mg "_law_whole" s_law_whole ["_law_value"] f fd) : FnOk P w K mg base CX0 (k + 1) f fd ["_law_value"] spCntT := by
  refine D.F.ok sc_law_whole (fun vs H Q E h => ?_) (fun cdv A outer s H vs Q E hr h => ?_)
  · obtain ⟨x, d, rfl, _⟩ := h
    rfl
  · obtain ⟨x, d, rfl, hx, q⟩ := h
    refine ⟨_, (pss_one (ps_ret (pe_and (pe_callB (r := rIsi K) call_isi (by rfl) T.n_isinstance PyProof.Rows.boot_isinstance (pa_cons (pv 0) (pa_cons (pe_bltn (v := .ty "int") (by rfl) T.n_int PyProof.Rows.boot_int rfl) pa_nil))) (pe_and (pe_not (pe_callB (r := rIsi K) call_isi (by rfl) T.n_isinstance PyProof.Rows.boot_isinstance (pa_cons (pv 0) (pa_cons (pe_bltn (v := .ty "bool") (by rfl) T.n_bool PyProof.Rows.boot_bool rfl) pa_nil)))) (pe_one (pe_cmpR op_ge (pv 0) pe_int (nomark _))))))), ?_⟩
    rcases hx.split with ⟨ht, hi⟩ | ⟨ds, rfl, hv⟩
    · have h0 : EvP (tVar 0) (start N_law_whole [x]) H (fun v H => It H v d) := evp_var rfl hi mono_it
      refine evp_is (evp_and (evp_isiD (K := K) h0 (kit_int d)) fun h1 => evp_and (b := isC d) (evp_not (evp_isiD (K := K) h0 (kit_bool d))) fun h2 => ?_) ?_ H (Ex.refl H) _ q
      · have hI : isI d = true := by cases d <;> first | rfl | (cases h1; done) | exact absurd (show (!true) = true from h2) (by decide)
        obtain ⟨i, rfl, rfl⟩ := tg_int hx hI
        exact evp_is (evp_I0 (g := fun i j => .bl (decide (i ≥ j))) (evp_var (v := .int i) rfl rfl mono_is) (evp_c (v := .int 0))) rfl
      · cases d <;> rfl
    · have h0 : EvP (tVar 0) (start N_law_whole [x]) H (Va ds) := evp_var rfl hv mono_va
      exact evp_is (evp_and (a := false) (b := false) (evp_isi (K := K) h0 (fun _ _ p => va_tyx p) (.ty "int") (kit_ty (a := "tuple") (by decide +kernel))) fun z => nomatch z) rfl H (Ex.refl H) _ q
def spIsWhereT : Sp := fun vs H Q _ => ∃ (l r : Nat) (z : V) (d : PyData), vs = [.int (l : Int), .int (r : Int), z] ∧ (1 ≤ l ∧ l ≤ 8) ∧ (1 ≤ r ∧ r ≤ 8) ∧ Tg H z d ∧ (∀ ds, d = .tuple ds → SmallV ds) ∧ ∀ v H2, Evl.Ex H H2 → v = .bl (formD l r d) → Q v H2
theorem ok_is_whereT {f f1 f2 : Addr} {fd fd1 fd2 : FuncData} (D_check_sizes : Df K mg "check_sizes" s_check_sizes ["left", "right"] f1 fd1) (G_check_sizes : FnOk P w K mg base (L2.CX P w) (k + 5) f1 fd1 ["left", "right"] (spCheckSizes CV))
    (D_has_where_form : Df K mg "has_where_form" s_has_where_form ["left", "right", "value"] f2 fd2) (G_has_where_form : FnOk P w K mg base CX0 (k + 5) f2 fd2 ["left", "right", "value"] spFormT) (T : Txt mg tk) (D : Df K mg "is_where" s_is_where ["left", "right", "value"] f fd) :
    FnOk P w K mg base (L2.CX P w) (k + 6) f fd ["left", "right", "value"] spIsWhereT := by
  refine D.F.okX sc_is_where (fun vs H Q E h => ?_) (fun cdv A outer s H vs Q E hr h => ?_)
  · obtain ⟨l, r, z, d, rfl, _⟩ := h
    rfl
  · obtain ⟨l, r, z, d, rfl, hl, hr', hz, hsm, q⟩ := h
    refine ⟨_, (pss_cons (ps_expr (pe_callS G_check_sizes (hr.mono (by omega)) (by rfl) D_check_sizes.g D_check_sizes.F.kp D_check_sizes.b (fun σ => passAt (takes_of rfl rfl rfl rfl) σ) (pa_cons (pv 0) (pa_cons (pv 1) pa_nil)))) (pss_one (ps_ret (pe_call G_has_where_form (hr.mono (by omega)) (by rfl) D_has_where_form.g D_has_where_form.F.kp D_has_where_form.b .nil pass0 (pa_cons (pv 0) (pa_cons (pv 1) (pa_cons (pv 2) pa_nil))))))), ?_⟩
    refine ⟨.int (l : Int), rfl, .int (r : Int), rfl, .int (l : Int), .int (r : Int), .int (l : Int), .int (r : Int), rfl, .flat rfl, .flat rfl, fun hb => ?_, fun _ hb => ?_, fun ha hb H2 e2 => ?_⟩
    · exact absurd hb (by show ¬ (decide ((1 : Int) ≤ (l : Int)) && decide ((l : Int) ≤ 8)) = false; simp; omega)
    · exact absurd hb (by show ¬ (decide ((1 : Int) ≤ (r : Int)) && decide ((r : Int) ≤ 8)) = false; simp; omega)
    refine s_ret (EvP.ev (v := .bl (formD l r d)) (evp_call (sp := spFormT) (E := E0) (eap_three (P := Is (.int (l : Int))) (R := Is (.int (r : Int))) (S := fun v H => Tg H v d) (evp_var rfl rfl mono_is) (evp_var rfl rfl mono_is) (evp_var (v := z) rfl (hz.mono (Kx.of e2)) mono_tg) mono_is mono_is) fun vs H1 ⟨a, b, c, e, ha, hb, hc⟩ Q q E => ⟨l, r, c, d, by rw [e, show a = _ from ha, show b = _ from hb], hc, hsm, q⟩)) fun H3 e3 => q _ H3 (e2.trans e3) rfl
def spLIsF : Sp := fun vs H Q _ => ∃ (l r : Nat) (x : V) (e : Option FR), vs = [.int (l : Int), .int (r : Int), x] ∧ (1 ≤ l ∧ l ≤ 8) ∧ (1 ≤ r ∧ r ≤ 8) ∧ Fe e x H ∧ ElOk l r e ∧ ∀ v H2, Evl.Ex H H2 → v = .bl (gdE e) → Q v H2
theorem evp_ixTs {σ : L2.St} {H : Hp} {te : TE} {xs : List V} {n : Nat} {x : V} (h : EvP te σ H (Ts xs)) (hx : xs[n]? = some x) : EvP (tOp (rIxT K) te (tC (.int (n : Int)))) σ H (Is x) := fun H1 e Q q => h H1 e _ fun v H2 e2 ⟨a, hv, ha⟩ => ⟨a, _, _, _, hv, rfl, st_of ha, atI_nat hx, q _ H2 e2 rfl⟩
theorem ok_lisf {f f1 f2 : Addr} {fd fd1 fd2 : FuncData} (D__law_whole : Df K mg "_law_whole" s_law_whole ["_law_value"] f1 fd1) (G__law_whole : FnOk P w K mg base CX0 (k + 1) f1 fd1 ["_law_value"] spCntT)
    (D_is_where : Df K mg "is_where" s_is_where ["left", "right", "value"] f2 fd2) (G_is_where : FnOk P w K mg base (L2.CX P w) (k + 6) f2 fd2 ["left", "right", "value"] spIsWhereT) (T : Txt mg tk)
    (D : Df K mg "_law_is_fact" s_law_is_fact ["_law_left", "_law_right", "_law_value"] f fd) : FnOk P w K mg base CX0 (k + 7) f fd ["_law_left", "_law_right", "_law_value"] spLIsF := by
  refine D.F.ok sc_law_is_fact (fun vs H Q E h => ?_) (fun cdv A outer s0 H vs Q E hr h => ?_)
  · obtain ⟨l, r, x, e, rfl, _⟩ := h
    rfl
  · obtain ⟨l, r, x, e, rfl, hl, hr', hfe, hok, q⟩ := h
    have nd := sc_law_is_fact.nd
    refine ⟨_, (pss_cons (ps_if (PW.pt (pw_or (pt_not (pt_val (pe_callB (r := rIsi K) call_isi (by rfl) T.n_isinstance PyProof.Rows.boot_isinstance (pa_cons (pv 2) (pa_cons (pe_bltn (v := .ty "tuple") (by rfl) T.n_tuple PyProof.Rows.boot_tuple rfl) pa_nil))))) (pw_or (pt_cmpR op_ne (pe_callB (r := rLenQ K) call_len_seq (by rfl) T.n_len PySem.boot_len (pa_cons (pv 2) pa_nil)) pe_int (nomark _)) (pw_or1 (pt_not (pt_val (pe_callS G_is_where (hr.mono (by omega)) (by rfl) D_is_where.g D_is_where.F.kp D_is_where.b (fun σ => passAt (W := fun _ _ _ _ => False) takes0 σ) (pa_cons (pv 0) (pa_cons (pv 1) (pa_cons (pe_ix (r := rIxT K) ix_tup (pv 2) pe_int (fun _ _ => rfl)) pa_nil)))))))))) (pss_one (ps_ret pe_bl)) pss_nil) (pss_cons (ps_if (pt_not (pt_val (pe_call G__law_whole (hr.mono (by omega)) (by rfl) D__law_whole.g D__law_whole.F.kp D__law_whole.b .nil pass0 (pa_cons (pe_ix (r := rIxT K) ix_tup (pv 2) pe_int (fun _ _ => rfl)) pa_nil)))) (pss_one (ps_ret pe_bl)) pss_nil) (pss_one (ps_ret (pe_or (pe_cmpR (r := rNon) op_isN (pe_ix (r := rIxT K) ix_tup (pv 2) pe_int (fun _ _ => rfl)) pe_non (nomark _)) (pe_one (pe_and (pe_call G__law_whole (hr.mono (by omega)) (by rfl) D__law_whole.g D__law_whole.F.kp D__law_whole.b .nil pass0 (pa_cons (pe_ix (r := rIxT K) ix_tup (pv 2) pe_int (fun _ _ => rfl)) pa_nil)) (pe_one (pe_cmpR op_ge (pe_ix (r := rIxT K) ix_tup (pv 2) pe_int (fun _ _ => rfl)) (pe_ix (r := rIxT K) ix_tup (pv 2) pe_int (fun _ _ => rfl)) (nomark _)))))))))), ?_⟩
    obtain ⟨d, hx, hfd⟩ := fe_eld hfe
    have hsm := feD_sm hok hfd
    rw [← feD_gd hok hfd] at q
    clear hfd hfe
    cases hx with
    | flat hf =>
      have ht : isTup d = false := by cases x <;> first | exact hf.elim | (cases hf; rfl)
      have h2 : EvP (tVar 2) [some (.int (l : Int)), some (.int (r : Int)), some x] H (fun v H => It H v d) := evp_var rfl (.flat hf) mono_it
      exact q_when (b := true) (et_is (et_or (a := true) (b := true) (et_is (et_not (et_bl (evp_isiD (K := K) h2 (kit_tup' d)))) (by rw [ht]; rfl)) fun z => nomatch z) rfl) (fun _ H1 e1 => s_ret ev_c fun H2 e2 => q _ H2 (e1.trans e2) (by cases d <;> first | rfl | cases ht)) fun z => nomatch z
    | @tup a xs ds ha hp =>
      have v2 : ∀ {H' : Hp}, Evl.Ex H H' → EvP (tVar 2) [some (.int (l : Int)), some (.int (r : Int)), some (.ref a)] H' (Ts xs) := fun e => evp_var rfl ⟨a, rfl, e _ _ ha⟩ mono_ts
      have hlen := Paired.len hp
      have tup1 : EvT (tNot (tB (tCB (rIsi K) (tCons (tVar 2) (tCons (tC (.ty "tuple")) tNil))))) [some (.int (l : Int)), some (.int (r : Int)), some (.ref a)] H false := et_is (et_not (et_bl (evp_isi (b := true) (v2 (Ex.refl _)) (fun x H1 ⟨p, e, hp⟩ => by rw [e]; exact .base (.tup hp)) (.ty "tuple") (kit_ty (a := "tuple") (by decide +kernel))))) rfl
      by_cases hl3 : xs.length = 3
      · obtain ⟨w', b, c, rfl⟩ : ∃ w' b c, xs = [w', b, c] := match xs, hl3 with | [w', b, c], _ => ⟨w', b, c, rfl⟩
        cases hp with
        | @cons _ dw _ _ h1 hp =>
        cases hp with
        | @cons _ lo _ _ h2 hp =>
        cases hp with
        | @cons _ hi _ _ h3 hp =>
        cases hp
        have hfd : factD l r (.tuple [dw, lo, hi]) = (formD l r dw && isC lo && hiD lo hi) := rfl
        have r0 := Ex.refl H
        refine q_when (b := !formD l r dw) (et_is (et_or (a := false) (b := !formD l r dw) tup1 fun _ => et_is (et_or (a := false) (b := !formD l r dw) (et_tst (evp_is (evp_ne (evp_lenTs (K := K) (v2 r0)) (evp_c (v := .int 3)) rfl) (by rfl))) fun _ => et_not (et_bl (b := formD l r dw) (fun H1 e1 Q' q' => ?_))) (by rw [Bool.false_or])) (by rw [Bool.false_or])) (fun hb H1 e1 => ?_) fun hb H1 e1 => ?_
        · refine ⟨.int (l : Int), rfl, .int (r : Int), rfl, evp_ixTs (K := K) (n := 0) (v2 e1) rfl H1 (Ex.refl _) _ fun v H2 e2 hv => ?_⟩
          exact ⟨l, r, w', dw, by rw [show v = _ from hv], hl, hr', h1.mono (Kx.of (e1.trans e2)), fun ds hds => hsm ds _ (by rw [hds]), fun v H3 e3 hv => q' v H3 (e2.trans e3) hv⟩
        · refine s_ret ev_c fun H3 e3 => q _ H3 (e1.trans e3) ?_
          rw [hfd, show formD l r dw = false by simpa using hb, Bool.false_and, Bool.false_and]
        have hF : formD l r dw = true := by simpa using hb
        have tg2 : ∀ {H' : Hp}, Evl.Ex H H' → EvP (tOp (rIxT K) (tVar 2) (tC (.int 1))) [some (.int (l : Int)), some (.int (r : Int)), some (.ref a)] H' (fun v H1 => v = b ∧ Tg H1 v lo) := fun e => (evp_ixTs (K := K) (n := 1) (v2 e) rfl).imp fun v H1 e1 hv => ⟨hv, by rw [show v = _ from hv]; exact h2.mono (Kx.of (e.trans e1))⟩
        have tg3 : ∀ {H' : Hp}, Evl.Ex H H' → EvP (tOp (rIxT K) (tVar 2) (tC (.int 2))) [some (.int (l : Int)), some (.int (r : Int)), some (.ref a)] H' (fun v H1 => v = c ∧ Tg H1 v hi) := fun e => (evp_ixTs (K := K) (n := 2) (v2 e) rfl).imp fun v H1 e1 hv => ⟨hv, by rw [show v = _ from hv]; exact h3.mono (Kx.of (e.trans e1))⟩
        refine q_when (b := !isC lo) (et_not (et_bl (evp_call (E := E0) (sp := spCntT) (eap_one (tg2 e1)) (fun vs H2 ⟨x1, hv, _, k1⟩ Q q E => ⟨x1, lo, hv, k1, q⟩)))) (fun hb H2 e2 => ?_) fun hb H2 e2 => ?_
        · refine s_ret ev_c fun H3 e3 => q _ H3 ((e1.trans e2).trans e3) ?_
          have : isC lo = false := by simpa using hb
          rw [hfd, hF, this]; rfl
        have hC : isC lo = true := by simpa using hb
        obtain ⟨lo', rfl⟩ : ∃ i, lo = .int i := by cases lo <;> first | exact ⟨_, rfl⟩ | cases hC
        obtain ⟨_, hb', hlo⟩ := tg_int h2 rfl
        cases hlo
        subst hb'
        have hlo0 : 0 ≤ lo' := of_decide_eq_true hC
        have ex := e1.trans e2
        refine s_ret (EvP.ev (v := .bl (hiD (.int lo') hi)) ?_) fun H3 e3 => q _ H3 (ex.trans e3) (by rw [hfd, hF, hC]; rfl)
        have tg3c := (tg3 ex).imp (R := Is c) fun _ _ _ h => h.1
        by_cases hN : c = .non
        · have hh : hi = .none := (tg_non h3).mp hN
          rw [hh]
          exact evp_is (evp_or (a := true) (b := true) (evp_is (evp_non tg3c) (by rw [decide_eq_true hN])) fun z => nomatch z) rfl
        · have hh : hi ≠ .none := fun z => hN ((tg_non h3).mpr z)
          refine evp_is (evp_or (a := false) (b := isC hi && hiD (.int lo') hi) (evp_is (evp_non tg3c) (by rw [decide_eq_false hN])) fun _ => evp_and (a := isC hi) (b := hiD (.int lo') hi) (evp_call (E := E0) (sp := spCntT) (eap_one (tg3 ex)) (fun vs H1 ⟨x, hv, _, hx⟩ Q q E => ⟨x, hi, hv, hx, q⟩)) fun hI => ?_) ?_
          · have hI2 : isI hi = true := by cases hi <;> first | rfl | cases hI
            obtain ⟨i, rfl, rfl⟩ := tg_int h3 hI2
            exact evp_is (evp_I0 (g := fun i j => .bl (decide (i ≥ j))) tg3c ((tg2 ex).imp fun _ _ _ h => h.1)) rfl
          · rw [Bool.false_or]
            cases hi with
            | none => exact absurd rfl hh
            | int i =>
              show V.bl (decide (0 ≤ i) && decide (i ≥ lo')) = V.bl (decide (i ≥ lo'))
              congr 1
              by_cases h : i ≥ lo'
              · rw [decide_eq_true h, decide_eq_true (show (0 : Int) ≤ i by omega)]; rfl
              · rw [decide_eq_false h, Bool.and_false]
            | _ => rfl
      · refine q_when (b := true) (et_is (et_or (a := false) (b := true) tup1 fun _ => et_is (et_or (a := true) (b := true) (et_tst (evp_is (evp_ne (evp_lenTs (K := K) (v2 (Ex.refl _))) (evp_c (v := .int 3)) rfl) (by simp; omega))) fun z => nomatch z) rfl) rfl) (fun _ H1 e1 => s_ret ev_c fun H2 e2 => q _ H2 (e1.trans e2) (by rw [factD_len (by omega)])) fun z => nomatch z
theorem ok_lcross {f : Addr} {fd : FuncData} (T : Txt mg tk) (D : Df K mg "_law_cross" s_law_cross ["_law_one", "_law_other"] f fd) : FnOk P w K mg base CX0 (k + 1) f fd ["_law_one", "_law_other"] spCross := by
  refine D.F.ok sc_law_cross (fun vs H Q E h => ?_) (fun cdv A outer s0 H vs Q E hr h => ?_)
  · obtain ⟨x, y, l, r, u, w, rfl, _⟩ := h
    rfl
  · obtain ⟨x, y, l, r, u, w, rfl, hx, hy, hu, hw, q⟩ := h
    have nd := sc_law_cross.nd
    refine ⟨_, (pss_cons (ps_if (PW.pt (pw_or (pt_cmpR op_ne (pe_ix (r := rIxT K) ix_tup (pv 0) pe_int (fun _ _ => rfl)) (pe_ix (r := rIxT K) ix_tup (pv 1) pe_int (fun _ _ => rfl)) (nomark _)) (pw_or1 (pt_cmpR (r := rIn K false) op_in_seq (pe_ix (r := rIxT K) ix_tup (pv 0) pe_int (fun _ _ => rfl)) (pe_lst (pa_cons pe_str (pa_cons pe_str pa_nil))) (by rfl))))) (pss_one (ps_ret pe_bl)) pss_nil) (pss_cons (ps_setLc (i := 2) (wi := iTup K _) (g := gName 3) (own := [("_law_value", 3)]) (by rfl) nd rfl rfl (by rfl) (pi_tup (pe_ix (r := rIxT K) ix_tup (pv 0) pe_int (fun _ _ => rfl))) (blkOk_by (by kernel_rfl)) (fun _ _ _ _ _ => (pg_name (i := 3) nd rfl (Or.inl rfl))) (fun _ _ _ _ _ => (pts_one (pt_cmpR (r := rIn K false) op_in_seq (pv 3) (pe_ix (r := rIxT K) ix_tup (pv 1) pe_int (fun _ _ => rfl)) (by rfl)))) (fun _ _ _ _ _ => (pv 3))) (pss_one (ps_ret (pe_and (pe_cmpR (r := rNeD K) (op_neD hr.units) (pv 2) (pe_lst pa_nil) (nomark _)) (pe_and (pe_cmpR op_lt (pe_callB (r := rLenQ K) call_len_seq (by rfl) T.n_len PySem.boot_len (pa_cons (pv 2) pa_nil)) (pe_callB (r := rLenQ K) call_len_seq (by rfl) T.n_len PySem.boot_len (pa_cons (pe_ix (r := rIxT K) ix_tup (pv 0) pe_int (fun _ _ => rfl)) pa_nil)) (nomark _)) (pe_one (pe_cmpR op_lt (pe_callB (r := rLenQ K) call_len_seq (by rfl) T.n_len PySem.boot_len (pa_cons (pv 2) pa_nil)) (pe_callB (r := rLenQ K) call_len_seq (by rfl) T.n_len PySem.boot_len (pa_cons (pe_ix (r := rIxT K) ix_tup (pv 1) pe_int (fun _ _ => rfl)) pa_nil)) (nomark _))))))))), ?_⟩
    have v0 : ∀ {σ' : L2.St} {H' : Hp}, σ'[0]? = some (some x) → Evl.Ex H H' → EvP (tVar 0) σ' H' (Wv u) := fun h e => evp_var h ((mf_wv u).mono _ _ _ e hx) (mf_wv u).mono
    have v1 : ∀ {σ' : L2.St} {H' : Hp}, σ'[1]? = some (some y) → Evl.Ex H H' → EvP (tVar 1) σ' H' (Wv w) := fun h e => evp_var h ((mf_wv w).mono _ _ _ e hy) (mf_wv w).mono
    refine q_when (σ := [some x, some y, none, none]) (b := bW (wWord u) (wWord w)) (et_is (et_or (a := !decide (V.str (wWord u) = V.str (wWord w))) (b := inV (.str (wWord u)) [.str "all", .str "cell"]) (et_tst (evp_ne (evp_w0 (K := K) (v0 rfl (Ex.refl _))) (evp_w0 (K := K) (v1 rfl (Ex.refl _))) rfl)) fun _ => et_tst (fun H1 e1 Q q => evp_w0 (K := K) (v0 rfl (Ex.refl _)) H1 e1 _ fun a H2 e2 ha => ⟨by show 2 ≤ sizeLine; decide, fun t ht => ⟨t, _, rfl, .inl (sq_of upd_same), by rw [show a = _ from ha]; rfl, rfl, by
      rw [show a = _ from ha]
      exact q _ _ (e2.trans (Ex.new ht)) rfl⟩⟩)) (bX_is u w)) (fun hb H1 e1 => s_ret ev_c fun H2 e2 => q _ H2 (e1.trans e2) (by rw [bW_no hb])) fun hb H1 e1 => ?_
    have rest : ∀ (is js : List Int), crW u w = crs is js → is.Pairwise (· < ·) → js.Pairwise (· < ·) → is.length ≤ 8 → js.length ≤ 8 → (∀ {σ' : L2.St} {H' : Hp}, σ'[0]? = some (some x) → Evl.Ex H H' → EvP (tOp (rIxT K) (tVar 0) (tC (.int 1))) σ' H' (Ts (is.map V.int))) → (∀ {σ' : L2.St} {H' : Hp}, σ'[1]? = some (some y) → Evl.Ex H H' → EvP (tOp (rIxT K) (tVar 1) (tC (.int 1))) σ' H' (Ts (js.map V.int))) →
        tSeq (tAsg (tLc (iTup K (tOp (rIxT K) (tVar 0) (tC (.int 1)))) (gName 3) (tTest (tOp (rIn K false) (tVar 3) (tOp (rIxT K) (tVar 1) (tC (.int 1))))) (tVar 3) [3]) (gName 2)) (tRet (tAndV (tOp (rNeD K) (tVar 2) (tLst tNil)) (tAndV (tOp (rI0 fun i j => .bl (decide (i < j))) (tCB (rLenQ K) (tCons (tVar 2) tNil)) (tCB (rLenQ K) (tCons (tOp (rIxT K) (tVar 0) (tC (.int 1))) tNil))) (tOp (rI0 fun i j => .bl (decide (i < j))) (tCB (rLenQ K) (tCons (tVar 2) tNil)) (tCB (rLenQ K) (tCons (tOp (rIxT K) (tVar 1) (tC (.int 1))) tNil)))))) { nx := fun _ H' => Q .non H', rt := Q } [some x, some y, none, none] H1 := fun is js hn pi pj li lj w0 w1 => by
      have hl := (evp_lcF (σ := [some x, some y, none, none]) (vs := [3]) (g := gName 3) (te := tVar 3) (tt := tTest (tOp (rIn K false) (tVar 3) (tOp (rIxT K) (tVar 1) (tC (.int 1))))) (f := fun i => js.contains (is.getD i 0)) (n := (is.map V.int).length) (Pi := fun i => Is (.int (is.getD i 0))) (wx_ts (K := K) (w0 rfl e1)) (by rw [List.length_map]; omega)
        (Sg := fun i σ2 _ => σ2 = [some x, some y, none, some (.int (is.getD i 0))]) (fun i z H2 hi e2 hz => by
          have : z = .int (is.getD i 0) := by
            rw [List.getElem?_map, List.getElem?_eq_getElem (by simpa using hi)] at hz
            cases hz
            rw [List.getD_eq_getElem?_getD, List.getElem?_eq_getElem (by simpa using hi)]
            rfl
          rw [this]
          exact g_name (i := 3) ⟨rfl, rfl⟩) (fun i σ2 H2 hi e2 hs => by subst hs; exact et_tst (evp_inI (K := K) (evp_var (i := 3) rfl rfl mono_is) (w1 rfl (e1.trans e2)))) (fun i σ2 H2 hi e2 hs => by subst hs; exact evp_var (i := 3) rfl rfl mono_is) fun _ => mf_is)
      have hcnt : ((List.range (is.map V.int).length).filter fun i => js.contains (is.getD i 0)).length = (is.filter fun x => js.contains x).length := by
        rw [List.length_map, range_cnt (fun x => js.contains x)]
      generalize (List.range (is.map V.int).length).filter (fun i => js.contains (is.getD i 0)) = idx at hl hcnt
      refine q_asgP (P := Ls ((idx.map fun i => is.getD i 0).map V.int)) (hl.imp fun v H3 e3 ⟨p, ys, hv, hp, pr⟩ => ⟨p, hv, by rw [hp, ints_pair pr]⟩) fun v2 H2 e2 hv2 => ?_
      have w2 : ∀ {H' : Hp}, Evl.Ex H2 H' → EvP (tVar 2) [some x, some y, some v2, none] H' (Ls ((idx.map fun i => is.getD i 0).map V.int)) := fun e => evp_var rfl (mono_ls _ _ _ e hv2) mono_ls
      have l2 : ∀ {H' : Hp}, Evl.Ex H2 H' → EvP (tCB (rLenQ K) (tCons (tVar 2) tNil)) [some x, some y, some v2, none] H' (Is (.int (idx.length : Int))) := fun e => evp_lenL (K := K) ((w2 e).imp fun v H3 e3 ⟨p, hv, hp⟩ => ⟨p, _, hv, hp, by rw [List.length_map, List.length_map]⟩)
      have r2 := Ex.refl H2
      have he : PyData.eqv (.list ((idx.map fun i => is.getD i 0).map PyData.int)) (.list []) = decide (idx.length = 0) := by cases idx <;> rfl
      refine s_ret (EvP.ev (v := .bl (crs is js)) (evp_is (evp_and (a := !decide (idx.length = 0)) (b := decide ((idx.length : Int) < (is.length : Int)) && decide ((idx.length : Int) < (js.length : Int))) (evp_is (evp_neD (K := K) (w2 r2) (evp_ofL (xs := []) (el_lst ea_nil (by decide))) mono_ls (fun _ _ ⟨p, hv, hp⟩ => by rw [hv]; exact .lst (sq_of hp) (ints_dp _)) (fun _ _ ⟨p, hv, hp⟩ => by rw [hv]; exact .lst (sq_of hp) .nil) (ints_sh _) rfl) (by rw [he])) fun _ => evp_and (evp_is (evp_I0 (g := fun i j => .bl (decide (i < j))) (l2 r2) (evp_lenTs (K := K) (w0 rfl (e1.trans e2)))) (by rw [List.length_map])) fun _ => evp_is (evp_I0 (g := fun i j => .bl (decide (i < j))) (l2 r2) (evp_lenTs (K := K) (w1 rfl (e1.trans e2)))) (by rw [List.length_map])) (by rw [crs_is hcnt]))) fun H3 e3 => q _ H3 ((e1.trans e2).trans e3) (by rw [hn])
    cases u with
    | all => cases w <;> exact absurd hb (by first | exact (show ¬ bW "all" "all" = false by decide +kernel) | exact (show ¬ bW "all" "left" = false by decide +kernel) | exact (show ¬ bW "all" "right" = false by decide +kernel) | exact (show ¬ bW "all" "cell" = false by decide +kernel) | exact (show ¬ bW "left" "all" = false by decide +kernel) | exact (show ¬ bW "left" "right" = false by decide +kernel) | exact (show ¬ bW "left" "cell" = false by decide +kernel) | exact (show ¬ bW "right" "all" = false by decide +kernel) | exact (show ¬ bW "right" "left" = false by decide +kernel) | exact (show ¬ bW "right" "cell" = false by decide +kernel) | exact (show ¬ bW "cell" "all" = false by decide +kernel) | exact (show ¬ bW "cell" "left" = false by decide +kernel) | exact (show ¬ bW "cell" "right" = false by decide +kernel) | exact (show ¬ bW "cell" "cell" = false by decide +kernel))
    | cell a b => cases w <;> exact absurd hb (by first | exact (show ¬ bW "all" "all" = false by decide +kernel) | exact (show ¬ bW "all" "left" = false by decide +kernel) | exact (show ¬ bW "all" "right" = false by decide +kernel) | exact (show ¬ bW "all" "cell" = false by decide +kernel) | exact (show ¬ bW "left" "all" = false by decide +kernel) | exact (show ¬ bW "left" "right" = false by decide +kernel) | exact (show ¬ bW "left" "cell" = false by decide +kernel) | exact (show ¬ bW "right" "all" = false by decide +kernel) | exact (show ¬ bW "right" "left" = false by decide +kernel) | exact (show ¬ bW "right" "cell" = false by decide +kernel) | exact (show ¬ bW "cell" "all" = false by decide +kernel) | exact (show ¬ bW "cell" "left" = false by decide +kernel) | exact (show ¬ bW "cell" "right" = false by decide +kernel) | exact (show ¬ bW "cell" "cell" = false by decide +kernel))
    | left is =>
      cases w with
      | left js => exact rest is js rfl (show VsOk l is from hu).asc (show VsOk l js from hw).asc (show VsOk l is from hu).len (show VsOk l js from hw).len (fun h e => evp_w1 (K := K) ((v0 h e).imp fun _ _ _ h => wv_vs (.inl h))) (fun h e => evp_w1 (K := K) ((v1 h e).imp fun _ _ _ h => wv_vs (.inl h)))
      | _ => exact absurd hb (by first | exact (show ¬ bW "all" "all" = false by decide +kernel) | exact (show ¬ bW "all" "left" = false by decide +kernel) | exact (show ¬ bW "all" "right" = false by decide +kernel) | exact (show ¬ bW "all" "cell" = false by decide +kernel) | exact (show ¬ bW "left" "all" = false by decide +kernel) | exact (show ¬ bW "left" "right" = false by decide +kernel) | exact (show ¬ bW "left" "cell" = false by decide +kernel) | exact (show ¬ bW "right" "all" = false by decide +kernel) | exact (show ¬ bW "right" "left" = false by decide +kernel) | exact (show ¬ bW "right" "cell" = false by decide +kernel) | exact (show ¬ bW "cell" "all" = false by decide +kernel) | exact (show ¬ bW "cell" "left" = false by decide +kernel) | exact (show ¬ bW "cell" "right" = false by decide +kernel) | exact (show ¬ bW "cell" "cell" = false by decide +kernel))
    | right is =>
      cases w with
      | right js => exact rest is js rfl (show VsOk r is from hu).asc (show VsOk r js from hw).asc (show VsOk r is from hu).len (show VsOk r js from hw).len (fun h e => evp_w1 (K := K) ((v0 h e).imp fun _ _ _ h => wv_vs (.inr h))) (fun h e => evp_w1 (K := K) ((v1 h e).imp fun _ _ _ h => wv_vs (.inr h)))
      | _ => exact absurd hb (by first | exact (show ¬ bW "all" "all" = false by decide +kernel) | exact (show ¬ bW "all" "left" = false by decide +kernel) | exact (show ¬ bW "all" "right" = false by decide +kernel) | exact (show ¬ bW "all" "cell" = false by decide +kernel) | exact (show ¬ bW "left" "all" = false by decide +kernel) | exact (show ¬ bW "left" "right" = false by decide +kernel) | exact (show ¬ bW "left" "cell" = false by decide +kernel) | exact (show ¬ bW "right" "all" = false by decide +kernel) | exact (show ¬ bW "right" "left" = false by decide +kernel) | exact (show ¬ bW "right" "cell" = false by decide +kernel) | exact (show ¬ bW "cell" "all" = false by decide +kernel) | exact (show ¬ bW "cell" "left" = false by decide +kernel) | exact (show ¬ bW "cell" "right" = false by decide +kernel) | exact (show ¬ bW "cell" "cell" = false by decide +kernel))
def sp_dueL : Sp := fun vs H Q _ => ∃ (v : V) (l r : Nat) (es : List (Option FR)), vs = [.int (l : Int), .int (r : Int), v] ∧ (1 ≤ l ∧ l ≤ 8) ∧ (1 ≤ r ∧ r ≤ 8) ∧ LsP Fe es v H ∧ (∀ e ∈ es, ElOk l r e) ∧ ∀ w H2, Evl.Ex H H2 → Tl es w H2 → Q w H2
def sp_dueT : Sp := fun vs H Q _ => ∃ (v : V) (l r : Nat) (es : List (Option FR)), vs = [.int (l : Int), .int (r : Int), v] ∧ (1 ≤ l ∧ l ≤ 8) ∧ (1 ≤ r ∧ r ≤ 8) ∧ TsP Fe es v H ∧ (∀ e ∈ es, ElOk l r e) ∧ ∀ w H2, Evl.Ex H H2 → Tl es w H2 → Q w H2
def sp_dueO (K : PySem.W.Frag) : Sp := fun vs H Q _ => ∃ (v : V) (x y : V), vs = [x, y, v] ∧ KB K false v H ∧ ∀ w H2, Evl.Ex H H2 → Ls [.str "fact", .non] w H2 → Q w H2
theorem ok_dueL {f f1 f2 : Addr} {fd fd1 fd2 : FuncData} (D__law_is_fact : Df K mg "_law_is_fact" s_law_is_fact ["_law_left", "_law_right", "_law_value"] f1 fd1) (G__law_is_fact : FnOk P w K mg base CX0 (k + 7) f1 fd1 ["_law_left", "_law_right", "_law_value"] spLIsF)
    (D__law_cross : Df K mg "_law_cross" s_law_cross ["_law_one", "_law_other"] f2 fd2) (G__law_cross : FnOk P w K mg base CX0 (k + 1) f2 fd2 ["_law_one", "_law_other"] spCross) (T : Txt mg tk)
    (D : Df K mg "_law_due" s_law_due ["_law_left", "_law_right", "_law_facts"] f fd) : FnOk P w K mg base CX0 (k + 8) f fd ["_law_left", "_law_right", "_law_facts"] sp_dueL := by
  refine D.F.ok sc_law_due (fun vs H Q E h => ?_) (fun cdv A outer s0 H vs Q E hr h => ?_)
  · obtain ⟨v, l, r, es, rfl, _⟩ := h
    rfl
  · obtain ⟨v, l, r, es, rfl, hl, hr', ⟨p, ys, rfl, hp, pr⟩, hok, q⟩ := h
    have nd := sc_law_due.nd
    refine ⟨_, (pss_cons (ps_if (PW.pt (pw_or (pt_not (pt_val (pe_callB (r := rIsiT K) call_isiT (by rfl) T.n_isinstance PyProof.Rows.boot_isinstance (pa_cons (pv 2) (pa_cons (pe_tup (pa_cons (pe_bltn (v := .ty "list") (by rfl) T.n_list PyProof.Rows.boot_list rfl) (pa_cons (pe_bltn (v := .ty "tuple") (by rfl) T.n_tuple PyProof.Rows.boot_tuple rfl) pa_nil))) pa_nil))))) (pw_or1 (pt_cmpR op_gt (pe_callB (r := rLenQ K) call_len_seq (by rfl) T.n_len PySem.boot_len (pa_cons (pv 2) pa_nil)) pe_int (nomark _))))) (pss_one (ps_ret (pe_lst (pa_cons pe_str (pa_cons pe_non pa_nil))))) pss_nil) (pss_cons (ps_for PassesOwn.never rfl (pi_enum (by rfl) T.n_enumerate (pa_cons (pv 2) pa_nil)) (pg_tup rfl (pgs_cons (pg_name (i := 3) nd rfl (Or.inl rfl)) (pgs_cons (pg_name (i := 4) nd rfl (Or.inl rfl)) pgs_nil))) (pss_one (ps_if (pt_not (pt_val (pe_call G__law_is_fact (hr.mono (by omega)) (by rfl) D__law_is_fact.g D__law_is_fact.F.kp D__law_is_fact.b .nil pass0 (pa_cons (pv 0) (pa_cons (pv 1) (pa_cons (pv 4) pa_nil)))))) (pss_one (ps_ret (pe_lst (pa_cons pe_str (pa_cons (pv 3) pa_nil))))) pss_nil))) (pss_cons (ps_for PassesOwn.never rfl (pi_enum (by rfl) T.n_enumerate (pa_cons (pv 2) pa_nil)) (pg_tup rfl (pgs_cons (pg_name (i := 3) nd rfl (Or.inl rfl)) (pgs_cons (pg_name (i := 4) nd rfl (Or.inl rfl)) pgs_nil))) (pss_one (ps_for PassesOwn.never rfl (pi_range2 (by rfl) T.n_range (pa_cons (pe_op op_add (pv 3) pe_int) (pa_cons (pe_callB (r := rLenQ K) call_len_seq (by rfl) T.n_len PySem.boot_len (pa_cons (pv 2) pa_nil)) pa_nil))) (pg_name (i := 5) nd rfl (Or.inl rfl)) (pss_one (ps_if (pt_val (pe_call G__law_cross (hr.mono (by omega)) (by rfl) D__law_cross.g D__law_cross.F.kp D__law_cross.b .nil pass0 (pa_cons (pe_ix (r := rIxT K) ix_tup (pv 4) pe_int (fun _ _ => rfl)) (pa_cons (pe_ix (r := rIxT K) ix_tup (pe_ix (r := rIxL K) ix_list (pv 2) (pv 5) (fun _ _ => rfl)) pe_int (fun _ _ => rfl)) pa_nil)))) (pss_one (ps_ret (pe_lst (pa_cons pe_str (pa_cons (pe_tup (pa_cons (pv 3) (pa_cons (pv 5) pa_nil))) pa_nil))))) pss_nil))))) (pss_one (ps_ret (pe_callTy (r := rLstQ K) call_list_of (by rfl) T.n_list PyProof.Rows.boot_list (pa_cons (pv 2) pa_nil))))))), ?_⟩
    have hyl := Paired.len pr
    have vf : ∀ {σ' : L2.St} {H' : Hp}, σ'[2]? = some (some (.ref p)) → Evl.Ex H H' → EvP (tVar 2) σ' H' (LsP Fe es) := fun h e => evp_var h ((mono_lsP fe_mono) _ _ _ e ⟨p, ys, rfl, hp, pr⟩) (mono_lsP fe_mono)
    refine q_when (b := decide (40 < es.length)) (et_is (et_or (a := false) (b := decide (40 < es.length)) (et_is (et_not (et_bl (evp_isT (K := K) (b := true) ((vf rfl (Ex.refl _)).imp fun _ _ _ h => kb_lsP h)))) rfl) fun _ => et_tst (evp_is (evp_I0 (g := fun i j => .bl (decide (i > j))) (evp_lenLs (K := K) (vf rfl (Ex.refl _))) (evp_c (v := .int 40))) (by rw [show decide ((es.length : Int) > 40) = decide (40 < es.length) from decide_eq_decide.mpr (by omega)]))) (by rw [Bool.false_or])) (fun hb H1 e1 => ?_) fun hb H1 e1 => ?_
    · exact ⟨sz_of (show 2 ≤ 100000 by decide), fun u hu => q _ _ (e1.trans (Ex.new hu)) (.inr ⟨.non, (of_decide_eq_true hb : 40 < es.length), u, .non, rfl, upd_same, rfl⟩)⟩
    have hlen : es.length ≤ 40 := by have := of_decide_eq_false hb; omega
    -- each one
    refine ⟨.ref p, rfl, p, ys, rfl, sq_of (e1 _ _ hp), ?_⟩
    refine for_enum (fun i σ' H' => ∃ s3 s4 s5, σ' = [some (.int (l : Int)), some (.int (r : Int)), some (.ref p), s3, s4, s5] ∧ Evl.Ex H H' ∧ ∀ j, j < i → bad es j = false) ⟨_, _, _, rfl, e1, fun j h => absurd h (Nat.not_lt_zero _)⟩ (fun i σ' H' ⟨_, _, _, _, e, _⟩ => sq_of (e _ _ hp)) (fun i x T σ' H' hx ⟨s3, s4, s5, hs, e, hno⟩ hT => ?_) (fun σ' H' ⟨s3, s4, s5, hs, e, hno⟩ => ?_)
    · subst hs
      obtain ⟨g, hg, hgx⟩ := paired_idx pr hx
      have e2 : Evl.Ex H (upd H' T (.tup [.int (i : Int), x])) := e.trans (Ex.new hT)
      have hT1 : (upd H' T (.tup [.int (i : Int), x])) T = some (.tup [.int (i : Int), x]) := upd_same
      generalize upd H' T (.tup [.int (i : Int), x]) = H1 at e2 hT1
      refine ⟨T, _, rfl, st_of hT1, rfl, _, _, rfl, _, _, rfl, rfl, ?_⟩
      have hm := List.mem_of_getElem? hg
      have hbd : bad es i = !gdE g := by unfold bad; rw [hg]; rfl
      refine s_when (σ := [some (.int (l : Int)), some (.int (r : Int)), some (.ref p), some (.int (i : Int)), some x, s5]) (b := !gdE g) (et_not (et_bl (evp_call (E := E0) (sp := spLIsF) (eap_three (P := Is (.int (l : Int))) (R := Is (.int (r : Int))) (S := Fe g) (evp_var (i := 0) rfl rfl mono_is) (evp_var (i := 1) rfl rfl mono_is) (evp_var (i := 4) rfl (fe_mono _ _ _ _ e2 hgx) (fe_mono g)) mono_is mono_is) (fun vs H2 ⟨a, b, c, hv, ha, hb, hc⟩ Q q E => ⟨l, r, c, g, by rw [hv, show a = _ from ha, show b = _ from hb], hl, hr', hc, hok g hm, q⟩)))) (fun hb H2 e3 => ?_) fun hb H2 e3 => ⟨_, _, _, rfl, e2.trans e3, fun j hj => ?_⟩
      · exact ⟨.int (i : Int), rfl, sz_of (show 2 ≤ 100000 by decide), fun u hu => q _ _ ((e2.trans e3).trans (Ex.new hu)) (.inr ⟨.idx i, ⟨hlen, by rw [hbd, hb], hno⟩, u, .int (i : Int), rfl, upd_same, rfl⟩)⟩
      · by_cases h3 : j < i
        · exact hno j h3
        · have : j = i := by omega
          rw [this, hbd, hb]
    subst hs
    have hall : ∀ k, bad es k = false := bad_no fun k hk => hno k (by rw [hyl]; exact hk)
    obtain ⟨fs, rfl, hgf⟩ := somes hall
    have hlen2 : fs.length ≤ 40 := by rw [List.length_map] at hlen; exact hlen
    have prF := paired_some pr
    have hyl := Paired.len prF
    have vf : ∀ {σ' : L2.St} {H' : Hp}, σ'[2]? = some (some (.ref p)) → Evl.Ex H H' → EvP (tVar 2) σ' H' (LsP Fv fs) := fun h e => evp_var h ((mono_lsP fv_mono) _ _ _ e ⟨p, ys, rfl, hp, prF⟩) (mono_lsP fv_mono)
    have hcx : ∀ a b (f g : FR), fs[a]? = some f → fs[b]? = some g → cx (fs.map some) a b = crW f.w g.w := fun a b f g h1 h2 => by
      unfold cx
      rw [List.getElem?_map, List.getElem?_map, h1, h2]
      rfl
    clear hno
    have eH := e
    refine ⟨.ref p, rfl, p, ys, rfl, sq_of (e _ _ hp), ?_⟩
    refine for_enum (fun i σ' H' => ∃ s3 s4 s5, σ' = [some (.int (l : Int)), some (.int (r : Int)), some (.ref p), s3, s4, s5] ∧ Evl.Ex H H' ∧ ∀ a b, a < b → a < i → cx (fs.map some) a b = false) ⟨_, _, _, rfl, e, fun a b _ h => absurd h (Nat.not_lt_zero _)⟩ (fun i σ' H' ⟨_, _, _, _, e, _⟩ => sq_of (e _ _ hp)) (fun i x T σ' H' hx ⟨s3, s4, s5, hs, e, hno⟩ hT => ?_) (fun σ' H' ⟨s3, s4, s5, hs, e, hno⟩ => ?_)
    · subst hs
      obtain ⟨g, hg, hgx⟩ := paired_idx prF hx
      have hi : i < fs.length := (List.getElem?_eq_some_iff.mp hg).1
      have e1 : Evl.Ex H (upd H' T (.tup [.int (i : Int), x])) := e.trans (Ex.new hT)
      have hT1 : (upd H' T (.tup [.int (i : Int), x])) T = some (.tup [.int (i : Int), x]) := upd_same
      generalize upd H' T (.tup [.int (i : Int), x]) = H1 at e1 hT1
      refine ⟨T, _, rfl, st_of hT1, rfl, _, _, rfl, _, _, rfl, rfl, ?_⟩
      have hevp_len : ∀ {σ' : L2.St} {H' : Hp}, σ'[2]? = some (some (.ref p)) → Evl.Ex H H' → EvP (tCB (rLenQ K) (tCons (tVar 2) tNil)) σ' H' (Is (.int (fs.length : Int))) := fun h e => evp_lenLs (K := K) (vf h e)
      refine s_forR2 (lo := ((i + 1 : Nat) : Int)) (n := (fs.length : Int)) (fun H2 e2 Q q => eap_two (P := Is (.int ((i + 1 : Nat) : Int))) (evp_is (evp_I0 (g := fun i j => .int (i + j)) (evp_var (v := .int (i : Int)) (i := 3) rfl rfl mono_is) (evp_c (v := .int 1))) (by rw [show ((i + 1 : Nat) : Int) = (i : Int) + 1 by omega])) (hevp_len rfl e1) mono_is H2 e2 _ fun vs H3 e3 ⟨a, b, hv, ha, hb⟩ => by rw [hv, show a = _ from ha, show b = _ from hb]; exact q H3 e3) (by omega)
        (fun j σ' H' => ∃ s3, σ' = [some (.int (l : Int)), some (.int (r : Int)), some (.ref p), some (.int (i : Int)), some x, s3] ∧ Evl.Ex H H' ∧ ∀ b, i < b → b < i + 1 + j → cx (fs.map some) i b = false) (fun H2 e2 => ⟨_, rfl, e1.trans e2, fun b h1 h2 => by omega⟩) (fun j σ' H' hj ⟨s3, hs, e2, hin⟩ => ?_) (fun σ' H' ⟨s3, hs, e2, hin⟩ => ⟨_, _, _, hs, e2, fun a b h1 h2 => ?_⟩)
      · subst hs
        obtain ⟨g2, hg2⟩ : ∃ g2, fs[i + 1 + j]? = some g2 := ⟨_, List.getElem?_eq_getElem (by omega)⟩
        have m1 : ElOk l r (some g) := hok _ (List.mem_map.mpr ⟨g, List.mem_of_getElem? hg, rfl⟩)
        have m2 : ElOk l r (some g2) := hok _ (List.mem_map.mpr ⟨g2, List.mem_of_getElem? hg2, rfl⟩)
        have hc := hcx i (i + 1 + j) g g2 hg hg2
        have hij : ((i + 1 + j : Nat) : Int) = ((i + 1 : Nat) : Int) + (j : Int) := by omega
        refine s_when (σ := [some (.int (l : Int)), some (.int (r : Int)), some (.ref p), some (.int (i : Int)), some x, some (.int (((i + 1 : Nat) : Int) + (j : Int)))]) (b := crW g.w g2.w) (et_bl (evp_call (E := E0) (sp := spCross) (eap_two (P := Wv g.w) (R := Wv g2.w) (evp_f0 (K := K) (evp_var (i := 4) rfl (fv_mono _ _ _ _ e2 hgx) (fv_mono g))) (evp_f0 (K := K) (evp_atL (K := K) (n := i + 1 + j) fv_mono (vf rfl e2) (evp_is (evp_var (i := 5) (v := .int (((i + 1 : Nat) : Int) + (j : Int))) rfl rfl mono_is) (by rw [hij])) hg2)) (wv_mono _)) (fun vs H2 ⟨a, b, hv, ha, hb⟩ Q q E => ⟨a, b, l, r, g.w, g2.w, hv, ha, hb, m1.1, m2.1, q⟩))) (fun hb H2 e3 => ?_) fun hb H2 e3 => ⟨_, rfl, e2.trans e3, fun b h1 h2 => ?_⟩
        · refine ⟨.int (i : Int), rfl, .int (((i + 1 : Nat) : Int) + (j : Int)), rfl, sz_of (show 2 ≤ 100000 by decide), fun t ht => ⟨sz_of (show 2 ≤ 100000 by decide), fun u hu => q _ _ (((e2.trans e3).trans (Ex.new ht)).trans (Ex.new hu)) (.inr ⟨.pair i (i + 1 + j), ⟨by rw [List.length_map]; exact hlen2, hall, by omega, by rw [hc, hb], fun a b h1 h2 => ?_⟩, u, .ref t, rfl, upd_same, t, rfl, ?_⟩)⟩⟩
          · by_cases hai : a < i
            · rw [hno a b h1 hai] at h2; cases h2
            · by_cases hai2 : i < a
              · exact .inl hai2
              · have : i = a := by omega
                subst this
                refine .inr ⟨rfl, ?_⟩
                refine Nat.le_of_not_lt fun hlt => ?_
                rw [hin b h1 hlt] at h2; cases h2
          · rw [upd_ne (fun z => by rw [← z, upd_same] at hu; cases hu), hij]; exact upd_same
        · by_cases h3 : b < i + 1 + j
          · exact hin b h1 h3
          · have : b = i + 1 + j := by omega
            rw [this, hc, hb]
      · by_cases hai : a < i
        · exact hno a b h1 hai
        · have : a = i := by omega
          subst this
          cases hh : cx (fs.map some) a b with
          | false => rfl
          | true =>
            have h4 := (cx_lt hh).2
            rw [List.length_map] at h4
            rw [hin b h1 (by omega)] at hh
            cases hh
    · subst hs
      have hno2 : ∀ a b, a < b → cx (fs.map some) a b = false := fun a b h1 => by
        cases hh : cx (fs.map some) a b with
        | false => rfl
        | true =>
          have h4 := (cx_lt hh).1
          rw [List.length_map] at h4
          rw [hno a b h1 (by omega)] at hh
          cases hh
      exact ⟨.ref p, rfl, p, ys, rfl, .inl (sq_of (e _ _ hp)), fun u hu => q _ _ (e.trans (Ex.new hu)) (.inl ⟨⟨by rw [List.length_map]; exact hlen2, hall, hno2⟩, fs, rfl, u, ys, rfl, upd_same, Paired.impl (fun _ _ h => fv_mono _ _ _ _ (e.trans (Ex.new hu)) h) prF⟩)⟩
theorem ok_dueT {f f1 f2 : Addr} {fd fd1 fd2 : FuncData} (D__law_is_fact : Df K mg "_law_is_fact" s_law_is_fact ["_law_left", "_law_right", "_law_value"] f1 fd1) (G__law_is_fact : FnOk P w K mg base CX0 (k + 7) f1 fd1 ["_law_left", "_law_right", "_law_value"] spLIsF)
    (D__law_cross : Df K mg "_law_cross" s_law_cross ["_law_one", "_law_other"] f2 fd2) (G__law_cross : FnOk P w K mg base CX0 (k + 1) f2 fd2 ["_law_one", "_law_other"] spCross) (T : Txt mg tk)
    (D : Df K mg "_law_due" s_law_due ["_law_left", "_law_right", "_law_facts"] f fd) : FnOk P w K mg base CX0 (k + 8) f fd ["_law_left", "_law_right", "_law_facts"] sp_dueT := by
  refine D.F.ok sc_law_due (fun vs H Q E h => ?_) (fun cdv A outer s0 H vs Q E hr h => ?_)
  · obtain ⟨v, l, r, es, rfl, _⟩ := h
    rfl
  · obtain ⟨v, l, r, es, rfl, hl, hr', ⟨p, ys, rfl, hp, pr⟩, hok, q⟩ := h
    have nd := sc_law_due.nd
    refine ⟨_, (pss_cons (ps_if (PW.pt (pw_or (pt_not (pt_val (pe_callB (r := rIsiT K) call_isiT (by rfl) T.n_isinstance PyProof.Rows.boot_isinstance (pa_cons (pv 2) (pa_cons (pe_tup (pa_cons (pe_bltn (v := .ty "list") (by rfl) T.n_list PyProof.Rows.boot_list rfl) (pa_cons (pe_bltn (v := .ty "tuple") (by rfl) T.n_tuple PyProof.Rows.boot_tuple rfl) pa_nil))) pa_nil))))) (pw_or1 (pt_cmpR op_gt (pe_callB (r := rLenQ K) call_len_seq (by rfl) T.n_len PySem.boot_len (pa_cons (pv 2) pa_nil)) pe_int (nomark _))))) (pss_one (ps_ret (pe_lst (pa_cons pe_str (pa_cons pe_non pa_nil))))) pss_nil) (pss_cons (ps_for PassesOwn.never rfl (pi_enumT (by rfl) T.n_enumerate (pa_cons (pv 2) pa_nil)) (pg_tup rfl (pgs_cons (pg_name (i := 3) nd rfl (Or.inl rfl)) (pgs_cons (pg_name (i := 4) nd rfl (Or.inl rfl)) pgs_nil))) (pss_one (ps_if (pt_not (pt_val (pe_call G__law_is_fact (hr.mono (by omega)) (by rfl) D__law_is_fact.g D__law_is_fact.F.kp D__law_is_fact.b .nil pass0 (pa_cons (pv 0) (pa_cons (pv 1) (pa_cons (pv 4) pa_nil)))))) (pss_one (ps_ret (pe_lst (pa_cons pe_str (pa_cons (pv 3) pa_nil))))) pss_nil))) (pss_cons (ps_for PassesOwn.never rfl (pi_enumT (by rfl) T.n_enumerate (pa_cons (pv 2) pa_nil)) (pg_tup rfl (pgs_cons (pg_name (i := 3) nd rfl (Or.inl rfl)) (pgs_cons (pg_name (i := 4) nd rfl (Or.inl rfl)) pgs_nil))) (pss_one (ps_for PassesOwn.never rfl (pi_range2 (by rfl) T.n_range (pa_cons (pe_op op_add (pv 3) pe_int) (pa_cons (pe_callB (r := rLenQ K) call_len_seq (by rfl) T.n_len PySem.boot_len (pa_cons (pv 2) pa_nil)) pa_nil))) (pg_name (i := 5) nd rfl (Or.inl rfl)) (pss_one (ps_if (pt_val (pe_call G__law_cross (hr.mono (by omega)) (by rfl) D__law_cross.g D__law_cross.F.kp D__law_cross.b .nil pass0 (pa_cons (pe_ix (r := rIxT K) ix_tup (pv 4) pe_int (fun _ _ => rfl)) (pa_cons (pe_ix (r := rIxT K) ix_tup (pe_ix (r := rIxT K) ix_tup (pv 2) (pv 5) (fun _ _ => rfl)) pe_int (fun _ _ => rfl)) pa_nil)))) (pss_one (ps_ret (pe_lst (pa_cons pe_str (pa_cons (pe_tup (pa_cons (pv 3) (pa_cons (pv 5) pa_nil))) pa_nil))))) pss_nil))))) (pss_one (ps_ret (pe_callTy (r := rLstQ K) call_list_of (by rfl) T.n_list PyProof.Rows.boot_list (pa_cons (pv 2) pa_nil))))))), ?_⟩
    have hyl := Paired.len pr
    have vf : ∀ {σ' : L2.St} {H' : Hp}, σ'[2]? = some (some (.ref p)) → Evl.Ex H H' → EvP (tVar 2) σ' H' (TsP Fe es) := fun h e => evp_var h ((mono_tsP fe_mono) _ _ _ e ⟨p, ys, rfl, hp, pr⟩) (mono_tsP fe_mono)
    refine q_when (b := decide (40 < es.length)) (et_is (et_or (a := false) (b := decide (40 < es.length)) (et_is (et_not (et_bl (evp_isT (K := K) (b := true) ((vf rfl (Ex.refl _)).imp fun _ _ _ h => kb_tsP h)))) rfl) fun _ => et_tst (evp_is (evp_I0 (g := fun i j => .bl (decide (i > j))) (evp_lenTP (K := K) (vf rfl (Ex.refl _))) (evp_c (v := .int 40))) (by rw [show decide ((es.length : Int) > 40) = decide (40 < es.length) from decide_eq_decide.mpr (by omega)]))) (by rw [Bool.false_or])) (fun hb H1 e1 => ?_) fun hb H1 e1 => ?_
    · exact ⟨sz_of (show 2 ≤ 100000 by decide), fun u hu => q _ _ (e1.trans (Ex.new hu)) (.inr ⟨.non, (of_decide_eq_true hb : 40 < es.length), u, .non, rfl, upd_same, rfl⟩)⟩
    have hlen : es.length ≤ 40 := by have := of_decide_eq_false hb; omega
    -- each one
    refine ⟨.ref p, rfl, p, ys, rfl, st_of (e1 _ _ hp), ?_⟩
    refine for_enumT (fun i σ' H' => ∃ s3 s4 s5, σ' = [some (.int (l : Int)), some (.int (r : Int)), some (.ref p), s3, s4, s5] ∧ Evl.Ex H H' ∧ ∀ j, j < i → bad es j = false) ⟨_, _, _, rfl, e1, fun j h => absurd h (Nat.not_lt_zero _)⟩ (fun i σ' H' ⟨_, _, _, _, e, _⟩ => st_of (e _ _ hp)) (fun i x T σ' H' hx ⟨s3, s4, s5, hs, e, hno⟩ hT => ?_) (fun σ' H' ⟨s3, s4, s5, hs, e, hno⟩ => ?_)
    · subst hs
      obtain ⟨g, hg, hgx⟩ := paired_idx pr hx
      have e2 : Evl.Ex H (upd H' T (.tup [.int (i : Int), x])) := e.trans (Ex.new hT)
      have hT1 : (upd H' T (.tup [.int (i : Int), x])) T = some (.tup [.int (i : Int), x]) := upd_same
      generalize upd H' T (.tup [.int (i : Int), x]) = H1 at e2 hT1
      refine ⟨T, _, rfl, st_of hT1, rfl, _, _, rfl, _, _, rfl, rfl, ?_⟩
      have hm := List.mem_of_getElem? hg
      have hbd : bad es i = !gdE g := by unfold bad; rw [hg]; rfl
      refine s_when (σ := [some (.int (l : Int)), some (.int (r : Int)), some (.ref p), some (.int (i : Int)), some x, s5]) (b := !gdE g) (et_not (et_bl (evp_call (E := E0) (sp := spLIsF) (eap_three (P := Is (.int (l : Int))) (R := Is (.int (r : Int))) (S := Fe g) (evp_var (i := 0) rfl rfl mono_is) (evp_var (i := 1) rfl rfl mono_is) (evp_var (i := 4) rfl (fe_mono _ _ _ _ e2 hgx) (fe_mono g)) mono_is mono_is) (fun vs H2 ⟨a, b, c, hv, ha, hb, hc⟩ Q q E => ⟨l, r, c, g, by rw [hv, show a = _ from ha, show b = _ from hb], hl, hr', hc, hok g hm, q⟩)))) (fun hb H2 e3 => ?_) fun hb H2 e3 => ⟨_, _, _, rfl, e2.trans e3, fun j hj => ?_⟩
      · exact ⟨.int (i : Int), rfl, sz_of (show 2 ≤ 100000 by decide), fun u hu => q _ _ ((e2.trans e3).trans (Ex.new hu)) (.inr ⟨.idx i, ⟨hlen, by rw [hbd, hb], hno⟩, u, .int (i : Int), rfl, upd_same, rfl⟩)⟩
      · by_cases h3 : j < i
        · exact hno j h3
        · have : j = i := by omega
          rw [this, hbd, hb]
    subst hs
    have hall : ∀ k, bad es k = false := bad_no fun k hk => hno k (by rw [hyl]; exact hk)
    obtain ⟨fs, rfl, hgf⟩ := somes hall
    have hlen2 : fs.length ≤ 40 := by rw [List.length_map] at hlen; exact hlen
    have prF := paired_some pr
    have hyl := Paired.len prF
    have vf : ∀ {σ' : L2.St} {H' : Hp}, σ'[2]? = some (some (.ref p)) → Evl.Ex H H' → EvP (tVar 2) σ' H' (TsP Fv fs) := fun h e => evp_var h ((mono_tsP fv_mono) _ _ _ e ⟨p, ys, rfl, hp, prF⟩) (mono_tsP fv_mono)
    have hcx : ∀ a b (f g : FR), fs[a]? = some f → fs[b]? = some g → cx (fs.map some) a b = crW f.w g.w := fun a b f g h1 h2 => by
      unfold cx
      rw [List.getElem?_map, List.getElem?_map, h1, h2]
      rfl
    clear hno
    have eH := e
    refine ⟨.ref p, rfl, p, ys, rfl, st_of (e _ _ hp), ?_⟩
    refine for_enumT (fun i σ' H' => ∃ s3 s4 s5, σ' = [some (.int (l : Int)), some (.int (r : Int)), some (.ref p), s3, s4, s5] ∧ Evl.Ex H H' ∧ ∀ a b, a < b → a < i → cx (fs.map some) a b = false) ⟨_, _, _, rfl, e, fun a b _ h => absurd h (Nat.not_lt_zero _)⟩ (fun i σ' H' ⟨_, _, _, _, e, _⟩ => st_of (e _ _ hp)) (fun i x T σ' H' hx ⟨s3, s4, s5, hs, e, hno⟩ hT => ?_) (fun σ' H' ⟨s3, s4, s5, hs, e, hno⟩ => ?_)
    · subst hs
      obtain ⟨g, hg, hgx⟩ := paired_idx prF hx
      have hi : i < fs.length := (List.getElem?_eq_some_iff.mp hg).1
      have e1 : Evl.Ex H (upd H' T (.tup [.int (i : Int), x])) := e.trans (Ex.new hT)
      have hT1 : (upd H' T (.tup [.int (i : Int), x])) T = some (.tup [.int (i : Int), x]) := upd_same
      generalize upd H' T (.tup [.int (i : Int), x]) = H1 at e1 hT1
      refine ⟨T, _, rfl, st_of hT1, rfl, _, _, rfl, _, _, rfl, rfl, ?_⟩
      have hevp_len : ∀ {σ' : L2.St} {H' : Hp}, σ'[2]? = some (some (.ref p)) → Evl.Ex H H' → EvP (tCB (rLenQ K) (tCons (tVar 2) tNil)) σ' H' (Is (.int (fs.length : Int))) := fun h e => evp_lenTP (K := K) (vf h e)
      refine s_forR2 (lo := ((i + 1 : Nat) : Int)) (n := (fs.length : Int)) (fun H2 e2 Q q => eap_two (P := Is (.int ((i + 1 : Nat) : Int))) (evp_is (evp_I0 (g := fun i j => .int (i + j)) (evp_var (v := .int (i : Int)) (i := 3) rfl rfl mono_is) (evp_c (v := .int 1))) (by rw [show ((i + 1 : Nat) : Int) = (i : Int) + 1 by omega])) (hevp_len rfl e1) mono_is H2 e2 _ fun vs H3 e3 ⟨a, b, hv, ha, hb⟩ => by rw [hv, show a = _ from ha, show b = _ from hb]; exact q H3 e3) (by omega)
        (fun j σ' H' => ∃ s3, σ' = [some (.int (l : Int)), some (.int (r : Int)), some (.ref p), some (.int (i : Int)), some x, s3] ∧ Evl.Ex H H' ∧ ∀ b, i < b → b < i + 1 + j → cx (fs.map some) i b = false) (fun H2 e2 => ⟨_, rfl, e1.trans e2, fun b h1 h2 => by omega⟩) (fun j σ' H' hj ⟨s3, hs, e2, hin⟩ => ?_) (fun σ' H' ⟨s3, hs, e2, hin⟩ => ⟨_, _, _, hs, e2, fun a b h1 h2 => ?_⟩)
      · subst hs
        obtain ⟨g2, hg2⟩ : ∃ g2, fs[i + 1 + j]? = some g2 := ⟨_, List.getElem?_eq_getElem (by omega)⟩
        have m1 : ElOk l r (some g) := hok _ (List.mem_map.mpr ⟨g, List.mem_of_getElem? hg, rfl⟩)
        have m2 : ElOk l r (some g2) := hok _ (List.mem_map.mpr ⟨g2, List.mem_of_getElem? hg2, rfl⟩)
        have hc := hcx i (i + 1 + j) g g2 hg hg2
        have hij : ((i + 1 + j : Nat) : Int) = ((i + 1 : Nat) : Int) + (j : Int) := by omega
        refine s_when (σ := [some (.int (l : Int)), some (.int (r : Int)), some (.ref p), some (.int (i : Int)), some x, some (.int (((i + 1 : Nat) : Int) + (j : Int)))]) (b := crW g.w g2.w) (et_bl (evp_call (E := E0) (sp := spCross) (eap_two (P := Wv g.w) (R := Wv g2.w) (evp_f0 (K := K) (evp_var (i := 4) rfl (fv_mono _ _ _ _ e2 hgx) (fv_mono g))) (evp_f0 (K := K) (evp_atT (K := K) (n := i + 1 + j) mf_fv (vf rfl e2) (evp_is (evp_var (i := 5) (v := .int (((i + 1 : Nat) : Int) + (j : Int))) rfl rfl mono_is) (by rw [hij])) hg2)) (wv_mono _)) (fun vs H2 ⟨a, b, hv, ha, hb⟩ Q q E => ⟨a, b, l, r, g.w, g2.w, hv, ha, hb, m1.1, m2.1, q⟩))) (fun hb H2 e3 => ?_) fun hb H2 e3 => ⟨_, rfl, e2.trans e3, fun b h1 h2 => ?_⟩
        · refine ⟨.int (i : Int), rfl, .int (((i + 1 : Nat) : Int) + (j : Int)), rfl, sz_of (show 2 ≤ 100000 by decide), fun t ht => ⟨sz_of (show 2 ≤ 100000 by decide), fun u hu => q _ _ (((e2.trans e3).trans (Ex.new ht)).trans (Ex.new hu)) (.inr ⟨.pair i (i + 1 + j), ⟨by rw [List.length_map]; exact hlen2, hall, by omega, by rw [hc, hb], fun a b h1 h2 => ?_⟩, u, .ref t, rfl, upd_same, t, rfl, ?_⟩)⟩⟩
          · by_cases hai : a < i
            · rw [hno a b h1 hai] at h2; cases h2
            · by_cases hai2 : i < a
              · exact .inl hai2
              · have : i = a := by omega
                subst this
                refine .inr ⟨rfl, ?_⟩
                refine Nat.le_of_not_lt fun hlt => ?_
                rw [hin b h1 hlt] at h2; cases h2
          · rw [upd_ne (fun z => by rw [← z, upd_same] at hu; cases hu), hij]; exact upd_same
        · by_cases h3 : b < i + 1 + j
          · exact hin b h1 h3
          · have : b = i + 1 + j := by omega
            rw [this, hc, hb]
      · by_cases hai : a < i
        · exact hno a b h1 hai
        · have : a = i := by omega
          subst this
          cases hh : cx (fs.map some) a b with
          | false => rfl
          | true =>
            have h4 := (cx_lt hh).2
            rw [List.length_map] at h4
            rw [hin b h1 (by omega)] at hh
            cases hh
    · subst hs
      have hno2 : ∀ a b, a < b → cx (fs.map some) a b = false := fun a b h1 => by
        cases hh : cx (fs.map some) a b with
        | false => rfl
        | true =>
          have h4 := (cx_lt hh).1
          rw [List.length_map] at h4
          rw [hno a b h1 (by omega)] at hh
          cases hh
      exact ⟨.ref p, rfl, p, ys, rfl, .inr (st_of (e _ _ hp)), fun u hu => q _ _ (e.trans (Ex.new hu)) (.inl ⟨⟨by rw [List.length_map]; exact hlen2, hall, hno2⟩, fs, rfl, u, ys, rfl, upd_same, Paired.impl (fun _ _ h => fv_mono _ _ _ _ (e.trans (Ex.new hu)) h) prF⟩)⟩
theorem ok_dueO {f f1 f2 : Addr} {fd fd1 fd2 : FuncData} (D__law_is_fact : Df K mg "_law_is_fact" s_law_is_fact ["_law_left", "_law_right", "_law_value"] f1 fd1) (G__law_is_fact : FnOk P w K mg base CX0 (k + 7) f1 fd1 ["_law_left", "_law_right", "_law_value"] spLIsF)
    (D__law_cross : Df K mg "_law_cross" s_law_cross ["_law_one", "_law_other"] f2 fd2) (G__law_cross : FnOk P w K mg base CX0 (k + 1) f2 fd2 ["_law_one", "_law_other"] spCross) (T : Txt mg tk)
    (D : Df K mg "_law_due" s_law_due ["_law_left", "_law_right", "_law_facts"] f fd) : FnOk P w K mg base CX0 (k + 8) f fd ["_law_left", "_law_right", "_law_facts"] (sp_dueO K) := by
  refine D.F.ok sc_law_due (fun vs H Q E h => ?_) (fun cdv A outer s0 H vs Q E hr h => ?_)
  · obtain ⟨v, x, y, rfl, _⟩ := h
    rfl
  · obtain ⟨v, x, y, rfl, hv, q⟩ := h
    have nd := sc_law_due.nd
    refine ⟨_, (pss_cons (ps_if (PW.pt (pw_or (pt_not (pt_val (pe_callB (r := rIsiT K) call_isiT (by rfl) T.n_isinstance PyProof.Rows.boot_isinstance (pa_cons (pv 2) (pa_cons (pe_tup (pa_cons (pe_bltn (v := .ty "list") (by rfl) T.n_list PyProof.Rows.boot_list rfl) (pa_cons (pe_bltn (v := .ty "tuple") (by rfl) T.n_tuple PyProof.Rows.boot_tuple rfl) pa_nil))) pa_nil))))) (pw_or1 (pt_cmpR op_gt (pe_callB (r := rLenQ K) call_len_seq (by rfl) T.n_len PySem.boot_len (pa_cons (pv 2) pa_nil)) pe_int (nomark _))))) (pss_one (ps_ret (pe_lst (pa_cons pe_str (pa_cons pe_non pa_nil))))) pss_nil) (pss_cons (ps_for PassesOwn.never rfl (pi_enum (by rfl) T.n_enumerate (pa_cons (pv 2) pa_nil)) (pg_tup rfl (pgs_cons (pg_name (i := 3) nd rfl (Or.inl rfl)) (pgs_cons (pg_name (i := 4) nd rfl (Or.inl rfl)) pgs_nil))) (pss_one (ps_if (pt_not (pt_val (pe_call G__law_is_fact (hr.mono (by omega)) (by rfl) D__law_is_fact.g D__law_is_fact.F.kp D__law_is_fact.b .nil pass0 (pa_cons (pv 0) (pa_cons (pv 1) (pa_cons (pv 4) pa_nil)))))) (pss_one (ps_ret (pe_lst (pa_cons pe_str (pa_cons (pv 3) pa_nil))))) pss_nil))) (pss_cons (ps_for PassesOwn.never rfl (pi_enum (by rfl) T.n_enumerate (pa_cons (pv 2) pa_nil)) (pg_tup rfl (pgs_cons (pg_name (i := 3) nd rfl (Or.inl rfl)) (pgs_cons (pg_name (i := 4) nd rfl (Or.inl rfl)) pgs_nil))) (pss_one (ps_for PassesOwn.never rfl (pi_range2 (by rfl) T.n_range (pa_cons (pe_op op_add (pv 3) pe_int) (pa_cons (pe_callB (r := rLenQ K) call_len_seq (by rfl) T.n_len PySem.boot_len (pa_cons (pv 2) pa_nil)) pa_nil))) (pg_name (i := 5) nd rfl (Or.inl rfl)) (pss_one (ps_if (pt_val (pe_call G__law_cross (hr.mono (by omega)) (by rfl) D__law_cross.g D__law_cross.F.kp D__law_cross.b .nil pass0 (pa_cons (pe_ix (r := rIxT K) ix_tup (pv 4) pe_int (fun _ _ => rfl)) (pa_cons (pe_ix (r := rIxT K) ix_tup (pe_ix (r := rIxL K) ix_list (pv 2) (pv 5) (fun _ _ => rfl)) pe_int (fun _ _ => rfl)) pa_nil)))) (pss_one (ps_ret (pe_lst (pa_cons pe_str (pa_cons (pe_tup (pa_cons (pv 3) (pa_cons (pv 5) pa_nil))) pa_nil))))) pss_nil))))) (pss_one (ps_ret (pe_callTy (r := rLstQ K) call_list_of (by rfl) T.n_list PyProof.Rows.boot_list (pa_cons (pv 2) pa_nil))))))), ?_⟩
    exact q_when (b := true) (et_is (et_or (a := true) (b := true) (et_is (et_not (et_bl (evp_isT (K := K) (b := false) (evp_var (i := 2) rfl hv mono_kb)))) rfl) fun z => nomatch z) rfl) (fun hb H1 e1 => ⟨sz_of (show 2 ≤ 100000 by decide), fun u hu => q _ _ (e1.trans (Ex.new hu)) ⟨u, rfl, upd_same⟩⟩) fun z => nomatch z
end
end K20
namespace K20
open PySem PySem.Spec PyProof.Rows L2 Evl RZ Ev2 TA5
open Ow
abbrev s_law_values : Stmt := topS 51
abbrev N_law_values : List Str := ["_law_state", "_law_size", "_law_found", "_law_one"]
theorem sc_law_values : FnScope N_law_values ["_law_state", "_law_size"] (defScope s_law_values) := ⟨rfl, rfl, rfl, by decide +kernel, rfl, by decide +kernel, by decide +kernel⟩
abbrev s_law_fact : Stmt := topS 52
abbrev N_law_fact : List Str := ["_law_state", "_law_left", "_law_right", "_law_high", "_law_wheres", "_law_word", "_law_low"]
theorem sc_law_fact : FnScope N_law_fact ["_law_state", "_law_left", "_law_right"] (defScope s_law_fact) := ⟨rfl, rfl, rfl, by decide +kernel, rfl, by decide +kernel, by decide +kernel⟩

/-! ### ascending, below n -/
def As (is : List Int) (n : Nat) : Prop := is.length ≤ n ∧ is.Pairwise (· < ·) ∧ ∀ x ∈ is, 0 ≤ x ∧ x < (n : Int)
theorem as_nil : As [] 0 := ⟨Nat.le_refl _, .nil, fun x h => nomatch h⟩
theorem as_more {is : List Int} {n : Nat} (h : As is n) : As is (n + 1) := ⟨by have := h.1; omega, h.2.1, fun x hx => by have := h.2.2 x hx; omega⟩
theorem as_snoc {is : List Int} {n : Nat} (h : As is n) : As (is ++ [(n : Int)]) (n + 1) := ⟨by rw [List.length_append, List.length_singleton]; have := h.1; omega, List.pairwise_append.mpr ⟨h.2.1, List.pairwise_singleton _ _, fun a ha b hb => by rw [List.mem_singleton.mp hb]; exact (h.2.2 a ha).2⟩, fun x hx => by
  rcases List.mem_append.mp hx with hx | hx
  · have := h.2.2 x hx; omega
  · rw [List.mem_singleton.mp hx]; omega⟩
section
variable {K : PySem.W.Frag} {σ : L2.St} {H : Hp} {ta tb te : TE} {tt : TT} {ta' : TA} {s p : Addr} {xs : List Int} {tz : TS} {D : Ends}
theorem evd_lcA {tn : TA} {vs : List Nat} {n j : Nat} (hw : ∀ H1, EvAP tn σ H1 (fun vs _ => vs = [.int (n : Int)])) (hn : n ≤ 40000) (hz : ∀ x, wipe ((wipe σ vs).set j (some x)) vs = wipe σ vs) (hj : ∀ x : V, ((wipe σ vs).set j (some x))[j]? = some (some x))
    (ht : ∀ (i : Nat), i < n → ∀ H1, Dr s p xs H1 → ∀ Q : Bool → Hp → Prop, (∀ b H2, Gs s H1 H2 → Dr s p xs H2 → Q b H2) → tt ((wipe σ vs).set j (some (.int (i : Int)))) H1 Q) :
    EvD s p xs (tLc (iRng1 tn) (gName j) tt (tVar j) vs) σ H (fun v H1 => ∃ (q : Addr) (is : List Int), v = .ref q ∧ H1 q = some (.lst (is.map V.int)) ∧ As is n) := fun H1 e d Q q => hw H1 H1 (Ex.refl _) _ fun vs' H2 e2 hv => by
  subst hv
  refine ⟨(n : Int), rfl, by omega, by omega, fun D hD => ?_⟩
  have d2 := d.ex e2
  have hDs : D ≠ s := fun z => by obtain ⟨k, hk⟩ := d2.at_; rw [z, hk] at hD; cases hD
  have hDp : D ≠ p := fun z => by have := d2.pool; rw [← z, hD] at this; cases this
  refine ⟨fun i k H3 => k = n - i ∧ i ≤ n ∧ Gs s H2 H3 ∧ Dr s p xs H3 ∧ ∃ is : List Int, H3 D = some (.lst (is.map V.int)) ∧ As is i, ⟨n, by simp, Nat.zero_le _, Gs.of (Ex.new hD), d2.ex (Ex.new hD), [], upd_same, as_nil⟩, ?_⟩
  rintro i k H3 ⟨rfl, hi, ex, d3, is, hys, hl⟩
  by_cases hlt : i < n
  · refine .inr ⟨by show i < (n : Int).toNat; simpa using hlt, fun H4 => Gs s H2 H4 ∧ Dr s p xs H4 ∧ ∃ is : List Int, H4 D = some (.lst (is.map V.int)) ∧ As is (i + 1), fun H4 ⟨a, b, c⟩ => ⟨n - (i + 1), by omega, rfl, by omega, a, b, c⟩, fun x H4 y => ?_⟩
    obtain ⟨rfl, rfl⟩ := y
    refine ⟨hz _, ?_⟩
    rw [Int.zero_add]
    refine ht i hlt H4 d3 _ fun b H5 g5 d5 => ?_
    have hys5 := g5 _ _ hDs hys
    cases b with
    | true =>
      rw [if_pos rfl]
      refine ⟨_, hj _, _, hys5, sz_lt (by rw [List.length_map]; have := hl.1; omega), ?_, ?_, is ++ [(i : Int)], by rw [upd_same, List.map_append]; rfl, as_snoc hl⟩
      · intro a o ha h
        have hna : a ≠ D := fun q => by rw [q, hD] at h; cases h
        rw [upd_ne hna]
        exact g5 _ _ ha (ex _ _ ha h)
      · refine ⟨d5.ne, ?_, ?_⟩
        · obtain ⟨k, hk⟩ := d5.at_
          exact ⟨k, by rw [upd_ne hDs.symm]; exact hk⟩
        · rw [upd_ne hDp.symm]; exact d5.pool
    | false =>
      rw [if_neg (by decide)]
      exact ⟨ex.trans g5, d5, is, hys5, as_more hl⟩
  · have hinn : i = n := by omega
    subst hinn
    exact .inl ⟨by show (i : Int).toNat ≤ i; simp, q _ H3 ((Gs.of e2).trans ex) d3 ⟨D, is, rfl, hys, hl⟩⟩
theorem evd_tupA {n : Nat} (h : EvD s p xs te σ H (fun v H1 => ∃ (q : Addr) (is : List Int), v = .ref q ∧ H1 q = some (.lst (is.map V.int)) ∧ As is n)) :
    EvD s p xs (tCB (rTupQ K) (tCons te tNil)) σ H (fun v H1 => ∃ is : List Int, Ts (is.map V.int) v H1 ∧ As is n) := fun H1 e d Q q =>
  h H1 e d _ fun v H2 e2 d2 ⟨a, is, hv, hp, hl⟩ => by
    subst hv
    exact ⟨a, _, rfl, .inl ⟨sq_of hp, fun l hl' => q _ _ (e2.trans (Gs.of (Ex.new hl'))) (d2.ex (Ex.new hl')) ⟨is, ⟨l, rfl, upd_same⟩, hl⟩⟩⟩
theorem gs_updO {H H' : Hp} {w : Addr} {o : HO} (h0 : H w = none) (g : Gs s H H') : Gs s H (upd H' w o) := fun a o hna hh => by
  rw [upd_ne (fun z => by rw [z, h0] at hh; cases hh)]
  exact g _ _ hna hh
theorem dr_updO {w : Addr} {o : HO} (d : Dr s p xs H) (hs : w ≠ s) (hp : w ≠ p) : Dr s p xs (upd H w o) := ⟨d.ne, by
    obtain ⟨k, hk⟩ := d.at_
    exact ⟨k, by rw [upd_ne hs.symm]; exact hk⟩, by rw [upd_ne hp.symm]; exact d.pool⟩
theorem dr_new {w : Addr} (d : Dr s p xs H) (h : H w = none) : w ≠ s ∧ w ≠ p := ⟨(fun z => by obtain ⟨k, hk⟩ := d.at_; rw [z, hk] at h; cases h), (fun z => by have := d.pool; rw [← z, h] at this; cases this)⟩
theorem hi_at {lo : Int} {E : XK} (hs : σ[0]? = some (some (.ref s))) (hl : σ[6]? = some (some (.int lo))) (d : Dr s p xs H) {Q : VK} (q : ∀ hi H2, Gs s H H2 → Dr s p xs H2 → Q (OI hi) H2) :
    tIf (tTest (tOp rEq (tCall spDraw [] E (tCons (tVar 0) (tCons (tC (.int 3)) tNil))) (tC (.int 0)))) (tC .non) (tOp (rI0 fun i j => .int (i + j)) (tVar 6) (tCall spDraw [] E (tCons (tVar 0) (tCons (tC (.int 3)) tNil)))) σ H Q := by
  refine draw_i (i := 0) (p := p) (xs := xs) (m := 3) hs evp_c (by decide) d fun r H2 g2 d2 _ _ => ⟨rfl, _, rfl, ?_⟩
  cases hb : decide (V.int r = .int 0) with
  | true => rw [if_pos rfl]; exact q none H2 g2 d2
  | false =>
    rw [if_neg (by decide)]
    exact ⟨_, hl, draw_i (i := 0) (p := p) (xs := xs) (m := 3) hs evp_c (by decide) d2 fun r' H3 g3 d3 _ _ => ⟨lo, r', rfl, rfl, q (some (lo + r')) H3 (g2.trans g3) d3⟩⟩
end
section
variable {P : Program} {w : World} {K : PySem.W.Frag} {mg : Str → Option Value} {base : Heap} {tk : Tok} {k : Nat}
def spVal : Sp := fun vs H Q _ => ∃ (s p : Addr) (xs : List Int) (n : Nat), vs = [.ref s, .int (n : Int)] ∧ Dr s p xs H ∧ (1 ≤ n ∧ n ≤ 8) ∧ ∀ v H2 is, Gs s H H2 → Dr s p xs H2 → VsOk n is → Ts (is.map V.int) v H2 → Q v H2
theorem ok_lvalues {fa f1 : Addr} {fd fd1 : FuncData} (D__law_draw : Df K mg "_law_draw" s_law_draw ["_law_state", "_law_many"] f1 fd1) (G__law_draw : FnOk P w K mg base CX0 (k + 1) f1 fd1 ["_law_state", "_law_many"] spDraw) (T : Txt mg tk)
    (D : Df K mg "_law_values" s_law_values ["_law_state", "_law_size"] fa fd) : FnOk P w K mg base CX0 (k + 2) fa fd ["_law_state", "_law_size"] spVal := by
  refine D.F.ok sc_law_values (fun vs H Q E h => ?_) (fun cdv A outer s0 H vs Q E hr h => ?_)
  · obtain ⟨s, p, xs, n, rfl, _⟩ := h
    rfl
  · obtain ⟨s, p, xs, n, rfl, d, hn, q⟩ := h
    have nd := sc_law_values.nd
    refine ⟨_, (pss_cons (ps_set (i := 2) nd rfl (Or.inl rfl) (pe_callTy (r := rTupQ K) call_tuple_of (by rfl) T.n_tuple PyProof.Rows.boot_tuple (pa_cons (pe_lc (wi := iRng1 _) (g := gName 3) (own := [("_law_one", 3)]) (by rfl) nd (pi_range1 (by rfl) T.n_range (pa_cons (pv 1) pa_nil)) (blkOk_by (by kernel_rfl)) (fun _ _ _ _ _ => (pg_name (i := 3) nd rfl (Or.inl rfl))) (fun _ _ _ _ _ => (pts_one (pt_cmpR op_eq (pe_call G__law_draw (hr.mono (by omega)) (by rfl) D__law_draw.g D__law_draw.F.kp D__law_draw.b .nil pass0 (pa_cons (pv 0) (pa_cons pe_int pa_nil))) pe_int (nomark _)))) (fun _ _ _ _ _ => (pv 3))) pa_nil))) (pss_one (ps_ret (pe_ifExp (pt_cmpR (r := rNeD K) (op_neD hr.units) (pv 2) (pe_tup pa_nil) (nomark _)) (pv 2) (pe_tup (pa_cons pe_int pa_nil)))))), ?_⟩
    refine q_asgD (evd_tupA (K := K) (n := n) (evd_lcA (p := p) (xs := xs) (j := 3) (vs := [3]) (fun H1 => EvAP.one1 (eap_one (evp_var (σ := [some (.ref s), some (.int (n : Int)), none, none]) (i := 1) (v := .int (n : Int)) rfl rfl mono_is))) (by omega) (fun _ => rfl) (fun _ => rfl) (fun j hj H4 d4 Q' q' => ?_)) H (Gs.refl _ _) d _ fun v2 H4 g4 d4 ⟨is, ⟨t, ht, ht'⟩, has⟩ => ?_)
    · refine evd_draw (p := p) (xs := xs) (m := 2) rfl (fun H1 => evp_c) (by decide) H4 (Gs.refl _ _) d4 _ fun y H5 g5 d5 ⟨i, hy, _⟩ => ?_
      subst hy
      exact ⟨rfl, _, rfl, q' _ H5 g5 d5⟩
    subst ht
    have w2 : ∀ {H' : Hp}, Evl.Ex H4 H' → EvP (tVar 2) [some (.ref s), some (.int (n : Int)), some (.ref t), none] H' (Ts (is.map V.int)) := fun e => evp_var rfl ⟨t, rfl, e _ _ ht'⟩ mono_ts
    have he : PyData.eqv (.tuple (is.map PyData.int)) (.tuple []) = decide (is = []) := by cases is <;> rfl
    have hsh : SeqAt.shaped (.tuple (is.map PyData.int)) = true := ints_sh is
    have fin : ∀ (v : V) (H5 : Hp) (js : List Int), Evl.Ex H4 H5 → VsOk n js → Ts (js.map V.int) v H5 → Q v H5 := fun v H5 js e hv ht => q v H5 js (g4.trans (Gs.of e)) (d4.ex e) hv ht
    have r4 := Ex.refl H4
    refine (evp_if (b := !decide (is = [])) (P := fun v H5 => ∃ js : List Int, VsOk n js ∧ Ts (js.map V.int) v H5) (et_tst (evp_is (evp_neD (K := K) (w2 r4) (evp_ofU (xs := []) (eu_tup ea_nil (by decide))) mono_ts (fun _ _ ⟨p, hv, hp⟩ => by rw [hv]; exact .tup (st_of hp) (ints_dp _)) (fun _ _ ⟨p, hv, hp⟩ => by rw [hv]; exact .tup (st_of hp) .nil) hsh rfl) (by rw [he]))) (fun hb => ?_) (fun hb => ?_)) H4 r4 _ fun v H5 e5 ⟨js, h1, h2⟩ => fin v H5 js e5 h1 h2
    · exact (w2 r4).imp fun v H5 e5 h => ⟨is, ⟨has.2.1, by simpa using hb, has.2.2, by have := has.1; omega⟩, h⟩
    · exact (evp_ofU (xs := [.int 0]) (eu_tup (ea_cons ev_c ea_nil) (by decide))).imp fun v H5 e5 h => ⟨[0], ⟨by simp, by simp, fun x hx => by rw [List.mem_singleton.mp hx]; omega, by decide⟩, h⟩
theorem word_at6 {n : Nat} (h : n < 6) : ∃ w : Str, ([V.str "all", .str "left", .str "right", .str "cell", .str "left", .str "right"])[n]? = some (.str w) ∧ (w = "all" ∨ w = "left" ∨ w = "right" ∨ w = "cell") := by
  match n, h with
  | 0, _ => exact ⟨_, rfl, .inl rfl⟩
  | 1, _ => exact ⟨_, rfl, .inr (.inl rfl)⟩
  | 2, _ => exact ⟨_, rfl, .inr (.inr (.inl rfl))⟩
  | 3, _ => exact ⟨_, rfl, .inr (.inr (.inr rfl))⟩
  | 4, _ => exact ⟨_, rfl, .inr (.inl rfl)⟩
  | 5, _ => exact ⟨_, rfl, .inr (.inr (.inl rfl))⟩
def spFct : Sp := fun vs H Q _ => ∃ (s p : Addr) (xs : List Int) (l r : Nat), vs = [.ref s, .int (l : Int), .int (r : Int)] ∧ Dr s p xs H ∧ (1 ≤ l ∧ l ≤ 8) ∧ (1 ≤ r ∧ r ≤ 8) ∧ ∀ v H2 f, Gs s H H2 → Dr s p xs H2 → Fv f v H2 → ElOk l r (some f) → Q v H2
theorem ok_lfact {fa f1 f2 : Addr} {fd fd1 fd2 : FuncData} (D__law_draw : Df K mg "_law_draw" s_law_draw ["_law_state", "_law_many"] f1 fd1) (G__law_draw : FnOk P w K mg base CX0 (k + 1) f1 fd1 ["_law_state", "_law_many"] spDraw)
    (D__law_values : Df K mg "_law_values" s_law_values ["_law_state", "_law_size"] f2 fd2) (G__law_values : FnOk P w K mg base CX0 (k + 2) f2 fd2 ["_law_state", "_law_size"] spVal) (T : Txt mg tk)
    (D : Df K mg "_law_fact" s_law_fact ["_law_state", "_law_left", "_law_right"] fa fd) : FnOk P w K mg base CX0 (k + 3) fa fd ["_law_state", "_law_left", "_law_right"] spFct := by
  refine D.F.ok sc_law_fact (fun vs H Q E h => ?_) (fun cdv A outer s0 H vs Q E hr h => ?_)
  · obtain ⟨s, p, xs, l, r, rfl, _⟩ := h
    rfl
  · obtain ⟨s, p, xs, l, r, rfl, d, hl, hr', q⟩ := h
    have nd := sc_law_fact.nd
    refine ⟨_, (pss_cons (ps_par (i := 5) (j := 6) rfl nd rfl rfl (by decide) rfl rfl (pa_cons (pe_ix (r := rIxL K) ix_list (pe_lst (pa_cons pe_str (pa_cons pe_str (pa_cons pe_str (pa_cons pe_str (pa_cons pe_str (pa_cons pe_str pa_nil))))))) (pe_call G__law_draw (hr.mono (by omega)) (by rfl) D__law_draw.g D__law_draw.F.kp D__law_draw.b .nil pass0 (pa_cons (pv 0) (pa_cons pe_int pa_nil))) (fun _ _ => rfl)) (pa_cons (pe_call G__law_draw (hr.mono (by omega)) (by rfl) D__law_draw.g D__law_draw.F.kp D__law_draw.b .nil pass0 (pa_cons (pv 0) (pa_cons pe_int pa_nil))) pa_nil)) rfl) (pss_cons (ps_set (i := 3) nd rfl (Or.inl rfl) (pe_ifExp (pt_cmpR op_eq (pe_call G__law_draw (hr.mono (by omega)) (by rfl) D__law_draw.g D__law_draw.F.kp D__law_draw.b .nil pass0 (pa_cons (pv 0) (pa_cons pe_int pa_nil))) pe_int (nomark _)) pe_non (pe_op op_add (pv 6) (pe_call G__law_draw (hr.mono (by omega)) (by rfl) D__law_draw.g D__law_draw.F.kp D__law_draw.b .nil pass0 (pa_cons (pv 0) (pa_cons pe_int pa_nil)))))) (pss_cons (ps_set (i := 4) nd rfl (Or.inl rfl) (pe_disp (pps_cons pe_str (pe_tup (pa_cons pe_str pa_nil)) (pps_cons pe_str (pe_tup (pa_cons pe_str (pa_cons (pe_call G__law_draw (hr.mono (by omega)) (by rfl) D__law_draw.g D__law_draw.F.kp D__law_draw.b .nil pass0 (pa_cons (pv 0) (pa_cons (pv 1) pa_nil))) (pa_cons (pe_call G__law_draw (hr.mono (by omega)) (by rfl) D__law_draw.g D__law_draw.F.kp D__law_draw.b .nil pass0 (pa_cons (pv 0) (pa_cons (pv 2) pa_nil))) pa_nil)))) pps_nil)) rfl rfl (by simp) (by decide))) (pss_cons (ps_asg (pe_tup (pa_cons (pe_tup (pa_cons pe_str (pa_cons (pe_call G__law_values (hr.mono (by omega)) (by rfl) D__law_values.g D__law_values.F.kp D__law_values.b .nil pass0 (pa_cons (pv 0) (pa_cons (pv 1) pa_nil))) pa_nil))) (pa_cons (pe_tup (pa_cons pe_str (pa_cons (pe_call G__law_values (hr.mono (by omega)) (by rfl) D__law_values.g D__law_values.F.kp D__law_values.b .nil pass0 (pa_cons (pv 0) (pa_cons (pv 2) pa_nil))) pa_nil))) pa_nil))) (pg_tup rfl (pgs_cons (pg_sub (pv 4) pe_str (set_dict (u1 hr))) (pgs_cons (pg_sub (pv 4) pe_str (set_dict (u1 hr))) pgs_nil)))) (pss_one (ps_ret (pe_tup (pa_cons (pe_dget (u1 hr) (pv 4) (pv 5) (fun _ _ => rfl)) (pa_cons (pv 6) (pa_cons (pv 3) pa_nil)))))))))), ?_⟩
    refine q_parD (opD (el_lst (ea_cons ev_c (ea_cons ev_c (ea_cons ev_c (ea_cons ev_c (ea_cons ev_c (ea_cons ev_c ea_nil)))))) (show 6 ≤ 100000 by decide) H (Ex.refl _) _ fun pl H1 hpl e1 h1 => ?_))
    have hps := (dr_new d hpl).1
    refine draw_i (i := 0) (p := p) (xs := xs) (m := 6) rfl evp_c (by decide) (d.ex e1) fun i H2 g2 d2 hi0 hi6 => ?_
    obtain ⟨n, rfl⟩ : ∃ n : Nat, i = n := ⟨i.toNat, by omega⟩
    obtain ⟨wd, hw', hwd⟩ := word_at6 (n := n) (by omega)
    refine ⟨pl, _, _, _, rfl, rfl, sq_of (g2 _ _ hps h1), atI_nat hw', ?_⟩
    refine draw_i (i := 0) (p := p) (xs := xs) (m := 6) rfl evp_c (by decide) d2 fun lo H3 g3 d3 hlo _ => ⟨_, _, rfl, ?_⟩
    have G3 : Gs s H H3 := ((Gs.of e1).trans g2).trans g3
    clear hps h1 hpl e1 g2 g3 d2
    refine q_asgD (hi_at (p := p) (xs := xs) (lo := lo) rfl rfl d3 fun hi H4 g4 d4 => ?_)
    have G4 := G3.trans g4
    clear g4 G3 d3
    -- the dict
    refine q_asgD fun w0 hw0 => ?_
    have hw00 : H w0 = none := gs_none d4 G4 hw0
    obtain ⟨hws, hwp⟩ := dr_new d4 hw0
    have d5 := d4.ex (Ex.new (o := .dK []) hw0)
    have G5 : Gs s H (upd H4 w0 (.dK [])) := G4.trans (Gs.of (Ex.new hw0))
    have k5 : (upd H4 w0 (.dK [])) w0 = some (.dK []) := upd_same
    generalize upd H4 w0 (.dK []) = H5 at d5 G5 k5
    clear d4 G4 hw0
    refine ⟨sz_of (show 1 ≤ 100000 by decide), fun a ha => ?_⟩
    obtain ⟨has, hap⟩ := dr_new d5 ha
    have d6 := d5.ex (Ex.new (o := .tup [.str "all"]) ha)
    have G6 : Gs s H (upd H5 a (.tup [.str "all"])) := G5.trans (Gs.of (Ex.new ha))
    have a6 : (upd H5 a (.tup [.str "all"])) a = some (.tup [.str "all"]) := upd_same
    have k6 : (upd H5 a (.tup [.str "all"])) w0 = some (.dK []) := Ex.new ha _ _ k5
    generalize upd H5 a (.tup [.str "all"]) = H6 at d6 G6 a6 k6
    clear d5 G5 k5 ha
    refine draw_i (i := 0) (p := p) (xs := xs) (m := (l : Int)) rfl (evp_var rfl rfl mono_is) (by omega) d6 fun u H7 g7 d7 hu0 hul => draw_i (i := 0) (p := p) (xs := xs) (m := (r : Int)) rfl (evp_var rfl rfl mono_is) (by omega) d7 fun z H8 g8 d8 hz0 hzr => ?_
    have g68 := g7.trans g8
    have G8 := G6.trans g68
    have a8 := g68 _ _ has a6
    have k8 := g68 _ _ hws k6
    clear g7 g8 g68 d7 d6 G6 a6 k6
    refine ⟨sz_of (show 3 ≤ 100000 by decide), fun c hc => ?_⟩
    obtain ⟨hcs, hcp⟩ := dr_new d8 hc
    have d9 := d8.ex (Ex.new (o := .tup [.str "cell", .int u, .int z]) hc)
    have G9 : Gs s H (upd H8 c (.tup [.str "cell", .int u, .int z])) := G8.trans (Gs.of (Ex.new hc))
    have a9 : (upd H8 c (.tup [.str "cell", .int u, .int z])) a = some (.tup [.str "all"]) := Ex.new hc _ _ a8
    have c9 : (upd H8 c (.tup [.str "cell", .int u, .int z])) c = some (.tup [.str "cell", .int u, .int z]) := upd_same
    have k9 : (upd H8 c (.tup [.str "cell", .int u, .int z])) w0 = some (.dK []) := Ex.new hc _ _ k8
    generalize upd H8 c (.tup [.str "cell", .int u, .int z]) = H9 at d9 G9 a9 c9 k9
    clear d8 G8 a8 k8 hc
    have haw : a ≠ w0 := fun z => by rw [z, k9] at a9; cases a9
    have hcw : c ≠ w0 := fun z => by rw [z, k9] at c9; cases c9
    refine ⟨k9, [(.inr "all", .ref a), (.inr "cell", .ref c)], rfl, by show 2 ≤ 15; decide, ?_⟩
    have hm : mergeK [] [((.inr "all" : Key), V.ref a), (.inr "cell", .ref c)] = [(.inr "all", .ref a), (.inr "cell", .ref c)] := by rfl
    rw [hm]
    have d10 := dr_updO (o := .dK [(.inr "all", .ref a), (.inr "cell", .ref c)]) d9 hws hwp
    have G10 := gs_updO (o := .dK [(.inr "all", .ref a), (.inr "cell", .ref c)]) hw00 G9
    have a10 : (upd H9 w0 (.dK [(.inr "all", .ref a), (.inr "cell", .ref c)])) a = some (.tup [.str "all"]) := by rw [upd_ne haw]; exact a9
    have c10 : (upd H9 w0 (.dK [(.inr "all", .ref a), (.inr "cell", .ref c)])) c = some (.tup [.str "cell", .int u, .int z]) := by rw [upd_ne hcw]; exact c9
    have k10 : (upd H9 w0 (.dK [(.inr "all", .ref a), (.inr "cell", .ref c)])) w0 = some (.dK [(.inr "all", .ref a), (.inr "cell", .ref c)]) := upd_same
    generalize upd H9 w0 (.dK [(.inr "all", .ref a), (.inr "cell", .ref c)]) = H10 at d10 G10 a10 c10 k10
    clear d9 G9 a9 c9 k9 hm
    simp only [List.set_cons_zero, List.set_cons_succ]
    -- both sets
    refine q_asgG (show tCall spVal [] E0 _ _ H10 _ from ⟨.ref s, rfl, .int (l : Int), rfl, s, p, xs, l, rfl, d10, hl, fun v1 H11 is g11 d11 his ht1 => ?_⟩)
    have a11 := g11 _ _ has a10
    have c11 := g11 _ _ hcs c10
    have k11 := g11 _ _ hws k10
    have G11 := G10.trans g11
    clear g11 d10 G10 a10 c10 k10
    obtain ⟨t1, rfl, t1h⟩ := ht1
    refine ⟨sz_of (show 2 ≤ 100000 by decide), fun b1 hb1 => ?_⟩
    obtain ⟨hb1s, _⟩ := dr_new d11 hb1
    have e12 : Evl.Ex H11 (upd H11 b1 (.tup [.str "left", .ref t1])) := Ex.new hb1
    have b12 : (upd H11 b1 (.tup [.str "left", .ref t1])) b1 = some (.tup [.str "left", .ref t1]) := upd_same
    generalize upd H11 b1 (.tup [.str "left", .ref t1]) = H12 at e12 b12
    have d12 := d11.ex e12
    have ht1s : t1 ≠ s := tup_state d11 t1h
    refine (show tCall spVal [] E0 _ _ H12 _ from ⟨.ref s, rfl, .int (r : Int), rfl, s, p, xs, r, rfl, d12, hr', fun v2 H13 js g13 d13 hjs ht2 => ?_⟩)
    have a13 := g13 _ _ has (e12 _ _ a11)
    have c13 := g13 _ _ hcs (e12 _ _ c11)
    have k13 := g13 _ _ hws (e12 _ _ k11)
    have b13 := g13 _ _ hb1s b12
    have t13 := g13 _ _ ht1s (e12 _ _ t1h)
    have G13 := (G11.trans (Gs.of e12)).trans g13
    clear g13 d12 d11 a11 c11 k11 b12 t1h G11 e12 hb1
    obtain ⟨t2, rfl, t2h⟩ := ht2
    refine ⟨sz_of (show 2 ≤ 100000 by decide), fun b2 hb2 => ⟨sz_of (show 2 ≤ 100000 by decide), fun T0 hT0 => ?_⟩⟩
    have e14 : Evl.Ex H13 (upd (upd H13 b2 (.tup [.str "right", .ref t2])) T0 (.tup [.ref b1, .ref b2])) := (Ex.new hb2).trans (Ex.new hT0)
    have bb : (upd (upd H13 b2 (.tup [.str "right", .ref t2])) T0 (.tup [.ref b1, .ref b2])) b2 = some (.tup [.str "right", .ref t2]) := Ex.new hT0 _ _ upd_same
    have tt : (upd (upd H13 b2 (.tup [.str "right", .ref t2])) T0 (.tup [.ref b1, .ref b2])) T0 = some (.tup [.ref b1, .ref b2]) := upd_same
    generalize upd (upd H13 b2 (.tup [.str "right", .ref t2])) T0 (.tup [.ref b1, .ref b2]) = H14 at e14 bb tt
    have a14 := e14 _ _ a13
    have c14 := e14 _ _ c13
    have k14 := e14 _ _ k13
    have b14 := e14 _ _ b13
    have t14 := e14 _ _ t13
    have t24 := e14 _ _ t2h
    have d14 := d13.ex e14
    have G14 := G13.trans (Gs.of e14)
    clear a13 c13 k13 b13 t13 d13 G13 t2h e14 hb2 hT0
    refine ⟨T0, _, rfl, st_of tt, rfl, _, _, rfl, ?_⟩
    refine ⟨.ref w0, rfl, w0, _, rfl, DPut.k (k := .inr "left") k14 (sz_lt (show 2 < 100000 by decide)), ?_⟩
    have hp1 : putK [((.inr "all" : Key), V.ref a), (.inr "cell", .ref c)] (.inr "left") (.ref b1) = [(.inr "all", .ref a), (.inr "cell", .ref c), (.inr "left", .ref b1)] := by rfl
    rw [hp1]
    refine ⟨_, _, rfl, .ref w0, rfl, w0, _, rfl, DPut.k (k := .inr "right") upd_same (sz_lt (show 3 < 100000 by decide)), ?_⟩
    have hp2 : putK [((.inr "all" : Key), V.ref a), (.inr "cell", .ref c), (.inr "left", .ref b1)] (.inr "right") (.ref b2) = [(.inr "all", .ref a), (.inr "cell", .ref c), (.inr "left", .ref b1), (.inr "right", .ref b2)] := by rfl
    rw [hp2]
    have hw2 : ∀ {x : Addr} {ys : List V} {o o' : HO}, H14 x = some (.tup ys) → (upd (upd H14 w0 o) w0 o') x = some (.tup ys) := fun {x ys o o'} h => by
      have : x ≠ w0 := fun z => by rw [z, k14] at h; cases h
      rw [upd_ne this, upd_ne this]; exact h
    have d15 := dr_updO (o := .dK [((.inr "all" : Key), V.ref a), (.inr "cell", .ref c), (.inr "left", .ref b1), (.inr "right", .ref b2)]) (dr_updO (o := .dK [((.inr "all" : Key), V.ref a), (.inr "cell", .ref c), (.inr "left", .ref b1)]) d14 hws hwp) hws hwp
    have G15 := gs_updO (o := .dK [((.inr "all" : Key), V.ref a), (.inr "cell", .ref c), (.inr "left", .ref b1), (.inr "right", .ref b2)]) hw00 (gs_updO (o := .dK [((.inr "all" : Key), V.ref a), (.inr "cell", .ref c), (.inr "left", .ref b1)]) hw00 G14)
    have k15 : (upd (upd H14 w0 (.dK [((.inr "all" : Key), V.ref a), (.inr "cell", .ref c), (.inr "left", .ref b1)])) w0 (.dK [((.inr "all" : Key), V.ref a), (.inr "cell", .ref c), (.inr "left", .ref b1), (.inr "right", .ref b2)])) w0 = some (.dK [((.inr "all" : Key), V.ref a), (.inr "cell", .ref c), (.inr "left", .ref b1), (.inr "right", .ref b2)]) := upd_same
    have a15 := hw2 (o := .dK [((.inr "all" : Key), V.ref a), (.inr "cell", .ref c), (.inr "left", .ref b1)]) (o' := .dK [((.inr "all" : Key), V.ref a), (.inr "cell", .ref c), (.inr "left", .ref b1), (.inr "right", .ref b2)]) a14
    have c15 := hw2 (o := .dK [((.inr "all" : Key), V.ref a), (.inr "cell", .ref c), (.inr "left", .ref b1)]) (o' := .dK [((.inr "all" : Key), V.ref a), (.inr "cell", .ref c), (.inr "left", .ref b1), (.inr "right", .ref b2)]) c14
    have b15 := hw2 (o := .dK [((.inr "all" : Key), V.ref a), (.inr "cell", .ref c), (.inr "left", .ref b1)]) (o' := .dK [((.inr "all" : Key), V.ref a), (.inr "cell", .ref c), (.inr "left", .ref b1), (.inr "right", .ref b2)]) b14
    have bb15 := hw2 (o := .dK [((.inr "all" : Key), V.ref a), (.inr "cell", .ref c), (.inr "left", .ref b1)]) (o' := .dK [((.inr "all" : Key), V.ref a), (.inr "cell", .ref c), (.inr "left", .ref b1), (.inr "right", .ref b2)]) bb
    have t15 := hw2 (o := .dK [((.inr "all" : Key), V.ref a), (.inr "cell", .ref c), (.inr "left", .ref b1)]) (o' := .dK [((.inr "all" : Key), V.ref a), (.inr "cell", .ref c), (.inr "left", .ref b1), (.inr "right", .ref b2)]) t14
    have tt15 := hw2 (o := .dK [((.inr "all" : Key), V.ref a), (.inr "cell", .ref c), (.inr "left", .ref b1)]) (o' := .dK [((.inr "all" : Key), V.ref a), (.inr "cell", .ref c), (.inr "left", .ref b1), (.inr "right", .ref b2)]) t24
    generalize upd (upd H14 w0 (.dK [((.inr "all" : Key), V.ref a), (.inr "cell", .ref c), (.inr "left", .ref b1)])) w0 (.dK [((.inr "all" : Key), V.ref a), (.inr "cell", .ref c), (.inr "left", .ref b1), (.inr "right", .ref b2)]) = H15 at d15 G15 k15 a15 c15 b15 bb15 t15 tt15
    clear a14 c14 b14 bb t14 t24 d14 G14 k14 hw2 hp1 hp2 tt
    refine ⟨rfl, ?_⟩
    rcases hwd with rfl | rfl | rfl | rfl
    · exact ⟨.ref w0, rfl, .str _, rfl, w0, .ref a, rfl, DGet.k (k := .inr "all") k15, .int lo, rfl, OI hi, rfl, sz_of (show 3 ≤ 100000 by decide), fun t ht => q (.ref t) _ ⟨.all, lo, hi⟩ (G15.trans (Gs.of (Ex.new ht))) (d15.ex (Ex.new ht)) ⟨.ref a, ⟨t, rfl, upd_same⟩, wv_mono _ _ _ _ (Ex.new ht) (show Wv .all (.ref a) H15 from ⟨a, rfl, a15⟩)⟩ ⟨trivial, hlo⟩⟩
    · exact ⟨.ref w0, rfl, .str _, rfl, w0, .ref b1, rfl, DGet.k (k := .inr "left") k15, .int lo, rfl, OI hi, rfl, sz_of (show 3 ≤ 100000 by decide), fun t ht => q (.ref t) _ ⟨.left is, lo, hi⟩ (G15.trans (Gs.of (Ex.new ht))) (d15.ex (Ex.new ht)) ⟨.ref b1, ⟨t, rfl, upd_same⟩, wv_mono _ _ _ _ (Ex.new ht) (show Wv (.left is) (.ref b1) H15 from ⟨t1, ⟨b1, rfl, b15⟩, t15⟩)⟩ ⟨his, hlo⟩⟩
    · exact ⟨.ref w0, rfl, .str _, rfl, w0, .ref b2, rfl, DGet.k (k := .inr "right") k15, .int lo, rfl, OI hi, rfl, sz_of (show 3 ≤ 100000 by decide), fun t ht => q (.ref t) _ ⟨.right js, lo, hi⟩ (G15.trans (Gs.of (Ex.new ht))) (d15.ex (Ex.new ht)) ⟨.ref b2, ⟨t, rfl, upd_same⟩, wv_mono _ _ _ _ (Ex.new ht) (show Wv (.right js) (.ref b2) H15 from ⟨t2, ⟨b2, rfl, bb15⟩, tt15⟩)⟩ ⟨hjs, hlo⟩⟩
    · exact ⟨.ref w0, rfl, .str _, rfl, w0, .ref c, rfl, DGet.k (k := .inr "cell") k15, .int lo, rfl, OI hi, rfl, sz_of (show 3 ≤ 100000 by decide), fun t ht => q (.ref t) _ ⟨.cell u z, lo, hi⟩ (G15.trans (Gs.of (Ex.new ht))) (d15.ex (Ex.new ht)) ⟨.ref c, ⟨t, rfl, upd_same⟩, wv_mono _ _ _ _ (Ex.new ht) (show Wv (.cell u z) (.ref c) H15 from ⟨c, rfl, c15⟩)⟩ ⟨⟨⟨hu0, hul⟩, hz0, hzr⟩, hlo⟩⟩
end
end K20
namespace K20
open PySem PySem.Spec PyProof.Rows L2 Evl RZ Ev2 TA5
open Ow
abbrev s_law_bent : Stmt := topS 53
abbrev N_law_bent : List Str := ["_law_state", "_law_fact_here", "_law_odd", "_law_thing", "_law_at", "_law_way"]
theorem sc_law_bent : FnScope N_law_bent ["_law_state", "_law_fact_here"] (defScope s_law_bent) := ⟨rfl, rfl, rfl, by decide +kernel, rfl, by decide +kernel, by decide +kernel⟩

section
variable {K : PySem.W.Frag} {σ : L2.St} {H : Hp} {ta tb te : TE} {ta' : TA} {s p : Addr} {xs : List Int}
/-- values that all are so -/
def EvAll (P : HP) (ta : TA) (σ : L2.St) (H : Hp) (n : Nat) : Prop := EvAP ta σ H (fun vs H1 => vs.length = n ∧ ∀ v ∈ vs, P v H1)
theorem al_nil {P : HP} : EvAll P tNil σ H 0 := fun H1 e Q q => q [] H1 (Ex.refl _) ⟨rfl, fun v h => nomatch h⟩
theorem al_cons {P : HP} {n : Nat} (m : Mono P) (h : EvP te σ H P) (h2 : EvAll P ta' σ H n) : EvAll P (tCons te ta') σ H (n + 1) := fun H1 e Q q =>
  h H1 e _ fun v H2 e2 hv => h2 H2 (e.trans e2) _ fun vs H3 e3 ⟨hl, hvs⟩ => q (v :: vs) H3 (e2.trans e3) ⟨by rw [List.length_cons, hl], fun z hz => by
    rcases List.mem_cons.mp hz with rfl | hz
    · exact m _ _ _ e3 hv
    · exact hvs z hz⟩

end
/-! ### the odd things -/
structure OkT (d : PyData) : Prop where
  sm : ∀ ds, d = .tuple ds → SmallV ds
  lay : d.canLay0 = true
  dp : d.depth ≤ 12
def TkD (d : PyData) : Prop := OkT d ∧ (d = .tuple [.str "all"] ∨ ∀ l r : Int, l ≤ 8 → r ≤ 8 → formD l r d = false)
def Tk : HP := fun v H => ∃ d, Tg H v d ∧ TkD d
theorem mono_tk : Mono Tk := fun _ _ _ e ⟨d, h, k⟩ => ⟨d, h.mono (Kx.of e), k⟩
theorem okT_no {d : PyData} (h : isTup d = false) (h1 : d.canLay0 = true) (h2 : d.depth ≤ 12) : OkT d := ⟨(fun ds e => by rw [e] at h; cases h), h1, h2⟩
theorem okT_tup {ds : List PyData} (h : ds.all SmallD = true) (h1 : (PyData.tuple ds).canLay0 = true) (h2 : (PyData.tuple ds).depth ≤ 12) : OkT (.tuple ds) := ⟨(fun ds' e => by cases e; exact fun d hd => List.all_eq_true.mp h d hd), h1, h2⟩
theorem tkD_no {d : PyData} (h : isTup d = false) (h1 : d.canLay0 = true) (h2 : d.depth ≤ 12) : TkD d := ⟨okT_no h h1 h2, .inr fun l r _ _ => by cases d <;> first | rfl | cases h⟩
theorem okT_int {i : Int} : OkT (.int i) := okT_no rfl rfl (by show 0 ≤ 12; decide)
theorem okT_wh {l r : Int} {w : Wh} (h : WhOk l r w) : OkT (.tuple (wD w)) := ⟨(fun ds e => by cases e; exact (wh_okV h).small), (wh_okV h).lay, by show PyData.depthAll (wD w) + 1 ≤ 12; have := (wh_okV h).depth; omega⟩
theorem okE_of {ds : List PyData} (h : ∀ d ∈ ds, OkT d) : OkE (.tuple ds) := ⟨(fun ds' rest e => by cases e; exact (h _ (List.mem_cons_self ..)).sm _ rfl), lay_all fun d hd => (h d hd).lay, by show PyData.depthAll ds + 1 ≤ 13; have := depth_all fun d hd => (h d hd).dp; omega⟩
theorem odd_len {H : Hp} {p : Addr} {xs : List V} {ds : List PyData} (hp : H p = some (.tup xs)) (pr : Paired (Tg H) xs ds) (h : ∀ d ∈ ds, OkT d) (hl : ds.length ≠ 3) : OdE (.ref p) H := ⟨_, .tup hp pr, okE_of h, fun _ _ _ _ => factD_len hl⟩
theorem el_of {l r : Nat} (hl : l ≤ 8) (hr : r ≤ 8) {H : Hp} {p : Addr} {a b c : V} {dw lo hi : PyData} (hp : H p = some (.tup [a, b, c])) (h1 : Tg H a dw) (h2 : Tg H b lo) (h3 : Tg H c hi) (k1 : OkT dw) (k2 : OkT lo) (k3 : OkT hi)
    (hw : (∃ w, Wv w a H ∧ WhOk l r w) ∨ ∀ l r : Int, l ≤ 8 → r ≤ 8 → formD l r dw = false) : ∃ e, Fe e (.ref p) H ∧ ElOk l r e := by
  have pr : Paired (Tg H) [a, b, c] [dw, lo, hi] := .cons h1 (.cons h2 (.cons h3 .nil))
  have ok : OkE (.tuple [dw, lo, hi]) := okE_of fun d hd => by
    rcases List.mem_cons.mp hd with rfl | hd
    · exact k1
    rcases List.mem_cons.mp hd with rfl | hd
    · exact k2
    · rw [List.mem_singleton.mp hd]; exact k3
  have bad : (∀ l r : Int, l ≤ 8 → r ≤ 8 → (formD l r dw && isC lo && hiD lo hi) = false) → ∃ e, Fe e (.ref p) H ∧ ElOk l r e := fun h => ⟨none, ⟨_, .tup hp pr, ok, h⟩, ⟨by omega, by omega⟩⟩
  rcases hw with ⟨w, hw, hW⟩ | hw
  · cases hC : isC lo with
    | false => exact bad fun _ _ _ _ => by rw [hC, Bool.and_false, Bool.false_and]
    | true =>
      obtain ⟨i, rfl⟩ : ∃ i, lo = .int i := by cases lo <;> first | exact ⟨_, rfl⟩ | cases hC
      obtain ⟨_, rfl, e⟩ := tg_int h2 rfl
      cases e
      have h0 : 0 ≤ i := of_decide_eq_true hC
      have other : hiD (.int i) hi = false → ∃ e, Fe e (.ref p) H ∧ ElOk l r e := fun h => bad fun _ _ _ _ => by rw [h, Bool.and_false]
      cases hi with
      | none =>
        have := (tg_non h3).mpr rfl
        subst this
        exact ⟨some ⟨w, i, none⟩, ⟨a, ⟨p, rfl, hp⟩, hw⟩, hW, h0⟩
      | int h =>
        obtain ⟨_, rfl, e⟩ := tg_int h3 rfl
        cases e
        exact ⟨some ⟨w, i, some h⟩, ⟨a, ⟨p, rfl, hp⟩, hw⟩, hW, h0⟩
      | _ => exact other rfl
  · exact bad fun l r h1 h2 => by rw [hw l r h1 h2]; rfl
section
variable {K : PySem.W.Frag} {σ : L2.St} {H : Hp} {ta tb te : TE} {ta' : TA} {s p : Addr} {xs : List Int}
theorem tk_c {v : V} {d : PyData} (h : fl v d) (k : TkD d) : EvP (tC v) σ H Tk := evp_c.imp fun x H1 _ e => ⟨d, by rw [show x = v from e]; exact .flat h, k⟩
theorem tk_neg {i : Int} : EvP (tUn (rU fun i => .int (-i)) (tC (.int i))) σ H Tk := (evp_un (P := Is (.int i)) (S := Is (.int (-i))) evp_c fun x H1 _ hx Q q => ⟨i, hx, q _ H1 (Ex.refl _) rfl⟩).imp fun x H1 _ e => ⟨.int (-i), by rw [show x = _ from e]; exact .flat rfl, tkD_no rfl rfl (by show 0 ≤ 12; decide)⟩
theorem its_of {H : Hp} : ∀ {xs : List V} {ds : List PyData}, Paired fl xs ds → Paired (It H) xs ds
  | _, _, .nil => .nil
  | _, _, .cons h t => .cons (.flat h) (its_of t)
theorem tk_tup {vs : List V} {ds : List PyData} (h : EvA ta' σ H vs) (hl : vs.length ≤ 100000) (p : Paired fl vs ds) (k : TkD (.tuple ds)) : EvP (tTup ta') σ H Tk := (evp_ofU (eu_tup h hl)).imp fun x H1 _ ⟨a, e, ha⟩ => ⟨_, .va ⟨a, vs, e, ha, its_of p⟩, k⟩
theorem tk_lst {vs : List V} {ds : List PyData} (h : EvA ta' σ H vs) (hl : vs.length ≤ 100000) (p : Paired fl vs ds) (k : TkD (.list ds)) : EvP (tLst ta') σ H Tk := (evp_ofL (el_lst h hl)).imp fun x H1 _ ⟨a, e, ha⟩ => ⟨_, by rw [e]; exact .lst ha p, k⟩
theorem tk_left0 : EvP (tTup (tCons (tC (.str "left")) (tCons (tTup tNil) tNil))) σ H Tk := fun H1 e Q q =>
  ⟨by show 0 ≤ sizeLine; decide, fun t ht => ⟨sz_of (show 2 ≤ 100000 by decide), fun u hu => q _ _ ((Ex.new ht).trans (Ex.new hu)) ⟨.tuple [.str "left", .tuple []], .va ⟨u, _, rfl, upd_same, .cons (.flat rfl) (.cons (.tup (xs := []) (Ex.new hu _ _ upd_same) .nil) .nil)⟩, okT_tup rfl (by decide +kernel) (by decide), .inr fun _ _ _ _ => rfl⟩⟩⟩
theorem tk_all {n : Nat} (h : EvAll Tk ta' σ H n) (hn : n ≤ 100000) : EvP (tLst ta') σ H (fun v H1 => ∃ p ys, v = .ref p ∧ H1 p = some (.lst ys) ∧ ys.length = n ∧ ∀ y ∈ ys, Tk y H1) := fun H1 e Q q =>
  h H1 e _ fun vs H2 e2 ⟨hl, hvs⟩ => ⟨sz_of (by rw [hl]; exact hn), fun p hp => q _ _ (e2.trans (Ex.new hp)) ⟨p, vs, rfl, upd_same, hl, fun y hy => mono_tk _ _ _ (Ex.new hp) (hvs y hy)⟩⟩
end
section
variable {P : Program} {w : World} {K : PySem.W.Frag} {mg : Str → Option Value} {base : Heap} {tk : Tok} {k : Nat}
def spBnt : Sp := fun vs H Q _ => ∃ (s p : Addr) (xs : List Int) (l r : Nat) (x : V) (f : FR), vs = [.ref s, x] ∧ Dr s p xs H ∧ l ≤ 8 ∧ r ≤ 8 ∧ Fv f x H ∧ ElOk l r (some f) ∧ ∀ v H2 e, Gs s H H2 → Dr s p xs H2 → Fe e v H2 → ElOk l r e → Q v H2
theorem ok_lbent {fa f1 : Addr} {fd fd1 : FuncData} (D__law_draw : Df K mg "_law_draw" s_law_draw ["_law_state", "_law_many"] f1 fd1) (G__law_draw : FnOk P w K mg base CX0 (k + 1) f1 fd1 ["_law_state", "_law_many"] spDraw) (T : Txt mg tk)
    (D : Df K mg "_law_bent" s_law_bent ["_law_state", "_law_fact_here"] fa fd) : FnOk P w K mg base CX0 (k + 2) fa fd ["_law_state", "_law_fact_here"] spBnt := by
  refine D.F.ok sc_law_bent (fun vs H Q E h => ?_) (fun cdv A outer s0 H vs Q E hr h => ?_)
  · obtain ⟨s, p, xs, l, r, x, f, rfl, _⟩ := h
    rfl
  · obtain ⟨s, p, xs, l, r, x, f, rfl, d, hl8, hr8, hx, ⟨hW, h0⟩, q⟩ := h
    have nd := sc_law_bent.nd
    refine ⟨_, (pss_cons (ps_set (i := 2) nd rfl (Or.inl rfl) (pe_lst (pa_cons pe_non (pa_cons pe_bl (pa_cons (pe_un un_neg pe_int) (pa_cons pe_int (pa_cons pe_str (pa_cons (pe_tup (pa_cons pe_str pa_nil)) (pa_cons (pe_tup pa_nil) (pa_cons (pe_tup (pa_cons pe_str (pa_cons pe_int pa_nil))) (pa_cons (pe_tup (pa_cons pe_str (pa_cons (pe_tup pa_nil) pa_nil))) (pa_cons pe_int (pa_cons (pe_lst (pa_cons pe_int pa_nil)) (pa_cons (pe_tup (pa_cons pe_str (pa_cons pe_int (pa_cons pe_int pa_nil)))) pa_nil)))))))))))))) (pss_cons (ps_par3 (i := 3) (j := 4) (l := 5) rfl nd rfl rfl rfl (by decide) (by decide) (by decide) rfl rfl rfl (pa_cons (pe_ix (r := rIxL K) ix_list (pv 2) (pe_call G__law_draw (hr.mono (by omega)) (by rfl) D__law_draw.g D__law_draw.F.kp D__law_draw.b .nil pass0 (pa_cons (pv 0) (pa_cons pe_int pa_nil))) (fun _ _ => rfl)) (pa_cons (pe_call G__law_draw (hr.mono (by omega)) (by rfl) D__law_draw.g D__law_draw.F.kp D__law_draw.b .nil pass0 (pa_cons (pv 0) (pa_cons pe_int pa_nil))) (pa_cons (pe_call G__law_draw (hr.mono (by omega)) (by rfl) D__law_draw.g D__law_draw.F.kp D__law_draw.b .nil pass0 (pa_cons (pv 0) (pa_cons pe_int pa_nil))) pa_nil))) rfl) (pss_cons (ps_if (pt_cmpR op_eq (pv 5) pe_int (nomark _)) (pss_one (ps_ret (pe_op (r := rCatA K) op_catA (pe_slice (r := rSlA K) sl_tupA (pv 1) po_none (po_some (pv 4))) (pe_slice (r := rSlA K) sl_tupA (pv 1) (po_some (pe_op op_add (pv 4) pe_int)) po_none)))) pss_nil) (pss_cons (ps_if (pt_cmpR op_eq (pv 5) pe_int (nomark _)) (pss_one (ps_ret (pe_op (r := rCatA K) op_catA (pv 1) (pe_tup (pa_cons (pv 3) pa_nil))))) pss_nil) (pss_one (ps_ret (pe_ifExp (pt_cmpR op_eq (pv 5) pe_int (nomark _)) (pe_tup (pa_cons (pe_ix (r := rIxT K) ix_tup (pv 1) pe_int (fun _ _ => rfl)) (pa_cons (pe_ix (r := rIxT K) ix_tup (pv 1) pe_int (fun _ _ => rfl)) (pa_cons (pe_ix (r := rIxT K) ix_tup (pv 1) pe_int (fun _ _ => rfl)) pa_nil)))) (pe_op (r := rCatA K) op_catA (pe_op (r := rCatA K) op_catA (pe_slice (r := rSlA K) sl_tupA (pv 1) po_none (po_some (pv 4))) (pe_tup (pa_cons (pv 3) pa_nil))) (pe_slice (r := rSlA K) sl_tupA (pv 1) (po_some (pe_op op_add (pv 4) pe_int)) po_none))))))))), ?_⟩
    refine q_asgP (tk_all (n := 12) (al_cons mono_tk (tk_c (d := .none) rfl (tkD_no rfl rfl (by decide))) (al_cons mono_tk (tk_c (d := .bool true) rfl (tkD_no rfl rfl (by decide))) (al_cons mono_tk tk_neg (al_cons mono_tk (tk_c (d := .int 0) rfl (tkD_no rfl rfl (by decide))) (al_cons mono_tk (tk_c (d := .str "all") rfl (tkD_no rfl (by decide +kernel) (by decide)))
      (al_cons mono_tk (tk_tup (ds := [.str "all"]) (ea_cons ev_c ea_nil) (show 1 ≤ 100000 by decide) (.cons rfl .nil) ⟨okT_tup rfl (by decide +kernel) (by decide), .inl rfl⟩) (al_cons mono_tk (tk_tup (ds := []) ea_nil (by decide) .nil ⟨okT_tup rfl rfl (by decide), .inr fun _ _ _ _ => rfl⟩)
      (al_cons mono_tk (tk_tup (ds := [.str "cell", .int 0]) (ea_cons ev_c (ea_cons ev_c ea_nil)) (show 2 ≤ 100000 by decide) (.cons rfl (.cons rfl .nil)) ⟨okT_tup rfl (by decide +kernel) (by decide), .inr fun _ _ _ _ => rfl⟩) (al_cons mono_tk tk_left0 (al_cons mono_tk (tk_c (d := .int 3) rfl (tkD_no rfl rfl (by decide)))
      (al_cons mono_tk (tk_lst (ds := [.int 0]) (ea_cons ev_c ea_nil) (show 1 ≤ 100000 by decide) (.cons rfl .nil) (tkD_no rfl rfl (by decide))) (al_cons mono_tk (tk_tup (ds := [.str "cell", .int 9, .int 0]) (ea_cons ev_c (ea_cons ev_c (ea_cons ev_c ea_nil))) (show 3 ≤ 100000 by decide) (.cons rfl (.cons rfl (.cons rfl .nil))) ⟨okT_tup rfl (by decide +kernel) (by decide), .inr fun l r hl _ => ?_⟩) al_nil)))))))))))) (by decide)) fun v1 H1 e1 ⟨pl, ys, hv1, hpl, hyl, hys⟩ => ?_
    · show (decide (("cell" : Str) = "cell") && (decide ((2 : Nat) + 1 = 3) && ((decide ((0 : Int) ≤ 9) && decide ((9 : Int) < l)) && isB r (.int 0)))) = false
      rw [decide_eq_false (show ¬ (9 : Int) < l by omega)]; simp
    subst hv1
    have d1 := d.ex e1
    have hps : pl ≠ s := fun z => by obtain ⟨k, hk⟩ := d1.at_; rw [z, hk] at hpl; cases hpl; cases hyl
    have hx1 : Fv f x H1 := fv_mono _ _ _ _ e1 hx
    refine q_par3 (opD ⟨_, rfl, draw_at (p := p) (xs := xs) (m := 12) rfl evp_c (by decide) d1 fun y2 H2 g2 d2 ⟨i2, hy2, hi0, hi14⟩ => ?_⟩)
    obtain ⟨n, rfl⟩ : ∃ n : Nat, i2 = n := ⟨i2.toNat, by omega⟩
    have hn : n < ys.length := by omega
    have hx2 := mf_fv _ _ _ _ (Gs.fx g2 d1) hx1
    refine ⟨pl, ys, _, _, rfl, hy2, sq_of (g2 _ _ hps hpl), atI_nat (List.getElem?_eq_getElem hn), ?_⟩
    obtain ⟨dt, hdt, okt⟩ := hys _ (List.getElem_mem hn)
    have hdt2 := hdt.mono (Kx.gs g2 d1)
    refine draw_at (p := p) (xs := xs) (m := 3) rfl evp_c (by decide) d2 fun y3 H3 g3 d3 ⟨i3, hy3, hi30, hi3l⟩ => ?_
    obtain ⟨m, rfl⟩ : ∃ m : Nat, i3 = m := ⟨i3.toNat, by omega⟩
    refine draw_at (p := p) (xs := xs) (m := 6) rfl evp_c (by decide) d3 fun y4 H4 g4 d4 ⟨i4, hy4, _⟩ => ?_
    subst hy3
    subst hy4
    refine ⟨_, _, _, rfl, ?_⟩
    have hx5 := mf_fv _ _ _ _ (Gs.fx g4 d3) (mf_fv _ _ _ _ (Gs.fx g3 d2) hx2)
    have hdt5 := (hdt2.mono (Kx.gs g3 d2)).mono (Kx.gs g4 d3)
    have hG : Gs s H H4 := ((Gs.of e1).trans g2).trans (g3.trans g4)
    generalize ys[n] = t at hdt5
    obtain ⟨w', ⟨b, rfl, hb⟩, hw'⟩ := hx5
    have hg1 : Tg H4 w' (.tuple (wD f.w)) := .va (wv_va hw')
    have hg2 : Tg H4 (.int f.lo) (.int f.lo) := .flat rfl
    have hg3 : Tg H4 (OI f.hi) (oD f.hi) := .flat (by cases f.hi <;> rfl)
    have ok1 : OkT (.tuple (wD f.w)) := okT_wh hW
    have ok3 : OkT (oD f.hi) := by cases f.hi <;> exact okT_no rfl rfl (by show 0 ≤ 12; decide)
    have okt1 := okt.1
    have hm3 : m = 0 ∨ m = 1 ∨ m = 2 := by omega
    have fin : ∀ (v : V) (H6 : Hp) (e : Option FR), Evl.Ex H4 H6 → Fe e v H6 → ElOk l r e → Q v H6 := fun v H6 e e6 h1 h2 => q v H6 e (hG.trans (Gs.of e6)) (d4.ex e6) h1 h2
    have el3 : ∀ {H6 : Hp} {v a' b' c' : V} {da db dc : PyData}, Evl.Ex H4 H6 → Ts [a', b', c'] v H6 → Tg H4 a' da → Tg H4 b' db → Tg H4 c' dc → OkT da → OkT db → OkT dc → ((∃ w, Wv w a' H4 ∧ WhOk l r w) ∨ ∀ l r : Int, l ≤ 8 → r ≤ 8 → formD l r da = false) → ∃ e, Fe e v H6 ∧ ElOk l r e := fun e6 ⟨u, hv, hu⟩ t1 t2 t3 k1 k2 k3 hw => by
      rw [hv]
      exact el_of hl8 hr8 hu (t1.mono (Kx.of e6)) (t2.mono (Kx.of e6)) (t3.mono (Kx.of e6)) k1 k2 k3 (hw.imp (fun ⟨w, h1, h2⟩ => ⟨w, wv_mono _ _ _ _ e6 h1, h2⟩) id)
    have oddN : ∀ {H6 : Hp} {v : V} {us : List V} {es : List PyData}, Evl.Ex H4 H6 → Ts us v H6 → Paired (Tg H4) us es → (∀ d ∈ es, OkT d) → es.length ≠ 3 → ∃ e, Fe e v H6 ∧ ElOk l r e := fun e6 ⟨u, hv, hu⟩ pr h1 h2 => by
      rw [hv]
      exact ⟨none, odd_len hu (tgs_mono (Kx.of e6) pr) h1 h2, by omega, by omega⟩
    have hwh : (∃ w, Wv w w' H4 ∧ WhOk l r w) ∨ ∀ l r : Int, l ≤ 8 → r ≤ 8 → formD l r (.tuple (wD f.w)) = false := .inl ⟨f.w, hw', hW⟩
    have hth : (∃ w, Wv w t H4 ∧ WhOk l r w) ∨ ∀ l r : Int, l ≤ 8 → r ≤ 8 → formD l r dt = false := by
      rcases okt.2 with h | h
      · subst h
        refine .inl ⟨.all, ?_, trivial⟩
        cases hdt5 with
        | flat h => cases t <;> first | exact h.elim | cases h
        | va h =>
          obtain ⟨u, us, e, hu, pr⟩ := h
          cases pr with
          | cons h1 h2 =>
            cases h2
            rw [it_str h1] at hu
            exact ⟨u, e, hu⟩
      · exact .inr h
    clear hx1 hx2 hdt hdt2 g2 g3 g4 d1 d2 d3
    have hm1 : ∀ {H' : Hp}, EvP (tOp (rI0 fun i j => .int (i + j)) (tVar 4) (tC (.int 1))) [some (.ref s), some (.ref b), some (.ref pl), some t, some (.int (m : Int)), some (.int i4)] H' (Is (.int ((m + 1 : Nat) : Int))) := evp_I0 (g := fun i j => .int (i + j)) (evp_var (v := .int (m : Int)) rfl rfl mono_is) evp_c
    have hm0 : ∀ {H' : Hp}, EvP (tVar 4) [some (.ref s), some (.ref b), some (.ref pl), some t, some (.int (m : Int)), some (.int i4)] H' (Is (.int (m : Int))) := evp_var rfl rfl mono_is
    have v1 : ∀ {H' : Hp}, Evl.Ex H4 H' → EvP (tVar 1) [some (.ref s), some (.ref b), some (.ref pl), some t, some (.int (m : Int)), some (.int i4)] H' (Ts [w', .int f.lo, OI f.hi]) := fun e => evp_var rfl ⟨b, rfl, e _ _ hb⟩ mono_ts
    have oneT : ∀ {H' : Hp}, EvP (tTup (tCons (tVar 3) tNil)) [some (.ref s), some (.ref b), some (.ref pl), some t, some (.int (m : Int)), some (.int i4)] H' (Ts [t]) := evp_ofU (eu_tup (ea_cons (ev_var rfl) ea_nil) (show 1 ≤ 100000 by decide))
    have okAll : ∀ d ∈ [PyData.tuple (wD f.w), .int f.lo, oD f.hi], OkT d := fun d hd => by
      rcases List.mem_cons.mp hd with rfl | hd
      · exact ok1
      rcases List.mem_cons.mp hd with rfl | hd
      · exact okT_int
      · rw [List.mem_singleton.mp hd]; exact ok3
    have prA : Paired (Tg H4) [w', .int f.lo, OI f.hi] [.tuple (wD f.w), .int f.lo, oD f.hi] := .cons hg1 (.cons hg2 (.cons hg3 .nil))
    refine s_when (σ := [some (.ref s), some (.ref b), some (.ref pl), some t, some (.int (m : Int)), some (.int i4)]) (H := H4) (b := decide (V.int i4 = .int 0)) (et_bl (evp_eq (evp_var rfl rfl mono_is) evp_c rfl)) (fun hb0 H6 e6 => ?_) (fun hb0 H6 e6 => ?_)
    · refine evp_cat (K := K) (evp_to (K := K) (n := m) rfl (e6 _ _ hb) hm0) (evp_from (K := K) (n := m + 1) rfl (e6 _ _ hb) hm1) (by simp; omega) H6 (Ex.refl _) _ fun v H7 e7 hv => ?_
      obtain ⟨e, k1, k2⟩ := oddN (e6.trans e7) hv (Paired.app (Paired.take m prA) (Paired.drop (m + 1) prA)) (fun d hd => (List.mem_append.mp hd).elim (fun h => okAll d (List.mem_of_mem_take h)) (fun h => okAll d (List.mem_of_mem_drop h))) (by rcases hm3 with rfl | rfl | rfl <;> (show ¬ (2 : Nat) = 3; decide))
      exact fin v H7 e (e6.trans e7) k1 k2
    refine s_when (σ := [some (.ref s), some (.ref b), some (.ref pl), some t, some (.int (m : Int)), some (.int i4)]) (H := H6) (b := decide (V.int i4 = .int 1)) (et_bl (evp_eq (evp_var rfl rfl mono_is) evp_c rfl)) (fun hb1 H7 e7 => ?_) (fun hb1 H7 e7 => ?_)
    · have ex := e6.trans e7
      refine evp_cat (K := K) (v1 ex) oneT (by simp) H7 (Ex.refl _) _ fun v H8 e8 hv => ?_
      obtain ⟨e, k1, k2⟩ := oddN (es := [PyData.tuple (wD f.w), .int f.lo, oD f.hi] ++ [dt]) (ex.trans e8) hv (Paired.app prA (.cons hdt5 .nil)) (fun d hd => (List.mem_append.mp hd).elim (okAll d) (fun h => by rw [List.mem_singleton.mp h]; exact okt1)) (by show ¬ (4 : Nat) = 3; decide)
      exact fin v H8 e (ex.trans e8) k1 k2
    have ex := e6.trans e7
    refine evp_if (b := decide (V.int i4 = .int 2)) (P := fun v H8 => ∃ e, Fe e v H8 ∧ ElOk l r e) (et_bl (evp_eq (evp_var rfl rfl mono_is) evp_c rfl)) (fun hc => ?_) (fun hc => ?_) H7 (Ex.refl _) _ fun v H8 e8 ⟨e, k1, k2⟩ => fin v H8 e (ex.trans e8) k1 k2
    · refine EvP.imp (P := Ts [w', OI f.hi, .int f.lo]) (fun H8 e8 Q q => eap_three (evp_ixTs (K := K) (n := 0) (v1 (ex.trans e8)) rfl) (evp_ixTs (K := K) (n := 2) (v1 (ex.trans e8)) rfl) (evp_ixTs (K := K) (n := 1) (v1 (ex.trans e8)) rfl) mono_is mono_is H8 (Ex.refl _) _ fun vs H9 e9 ⟨a, b, c, hv, ha, hb, hc⟩ => by
        rw [hv, show a = _ from ha, show b = _ from hb, show c = _ from hc]
        exact ⟨sz_of (show 3 ≤ 100000 by decide), fun u hu => q _ _ (e9.trans (Ex.new hu)) ⟨u, rfl, upd_same⟩⟩) fun v H8 e8 hv => el3 (ex.trans e8) hv hg1 hg3 hg2 ok1 ok3 okT_int hwh
    · refine (evp_cat (K := K) (evp_cat (K := K) (ys := [t]) (evp_to (K := K) (n := m) rfl (ex _ _ hb) hm0) oneT (by simp; omega)) (evp_from (K := K) (n := m + 1) rfl (ex _ _ hb) hm1) (by simp; omega)).imp fun v H8 e8 hv => ?_
      have ex8 := ex.trans e8
      rcases hm3 with rfl | rfl | rfl
      · exact el3 ex8 hv hdt5 hg2 hg3 okt1 okT_int ok3 hth
      · exact el3 ex8 hv hg1 hdt5 hg3 ok1 okt1 ok3 hwh
      · exact el3 ex8 hv hg1 hg2 hdt5 ok1 okT_int okt1 hwh
end
end K20
namespace K20
open PySem PySem.Spec PyProof.Rows L2 Evl RZ Ev2 TA5
open Ow

section
variable {K : PySem.W.Frag} {σ : L2.St} {H : Hp} {ta tb te tl t1 t2 t3 : TE} {ta' : TA} {l r : Nat} {fs gs : List FR} {E : XK}
/-- over a list that is written out -/
theorem q_forAllG {P : HP} {n : Nat} {g : TG} {tu tz : TS} {D : Ends} (m : Mono P) (h : EvAll P ta' σ H n) (hn : n ≤ 1000) (I : L2.St → Hp → Prop) (h0 : ∀ H1, Evl.Ex H H1 → I σ H1)
    (hs : ∀ (J : L2.St → Hp → Prop) x σ' H', I σ' H' → P x H' → (∀ σ2 H2, Evl.Ex H' H2 → I σ2 H2 → J σ2 H2) → g x σ' H' fun σ2 H2 => tu { D with nx := J, ct := J, bk := tz D } σ2 H2) (hd : ∀ σ' H', I σ' H' → tz D σ' H') :
    tSeq (tFor (iList K (tLst ta')) g tu) tz D σ H :=
  h H (Ex.refl _) _ fun vs H1 e1 ⟨hl, hv⟩ => ⟨sz_of (by omega), fun p hp => by
    have e2 : Evl.Ex H1 (upd H1 p (.lst vs)) := Ex.new hp
    have h2 : (upd H1 p (.lst vs)) p = some (.lst vs) := upd_same
    generalize upd H1 p (.lst vs) = H2 at e2 h2
    exact q_forL (K := K) (a := p) (xs := vs) (tl := tC (.ref p)) (σ := σ) (H := H2) ev_c (sq_of h2) (fun i σ' H' => I σ' H' ∧ Evl.Ex H2 H') (fun H3 e3 => ⟨h0 H3 ((e1.trans e2).trans e3), e3⟩) (fun i σ' H' _ ⟨_, e⟩ => sq_of (e _ _ h2))
      (fun i x σ' H' hx ⟨hi, e⟩ => hs _ x σ' H' hi (m _ _ _ (e2.trans e) (hv x (List.mem_of_getElem? hx))) fun σ2 H3 e3 hi2 => ⟨hi2, e.trans e3⟩) fun σ' H' ⟨hi, _⟩ => hd σ' H' hi⟩
theorem evp_cutD {n : Nat} (h : EvP te σ H (LsP Fv fs)) (hb : ∀ H1, EvP tb σ H1 (Is (.int (n : Int)))) : EvP (tSl (rSlL K) te (tPart tb) tNoPart) σ H (LsP Fv (fs.drop n)) := fun H1 e Q q =>
  h H1 e _ fun v H2 e2 ⟨p, ys, hv, hp, pr⟩ => el_sl (K := K) (te := tC v) (σ := σ) (H := H2) (by rw [hv]; exact ev_c) (eo_some (hb H2).ev) eo_none (sq_of hp) H2 (Ex.refl _) Q fun p' H3 _ e3 h3 => q _ H3 (e2.trans e3) ⟨p', ys.drop n, rfl, by rw [h3, cut_hi], Paired.drop n (Paired.impl (fun _ _ h => fv_mono _ _ _ _ e3 h) pr)⟩
theorem rep_at {k : Int} {Q : VK} (h : t1 σ H fun v H2 => 1 ≤ sizeLine ∧ ∀ t, H2 t = none → rRep (.ref t) (.int k) (upd H2 t (.lst [v])) Q) : tOp rRep (tLst (tCons t1 tNil)) (tC (.int k)) σ H Q := h
theorem et_fnone (ha : EvP ta σ H (Ls [.str "fact", .non])) (hb : EvP tb σ H (Ls [.str "fact", .non])) : EvT (tTest (tOp (rNeD K) ta tb)) σ H false :=
  et_tst (evp_is (evp_neD (K := K) (d := .list [.str "fact", .none]) (e := .list [.str "fact", .none]) ha hb mono_ls (fun _ _ h => num_dp (x := .non) (d := .none) rfl h) (fun _ _ h => num_dp (x := .non) (d := .none) rfl h) (by decide +kernel) (by decide +kernel)) (by rw [eqv_self _ (by decide +kernel)]; rfl))
theorem evp_fnone : EvP (tLst (tCons (tC (.str "fact")) (tCons (tC .non) tNil))) σ H (Ls [.str "fact", .non]) := evp_ofL (el_lst (ea_cons ev_c (ea_cons ev_c ea_nil)) (by decide))
/-- facts that are written out -/
def fA (lo : Int) (hi : Option Int) : FR := ⟨.all, lo, hi⟩
theorem evp_fA {lo h : Int} : EvP (tTup (tCons (tTup (tCons (tC (.str "all")) tNil)) (tCons (tC (.int lo)) (tCons (tC (.int h)) tNil)))) σ H (Fv (fA lo (some h))) := fun H1 e Q q =>
  eap_three (P := Ts [.str "all"]) (R := Is (.int lo)) (S := Is (.int h)) (evp_ofU (eu_tup (ea_cons ev_c ea_nil) (by decide))) evp_c evp_c mono_ts mono_is H1 e _ fun vs H2 e2 ⟨a, b, c, hv, ha, hb, hc⟩ => by
    rw [hv, show b = _ from hb, show c = _ from hc]
    exact ⟨sz_of (show 3 ≤ 100000 by decide), fun t ht => q _ _ (e2.trans (Ex.new ht)) ⟨a, ⟨t, rfl, upd_same⟩, mono_ts _ _ _ (Ex.new ht) ha⟩⟩
theorem rep_get {f : FR} {m k : Nat} : ((List.replicate m f).map some)[k]? = if k < m then some (some f) else none := by
  rw [List.getElem?_map, List.getElem?_replicate]
  split <;> rfl
theorem good_rep {m : Nat} (hm : m ≤ 40) : Good ((List.replicate m (fA 1 (some 1))).map some) := by
  refine ⟨by rw [List.length_map, List.length_replicate]; exact hm, fun k => ?_, fun a b _ => ?_⟩
  · unfold bad
    rw [rep_get]
    by_cases h : k < m
    · rw [if_pos h]; rfl
    · rw [if_neg h]; rfl
  · unfold cx
    rw [rep_get, rep_get]
    by_cases h : a < m
    · by_cases k : b < m
      · rw [if_pos h, if_pos k]; rfl
      · rw [if_pos h, if_neg k]
    · rw [if_neg h]
theorem elok_rep {m : Nat} : ∀ e ∈ (List.replicate m (fA 1 (some 1))).map some, ElOk ((2 : Nat) : Int) ((2 : Nat) : Int) e := fun e he => by
  obtain ⟨f, hf, rfl⟩ := List.mem_map.mp he
  rw [List.eq_of_mem_replicate hf]
  exact ⟨trivial, by decide⟩
theorem paired_rep {α β : Type} {R : α → β → Prop} {x : α} {y : β} (h : R x y) : ∀ n : Nat, Paired R (List.replicate n x) (List.replicate n y)
  | 0 => .nil
  | n + 1 => .cons h (paired_rep h n)
theorem evp_repN {f : FR} (m : Nat) (hm : m ≤ 1000) (h : EvP te σ H (Fv f)) : EvP (tOp rRep (tLst (tCons te tNil)) (tC (.int (m : Int)))) σ H (LsP Fv (List.replicate m f)) := fun H1 e Q q => rep_at <| h H1 e _ fun v H2 e2 hv => ⟨sz_of (show 1 ≤ 100000 by decide), fun t ht => by
  have h2 : (upd H2 t (.lst [v])) t = some (.lst [v]) := upd_same
  refine ⟨t, m, [v], rfl, rfl, h2, by omega, by omega, by rw [Int.toNat_natCast]; exact sz_of (show 1 * m ≤ 100000 by omega), fun u hu => ?_⟩
  have ex : Evl.Ex H2 (upd (upd H2 t (.lst [v])) u (.lst (List.replicate (m : Int).toNat [v]).flatten)) := (Ex.new ht).trans (Ex.new hu)
  exact q _ _ (e2.trans ex) ⟨u, List.replicate m v, rfl, by rw [Int.toNat_natCast, List.flatten_replicate_singleton]; exact upd_same, paired_rep (R := fun y f => Fv f y _) (fv_mono _ _ _ _ ex hv) m⟩⟩
theorem elok_repN {m : Nat} : ∀ e ∈ (List.replicate m (fA 1 (some 1))).map some, ElOk ((2 : Nat) : Int) ((2 : Nat) : Int) e := fun e he => by
  obtain ⟨f, hf, rfl⟩ := List.mem_map.mp he
  rw [List.eq_of_mem_replicate hf]
  exact ⟨trivial, by decide⟩
/-! ### told and due -/
def LT (es : List (Option FR)) : HP := fun v H => LsP Fe es v H ∨ TsP Fe es v H
theorem mono_lt {es : List (Option FR)} : Mono (LT es) := fun _ _ _ e h => h.imp (mono_lsP fe_mono _ _ _ e) (mono_tsP fe_mono _ _ _ e)
theorem evp_toldG {es : List (Option FR)} (hd : (1 ≤ l ∧ l ≤ 8) ∧ 1 ≤ r ∧ r ≤ 8) (hok : ∀ e ∈ es, ElOk l r e) (h1 : EvP t1 σ H (Is (.int (l : Int)))) (h2 : EvP t2 σ H (Is (.int (r : Int)))) (h3 : EvP t3 σ H (LT es)) : EvP (tCall (spTold K) [] E (tCons t1 (tCons t2 (tCons t3 tNil)))) σ H (Tl es) :=
  evp_call (eap_three h1 h2 h3 mono_is mono_is) fun vs H1 ⟨x, y, z, hv, hx, hy, hz⟩ Q q E => ⟨x, y, z, hv, .inr ⟨l, r, hx, hy, hd.1, hd.2, .inr ⟨es, hz, hok, q⟩⟩⟩
theorem evp_toldO (hd : (1 ≤ l ∧ l ≤ 8) ∧ 1 ≤ r ∧ r ≤ 8) (h1 : EvP t1 σ H (Is (.int (l : Int)))) (h2 : EvP t2 σ H (Is (.int (r : Int)))) (h3 : EvP t3 σ H (KB K false)) : EvP (tCall (spTold K) [] E (tCons t1 (tCons t2 (tCons t3 tNil)))) σ H (Ls [.str "fact", .non]) :=
  evp_call (eap_three h1 h2 h3 mono_is mono_is) fun vs H1 ⟨x, y, z, hv, hx, hy, hz⟩ Q q E => ⟨x, y, z, hv, .inr ⟨l, r, hx, hy, hd.1, hd.2, .inl ⟨hz, q⟩⟩⟩
theorem evp_told1 {x : V} {d : PyData} (hx : fl x d) (hd : isSz d = false) (h1 : EvP t1 σ H (Is x)) (h2 : EvP t2 σ H (Is (.int (r : Int)))) (h3 : EvP t3 σ H Any) : EvP (tCall (spTold K) [] E (tCons t1 (tCons t2 (tCons t3 tNil)))) σ H (Ls [.str "number", x]) :=
  evp_call (eap_three h1 h2 h3 mono_is mono_is) fun vs H1 ⟨a, y, z, hv, ha, hy, hz⟩ Q q E => ⟨a, y, z, hv, .inl ⟨d, .int (r : Int), by rw [show a = x from ha]; exact .flat hx, by rw [show y = _ from hy]; exact .flat rfl, fun h => (by rw [hd] at h; cases h), fun _ v H2 e2 hv => q v H2 e2 (by rw [show a = x from ha] at hv; exact hv), fun h => (by rw [hd] at h; cases h)⟩⟩
theorem evp_told2 {x : V} {d : PyData} (hl : 1 ≤ l ∧ l ≤ 8) (hx : fl x d) (hd : isSz d = false) (h1 : EvP t1 σ H (Is (.int (l : Int)))) (h2 : EvP t2 σ H (Is x)) (h3 : EvP t3 σ H Any) : EvP (tCall (spTold K) [] E (tCons t1 (tCons t2 (tCons t3 tNil)))) σ H (Ls [.str "number", x]) :=
  evp_call (eap_three h1 h2 h3 mono_is mono_is) fun vs H1 ⟨y, a, z, hv, hy, ha, hz⟩ Q q E => ⟨y, a, z, hv, .inl ⟨.int (l : Int), d, by rw [show y = _ from hy]; exact .flat rfl, by rw [show a = x from ha]; exact .flat hx, fun _ h => (by rw [hd] at h; cases h), fun h => (by rw [isSz_nat hl.1 hl.2] at h; cases h), fun _ _ v H2 e2 hv => q v H2 e2 (by rw [show a = x from ha] at hv; exact hv)⟩⟩
def spDueA (K : PySem.W.Frag) : Sp := fun vs H Q E => (sp_dueL vs H Q E ∨ sp_dueT vs H Q E) ∨ sp_dueO K vs H Q E
theorem evp_dueG {es : List (Option FR)} (hd : (1 ≤ l ∧ l ≤ 8) ∧ 1 ≤ r ∧ r ≤ 8) (hok : ∀ e ∈ es, ElOk l r e) (h1 : EvP t1 σ H (Is (.int (l : Int)))) (h2 : EvP t2 σ H (Is (.int (r : Int)))) (h3 : EvP t3 σ H (LT es)) : EvP (tCall (spDueA K) [] E (tCons t1 (tCons t2 (tCons t3 tNil)))) σ H (Tl es) :=
  evp_call (eap_three h1 h2 h3 mono_is mono_is) fun vs H1 ⟨x, y, z, hv, hx, hy, hz⟩ Q q E => .inl (hz.imp (fun hz => ⟨z, l, r, es, by rw [hv, show x = _ from hx, show y = _ from hy], hd.1, hd.2, hz, hok, q⟩) fun hz => ⟨z, l, r, es, by rw [hv, show x = _ from hx, show y = _ from hy], hd.1, hd.2, hz, hok, q⟩)
theorem evp_dueO {x y : V} (h1 : EvP t1 σ H (Is x)) (h2 : EvP t2 σ H (Is y)) (h3 : EvP t3 σ H (KB K false)) : EvP (tCall (spDueA K) [] E (tCons t1 (tCons t2 (tCons t3 tNil)))) σ H (Ls [.str "fact", .non]) :=
  evp_call (eap_three h1 h2 h3 mono_is mono_is) fun vs H1 ⟨a, b, z, hv, ha, hb, hz⟩ Q q E => .inr ⟨z, a, b, hv, hz, q⟩
theorem et_tlE {es : List (Option FR)} {p : Pl} (hok : ∀ e ∈ es, ElOk l r e) (he : Err es p) (ha : EvP ta σ H (Tl es)) (hb : EvP tb σ H (TlE p)) : EvT (tTest (tOp (rNeD K) ta tb)) σ H false := et_tl hok ha (hb.imp fun _ _ _ h => .inr ⟨p, he, h⟩)
theorem evp_pairL {i j : Nat} : EvP (tLst (tCons (tC (.str "fact")) (tCons (tTup (tCons (tC (.int (i : Int))) (tCons (tC (.int (j : Int))) tNil))) tNil))) σ H (TlE (.pair i j)) := fun H1 e Q q =>
  ⟨sz_of (show 2 ≤ 100000 by decide), fun t ht => ⟨sz_of (show 2 ≤ 100000 by decide), fun u hu => q _ _ ((Ex.new ht).trans (Ex.new hu)) ⟨u, .ref t, rfl, upd_same, t, rfl, Ex.new hu _ _ upd_same⟩⟩⟩
/-! ### lists of facts -/
theorem evp_tupE {α : Type} {Pi : α → HP} {zs : List α} (m : ∀ z, Mono (Pi z)) (h : EvP te σ H (LsP Pi zs)) : EvP (tCB (rTupQ K) (tCons te tNil)) σ H (TsP Pi zs) := fun H1 e Q q => h H1 e _ fun v H2 e2 ⟨p, ys, hv, hp, pr⟩ =>
  ⟨p, ys, by rw [hv], .inl ⟨sq_of hp, fun t ht => q _ _ (e2.trans (Ex.new ht)) ⟨t, ys, rfl, upd_same, Paired.impl (fun _ _ h => m _ _ _ _ (Ex.new ht) h) pr⟩⟩⟩
theorem evp_lstQ {ys : List V} (h : EvP te σ H (Ls ys)) : EvP (tCB (rLstQ K) (tCons te tNil)) σ H (Ls ys) := fun H1 e Q q => h H1 e _ fun v H2 e2 ⟨p, hv, hp⟩ => ⟨p, ys, by rw [hv], .inl (sq_of hp), fun u hu => q _ _ (e2.trans (Ex.new hu)) ⟨u, rfl, upd_same⟩⟩
theorem elds_mono {H H' : Hp} (e : Kx H H') : ∀ {xs : List V} {ds : List PyData}, Paired (Eld H) xs ds → Paired (Eld H') xs ds
  | _, _, .nil => .nil
  | _, _, .cons h t => .cons (h.mono e) (elds_mono e t)
theorem elds_dp {H : Hp} : ∀ {xs : List V} {ds : List PyData}, Paired (Eld H) xs ds → DpAll K H xs ds
  | _, _, .nil => .nil
  | _, _, .cons h t => .cons h.dp (elds_dp t)
theorem fes_data {es : List (Option FR)} {ys : List V} (pr : Paired (fun y e => Fe e y H) ys es) : (∀ e ∈ es, ElOk l r e) → ∃ ds, Paired (Eld H) ys ds ∧ ∀ d ∈ ds, d.canLay0 = true ∧ d.depth ≤ 13 := by
  induction pr with
  | nil => exact fun _ => ⟨[], .nil, fun d h => nomatch h⟩
  | @cons y e ys es h t ih =>
    intro hok
    obtain ⟨ds, h1, h2⟩ := ih fun e he => hok e (List.mem_cons_of_mem _ he)
    obtain ⟨d, k1, k2⟩ := fe_eld h
    have ho := hok e (List.mem_cons_self ..)
    refine ⟨d :: ds, .cons k1 h1, fun d' hd => ?_⟩
    rcases List.mem_cons.mp hd with rfl | hd
    · cases e with
      | none => exact ⟨k2.1.lay, k2.1.dp⟩
      | some f => rw [show d' = fD f from k2]; exact ⟨fD_lay ho.1, fD_depth ho.1⟩
    · exact h2 d' hd
theorem et_sameL {es : List (Option FR)} {ys : List V} (pr : Paired (fun y e => Fe e y H) ys es) (hok : ∀ e ∈ es, ElOk l r e) (ha : EvP ta σ H (Ls ys)) (hb : EvP tb σ H (Ls ys)) : EvT (tTest (tOp (rNeD K) ta tb)) σ H false := by
  obtain ⟨ds, h1, h2⟩ := fes_data pr hok
  have hl : (PyData.list ds).canLay0 = true := lay_all fun d hd => (h2 d hd).1
  have hsh : SeqAt.shaped (.list ds) = true := sh_of hl (by show PyData.depthAll ds + 1 ≤ 64; have := depth_all fun d hd => (h2 d hd).2; omega)
  have dp : ∀ v H1, (Ls ys v H1 ∧ Paired (Eld H1) ys ds) → Dp K H1 v (.list ds) := fun v H1 ⟨⟨p, hv, hp⟩, k⟩ => by rw [hv]; exact .lst (sq_of hp) (elds_dp k)
  exact et_tst (evp_is (evp_neD (K := K) (P := fun v H1 => Ls ys v H1 ∧ Paired (Eld H1) ys ds) (R := fun v H1 => Ls ys v H1 ∧ Paired (Eld H1) ys ds) (ha.imp fun _ _ e h => ⟨h, elds_mono (Kx.of e) h1⟩) (hb.imp fun _ _ e h => ⟨h, elds_mono (Kx.of e) h1⟩) (fun _ _ _ e ⟨a, b⟩ => ⟨mono_ls _ _ _ e a, elds_mono (Kx.of e) b⟩) dp dp hsh hsh) (by rw [eqv_self _ hl]; rfl))
theorem paired_set {α β : Type} {R : α → β → Prop} {y : α} {z : β} (h : R y z) : ∀ {ys : List α} {zs : List β} (j : Nat), Paired R ys zs → Paired R (ys.set j y) (zs.set j z)
  | _, _, _, .nil => .nil
  | _, _, 0, .cons _ t => .cons h t
  | _, _, j + 1, .cons k t => .cons k (paired_set h j t)
theorem kx_upd {p : Addr} {ys us : List V} (h : H p = some (.lst ys)) (hn : ys.all flatV = false) : Kx H (upd H p (.lst us)) := fun a o ha k => by
  by_cases hap : a = p
  · rw [hap, h] at ha
    cases ha
    rcases k with ⟨xs, e⟩ | ⟨xs, e, f⟩
    · cases e
    · cases e
      rw [hn] at f; cases f
  · rw [upd_ne hap]; exact ha
theorem refs_flat {ys : List V} (hr : Refs ys) (hn : ys ≠ []) : ys.all flatV = false := by
  cases ys with
  | nil => exact absurd rfl hn
  | cons y ys =>
    obtain ⟨a, rfl⟩ := hr y (List.mem_cons_self ..)
    rfl
def Fq (l r : Nat) : HP := fun v H => ∃ f, Fv f v H ∧ ElOk l r (some f)
theorem mf_fq : MonoF (Fq l r) := fun _ _ _ e ⟨f, h1, h2⟩ => ⟨f, mf_fv _ _ _ _ e h1, h2⟩
theorem fs_of {n : Nat} {v : V} (h : LstP n (fun _ => Fq l r) v H) : ∃ fs, LsP Fv fs v H ∧ fs.length = n ∧ ∀ e ∈ fs.map some, ElOk l r e := by
  obtain ⟨p, ys, hv, hp, hl, hq⟩ := h
  have : ∀ ys : List V, (∀ y ∈ ys, Fq l r y H) → ∃ fs : List FR, Paired (fun y f => Fv f y H) ys fs ∧ ∀ e ∈ fs.map some, ElOk l r e := by
    intro ys
    induction ys with
    | nil => exact fun _ => ⟨[], .nil, fun e h => nomatch h⟩
    | cons y ys ih =>
      intro h
      obtain ⟨fs, h1, h2⟩ := ih fun y hy => h y (List.mem_cons_of_mem _ hy)
      obtain ⟨f, k1, k2⟩ := h y (List.mem_cons_self ..)
      refine ⟨f :: fs, .cons k1 h1, fun e he => ?_⟩
      rcases List.mem_cons.mp he with rfl | he
      · exact k2
      · exact h2 e he
  obtain ⟨fs, h1, h2⟩ := this ys fun y hy => by
    obtain ⟨i, hi, e⟩ := List.mem_iff_getElem.mp hy
    exact hq i y (by rw [List.getElem?_eq_getElem hi, e])
  exact ⟨fs, ⟨p, ys, hv, hp, h1⟩, by rw [← Paired.len h1, hl], h2⟩
theorem lcr_at {tn : TA} {g : TG} {tt : TT} {ws : List Nat} {Q : VK} (h : tn σ H fun vs H1 => tLc (iRng1 (fun _ H Q => Q vs H)) g tt te ws σ H1 Q) : tLc (iRng1 tn) g tt te ws σ H Q := h
theorem facts_at {n j : Nat} {s p : Addr} {xs : List Int} {ws : List Nat} (d : Dr s p xs H) (hn : n ≤ 4) (hz : ∀ x, wipe ((wipe σ ws).set j (some x)) ws = wipe σ ws) (he : ∀ (i : Nat), i < n → EvD s p xs te ((wipe σ ws).set j (some (.int (i : Int)))) H (Fq l r)) {Q : VK}
    (q : ∀ v H2 fs, Gs s H H2 → Dr s p xs H2 → LsP Fv fs v H2 → fs.length = n → (∀ e ∈ fs.map some, ElOk l r e) → Q v H2) : tLc (iRng1 (fun _ H Q => Q [.int (n : Int)] H)) (gName j) tYes te ws σ H Q :=
  evd_lc (Pi := fun _ => Fq l r) (fun H1 H2 e Q q => q _ H2 (Ex.refl _) rfl) (by omega) hz he (fun _ => mf_fq) H (Gs.refl _ _) d _ fun v H2 g d2 h => by
    obtain ⟨fs, h1, h2, h3⟩ := fs_of h
    exact q v H2 fs g d2 h1 h2 h3
/-- one of them is bent, or none -/
theorem bend_at {tz : TS} {D : Ends} {s p pf p5 : Addr} {xs : List Int} {zs : List V} {a0 a1 a2 a4 a5 a6 a8 a9 a10 a11 a12 a13 : Option V} {E1 E2 E3 : XK} (d : Dr s p xs H) (h7 : LsP Fv fs (.ref pf) H) (hok : ∀ e ∈ fs.map some, ElOk l r e) (hl : l ≤ 8) (hr : r ≤ 8) (hlen : fs.length ≤ 4) (h5 : H p5 = some (.lst zs)) (hps : p5 ≠ s) (hz : ∀ x ∈ zs, ∃ c : Int, x = .int c)
    (q : ∀ es s12 H2, Dr s p xs H2 → H2 p5 = some (.lst zs) → LsP Fe es (.ref pf) H2 → (∀ e ∈ es, ElOk l r e) → es.length ≤ 4 → tz D [a0, a1, a2, some (.ref s), a4, a5, a6, some (.ref pf), a8, a9, a10, a11, s12, a13] H2) :
    tSeq (tIfS (tAnd (tTest (tOp (rNeD K) (tVar 7) (tLst tNil))) (tTest (tOp rEq (tCall spDraw [] E1 (tCons (tVar 3) (tCons (tC (.int 2)) tNil))) (tC (.int 0))))) (tSeq (tAsg (tCall spDraw [] E2 (tCons (tVar 3) (tCons (tCB (rLenQ K) (tCons (tVar 7) tNil)) tNil))) (gName 12)) (tAsg (tCall spBnt [] E3 (tCons (tVar 3) (tCons (tOp (rIxL K) (tVar 7) (tVar 12)) tNil))) (gSub (tVar 7) (tVar 12) rSetL))) tNext) tz D [a0, a1, a2, some (.ref s), a4, a5, a6, some (.ref pf), a8, a9, a10, a11, a12, a13] H := by
  have v7 : ∀ {x : Option V} {H' : Hp}, Evl.Ex H H' → EvP (tVar 7) [a0, a1, a2, some (.ref s), a4, a5, a6, some (.ref pf), a8, a9, a10, a11, x, a13] H' (LsP Fv fs) := fun e => evp_var rfl (mono_lsP fv_mono _ _ _ e h7) (mono_lsP fv_mono)
  have hlay := facts_lay hok
  have hdep := facts_depth hok
  have t0 : EvT (tTest (tOp (rNeD K) (tVar 7) (tLst tNil))) [a0, a1, a2, some (.ref s), a4, a5, a6, some (.ref pf), a8, a9, a10, a11, a12, a13] H (!decide (fs = [])) := et_tst (evp_is (evp_neD (K := K) (d := .list (fs.map fD)) (e := .list []) (v7 (Ex.refl _)) (evp_ofL (xs := []) (el_lst ea_nil (by decide))) (mono_lsP fv_mono) (fun _ _ h => lsP_dp h) (fun _ _ ⟨p, hv, hp⟩ => by rw [hv]; exact .lst (sq_of hp) .nil) (sh_of hlay (by show PyData.depthAll _ + 1 ≤ 64; omega)) rfl) (by cases fs <;> rfl))
  have hlen' : (fs.map some).length ≤ 4 := by rw [List.length_map]; exact hlen
  refine t0 H (Ex.refl _) _ fun H1 e1 => ?_
  have d1 := d.ex e1
  have h71 := mono_lsP fv_mono _ _ _ e1 h7
  have h51 := e1 _ _ h5
  by_cases hf : fs = []
  · rw [decide_eq_true hf]
    refine iteF (iteF ?_)
    exact q (fs.map some) _ H1 d1 h51 (lsP_some.mpr h71) hok hlen'
  rw [decide_eq_false hf]
  refine iteT (draw_i (i := 3) (p := p) (xs := xs) (m := 2) rfl evp_c (by decide) d1 fun rr H2 g2 d2 _ _ => ⟨rfl, _, rfl, ?_⟩)
  have h72 := lsP_gs mf_fv ref_fv g2 d1 h71
  have h52 := g2 _ _ hps h51
  clear d1 h71 h51 g2
  cases hb : decide (V.int rr = .int 0) with
  | false => exact iteF (q (fs.map some) _ H2 d2 h52 (lsP_some.mpr h72) hok hlen')
  | true =>
    refine iteT ?_
    have hf0 : 0 < fs.length := by cases fs <;> first | exact absurd rfl hf | simp
    refine q_asgD (draw_i (i := 3) (p := p) (xs := xs) (m := (fs.length : Int)) rfl (evp_lenLs (K := K) (evp_var (i := 7) rfl h72 (mono_lsP fv_mono))) (by omega) d2 fun n H3 g3 d3 hn0 hnl => ?_)
    obtain ⟨n, rfl⟩ : ∃ n' : Nat, n = n' := ⟨n.toNat, by omega⟩
    have h73 := lsP_gs mf_fv ref_fv g3 d2 h72
    have h53 := g3 _ _ hps h52
    clear d2 h72 h52 g3
    simp only [List.set_cons_zero, List.set_cons_succ]
    obtain ⟨pf', ys, epf, hp, pr⟩ := h73
    cases epf
    have hyl := Paired.len pr
    have hry := paired_refs (fun y f h => ref_fv _ _ _ h) pr
    have hyne : ys ≠ [] := fun z => by rw [z] at hyl; have : fs.length = 0 := hyl.symm; omega
    have hpfs := refs_state d3 hp hry
    obtain ⟨y, hy⟩ : ∃ y, ys[n]? = some y := ⟨_, List.getElem?_eq_getElem (by omega)⟩
    obtain ⟨f, hfn, hfy⟩ := paired_idx pr hy
    have hokf : ElOk l r (some f) := hok _ (List.mem_map.mpr ⟨f, List.mem_of_getElem? hfn, rfl⟩)
    refine ⟨.ref s, rfl, .ref pf, rfl, .int (n : Int), rfl, pf, ys, _, _, rfl, rfl, sq_of hp, atI_nat hy, ?_⟩
    refine ⟨s, p, xs, l, r, y, f, rfl, d3, hl, hr, hfy, hokf, fun v H5 e g5 d5 hv he => ?_⟩
    have hp5 := g5 _ _ hpfs hp
    have h55 := g5 _ _ hps h53
    refine ⟨.ref pf, rfl, .int (n : Int), rfl, pf, ys, (n : Int), n, rfl, rfl, hp5, ixN_nat (by omega), ?_⟩
    have pr5 := some_paired (Paired.impl (fun _ _ h => mf_fv _ _ _ _ (Fx.lst (ys := ys.set n v) hp5) (mf_fv _ _ _ _ (Gs.fx g5 d3) h)) pr)
    have hv6 : Fe e v (upd H5 pf (.lst (ys.set n v))) := by
      cases e with
      | none => exact fe_kx (kx_upd hp5 (refs_flat hry hyne)) hv
      | some g => exact mf_fv _ _ _ _ (Fx.lst hp5) hv
    have hne : ∀ {b : Addr} {ws : List V}, (∀ x ∈ ws, ∃ c : Int, x = .int c) → H5 b = some (.lst ws) → b ≠ pf := fun {b ws} hw hb z => by
      rw [z, hp5] at hb
      cases hb
      cases ys with
      | nil => exact hyne rfl
      | cons y ys =>
        obtain ⟨c, rfl⟩ := hw y (List.mem_cons_self ..)
        obtain ⟨a, e⟩ := hry _ (List.mem_cons_self ..)
        cases e
    have hpp : p ≠ pf := hne (fun x hx => by obtain ⟨c, _, e⟩ := List.mem_map.mp hx; exact ⟨c, e.symm⟩) d5.pool
    refine q ((fs.map some).set n e) _ _ (dr_upd d5 hp5 hry hpp) (by rw [upd_ne (hne hz h55)]; exact h55) ⟨pf, _, rfl, upd_same, paired_set (R := fun y e => Fe e y _) hv6 n pr5⟩ (fun e' he' => ?_) (by rw [List.length_set]; exact hlen')
    rcases List.mem_or_eq_of_mem_set he' with h | h
    · exact hok e' h
    · rw [h]; exact he
/-! ### facts that are written out -/
theorem evp_two {wd : Str} {a b : Int} : EvP (tTup (tCons (tC (.str wd)) (tCons (tTup (tCons (tC (.int a)) (tCons (tC (.int b)) tNil))) tNil))) σ H (fun v H => ∃ t, Ts [.str wd, .ref t] v H ∧ H t = some (.tup [.int a, .int b])) := fun H1 e Q q =>
  ⟨sz_of (show 2 ≤ 100000 by decide), fun t ht => ⟨sz_of (show 2 ≤ 100000 by decide), fun u hu => q _ _ ((Ex.new ht).trans (Ex.new hu)) ⟨t, ⟨u, rfl, upd_same⟩, Ex.new hu _ _ upd_same⟩⟩⟩
theorem evp_fS {w : Wh} {lo : Int} {hi : Option Int} {P : HP} (hP : ∀ v H, P v H → Wv w v H) (h1 : EvP t1 σ H P) (h2 : EvP t2 σ H (Is (.int lo))) (h3 : EvP t3 σ H (Is (OI hi))) : EvP (tTup (tCons t1 (tCons t2 (tCons t3 tNil)))) σ H (Fv ⟨w, lo, hi⟩) := fun H1 e Q q =>
  eap_three (h1.imp fun v H _ h => hP v H h) h2 h3 (wv_mono w) mono_is H1 e _ fun vs H2 e2 ⟨a, b, c, hv, ha, hb, hc⟩ => by
    rw [hv, show b = _ from hb, show c = _ from hc]
    exact ⟨sz_of (show 3 ≤ 100000 by decide), fun t ht => q _ _ (e2.trans (Ex.new ht)) ⟨a, ⟨t, rfl, upd_same⟩, wv_mono _ _ _ _ (Ex.new ht) ha⟩⟩
theorem evp_fLeft {a b lo : Int} {hi : Option Int} (h3 : EvP t3 σ H (Is (OI hi))) : EvP (tTup (tCons (tTup (tCons (tC (.str "left")) (tCons (tTup (tCons (tC (.int a)) (tCons (tC (.int b)) tNil))) tNil))) (tCons (tC (.int lo)) (tCons t3 tNil)))) σ H (Fv ⟨.left [a, b], lo, hi⟩) := evp_fS (fun _ _ h => h) evp_two evp_c h3
theorem evp_fRight {a b lo : Int} {hi : Option Int} (h3 : EvP t3 σ H (Is (OI hi))) : EvP (tTup (tCons (tTup (tCons (tC (.str "right")) (tCons (tTup (tCons (tC (.int a)) (tCons (tC (.int b)) tNil))) tNil))) (tCons (tC (.int lo)) (tCons t3 tNil)))) σ H (Fv ⟨.right [a, b], lo, hi⟩) := evp_fS (fun _ _ h => h) evp_two evp_c h3
theorem evp_pow50 : EvP (tOp (rI CPow fun i j => .int (i ^ j.toNat)) (tC (.int 10)) (tC (.int 50))) σ H (Is (OI (some ((10 : Int) ^ 50)))) := fun H1 e Q q => ⟨10, 50, rfl, rfl, ⟨by decide, by decide, by decide⟩, q _ H1 (Ex.refl _) rfl⟩
theorem evp_l3 {f g h : FR} (h1 : EvP t1 σ H (Fv f)) (h2 : EvP t2 σ H (Fv g)) (h3 : EvP t3 σ H (Fv h)) : EvP (tLst (tCons t1 (tCons t2 (tCons t3 tNil)))) σ H (LsP Fv [f, g, h]) := fun H1 e Q q =>
  eap_three h1 h2 h3 (fv_mono _) (fv_mono _) H1 e _ fun vs H2 e2 ⟨a, b, c, hv, ha, hb, hc⟩ => by
    rw [hv]
    exact ⟨sz_of (show 3 ≤ 100000 by decide), fun t ht => q _ _ (e2.trans (Ex.new ht)) ⟨t, _, rfl, upd_same, .cons (fv_mono _ _ _ _ (Ex.new ht) ha) (.cons (fv_mono _ _ _ _ (Ex.new ht) hb) (.cons (fv_mono _ _ _ _ (Ex.new ht) hc) .nil))⟩⟩
def fs4 : List FR := [⟨.left [0, 1], 0, some 1⟩, ⟨.right [0, 1], 0, some 1⟩, ⟨.right [1, 2], 0, some 0⟩, ⟨.left [1, 2], 0, some (10 ^ 50)⟩]
theorem vs2 {a b : Int} (h : 0 ≤ a ∧ a < b ∧ b < 3) : VsOk ((3 : Nat) : Int) [a, b] := ⟨by simp; omega, by simp, fun x hx => by
  rcases List.mem_cons.mp hx with rfl | hx
  · omega
  · rw [List.mem_singleton.mp hx]; omega, by show 2 ≤ 8; decide⟩
theorem fs4_ok : ∀ e ∈ fs4.map some, ElOk ((3 : Nat) : Int) ((3 : Nat) : Int) e := fun e he => by
  obtain ⟨f, hf, rfl⟩ := List.mem_map.mp he
  rcases List.mem_cons.mp hf with rfl | hf
  · exact ⟨vs2 (by omega), by decide⟩
  rcases List.mem_cons.mp hf with rfl | hf
  · exact ⟨vs2 (by omega), by decide⟩
  rcases List.mem_cons.mp hf with rfl | hf
  · exact ⟨vs2 (by omega), by decide⟩
  · rw [List.mem_singleton.mp hf]; exact ⟨vs2 (by omega), by decide⟩
theorem isF_of {es : List (Option FR)} {i j : Nat} (hij : i < j) (h1 : cx es i j = true) (h2 : ((List.range es.length).all fun a => (List.range es.length).all fun b => !(decide (a < b) && cx es a b) || (decide (i < a) || (decide (i = a) && decide (j ≤ b)))) = true) : IsF es i j := ⟨hij, h1, fun a b h k => by
  have k1 := List.all_eq_true.mp (List.all_eq_true.mp h2 a (List.mem_range.mpr (cx_lt k).1)) b (List.mem_range.mpr (cx_lt k).2)
  rw [decide_eq_true h, k] at k1
  simpa using k1⟩
theorem err4 : Err (fs4.map some) (.pair 0 3) := ⟨by decide, bad_no (by decide +kernel), isF_of (by decide) (by decide +kernel) (by decide +kernel)⟩
theorem err3 : Err ((fs4.drop 1).map some) (.pair 0 1) := ⟨by decide, bad_no (by decide +kernel), isF_of (by decide) (by decide +kernel) (by decide +kernel)⟩
theorem fs3_ok : ∀ e ∈ (fs4.drop 1).map some, ElOk ((3 : Nat) : Int) ((3 : Nat) : Int) e := fun e he => by
  obtain ⟨f, hf, rfl⟩ := List.mem_map.mp he
  exact fs4_ok _ (List.mem_map.mpr ⟨f, List.mem_of_mem_drop hf, rfl⟩)
/-! ### values of other kinds -/
def Wk (K : PySem.W.Frag) : HP := fun v H => KB K false v H ∨ ∃ es, LsP Fe es v H ∧ ∀ e ∈ es, ElOk ((2 : Nat) : Int) ((2 : Nat) : Int) e
theorem mono_wk : Mono (Wk K) := fun _ _ _ e h => h.imp (mono_kb _ _ _ e) fun ⟨es, h1, h2⟩ => ⟨es, mono_lsP fe_mono _ _ _ e h1, h2⟩
theorem kb_c {x : V} {a : String} (h : ∀ H : Hp, TyOf K H x (.type a)) (h1 : kitB a "list" = some false) (h2 : kitB a "tuple" = some false) {H : Hp} : KB K false x H := fun H1 _ => ⟨_, .base (h H1), kb_no h1 h2⟩
theorem wk_c {x : V} {a : String} (h : ∀ H : Hp, TyOf K H x (.type a)) (h1 : kitB a "list" = some false) (h2 : kitB a "tuple" = some false) : EvP (tC x) σ H (Wk K) := EvP.imp (P := Is x) evp_c fun v H1 _ hv => .inl (by rw [show v = x from hv]; exact kb_c h h1 h2)
theorem wk_dict : EvP tDNewK σ H (Wk K) := fun H1 e Q q => fun p hp => q _ _ (Ex.new hp) (.inl fun H2 e2 => ⟨.type "dict", .base (.dK (e2 _ _ upd_same)), kb_no (by decide +kernel) (by decide +kernel)⟩)
theorem wk_one {e : Option FR} (he : ElOk ((2 : Nat) : Int) ((2 : Nat) : Int) e) (h : EvP te σ H (Fe e)) : EvP (tLst (tCons te tNil)) σ H (Wk K) := fun H1 e1 Q q => h H1 e1 _ fun v H2 e2 hv => ⟨sz_of (show 1 ≤ 100000 by decide), fun t ht => q _ _ (e2.trans (Ex.new ht)) (.inr ⟨[e], ⟨t, [v], rfl, upd_same, .cons (fe_mono _ _ _ _ (Ex.new ht) hv) .nil⟩, fun e' h => by rw [List.mem_singleton.mp h]; exact he⟩)⟩
theorem odd_non {H : Hp} : OdE .non H := ⟨.none, .flat rfl, ⟨(fun _ _ z => by cases z), rfl, by decide⟩, fun _ _ _ _ => rfl⟩
theorem evp_odd1 : EvP (tTup (tCons (tC (.str "all")) tNil)) σ H (Fe none) := (evp_ofU (xs := [.str "all"]) (eu_tup (ea_cons ev_c ea_nil) (by decide))).imp fun v H1 _ ⟨p, hv, hp⟩ => by
  rw [hv]
  exact odd_len hp (.cons (.flat (d := .str "all") rfl) .nil) (fun d hd => by rw [List.mem_singleton.mp hd]; exact okT_no rfl (by decide +kernel) (by decide)) (by decide)
theorem wk_rep {m : Nat} (hm : m ≤ 1000) (h : EvP te σ H (Fv (fA 1 (some 1)))) : EvP (tOp rRep (tLst (tCons te tNil)) (tC (.int (m : Int)))) σ H (Wk K) := (evp_repN m hm h).imp fun v H1 _ h => .inr ⟨_, lsP_some.mpr h, elok_repN⟩
theorem et_wk {v : V} (hv : Wk K v H) (h1 : EvP t1 σ H (Is (.int ((2 : Nat) : Int)))) (h2 : EvP t2 σ H (Is (.int ((2 : Nat) : Int)))) (h3 : ∀ P : HP, Mono P → P v H → EvP t3 σ H P) : EvT (tTest (tOp (rNeD K) (tCall (spTold K) [] E (tCons t1 (tCons t2 (tCons t3 tNil)))) (tCall (spDueA K) [] E (tCons t1 (tCons t2 (tCons t3 tNil)))))) σ H false := by
  rcases hv with hv | ⟨es, hv, hok⟩
  · exact et_fnone (evp_toldO (l := 2) (r := 2) (by decide) h1 h2 (h3 _ mono_kb hv)) (evp_dueO h1 h2 (h3 _ mono_kb hv))
  · have h4 : EvP t3 σ H (LT es) := h3 _ mono_lt (.inl hv)
    exact et_tl hok (evp_toldG (l := 2) (r := 2) (by decide) hok h1 h2 h4) (evp_dueG (l := 2) (r := 2) (by decide) hok h1 h2 h4)
/-! the odd sizes -/
def OdS : HP := fun v _ => ∃ d, fl v d ∧ isSz d = false ∧ SeqAt.shaped (.list [.str "number", d]) = true
theorem mono_ods : Mono OdS := fun _ _ _ _ h => h
theorem ods_c {x : V} {d : PyData} (h1 : fl x d) (h2 : isSz d = false) (h3 : SeqAt.shaped (.list [.str "number", d]) = true) : EvP (tC x) σ H OdS := EvP.imp (P := Is x) evp_c fun v H1 _ hv => ⟨d, by rw [show v = x from hv]; exact h1, h2, h3⟩
theorem evp_lenZ {C t : Addr} {l r : Int} {E : XK} (ht : ∀ H', SqT K H' t []) (h : EvP te σ H (FoZ C t l r)) : EvP (tCB (OwL.rLenO C (spLenZ K C) E) (tCons te tNil)) σ H (Is (.int 0)) := fun H1 e Q q =>
  h H1 e _ fun v H2 e2 ⟨a, dx, hv, ha⟩ => ⟨a, dx, _, by rw [hv], ha, .ref a, t, l, r, rfl, ⟨a, dx, rfl, ha⟩, ht, 0, rfl, by decide, by decide, q _ H2 e2 rfl⟩
end
end K20
namespace K20
open PySem PySem.Spec PyProof.Rows L2 Evl RZ Ev2 TA5
open Ow
abbrev s_law : Stmt := topS 54
abbrev N_law : List Str := ["_law_script", "_law_k", "_law_cell", "_law_state", "_law_turn", "_law_both", "_law_value", "_law_facts", "_law_saved", "_law_odd", "_law_left", "_law_right", "_law_at", "_law_again"]
theorem sc_law : FnScope N_law ["_law_script"] (defScope s_law) := ⟨rfl, rfl, rfl, by decide +kernel, rfl, by decide +kernel, by decide +kernel⟩

def spLaw (K : PySem.W.Frag) : Sp := fun vs H Q _ => ∃ (a0 : Addr) (ns : List Int), vs = [.ref a0] ∧ SqL K H a0 (ns.map V.int) ∧ ns.length ≤ 63 ∧ ∀ H', Q (.bl true) H'
theorem dpAll_int2 {K : PySem.W.Frag} {H : Hp} : ∀ ns : List Int, DpAll K H (ns.map V.int) (ns.map PyData.int)
  | [] => .nil
  | n :: ns => .cons (.int n) (dpAll_int2 ns)
theorem shaped_int2 (is : List Int) : SeqAt.shaped (.list (is.map PyData.int)) = true := sh_of (ints_lay is) (by show PyData.depthAll _ + 1 ≤ 64; have := ints_depth is; omega)
theorem lcr_at1 {σ : L2.St} {H : Hp} {tq te : TE} {g : TG} {tt : TT} {ws : List Nat} {Q : VK} (h : tq σ H fun v H1 => tLc (iRng1 (fun _ H Q => Q [v] H)) g tt te ws σ H1 Q) : tLc (iRng1 (tCons tq tNil)) g tt te ws σ H Q := h
theorem ne_ints {H : Hp} {b p : Addr} {ws ys : List V} (hw : ∀ x ∈ ws, ∃ c : Int, x = .int c) (hb : H b = some (.lst ws)) (hp : H p = some (.lst ys)) (hr : Refs ys) (hn : ys ≠ []) : b ≠ p := fun z => by
  rw [z, hp] at hb
  cases hb
  cases ws with
  | nil => exact hn rfl
  | cons y ws =>
    obtain ⟨c, rfl⟩ := hw y (List.mem_cons_self ..)
    obtain ⟨a, e⟩ := hr _ (List.mem_cons_self ..)
    cases e
section
variable {K : PySem.W.Frag} {σ : L2.St} {H : Hp} {ta' : TA}
theorem s_forAllG {P : HP} {n : Nat} {g : TG} {tu : TS} {D : Ends} (m : Mono P) (h : EvAll P ta' σ H n) (hn : n ≤ 1000) (I : L2.St → Hp → Prop) (h0 : ∀ H1, Evl.Ex H H1 → I σ H1)
    (hs : ∀ (J : L2.St → Hp → Prop) x σ' H', I σ' H' → P x H' → (∀ σ2 H2, Evl.Ex H' H2 → I σ2 H2 → J σ2 H2) → g x σ' H' fun σ2 H2 => tu { D with nx := J, ct := J, bk := D.nx } σ2 H2) (hd : ∀ σ' H', I σ' H' → D.nx σ' H') : tFor (iList K (tLst ta')) g tu D σ H :=
  q_forAllG (tz := tNext) (D := D) m h hn I h0 hs hd
end
section
variable {P : Program} {w : World} {K : PySem.W.Frag} {mg : Str → Option Value} {base : Heap} {tk : Tok} {k : Nat} {C fI CP TD0 : Addr}
set_option maxHeartbeats 32000000 in
theorem ok_law {fa f1 f2 f3 f4 f5 f6 gn : Addr} {fd d1 d2 d3 d4 d5 d6 dI dn : FuncData} (T : Txt mg tk) (FK : FaK K mg C fI) (hTD : ∀ H', SqT K H' TD0 [])
    (D__law_draw : Df K mg "_law_draw" s_law_draw ["_law_state", "_law_many"] f1 d1) (G__law_draw : FnOk P w K mg base CX0 (k + 1) f1 d1 ["_law_state", "_law_many"] spDraw)
    (D__law_pool : Df K mg "_law_pool" s_law_pool ["_law_cell", "_law_salt", "_law_many"] f2 d2) (G__law_pool : FnOk P w K mg base CX0 (k + 2) f2 d2 ["_law_cell", "_law_salt", "_law_many"] spPool)
    (D__law_fact : Df K mg "_law_fact" s_law_fact ["_law_state", "_law_left", "_law_right"] f3 d3) (G__law_fact : FnOk P w K mg base CX0 (k + 3) f3 d3 ["_law_state", "_law_left", "_law_right"] spFct)
    (D__law_bent : Df K mg "_law_bent" s_law_bent ["_law_state", "_law_fact_here"] f4 d4) (G__law_bent : FnOk P w K mg base CX0 (k + 2) f4 d4 ["_law_state", "_law_fact_here"] spBnt)
    (D__law_told : Df K mg "_law_told" s_law_told ["_law_left", "_law_right", "_law_facts"] f5 d5) (G__law_told : FnOk P w K mg base CX0 (k + 12) f5 d5 ["_law_left", "_law_right", "_law_facts"] (spTold K))
    (D__law_due : Df K mg "_law_due" s_law_due ["_law_left", "_law_right", "_law_facts"] f6 d6) (G__law_due : FnOk P w K mg base CX0 (k + 8) f6 d6 ["_law_left", "_law_right", "_law_facts"] (spDueA K))
    (b_dflt : Binds K dI ["self", "left", "right", "facts"] [.ref TD0]) (G_init : FnOk P w K mg base (L2.CX P w) (k + 8) fI dI ["self", "left", "right", "facts"] (spFIZ K C))
    (G_len : FnOk P w K mg base CX0 (k + 1) gn dn ["self"] (spLenZ K C)) (a_len : PySem.W.findIn K (.ref C) "__len__" = some (some (.ref gn))) (i_len : PySem.W.isFn K (.ref gn) = true) (b_len : Binds K dn ["self"] [])
    (D : Df K mg "law" s_law ["_law_script"] fa fd) : FnOk P w K mg base CX0 (k + 15) fa fd ["_law_script"] (spLaw K) := by
  refine D.F.ok sc_law (fun vs H Q E hh => ?_) (fun cdv A outer s0 H vs Q E hr hh => ?_)
  · obtain ⟨a0, ns, rfl, _⟩ := hh
    rfl
  · obtain ⟨a0, ns, rfl, hS, hlen, q⟩ := hh
    have nd := sc_law.nd
    refine ⟨_, (pss_cons (ps_for PassesOwn.never rfl (pi_enum (by rfl) T.n_enumerate (pa_cons (pe_op op_cat (pe_slice (r := rSlL K) sl_list (pv 0) po_none (po_some pe_int)) (pe_op op_rep (pe_lst (pa_cons pe_int pa_nil)) (pe_callTy call_int1 (by rfl) T.n_int PyProof.Rows.boot_int (pa_cons (pe_cmpR (r := rEqD K) (op_eqD hr.units) (pv 0) (pe_lst pa_nil) (nomark _)) pa_nil)))) pa_nil)) (pg_tup rfl (pgs_cons (pg_name (i := 1) nd rfl (Or.inl rfl)) (pgs_cons (pg_name (i := 2) nd rfl (Or.inl rfl)) pgs_nil))) (pss_cons (ps_set (i := 3) nd rfl (Or.inr rfl) (pe_call G__law_pool (hr.mono (by omega)) (by rfl) D__law_pool.g D__law_pool.F.kp D__law_pool.b .nil pass0 (pa_cons (pv 2) (pa_cons (pe_op op_add pe_int (pv 1)) (pa_cons pe_int pa_nil))))) (pss_cons (ps_for PassesOwn.never rfl (pi_range1 (by rfl) T.n_range (pa_cons pe_int pa_nil)) (pg_name (i := 4) nd rfl (Or.inl rfl)) (pss_cons (ps_asg (pe_tup (pa_cons (pe_op op_add pe_int (pe_call G__law_draw (hr.mono (by omega)) (by rfl) D__law_draw.g D__law_draw.F.kp D__law_draw.b .nil pass0 (pa_cons (pv 3) (pa_cons pe_int pa_nil)))) (pa_cons (pe_op op_add pe_int (pe_call G__law_draw (hr.mono (by omega)) (by rfl) D__law_draw.g D__law_draw.F.kp D__law_draw.b .nil pass0 (pa_cons (pv 3) (pa_cons pe_int pa_nil)))) pa_nil))) (pg_tup rfl (pgs_cons (pg_name (i := 10) nd rfl (Or.inr rfl)) (pgs_cons (pg_name (i := 11) nd rfl (Or.inr rfl)) pgs_nil)))) (pss_cons (ps_setLc (i := 7) (wi := iRng1 _) (g := gName 13) (own := [("_law_again", 13)]) (by rfl) nd rfl rfl (by rfl) (pi_range1 (by rfl) T.n_range (pa_cons (pe_call G__law_draw (hr.mono (by omega)) (by rfl) D__law_draw.g D__law_draw.F.kp D__law_draw.b .nil pass0 (pa_cons (pv 3) (pa_cons pe_int pa_nil))) pa_nil)) (blkOk_by (by kernel_rfl)) (fun _ _ _ _ _ => (pg_name (i := 13) nd rfl (Or.inl rfl))) (fun _ _ _ _ _ => pts_nil) (fun _ _ _ _ _ => (pe_call G__law_fact (hr.mono (by omega)) (by rfl) D__law_fact.g D__law_fact.F.kp D__law_fact.b .nil pass0 (pa_cons (pv 3) (pa_cons (pv 10) (pa_cons (pv 11) pa_nil)))))) (pss_cons (ps_if (PW.pt (pw_and (pt_cmpR (r := rNeD K) (op_neD hr.units) (pv 7) (pe_lst pa_nil) (nomark _)) (pw_and1 (pt_cmpR op_eq (pe_call G__law_draw (hr.mono (by omega)) (by rfl) D__law_draw.g D__law_draw.F.kp D__law_draw.b .nil pass0 (pa_cons (pv 3) (pa_cons pe_int pa_nil))) pe_int (nomark _))))) (pss_cons (ps_set (i := 12) nd rfl (Or.inl rfl) (pe_call G__law_draw (hr.mono (by omega)) (by rfl) D__law_draw.g D__law_draw.F.kp D__law_draw.b .nil pass0 (pa_cons (pv 3) (pa_cons (pe_callB (r := rLenQ K) call_len_seq (by rfl) T.n_len PySem.boot_len (pa_cons (pv 7) pa_nil)) pa_nil)))) (pss_one (ps_asg (pe_call G__law_bent (hr.mono (by omega)) (by rfl) D__law_bent.g D__law_bent.F.kp D__law_bent.b .nil pass0 (pa_cons (pv 3) (pa_cons (pe_ix (r := rIxL K) ix_list (pv 7) (pv 12) (fun _ _ => rfl)) pa_nil))) (pg_sub (pv 7) (pv 12) set_list)))) pss_nil) (pss_cons (ps_set (i := 8) nd rfl (Or.inl rfl) (pe_callTy (r := rLstQ K) call_list_of (by rfl) T.n_list PyProof.Rows.boot_list (pa_cons (pv 7) pa_nil))) (pss_cons (ps_for PassesOwn.never rfl (pi_list (pe_lst (pa_cons (pv 7) (pa_cons (pe_callTy (r := rTupQ K) call_tuple_of (by rfl) T.n_tuple PyProof.Rows.boot_tuple (pa_cons (pv 7) pa_nil)) pa_nil)))) (pg_name (i := 6) nd rfl (Or.inl rfl)) (pss_one (ps_if (pt_cmpR (r := rNeD K) (op_neD hr.units) (pe_call G__law_told (hr.mono (by omega)) (by rfl) D__law_told.g D__law_told.F.kp D__law_told.b .nil pass0 (pa_cons (pv 10) (pa_cons (pv 11) (pa_cons (pv 6) pa_nil)))) (pe_call G__law_due (hr.mono (by omega)) (by rfl) D__law_due.g D__law_due.F.kp D__law_due.b .nil pass0 (pa_cons (pv 10) (pa_cons (pv 11) (pa_cons (pv 6) pa_nil)))) (nomark _)) (pss_one (ps_ret pe_bl)) pss_nil))) (pss_cons (ps_if (pt_cmpR (r := rNeD K) (op_neD hr.units) (pv 7) (pv 8) (nomark _)) (pss_one (ps_ret pe_bl)) pss_nil) (pss_one (ps_for PassesOwn.never rfl (pi_list (pe_lst (pa_cons pe_int (pa_cons pe_int (pa_cons pe_bl (pa_cons pe_non pa_nil)))))) (pg_name (i := 9) nd rfl (Or.inl rfl)) (pss_one (ps_if (PW.pt (pw_or (pt_cmpR (r := rNeD K) (op_neD hr.units) (pe_call G__law_told (hr.mono (by omega)) (by rfl) D__law_told.g D__law_told.F.kp D__law_told.b .nil pass0 (pa_cons (pv 9) (pa_cons (pv 11) (pa_cons pe_non pa_nil)))) (pe_lst (pa_cons pe_str (pa_cons (pv 9) pa_nil))) (nomark _)) (pw_or1 (pt_cmpR (r := rNeD K) (op_neD hr.units) (pe_call G__law_told (hr.mono (by omega)) (by rfl) D__law_told.g D__law_told.F.kp D__law_told.b .nil pass0 (pa_cons (pv 10) (pa_cons (pv 9) (pa_cons (pv 7) pa_nil)))) (pe_lst (pa_cons pe_str (pa_cons (pv 9) pa_nil))) (nomark _))))) (pss_one (ps_ret pe_bl)) pss_nil))))))))))) (pss_cons (ps_set (i := 5) nd rfl (Or.inl rfl) (pe_lst (pa_cons (pe_tup (pa_cons (pe_tup (pa_cons pe_str (pa_cons (pe_tup (pa_cons pe_int (pa_cons pe_int pa_nil))) pa_nil))) (pa_cons pe_int (pa_cons pe_int pa_nil)))) (pa_cons (pe_tup (pa_cons (pe_tup (pa_cons pe_str (pa_cons (pe_tup (pa_cons pe_int (pa_cons pe_int pa_nil))) pa_nil))) (pa_cons pe_int (pa_cons pe_int pa_nil)))) (pa_cons (pe_tup (pa_cons (pe_tup (pa_cons pe_str (pa_cons (pe_tup (pa_cons pe_int (pa_cons pe_int pa_nil))) pa_nil))) (pa_cons pe_int (pa_cons pe_int pa_nil)))) pa_nil))))) (pss_cons (ps_expr (pe_bm PySem.F.plainAttrs_list PySem.F.slot_list_append PySem.F.type_list_append mt_append (pv 5) (pa_cons (pe_tup (pa_cons (pe_tup (pa_cons pe_str (pa_cons (pe_tup (pa_cons pe_int (pa_cons pe_int pa_nil))) pa_nil))) (pa_cons pe_int (pa_cons (pe_op op_pow pe_int pe_int) pa_nil)))) pa_nil))) (pss_cons (ps_if (PW.pt (pw_or (pt_cmpR (r := rNeD K) (op_neD hr.units) (pe_call G__law_told (hr.mono (by omega)) (by rfl) D__law_told.g D__law_told.F.kp D__law_told.b .nil pass0 (pa_cons pe_int (pa_cons pe_int (pa_cons (pv 5) pa_nil)))) (pe_lst (pa_cons pe_str (pa_cons (pe_tup (pa_cons pe_int (pa_cons pe_int pa_nil))) pa_nil))) (nomark _)) (pw_or1 (pt_cmpR (r := rNeD K) (op_neD hr.units) (pe_call G__law_told (hr.mono (by omega)) (by rfl) D__law_told.g D__law_told.F.kp D__law_told.b .nil pass0 (pa_cons pe_int (pa_cons pe_int (pa_cons (pe_slice (r := rSlL K) sl_list (pv 5) (po_some pe_int) po_none) pa_nil)))) (pe_lst (pa_cons pe_str (pa_cons (pe_tup (pa_cons pe_int (pa_cons pe_int pa_nil))) pa_nil))) (nomark _))))) (pss_one (ps_ret pe_bl)) pss_nil) (pss_one (ps_for PassesOwn.never rfl (pi_list (pe_lst (pa_cons pe_non (pa_cons pe_int (pa_cons pe_dnewK (pa_cons pe_str (pa_cons (pe_lst (pa_cons (pe_tup (pa_cons pe_str pa_nil)) pa_nil)) (pa_cons (pe_lst (pa_cons pe_non pa_nil)) (pa_cons (pe_op op_rep (pe_lst (pa_cons (pe_tup (pa_cons (pe_tup (pa_cons pe_str pa_nil)) (pa_cons pe_int (pa_cons pe_int pa_nil)))) pa_nil)) pe_int) (pa_cons (pe_op op_rep (pe_lst (pa_cons (pe_tup (pa_cons (pe_tup (pa_cons pe_str pa_nil)) (pa_cons pe_int (pa_cons pe_int pa_nil)))) pa_nil)) pe_int) pa_nil)))))))))) (pg_name (i := 6) nd rfl (Or.inl rfl)) (pss_one (ps_if (pt_cmpR (r := rNeD K) (op_neD hr.units) (pe_call G__law_told (hr.mono (by omega)) (by rfl) D__law_told.g D__law_told.F.kp D__law_told.b .nil pass0 (pa_cons pe_int (pa_cons pe_int (pa_cons (pv 6) pa_nil)))) (pe_call G__law_due (hr.mono (by omega)) (by rfl) D__law_due.g D__law_due.F.kp D__law_due.b .nil pass0 (pa_cons pe_int (pa_cons pe_int (pa_cons (pv 6) pa_nil)))) (nomark _)) (pss_one (ps_ret pe_bl)) pss_nil)))))))))) (pss_one (ps_ret (pe_cmpR op_eq (pe_callB (r := OwL.rLenO C (spLenZ K C) E0) (OwL.cr_lenO G_len a_len i_len b_len (hr.mono (by omega)) pass0) (by rfl) T.n_len PySem.boot_len (pa_cons (TA5.pe_makeS FK.mkc G_init (hr.mono (by omega)) (by rfl) FK.gC b_dflt (show Vals [V.ref TD0] [Value.ref TD0] from .cons rfl .nil) (fun σ => passAt (W := fun _ _ _ _ => False) takes0 σ) (pa_cons pe_int (pa_cons pe_int pa_nil))) pa_nil)) pe_int (nomark _))))), ?_⟩
    -- the list that is walked
    refine ⟨.ref a0, rfl, 6, rfl, a0, _, rfl, hS, fun p1 hp1 => ?_⟩
    have e1 : Evl.Ex H (upd H p1 (.lst (cutV (ns.map V.int) none (some 6)))) := Ex.new hp1
    have l1 : (upd H p1 (.lst (cutV (ns.map V.int) none (some 6)))) p1 = some (.lst (cutV (ns.map V.int) none (some 6))) := upd_same
    generalize upd H p1 (.lst (cutV (ns.map V.int) none (some 6))) = H1 at e1 l1
    refine ⟨by decide, fun p2 hp2 => ?_⟩
    have e2 : Evl.Ex H1 (upd H1 p2 (.lst [.int 7])) := Ex.new hp2
    have l2 : (upd H1 p2 (.lst [.int 7])) p2 = some (.lst [.int 7]) := upd_same
    generalize upd H1 p2 (.lst [.int 7]) = H2 at e2 l2
    refine ⟨.ref a0, rfl, by decide, fun p3 hp3 => ?_⟩
    have e3 : Evl.Ex H2 (upd H2 p3 (.lst [])) := Ex.new hp3
    have l3 : (upd H2 p3 (.lst [])) p3 = some (.lst []) := upd_same
    generalize upd H2 p3 (.lst []) = H3 at e3 l3
    refine ⟨.list (ns.map PyData.int), .list [], .lst (ex_l ((e1.trans e2).trans e3) hS) (dpAll_int2 ns), .lst (sq_of l3) .nil, shaped_int2 ns, rfl, ?_⟩
    generalize PyData.eqv (.list (ns.map PyData.int)) (.list []) = bb
    refine .inr ⟨bb, rfl, p2, _, [.int 7], rfl, rfl, e3 _ _ l2, by cases bb <;> decide, by cases bb <;> decide, by cases bb <;> decide, fun p4 hp4 => ?_⟩
    have l4 : (upd H3 p4 (.lst (List.replicate (Int.toNat (if bb = true then 1 else 0)) [V.int 7]).flatten)) p4 = some (.lst (List.replicate (Int.toNat (if bb = true then 1 else 0)) [V.int 7]).flatten) := upd_same
    have e4 : Evl.Ex H3 (upd H3 p4 (.lst (List.replicate (Int.toNat (if bb = true then 1 else 0)) [V.int 7]).flatten)) := Ex.new hp4
    have hz4 : ∀ x ∈ (List.replicate (Int.toNat (if bb = true then 1 else 0)) [V.int 7]).flatten, ∃ c : Int, x = .int c := fun x hx => by
      cases bb <;> simp at hx; exact ⟨7, hx⟩
    have hl4 : (List.replicate (Int.toNat (if bb = true then 1 else 0)) [V.int 7]).flatten.length ≤ 1 := by cases bb <;> decide
    generalize (List.replicate (Int.toNat (if bb = true then 1 else 0)) [V.int 7]).flatten = zs4 at l4 e4 hz4 hl4
    generalize upd H3 p4 (.lst zs4) = H4 at l4 e4
    have hz1 : ∀ x ∈ cutV (ns.map V.int) none (some 6), ∃ c : Int, x = .int c := fun x hx => by
      have := List.mem_of_mem_drop (List.mem_of_mem_take hx)
      obtain ⟨c, _, e⟩ := List.mem_map.mp this
      exact ⟨c, e.symm⟩
    have hl1 : (cutV (ns.map V.int) none (some 6)).length ≤ 63 := by
      unfold cutV
      simp only [List.length_take, List.length_drop, List.length_map]
      omega
    generalize cutV (ns.map V.int) none (some 6) = zs1 at hz1 hl1 l1
    refine ⟨p1, p4, zs1, zs4, rfl, rfl, ((e2.trans e3).trans e4) _ _ l1, l4, sz_of (by omega), fun p5 hp5 => ?_⟩
    have l5 : (upd H4 p5 (.lst (zs1 ++ zs4))) p5 = some (.lst (zs1 ++ zs4)) := upd_same
    have hz5 : ∀ x ∈ zs1 ++ zs4, ∃ c : Int, x = .int c := fun x hx => (List.mem_append.mp hx).elim (hz1 x) (hz4 x)
    have hl5 : (zs1 ++ zs4).length ≤ 64 := by rw [List.length_append]; omega
    generalize zs1 ++ zs4 = zs at l5 hz5 hl5
    generalize upd H4 p5 (.lst zs) = H5 at l5
    refine ⟨p5, zs, rfl, sq_of l5, ?_⟩
    refine for_enum (fun i σ H' => ∃ s1 s2 s3 s4 s5 s6 s7 s8 s9 s10 s11 s12 s13, σ = [some (.ref a0), s1, s2, s3, s4, s5, s6, s7, s8, s9, s10, s11, s12, s13] ∧ H' p5 = some (.lst zs)) ⟨_, _, _, _, _, _, _, _, _, _, _, _, _, rfl, l5⟩ (fun i σ H' ⟨_, _, _, _, _, _, _, _, _, _, _, _, _, _, hl⟩ => sq_of hl) (fun i x T σ H' hx ⟨s1, s2, s3, s4, s5, s6, s7, s8, s9, s10, s11, s12, s13, hs, hl⟩ hT => ?_) (fun σ H' ⟨s1, s2, s3, s4, s5, s6, s7, s8, s9, s10, s11, s12, s13, hs, hl⟩ => ?_)
    · obtain ⟨c, rfl⟩ := hz5 x (List.mem_of_getElem? hx)
      subst hs
      have hi : i < 64 := by have := (List.getElem?_eq_some_iff.mp hx).1; omega
      have hTl : (upd H' T (.tup [.int (i : Int), .int c])) p5 = some (.lst zs) := Ex.new hT _ _ hl
      have hTT : (upd H' T (.tup [.int (i : Int), .int c])) T = some (.tup [.int (i : Int), .int c]) := upd_same
      generalize upd H' T (.tup [.int (i : Int), .int c]) = H6 at hTl hTT
      refine ⟨T, _, rfl, st_of hTT, rfl, _, _, rfl, _, _, rfl, rfl, ?_⟩
      -- the state
      refine ⟨_, rfl, _, rfl, 2100, (i : Int), rfl, rfl, c, 2100 + (i : Int), 260, rfl, ⟨by omega, by omega⟩, by decide, fun s H7 e7 hs0 ⟨p, xs, d7⟩ => ?_⟩
      have hps : p5 ≠ s := fun z => by rw [← z, hTl] at hs0; cases hs0
      have l7 := e7 _ _ hTl
      clear hT hTT hx hl hTl hs0
      refine q_forR1 (n := 5) (ea_cons ev_c ea_nil) (by decide) (fun j σ H' => ∃ s4 s5 s6 s7 s8 s9 s10 s11 s12 s13, σ = [some (.ref a0), some (.int (i : Int)), some (.int c), some (.ref s), s4, s5, s6, s7, s8, s9, s10, s11, s12, s13] ∧ Dr s p xs H' ∧ H' p5 = some (.lst zs))
        (fun H8 e8 => ⟨_, _, _, _, _, _, _, _, _, _, rfl, d7.ex e8, e8 _ _ l7⟩) (fun j σ H8 hj ⟨s4, s5, s6, s7, s8, s9, s10, s11, s12, s13, hs, d8, l8⟩ => ?_) (fun σ H8 ⟨s4, s5, s6, s7, s8, s9, s10, s11, s12, s13, hs, d8, l8⟩ => ?_)
      · subst hs
        -- the sizes
        refine q_asgG (tup2 (opD (draw_i (i := 3) (p := p) (xs := xs) (m := 4) rfl evp_c (by decide) d8 fun a H9 g9 d9 ha0 ha5 => ⟨1, a, rfl, rfl, opD (draw_i (i := 3) (p := p) (xs := xs) (m := 4) rfl evp_c (by decide) d9 fun b H10 g10 d10 hb0 hb5 => ⟨1, b, rfl, rfl, sz_of (show 2 ≤ 100000 by decide), fun T0 hT0 => ⟨T0, _, rfl, st_of upd_same, rfl, _, _, rfl, _, _, rfl, rfl, ?_⟩⟩)⟩)))
        have d10 := d10.ex (Ex.new (o := .tup [.int (1 + a), .int (1 + b)]) hT0)
        have g10 : Gs s H9 (upd H10 T0 (.tup [.int (1 + a), .int (1 + b)])) := g10.trans (Gs.of (Ex.new hT0))
        generalize upd H10 T0 (.tup [.int (1 + a), .int (1 + b)]) = H10 at d10 g10
        obtain ⟨l, hl⟩ : ∃ l : Nat, (1 + a : Int) = l := ⟨(1 + a).toNat, by omega⟩
        obtain ⟨r, hr0⟩ : ∃ r : Nat, (1 + b : Int) = r := ⟨(1 + b).toNat, by omega⟩
        have hl15 : 1 ≤ l ∧ l ≤ 4 := by omega
        have hr15 : 1 ≤ r ∧ r ≤ 4 := by omega
        have hd : (1 ≤ l ∧ l ≤ 8) ∧ 1 ≤ r ∧ r ≤ 8 := ⟨by omega, by omega⟩
        dsimp only
        rw [hl, hr0]
        simp only [List.set_cons_zero, List.set_cons_succ]
        have l10 := g10 _ _ hps (g9 _ _ hps l8)
        clear g9 d9 g10 l8 d8 hl hr0 ha0 ha5 hb0 hb5
        -- the facts
        refine q_asgD (lcr_at1 (draw_i (i := 3) (p := p) (xs := xs) (m := 5) rfl evp_c (by decide) d10 fun m H11 g11 d11 hm0 hm5 => ?_))
        obtain ⟨m, rfl⟩ : ∃ m' : Nat, m = m' := ⟨m.toNat, by omega⟩
        have l11 := g11 _ _ hps l10
        refine facts_at (σ := [some (.ref a0), some (.int (i : Int)), some (.int c), some (.ref s), some (.int (j : Int)), s5, s6, s7, s8, s9, some (.int (l : Int)), some (.int (r : Int)), s12, s13]) (te := tCall spFct [] E0 (tCons (tVar 3) (tCons (tVar 10) (tCons (tVar 11) tNil)))) (n := m) (l := l) (r := r) (j := 13) (ws := [13]) (p := p) (xs := xs) d11 (by omega) (fun _ => rfl) (fun i' hi' H12 g12 d12 Q' q' => (show tCall spFct [] E0 _ _ H12 _ from ⟨.ref s, rfl, .int (l : Int), rfl, .int (r : Int), rfl, s, p, xs, l, r, rfl, d12, hd.1, hd.2, fun v H2 f g d hv he => q' v H2 g d ⟨f, hv, he⟩⟩)) fun v7 H13 fs g13 d13 h7 hfl hok => ?_
        have l13 := g13 _ _ hps l11
        clear g11 d11 l11 l10 d10 g13
        obtain ⟨pf, ys0, rfl, hp0, pr0⟩ := h7
        simp only [List.set_cons_zero, List.set_cons_succ]
        refine bend_at (l := l) (r := r) (pf := pf) (p5 := p5) (zs := zs) (p := p) (xs := xs) d13 ⟨pf, ys0, rfl, hp0, pr0⟩ hok (by omega) (by omega) (by omega) l13 hps hz5 fun es s12 H14 d14 l14 h14 ok14 hl14 => ?_
        clear pr0 hp0 hok hfl d13 l13
        obtain ⟨pf', ys, epf, hpf, prE⟩ := h14
        cases epf
        refine q_asgP (P := Ls ys) (evp_lstQ (evp_var (i := 7) rfl ⟨pf, rfl, hpf⟩ mono_ls)) fun v8 H15 e15 h15 => ?_
        simp only [List.set_cons_zero, List.set_cons_succ]
        have w7E : ∀ {σ2 : L2.St} {H2 : Hp}, σ2[7]? = some (some (.ref pf)) → Evl.Ex H15 H2 → EvP (tVar 7) σ2 H2 (LsP Fe es) := fun h e => evp_var h (mono_lsP fe_mono _ _ _ (e15.trans e) ⟨pf, ys, rfl, hpf, prE⟩) (mono_lsP fe_mono)
        have w7L : ∀ {σ2 : L2.St} {H2 : Hp}, σ2[7]? = some (some (.ref pf)) → Evl.Ex H15 H2 → EvP (tVar 7) σ2 H2 (Ls ys) := fun h e => evp_var h ⟨pf, rfl, e _ _ (e15 _ _ hpf)⟩ mono_ls
        have w8 : ∀ {σ2 : L2.St} {H2 : Hp}, σ2[8]? = some (some v8) → Evl.Ex H15 H2 → EvP (tVar 8) σ2 H2 (Ls ys) := fun h e => evp_var h (mono_ls _ _ _ e h15) mono_ls
        have wl : ∀ {σ2 : L2.St} {H2 : Hp}, σ2[10]? = some (some (.int (l : Int))) → EvP (tVar 10) σ2 H2 (Is (.int (l : Int))) := fun h => evp_var h rfl mono_is
        have wr : ∀ {σ2 : L2.St} {H2 : Hp}, σ2[11]? = some (some (.int (r : Int))) → EvP (tVar 11) σ2 H2 (Is (.int (r : Int))) := fun h => evp_var h rfl mono_is
        have r15 := Ex.refl H15
        refine q_forAllG (K := K) (n := 2) (P := LT es) mono_lt (al_cons mono_lt ((w7E rfl r15).imp fun _ _ _ h => .inl h) (al_cons mono_lt ((evp_tupE fe_mono (w7E rfl r15)).imp fun _ _ _ h => .inr h) al_nil)) (by decide)
          (fun σ2 H1 => ∃ s6, σ2 = [some (.ref a0), some (.int (i : Int)), some (.int c), some (.ref s), some (.int (j : Int)), s5, s6, some (.ref pf), some v8, s9, some (.int (l : Int)), some (.int (r : Int)), s12, s13] ∧ Evl.Ex H15 H1) (fun H1 e1 => ⟨_, rfl, e1⟩) (fun J x σ2 H1 ⟨s6, hs, ex⟩ hx hJ => ?_) (fun σ2 H1 ⟨s6, hs, ex⟩ => ?_)
        · subst hs
          refine ?_
          simp only [List.set_cons_zero, List.set_cons_succ]
          exact s_when (b := false) (et_tl (K := K) ok14 (evp_toldG hd ok14 (wl rfl) (wr rfl) (evp_var (i := 6) rfl hx mono_lt)) (evp_dueG hd ok14 (wl rfl) (wr rfl) (evp_var (i := 6) rfl hx mono_lt))) (fun z => nomatch z) fun _ H2 e2 => hJ _ H2 e2 ⟨_, rfl, ex.trans e2⟩
        subst hs
        refine q_when (b := false) (et_sameL (K := K) (Paired.impl (fun _ _ h => fe_mono _ _ _ _ (e15.trans ex) h) prE) ok14 (w7L rfl ex) (w8 rfl ex)) (fun z => nomatch z) fun _ H2 e2 => ?_
        have ex2 := ex.trans e2
        refine s_forAllG (K := K) (n := 4) (P := OdS) mono_ods (al_cons mono_ods (ods_c (x := .int 0) (d := .int 0) rfl rfl (by decide +kernel)) (al_cons mono_ods (ods_c (x := .int 9) (d := .int 9) rfl rfl (by decide +kernel)) (al_cons mono_ods (ods_c (x := .bl true) (d := .bool true) rfl rfl (by decide +kernel)) (al_cons mono_ods (ods_c (x := .non) (d := .none) rfl rfl (by decide +kernel)) al_nil)))) (by decide)
          (fun σ2 H1 => ∃ s9, σ2 = [some (.ref a0), some (.int (i : Int)), some (.int c), some (.ref s), some (.int (j : Int)), s5, s6, some (.ref pf), some v8, s9, some (.int (l : Int)), some (.int (r : Int)), s12, s13] ∧ Evl.Ex H15 H1) (fun H1 e1 => ⟨_, rfl, ex2.trans e1⟩) (fun J x σ2 H1 ⟨s9, hs, ex⟩ ⟨dx, hx1, hx2, hx3⟩ hJ => ?_) (fun σ2 H1 ⟨s9, hs, ex⟩ => ?_)
        · subst hs
          refine ?_
          simp only [List.set_cons_zero, List.set_cons_succ]
          exact s_when (b := false) (et_is (et_or (a := false) (b := false) (e_same (K := K) hx1 hx3 (evp_told1 hx1 hx2 (evp_var (i := 9) rfl rfl mono_is) (wr rfl) (evp_any (evp_c (v := .non)))) (evp_msg (i := 9) rfl)) fun _ => e_same (K := K) hx1 hx3 (evp_told2 hd.1 hx1 hx2 (wl rfl) (evp_var (i := 9) rfl rfl mono_is) (evp_any (w7E rfl ex))) (evp_msg (i := 9) rfl)) rfl) (fun z => nomatch z) fun _ H2 e2 => hJ _ H2 e2 ⟨_, rfl, ex.trans e2⟩
        subst hs
        exact ⟨_, _, _, _, _, _, _, _, _, _, rfl, d14.ex (e15.trans ex), ex _ _ (e15 _ _ l14)⟩
      subst hs
      -- four facts
      refine q_asgP (P := LsP Fv (fs4.take 3)) (evp_l3 (evp_fLeft (evp_c (v := .int 1))) (evp_fRight (evp_c (v := .int 1))) (evp_fRight (evp_c (v := .int 0)))) fun v5 H1 e1 h5 => ?_
      obtain ⟨pb, yb, rfl, hpb, prb⟩ := h5
      simp only [List.set_cons_zero, List.set_cons_succ]
      have hryb := paired_refs (fun y f h => ref_fv _ _ _ h) prb
      have hynb : yb ≠ [] := fun z => by have := Paired.len prb; rw [z] at this; cases this
      refine (show tSeq (tDrop (tBM K "list" rAppend (tVar 5) (tCons _ tNil))) _ _ _ H1 from s_appX (K := K) rfl hpb (evp_fLeft evp_pow50 H1 (Ex.refl _) _ fun v H2 e2 hv => ⟨pb, yb, v, rfl, rfl, e2 _ _ hpb, sz_lt (by have := Paired.len prb; rw [this]; decide), ?_⟩))
      have hp2 := e2 _ _ hpb
      have l2 : (upd H2 pb (.lst (yb ++ [v]))) p5 = some (.lst zs) := by
        rw [upd_ne (ne_ints hz5 (e2 _ _ (e1 _ _ l8)) hp2 hryb hynb)]
        exact e2 _ _ (e1 _ _ l8)
      have h5 : LsP Fv fs4 (.ref pb) (upd H2 pb (.lst (yb ++ [v]))) := ⟨pb, _, rfl, upd_same, Paired.app (ys := fs4.take 3) (ys' := [⟨.left [1, 2], 0, some (10 ^ 50)⟩]) (Paired.impl (fun _ _ h => mf_fv _ _ _ _ (Fx.lst hp2) (fv_mono _ _ _ _ e2 h)) prb) (.cons (mf_fv _ _ _ _ (Fx.lst hp2) hv) .nil)⟩
      generalize upd H2 pb (.lst (yb ++ [v])) = H3 at l2 h5
      clear prb hpb hp2 hv hryb hynb
      have w5 : ∀ {σ2 : L2.St}, σ2[5]? = some (some (.ref pb)) → EvP (tVar 5) σ2 H3 (LsP Fv fs4) := fun h => evp_var h h5 (mono_lsP fv_mono)
      have i3 : ∀ {σ2 : L2.St} {H2 : Hp}, EvP (tC (.int 3)) σ2 H2 (Is (.int ((3 : Nat) : Int))) := evp_is evp_c rfl
      refine q_when (b := false) (et_is (et_or (a := false) (b := false) (et_tlE (K := K) (l := 3) (r := 3) fs4_ok err4 (evp_toldG (l := 3) (r := 3) (by decide) fs4_ok i3 i3 ((w5 rfl).imp fun _ _ _ h => .inl (lsP_some.mpr h))) (evp_pairL (i := 0) (j := 3))) fun _ => et_tlE (K := K) (l := 3) (r := 3) fs3_ok err3 (evp_toldG (l := 3) (r := 3) (by decide) fs3_ok i3 i3 ((evp_cutD (K := K) (n := 1) (w5 rfl) fun _ => evp_is (evp_c (v := .int 1)) rfl).imp fun _ _ _ h => .inl (lsP_some.mpr h))) (evp_pairL (i := 0) (j := 1))) rfl) (fun z => nomatch z) fun _ H4 e4 => ?_
      have i2 : ∀ {σ2 : L2.St} {H2 : Hp}, EvP (tC (.int 2)) σ2 H2 (Is (.int ((2 : Nat) : Int))) := evp_is evp_c rfl
      have l4 := e4 _ _ l2
      refine s_forAllG (K := K) (n := 8) (P := Wk K) mono_wk (al_cons mono_wk (wk_c (a := "NoneType") (fun _ => .non) (by decide +kernel) (by decide +kernel)) (al_cons mono_wk (wk_c (a := "int") (fun _ => .int _) (by decide +kernel) (by decide +kernel)) (al_cons mono_wk wk_dict (al_cons mono_wk (wk_c (a := "str") (fun _ => .str _) (by decide +kernel) (by decide +kernel))
        (al_cons mono_wk (wk_one (e := none) ⟨by decide, by decide⟩ evp_odd1) (al_cons mono_wk (wk_one (e := none) ⟨by decide, by decide⟩ (EvP.imp (P := Is .non) evp_c fun v H _ h => by rw [show v = .non from h]; exact odd_non)) (al_cons mono_wk (wk_rep (m := 40) (by decide) (evp_fA (lo := 1) (h := 1))) (al_cons mono_wk (wk_rep (m := 41) (by decide) (evp_fA (lo := 1) (h := 1))) al_nil)))))))) (by decide)
        (fun σ2 H1 => ∃ s6, σ2 = [some (.ref a0), some (.int (i : Int)), some (.int c), some (.ref s), s4, some (.ref pb), s6, s7, s8, s9, s10, s11, s12, s13] ∧ Evl.Ex H4 H1) (fun H1 e1 => ⟨_, rfl, e1⟩) (fun J x σ2 H1 ⟨s6, hs, ex⟩ hx hJ => ?_) (fun σ2 H1 ⟨s6, hs, ex⟩ => ?_)
      · subst hs
        refine ?_
        simp only [List.set_cons_zero, List.set_cons_succ]
        exact s_when (b := false) (et_wk (K := K) hx i2 i2 (fun P m h => evp_var (i := 6) rfl h m)) (fun z => nomatch z) fun _ H2 e2 => hJ _ H2 e2 ⟨_, rfl, ex.trans e2⟩
      subst hs
      exact ⟨_, _, _, _, _, _, _, _, _, _, _, _, _, rfl, ex _ _ l4⟩
    subst hs
    exact s_ret (EvP.ev (v := .bl true) (evp_is (evp_eq (evp_lenZ (K := K) (C := C) hTD (mk_dflt (K := K) (l := 1) (r := 1) hTD (by decide) (by decide) (evp_is evp_c rfl) (evp_is evp_c rfl))) (evp_c (v := .int 0)) rfl) (by simp))) fun H2 e2 => q H2
end
end K20
namespace K20
open PySem PySem.Spec PyProof.Rows L2 Evl RZ Ev2 TA5
open Ow
theorem all_mk {l : PySem.W.OpenLaw} {w : World} {K : PySem.W.Frag} {h : Heap} {mg : Str → Option Value} {fa : Addr} (X : K.In h) (G : h.Ns mainGlobals mg) (hfa : mg "law" = some (.ref fa))
    {CF : Addr}
    {tk tk2 : Tok}
    {f_is_whole : Addr} {od_is_whole an_is_whole : Option Addr} {sl_is_whole : Array (Option Value)} {oc_is_whole kV_is_whole dc_is_whole pm_is_whole cd_is_whole ct_is_whole : Value}
    {f_is_count : Addr} {od_is_count an_is_count : Option Addr} {sl_is_count : Array (Option Value)} {oc_is_count kV_is_count dc_is_count pm_is_count cd_is_count ct_is_count : Value}
    {f_is_below : Addr} {od_is_below an_is_below : Option Addr} {sl_is_below : Array (Option Value)} {oc_is_below kV_is_below dc_is_below pm_is_below cd_is_below ct_is_below : Value}
    {f_is_ascending : Addr} {od_is_ascending an_is_ascending : Option Addr} {sl_is_ascending : Array (Option Value)} {oc_is_ascending kV_is_ascending dc_is_ascending pm_is_ascending cd_is_ascending ct_is_ascending : Value}
    {f_is_size : Addr} {od_is_size an_is_size : Option Addr} {sl_is_size : Array (Option Value)} {oc_is_size kV_is_size dc_is_size pm_is_size cd_is_size ct_is_size : Value}
    {f_check_sizes : Addr} {od_check_sizes an_check_sizes : Option Addr} {sl_check_sizes : Array (Option Value)} {oc_check_sizes kV_check_sizes dc_check_sizes pm_check_sizes cd_check_sizes ct_check_sizes : Value}
    {f_is_values : Addr} {od_is_values an_is_values : Option Addr} {sl_is_values : Array (Option Value)} {oc_is_values kV_is_values dc_is_values pm_is_values cd_is_values ct_is_values : Value}
    {f_has_where_form : Addr} {od_has_where_form an_has_where_form : Option Addr} {sl_has_where_form : Array (Option Value)} {oc_has_where_form kV_has_where_form dc_has_where_form pm_has_where_form cd_has_where_form ct_has_where_form : Value}
    {f_is_where : Addr} {od_is_where an_is_where : Option Addr} {sl_is_where : Array (Option Value)} {oc_is_where kV_is_where dc_is_where pm_is_where cd_is_where ct_is_where : Value}
    {f_is_fact : Addr} {od_is_fact an_is_fact : Option Addr} {sl_is_fact : Array (Option Value)} {oc_is_fact kV_is_fact dc_is_fact pm_is_fact cd_is_fact ct_is_fact : Value}
    {f_crosses : Addr} {od_crosses an_crosses : Option Addr} {sl_crosses : Array (Option Value)} {oc_crosses kV_crosses dc_crosses pm_crosses cd_crosses ct_crosses : Value}
    {f_first_crossing : Addr} {od_first_crossing an_first_crossing : Option Addr} {sl_first_crossing : Array (Option Value)} {oc_first_crossing kV_first_crossing dc_first_crossing pm_first_crossing cd_first_crossing ct_first_crossing : Value}
    {f_check_facts : Addr} {od_check_facts an_check_facts : Option Addr} {sl_check_facts : Array (Option Value)} {oc_check_facts kV_check_facts dc_check_facts pm_check_facts cd_check_facts ct_check_facts : Value}
    {f_law_numbers : Addr} {od_law_numbers an_law_numbers : Option Addr} {sl_law_numbers : Array (Option Value)} {oc_law_numbers kV_law_numbers dc_law_numbers pm_law_numbers cd_law_numbers ct_law_numbers : Value}
    {f_law_draw : Addr} {od_law_draw an_law_draw : Option Addr} {sl_law_draw : Array (Option Value)} {oc_law_draw kV_law_draw dc_law_draw pm_law_draw cd_law_draw ct_law_draw : Value}
    {f_law_pool : Addr} {od_law_pool an_law_pool : Option Addr} {sl_law_pool : Array (Option Value)} {oc_law_pool kV_law_pool dc_law_pool pm_law_pool cd_law_pool ct_law_pool : Value}
    {f_law_whole : Addr} {od_law_whole an_law_whole : Option Addr} {sl_law_whole : Array (Option Value)} {oc_law_whole kV_law_whole dc_law_whole pm_law_whole cd_law_whole ct_law_whole : Value}
    {f_law_is_fact : Addr} {od_law_is_fact an_law_is_fact : Option Addr} {sl_law_is_fact : Array (Option Value)} {oc_law_is_fact kV_law_is_fact dc_law_is_fact pm_law_is_fact cd_law_is_fact ct_law_is_fact : Value}
    {f_law_cross : Addr} {od_law_cross an_law_cross : Option Addr} {sl_law_cross : Array (Option Value)} {oc_law_cross kV_law_cross dc_law_cross pm_law_cross cd_law_cross ct_law_cross : Value}
    {f_law_due : Addr} {od_law_due an_law_due : Option Addr} {sl_law_due : Array (Option Value)} {oc_law_due kV_law_due dc_law_due pm_law_due cd_law_due ct_law_due : Value}
    {f_law_told : Addr} {od_law_told an_law_told : Option Addr} {sl_law_told : Array (Option Value)} {oc_law_told kV_law_told dc_law_told pm_law_told cd_law_told ct_law_told : Value}
    {f_law_values : Addr} {od_law_values an_law_values : Option Addr} {sl_law_values : Array (Option Value)} {oc_law_values kV_law_values dc_law_values pm_law_values cd_law_values ct_law_values : Value}
    {f_law_fact : Addr} {od_law_fact an_law_fact : Option Addr} {sl_law_fact : Array (Option Value)} {oc_law_fact kV_law_fact dc_law_fact pm_law_fact cd_law_fact ct_law_fact : Value}
    {f_law_bent : Addr} {od_law_bent an_law_bent : Option Addr} {sl_law_bent : Array (Option Value)} {oc_law_bent kV_law_bent dc_law_bent pm_law_bent cd_law_bent ct_law_bent : Value}
    {f_law : Addr} {od_law an_law : Option Addr} {sl_law : Array (Option Value)} {oc_law kV_law dc_law pm_law cd_law ct_law : Value}
    {f_m_listed : Addr} {od_m_listed an_m_listed : Option Addr} {sl_m_listed : Array (Option Value)} {oc_m_listed kV_m_listed dc_m_listed pm_m_listed cd_m_listed ct_m_listed : Value}
    {f_m_len : Addr} {od_m_len an_m_len : Option Addr} {sl_m_len : Array (Option Value)} {oc_m_len kV_m_len dc_m_len pm_m_len cd_m_len ct_m_len : Value}
    {f_p_left : Addr} {od_p_left an_p_left : Option Addr} {sl_p_left : Array (Option Value)} {oc_p_left kV_p_left dc_p_left pm_p_left cd_p_left ct_p_left : Value}
    {pr_left : Addr} {rs_left : List Value}
    {f_p_right : Addr} {od_p_right an_p_right : Option Addr} {sl_p_right : Array (Option Value)} {oc_p_right kV_p_right dc_p_right pm_p_right cd_p_right ct_p_right : Value}
    {pr_right : Addr} {rs_right : List Value}
    {TD TE : Addr} {ocT ocE : Value} {odT odE : Option Addr} {nT nE : Nat} {slT slE : Array (Option Value)}
    {f_ini : Addr} {od_ini an_ini : Option Addr} {sl_ini : Array (Option Value)} {oc_ini kV_ini dc_ini pm_ini cd_ini ct_ini : Value}
    {CP NP iP : Addr} {nmP qP : Str} {bsP subP : List Value} {abP : Bool} {snP : List Str} {colP : Option Bool} {ddP : Option Addr} {k0P k1P k2P k3P k5P : Option Value} {ocP dcP pmP cdP ctP : Value} {odP anP : Option Addr} {slP : Array (Option Value)} {p1P p2P q1P q2P q3P q4P : Pos} {SP : Addr}
    {CV NV iV : Addr} {nmV qV : Str} {bsV subV : List Value} {abV : Bool} {snV : List Str} {colV : Option Bool} {ddV : Option Addr} {k0V k1V k2V k3V k5V : Option Value} {ocV dcV pmV cdV ctV : Value} {odV anV : Option Addr} {slV : Array (Option Value)} {p1V p2V q1V q2V q3V q4V : Pos}
    (aF : PySem.W.nsIn K mainGlobals "Facts" = some (some (.ref CF)))
    (z_isinstance : PySem.W.nsIn K mainGlobals "isinstance" = some none)
    (z_int : PySem.W.nsIn K mainGlobals "int" = some none)
    (z_bool : PySem.W.nsIn K mainGlobals "bool" = some none)
    (z_tuple : PySem.W.nsIn K mainGlobals "tuple" = some none)
    (z_len : PySem.W.nsIn K mainGlobals "len" = some none)
    (z_all : PySem.W.nsIn K mainGlobals "all" = some none)
    (z_zip : PySem.W.nsIn K mainGlobals "zip" = some none)
    (z_range : PySem.W.nsIn K mainGlobals "range" = some none)
    (z_enumerate : PySem.W.nsIn K mainGlobals "enumerate" = some none)
    (z_max : PySem.W.nsIn K mainGlobals "max" = some none)
    (z_str : PySem.W.nsIn K mainGlobals "str" = some none)
    (z_list : PySem.W.nsIn K mainGlobals "list" = some none)
    (z_sorted : PySem.W.nsIn K mainGlobals "sorted" = some none)
    (z_set : PySem.W.nsIn K mainGlobals "set" = some none)
    (z_min : PySem.W.nsIn K mainGlobals "min" = some none)
    (z_MV : PySem.W.nsIn K mainGlobals "MOST_VALUES" = some (some (.int 8 tk)))
    (z_MF : PySem.W.nsIn K mainGlobals "MOST_FACTS" = some (some (.int 40 tk2)))
    (a_is_whole : PySem.W.nsIn K mainGlobals "is_whole" = some (some (.ref f_is_whole)))
    (l_is_whole : K.lookup f_is_whole = some ⟨oc_is_whole, od_is_whole, .func (PySem.W.fnOf "is_whole" "is_whole" (defArgs s_is_whole) (defBody s_is_whole) (defScope s_is_whole) .none kV_is_whole dc_is_whole pm_is_whole an_is_whole cd_is_whole ct_is_whole), sl_is_whole⟩)
    (c_is_whole : PySem.W.codeIn K cd_is_whole "is_whole" = true)
    (k_is_whole : PySem.W.keepIn K (.ref f_is_whole) = true)
    (a_is_count : PySem.W.nsIn K mainGlobals "is_count" = some (some (.ref f_is_count)))
    (l_is_count : K.lookup f_is_count = some ⟨oc_is_count, od_is_count, .func (PySem.W.fnOf "is_count" "is_count" (defArgs s_is_count) (defBody s_is_count) (defScope s_is_count) .none kV_is_count dc_is_count pm_is_count an_is_count cd_is_count ct_is_count), sl_is_count⟩)
    (c_is_count : PySem.W.codeIn K cd_is_count "is_count" = true)
    (k_is_count : PySem.W.keepIn K (.ref f_is_count) = true)
    (a_is_below : PySem.W.nsIn K mainGlobals "is_below" = some (some (.ref f_is_below)))
    (l_is_below : K.lookup f_is_below = some ⟨oc_is_below, od_is_below, .func (PySem.W.fnOf "is_below" "is_below" (defArgs s_is_below) (defBody s_is_below) (defScope s_is_below) .none kV_is_below dc_is_below pm_is_below an_is_below cd_is_below ct_is_below), sl_is_below⟩)
    (c_is_below : PySem.W.codeIn K cd_is_below "is_below" = true)
    (k_is_below : PySem.W.keepIn K (.ref f_is_below) = true)
    (a_is_ascending : PySem.W.nsIn K mainGlobals "is_ascending" = some (some (.ref f_is_ascending)))
    (l_is_ascending : K.lookup f_is_ascending = some ⟨oc_is_ascending, od_is_ascending, .func (PySem.W.fnOf "is_ascending" "is_ascending" (defArgs s_is_ascending) (defBody s_is_ascending) (defScope s_is_ascending) .none kV_is_ascending dc_is_ascending pm_is_ascending an_is_ascending cd_is_ascending ct_is_ascending), sl_is_ascending⟩)
    (c_is_ascending : PySem.W.codeIn K cd_is_ascending "is_ascending" = true)
    (k_is_ascending : PySem.W.keepIn K (.ref f_is_ascending) = true)
    (a_is_size : PySem.W.nsIn K mainGlobals "is_size" = some (some (.ref f_is_size)))
    (l_is_size : K.lookup f_is_size = some ⟨oc_is_size, od_is_size, .func (PySem.W.fnOf "is_size" "is_size" (defArgs s_is_size) (defBody s_is_size) (defScope s_is_size) .none kV_is_size dc_is_size pm_is_size an_is_size cd_is_size ct_is_size), sl_is_size⟩)
    (c_is_size : PySem.W.codeIn K cd_is_size "is_size" = true)
    (k_is_size : PySem.W.keepIn K (.ref f_is_size) = true)
    (a_check_sizes : PySem.W.nsIn K mainGlobals "check_sizes" = some (some (.ref f_check_sizes)))
    (l_check_sizes : K.lookup f_check_sizes = some ⟨oc_check_sizes, od_check_sizes, .func (PySem.W.fnOf "check_sizes" "check_sizes" (defArgs s_check_sizes) (defBody s_check_sizes) (defScope s_check_sizes) .none kV_check_sizes dc_check_sizes pm_check_sizes an_check_sizes cd_check_sizes ct_check_sizes), sl_check_sizes⟩)
    (c_check_sizes : PySem.W.codeIn K cd_check_sizes "check_sizes" = true)
    (k_check_sizes : PySem.W.keepIn K (.ref f_check_sizes) = true)
    (a_is_values : PySem.W.nsIn K mainGlobals "is_values" = some (some (.ref f_is_values)))
    (l_is_values : K.lookup f_is_values = some ⟨oc_is_values, od_is_values, .func (PySem.W.fnOf "is_values" "is_values" (defArgs s_is_values) (defBody s_is_values) (defScope s_is_values) .none kV_is_values dc_is_values pm_is_values an_is_values cd_is_values ct_is_values), sl_is_values⟩)
    (c_is_values : PySem.W.codeIn K cd_is_values "is_values" = true)
    (k_is_values : PySem.W.keepIn K (.ref f_is_values) = true)
    (a_has_where_form : PySem.W.nsIn K mainGlobals "has_where_form" = some (some (.ref f_has_where_form)))
    (l_has_where_form : K.lookup f_has_where_form = some ⟨oc_has_where_form, od_has_where_form, .func (PySem.W.fnOf "has_where_form" "has_where_form" (defArgs s_has_where_form) (defBody s_has_where_form) (defScope s_has_where_form) .none kV_has_where_form dc_has_where_form pm_has_where_form an_has_where_form cd_has_where_form ct_has_where_form), sl_has_where_form⟩)
    (c_has_where_form : PySem.W.codeIn K cd_has_where_form "has_where_form" = true)
    (k_has_where_form : PySem.W.keepIn K (.ref f_has_where_form) = true)
    (a_is_where : PySem.W.nsIn K mainGlobals "is_where" = some (some (.ref f_is_where)))
    (l_is_where : K.lookup f_is_where = some ⟨oc_is_where, od_is_where, .func (PySem.W.fnOf "is_where" "is_where" (defArgs s_is_where) (defBody s_is_where) (defScope s_is_where) .none kV_is_where dc_is_where pm_is_where an_is_where cd_is_where ct_is_where), sl_is_where⟩)
    (c_is_where : PySem.W.codeIn K cd_is_where "is_where" = true)
    (k_is_where : PySem.W.keepIn K (.ref f_is_where) = true)
    (a_is_fact : PySem.W.nsIn K mainGlobals "is_fact" = some (some (.ref f_is_fact)))
    (l_is_fact : K.lookup f_is_fact = some ⟨oc_is_fact, od_is_fact, .func (PySem.W.fnOf "is_fact" "is_fact" (defArgs s_is_fact) (defBody s_is_fact) (defScope s_is_fact) .none kV_is_fact dc_is_fact pm_is_fact an_is_fact cd_is_fact ct_is_fact), sl_is_fact⟩)
    (c_is_fact : PySem.W.codeIn K cd_is_fact "is_fact" = true)
    (k_is_fact : PySem.W.keepIn K (.ref f_is_fact) = true)
    (a_crosses : PySem.W.nsIn K mainGlobals "crosses" = some (some (.ref f_crosses)))
    (l_crosses : K.lookup f_crosses = some ⟨oc_crosses, od_crosses, .func (PySem.W.fnOf "crosses" "crosses" (defArgs s_crosses) (defBody s_crosses) (defScope s_crosses) .none kV_crosses dc_crosses pm_crosses an_crosses cd_crosses ct_crosses), sl_crosses⟩)
    (c_crosses : PySem.W.codeIn K cd_crosses "crosses" = true)
    (k_crosses : PySem.W.keepIn K (.ref f_crosses) = true)
    (a_first_crossing : PySem.W.nsIn K mainGlobals "first_crossing" = some (some (.ref f_first_crossing)))
    (l_first_crossing : K.lookup f_first_crossing = some ⟨oc_first_crossing, od_first_crossing, .func (PySem.W.fnOf "first_crossing" "first_crossing" (defArgs s_first_crossing) (defBody s_first_crossing) (defScope s_first_crossing) .none kV_first_crossing dc_first_crossing pm_first_crossing an_first_crossing cd_first_crossing ct_first_crossing), sl_first_crossing⟩)
    (c_first_crossing : PySem.W.codeIn K cd_first_crossing "first_crossing" = true)
    (k_first_crossing : PySem.W.keepIn K (.ref f_first_crossing) = true)
    (a_check_facts : PySem.W.nsIn K mainGlobals "check_facts" = some (some (.ref f_check_facts)))
    (l_check_facts : K.lookup f_check_facts = some ⟨oc_check_facts, od_check_facts, .func (PySem.W.fnOf "check_facts" "check_facts" (defArgs s_check_facts) (defBody s_check_facts) (defScope s_check_facts) .none kV_check_facts dc_check_facts pm_check_facts an_check_facts cd_check_facts ct_check_facts), sl_check_facts⟩)
    (c_check_facts : PySem.W.codeIn K cd_check_facts "check_facts" = true)
    (k_check_facts : PySem.W.keepIn K (.ref f_check_facts) = true)
    (a_law_numbers : PySem.W.nsIn K mainGlobals "_law_numbers" = some (some (.ref f_law_numbers)))
    (l_law_numbers : K.lookup f_law_numbers = some ⟨oc_law_numbers, od_law_numbers, .func (PySem.W.fnOf "_law_numbers" "_law_numbers" (defArgs s_law_numbers) (defBody s_law_numbers) (defScope s_law_numbers) .none kV_law_numbers dc_law_numbers pm_law_numbers an_law_numbers cd_law_numbers ct_law_numbers), sl_law_numbers⟩)
    (c_law_numbers : PySem.W.codeIn K cd_law_numbers "_law_numbers" = true)
    (k_law_numbers : PySem.W.keepIn K (.ref f_law_numbers) = true)
    (a_law_draw : PySem.W.nsIn K mainGlobals "_law_draw" = some (some (.ref f_law_draw)))
    (l_law_draw : K.lookup f_law_draw = some ⟨oc_law_draw, od_law_draw, .func (PySem.W.fnOf "_law_draw" "_law_draw" (defArgs s_law_draw) (defBody s_law_draw) (defScope s_law_draw) .none kV_law_draw dc_law_draw pm_law_draw an_law_draw cd_law_draw ct_law_draw), sl_law_draw⟩)
    (c_law_draw : PySem.W.codeIn K cd_law_draw "_law_draw" = true)
    (k_law_draw : PySem.W.keepIn K (.ref f_law_draw) = true)
    (a_law_pool : PySem.W.nsIn K mainGlobals "_law_pool" = some (some (.ref f_law_pool)))
    (l_law_pool : K.lookup f_law_pool = some ⟨oc_law_pool, od_law_pool, .func (PySem.W.fnOf "_law_pool" "_law_pool" (defArgs s_law_pool) (defBody s_law_pool) (defScope s_law_pool) .none kV_law_pool dc_law_pool pm_law_pool an_law_pool cd_law_pool ct_law_pool), sl_law_pool⟩)
    (c_law_pool : PySem.W.codeIn K cd_law_pool "_law_pool" = true)
    (k_law_pool : PySem.W.keepIn K (.ref f_law_pool) = true)
    (a_law_whole : PySem.W.nsIn K mainGlobals "_law_whole" = some (some (.ref f_law_whole)))
    (l_law_whole : K.lookup f_law_whole = some ⟨oc_law_whole, od_law_whole, .func (PySem.W.fnOf "_law_whole" "_law_whole" (defArgs s_law_whole) (defBody s_law_whole) (defScope s_law_whole) .none kV_law_whole dc_law_whole pm_law_whole an_law_whole cd_law_whole ct_law_whole), sl_law_whole⟩)
    (c_law_whole : PySem.W.codeIn K cd_law_whole "_law_whole" = true)
    (k_law_whole : PySem.W.keepIn K (.ref f_law_whole) = true)
    (a_law_is_fact : PySem.W.nsIn K mainGlobals "_law_is_fact" = some (some (.ref f_law_is_fact)))
    (l_law_is_fact : K.lookup f_law_is_fact = some ⟨oc_law_is_fact, od_law_is_fact, .func (PySem.W.fnOf "_law_is_fact" "_law_is_fact" (defArgs s_law_is_fact) (defBody s_law_is_fact) (defScope s_law_is_fact) .none kV_law_is_fact dc_law_is_fact pm_law_is_fact an_law_is_fact cd_law_is_fact ct_law_is_fact), sl_law_is_fact⟩)
    (c_law_is_fact : PySem.W.codeIn K cd_law_is_fact "_law_is_fact" = true)
    (k_law_is_fact : PySem.W.keepIn K (.ref f_law_is_fact) = true)
    (a_law_cross : PySem.W.nsIn K mainGlobals "_law_cross" = some (some (.ref f_law_cross)))
    (l_law_cross : K.lookup f_law_cross = some ⟨oc_law_cross, od_law_cross, .func (PySem.W.fnOf "_law_cross" "_law_cross" (defArgs s_law_cross) (defBody s_law_cross) (defScope s_law_cross) .none kV_law_cross dc_law_cross pm_law_cross an_law_cross cd_law_cross ct_law_cross), sl_law_cross⟩)
    (c_law_cross : PySem.W.codeIn K cd_law_cross "_law_cross" = true)
    (k_law_cross : PySem.W.keepIn K (.ref f_law_cross) = true)
    (a_law_due : PySem.W.nsIn K mainGlobals "_law_due" = some (some (.ref f_law_due)))
    (l_law_due : K.lookup f_law_due = some ⟨oc_law_due, od_law_due, .func (PySem.W.fnOf "_law_due" "_law_due" (defArgs s_law_due) (defBody s_law_due) (defScope s_law_due) .none kV_law_due dc_law_due pm_law_due an_law_due cd_law_due ct_law_due), sl_law_due⟩)
    (c_law_due : PySem.W.codeIn K cd_law_due "_law_due" = true)
    (k_law_due : PySem.W.keepIn K (.ref f_law_due) = true)
    (a_law_told : PySem.W.nsIn K mainGlobals "_law_told" = some (some (.ref f_law_told)))
    (l_law_told : K.lookup f_law_told = some ⟨oc_law_told, od_law_told, .func (PySem.W.fnOf "_law_told" "_law_told" (defArgs s_law_told) (defBody s_law_told) (defScope s_law_told) .none kV_law_told dc_law_told pm_law_told an_law_told cd_law_told ct_law_told), sl_law_told⟩)
    (c_law_told : PySem.W.codeIn K cd_law_told "_law_told" = true)
    (k_law_told : PySem.W.keepIn K (.ref f_law_told) = true)
    (a_law_values : PySem.W.nsIn K mainGlobals "_law_values" = some (some (.ref f_law_values)))
    (l_law_values : K.lookup f_law_values = some ⟨oc_law_values, od_law_values, .func (PySem.W.fnOf "_law_values" "_law_values" (defArgs s_law_values) (defBody s_law_values) (defScope s_law_values) .none kV_law_values dc_law_values pm_law_values an_law_values cd_law_values ct_law_values), sl_law_values⟩)
    (c_law_values : PySem.W.codeIn K cd_law_values "_law_values" = true)
    (k_law_values : PySem.W.keepIn K (.ref f_law_values) = true)
    (a_law_fact : PySem.W.nsIn K mainGlobals "_law_fact" = some (some (.ref f_law_fact)))
    (l_law_fact : K.lookup f_law_fact = some ⟨oc_law_fact, od_law_fact, .func (PySem.W.fnOf "_law_fact" "_law_fact" (defArgs s_law_fact) (defBody s_law_fact) (defScope s_law_fact) .none kV_law_fact dc_law_fact pm_law_fact an_law_fact cd_law_fact ct_law_fact), sl_law_fact⟩)
    (c_law_fact : PySem.W.codeIn K cd_law_fact "_law_fact" = true)
    (k_law_fact : PySem.W.keepIn K (.ref f_law_fact) = true)
    (a_law_bent : PySem.W.nsIn K mainGlobals "_law_bent" = some (some (.ref f_law_bent)))
    (l_law_bent : K.lookup f_law_bent = some ⟨oc_law_bent, od_law_bent, .func (PySem.W.fnOf "_law_bent" "_law_bent" (defArgs s_law_bent) (defBody s_law_bent) (defScope s_law_bent) .none kV_law_bent dc_law_bent pm_law_bent an_law_bent cd_law_bent ct_law_bent), sl_law_bent⟩)
    (c_law_bent : PySem.W.codeIn K cd_law_bent "_law_bent" = true)
    (k_law_bent : PySem.W.keepIn K (.ref f_law_bent) = true)
    (a_law : PySem.W.nsIn K mainGlobals "law" = some (some (.ref f_law)))
    (l_law : K.lookup f_law = some ⟨oc_law, od_law, .func (PySem.W.fnOf "law" "law" (defArgs s_law) (defBody s_law) (defScope s_law) .none kV_law dc_law pm_law an_law cd_law ct_law), sl_law⟩)
    (c_law : PySem.W.codeIn K cd_law "law" = true)
    (k_law : PySem.W.keepIn K (.ref f_law) = true)
    (a_m_listed : PySem.W.findIn K (.ref CF) "listed" = some (some (.ref f_m_listed)))
    (l_m_listed : K.lookup f_m_listed = some ⟨oc_m_listed, od_m_listed, .func (PySem.W.fnOf "listed" "Facts.listed" (defArgs s_F_listed) (defBody s_F_listed) (defScope s_F_listed) .none kV_m_listed dc_m_listed pm_m_listed an_m_listed cd_m_listed ct_m_listed), sl_m_listed⟩)
    (c_m_listed : PySem.W.codeIn K cd_m_listed "Facts.listed" = true)
    (k_m_listed : PySem.W.keepIn K (.ref f_m_listed) = true)
    (i_m_listed : PySem.W.isFn K (.ref f_m_listed) = true)
    (a_m_len : PySem.W.findIn K (.ref CF) "__len__" = some (some (.ref f_m_len)))
    (l_m_len : K.lookup f_m_len = some ⟨oc_m_len, od_m_len, .func (PySem.W.fnOf "__len__" "Facts.__len__" (defArgs s_F_len) (defBody s_F_len) (defScope s_F_len) .none kV_m_len dc_m_len pm_m_len an_m_len cd_m_len ct_m_len), sl_m_len⟩)
    (c_m_len : PySem.W.codeIn K cd_m_len "Facts.__len__" = true)
    (k_m_len : PySem.W.keepIn K (.ref f_m_len) = true)
    (i_m_len : PySem.W.isFn K (.ref f_m_len) = true)
    (a_p_left : PySem.W.findIn K (.ref CF) "left" = some (some (.ref pr_left)))
    (r1_p_left : PySem.W.recIn K pr_left "property" = some (.ref f_p_left :: rs_left))
    (g_p_left : PySem.W.specialIn K (.ref pr_left) "__get__" = some (some (.builtin "property.__get__")))
    (t_p_left : PySem.W.takesIn K (.ref pr_left) = some true)
    (l_p_left : K.lookup f_p_left = some ⟨oc_p_left, od_p_left, .func (PySem.W.fnOf "left" "Facts.left" (defArgs s_F_left) (defBody s_F_left) (defScope s_F_left) .none kV_p_left dc_p_left pm_p_left an_p_left cd_p_left ct_p_left), sl_p_left⟩)
    (c_p_left : PySem.W.codeIn K cd_p_left "Facts.left" = true)
    (k_p_left : PySem.W.keepIn K (.ref f_p_left) = true)
    (a_p_right : PySem.W.findIn K (.ref CF) "right" = some (some (.ref pr_right)))
    (r1_p_right : PySem.W.recIn K pr_right "property" = some (.ref f_p_right :: rs_right))
    (g_p_right : PySem.W.specialIn K (.ref pr_right) "__get__" = some (some (.builtin "property.__get__")))
    (t_p_right : PySem.W.takesIn K (.ref pr_right) = some true)
    (l_p_right : K.lookup f_p_right = some ⟨oc_p_right, od_p_right, .func (PySem.W.fnOf "right" "Facts.right" (defArgs s_F_right) (defBody s_F_right) (defScope s_F_right) .none kV_p_right dc_p_right pm_p_right an_p_right cd_p_right ct_p_right), sl_p_right⟩)
    (c_p_right : PySem.W.codeIn K cd_p_right "Facts.right" = true)
    (k_p_right : PySem.W.keepIn K (.ref f_p_right) = true)
    (a_ini : PySem.W.findIn K (.ref CF) "__init__" = some (some (.ref f_ini)))
    (l_ini : K.lookup f_ini = some ⟨oc_ini, od_ini, .func (PySem.W.fnOf "__init__" "Facts.__init__" (defArgs s_F_init) (defBody s_F_init) (defScope s_F_init) (.ref TD) kV_ini dc_ini pm_ini an_ini cd_ini ct_ini), sl_ini⟩)
    (l_TD : K.lookup TD = some ⟨ocT, odT, .seq #[.ref TE] nT, slT⟩)
    (l_TE : K.lookup TE = some ⟨ocE, odE, .seq #[] nE, slE⟩)
    (t_TE : ocE = .type "tuple")
    (c_ini : PySem.W.codeIn K cd_ini "Facts.__init__" = true)
    (k_ini : PySem.W.keepIn K (.ref f_ini) = true)
    (i_ini : PySem.W.isFn K (.ref f_ini) = true)
    (pgF : PySem.W.plainGet K CF Str.empty = true)
    (hdF : PySem.W.hasDictIn K CF = true)
    (poF : PySem.W.plainOver K CF = true)
    (saF : PySem.W.findIn K (.ref CF) "__setattr__" = some (some (.builtin "object.__setattr__")))
    (mkF : PySem.W.makesIn K CF = true)
    (kcF : PySem.W.keepIn K (.ref CF) = true)
    (nf0 : PySem.W.findIn K (.ref CF) "_left" = some none)
    (nf1 : PySem.W.findIn K (.ref CF) "_right" = some none)
    (nf2 : PySem.W.findIn K (.ref CF) "_facts" = some none)
    (a_CP : PySem.W.nsIn K mainGlobals "InvalidFact" = some (some (.ref CP)))
    (x_CP : K.lookup CP = some (excClassObj nmP qP CP NP bsP [.ref SP, .type "Exception", .type "BaseException", .type "object"] true snP subP abP colP ddP k0P k1P k2P k3P k5P "Exception.__new__"))
    (sa_CP : PySem.W.findIn K (.ref CP) "__setattr__" = some (some (.builtin "object.__setattr__")))
    (ga_CP : PySem.W.findIn K (.ref CP) "__getattribute__" = some (some (.builtin "BaseException.__getattribute__")))
    (gg_CP : PySem.W.findIn K (.ref CP) "__getattr__" = some none)
    (no_CP : PySem.W.findIn K (.ref CP) "place" = some none)
    (ic_CP : PySem.W.findIn K (.ref CP) "__init__" = some (some (.ref iP)))
    (tc_CP : PySem.W.typeIn K (.ref iP) = some (.type "function"))
    (kc_CP : PySem.W.keepIn K (.ref CP) = true)
    (ex_CP : PySem.W.subIn K (.ref CP) (.type "BaseException") = some true)
    (ty_CP : PySem.W.typeIn K (.ref CP) = some (.type "type"))
    (hd_CP : PySem.W.hasDictIn K CP = true)
    (te_CP : PySem.W.subIn K (.ref CP) (.ref CP) = some true)
    (l_CP : K.lookup iP = some ⟨ocP, odP, .func (PySem.W.fnOf "__init__" "InvalidFact.__init__" (PySem.ErrP.iA p1P p2P) (PySem.ErrP.iB q1P q2P q3P q4P) PySem.ErrP.iS .none .none dcP pmP anP cdP ctP), slP⟩)
    (c_CP : PySem.W.codeIn K cdP "InvalidFact.__init__" = true)
    (a_CV : PySem.W.nsIn K mainGlobals "InvalidNumber" = some (some (.ref CV)))
    (x_CV : K.lookup CV = some (excClassObj nmV qV CV NV bsV [.type "ValueError", .type "Exception", .type "BaseException", .type "object"] true snV subV abV colV ddV k0V k1V k2V k3V k5V "ValueError.__new__"))
    (sa_CV : PySem.W.findIn K (.ref CV) "__setattr__" = some (some (.builtin "object.__setattr__")))
    (ga_CV : PySem.W.findIn K (.ref CV) "__getattribute__" = some (some (.builtin "BaseException.__getattribute__")))
    (gg_CV : PySem.W.findIn K (.ref CV) "__getattr__" = some none)
    (no_CV : PySem.W.findIn K (.ref CV) "value" = some none)
    (ic_CV : PySem.W.findIn K (.ref CV) "__init__" = some (some (.ref iV)))
    (tc_CV : PySem.W.typeIn K (.ref iV) = some (.type "function"))
    (kc_CV : PySem.W.keepIn K (.ref CV) = true)
    (ex_CV : PySem.W.subIn K (.ref CV) (.type "BaseException") = some true)
    (ty_CV : PySem.W.typeIn K (.ref CV) = some (.type "type"))
    (hd_CV : PySem.W.hasDictIn K CV = true)
    (te_CV : PySem.W.subIn K (.ref CV) (.ref CV) = some true)
    (l_CV : K.lookup iV = some ⟨ocV, odV, .func (PySem.W.fnOf "__init__" "InvalidNumber.__init__" (PySem.ErrV.iA p1V p2V) (PySem.ErrV.iB q1V q2V q3V q4V) PySem.ErrV.iS .none .none dcV pmV anV cdV ctV), slV⟩)
    (c_CV : PySem.W.codeIn K cdV "InvalidNumber.__init__" = true)
    (vp : PySem.W.subIn K (.ref CV) (.ref CP) = some false) :
    ∃ fd : FuncData, (∀ (s : Shared) (v : Value), BindsTo s fd ⟨[v], []⟩ [("_law_script", v)]) ∧ ∀ base : Heap, K.In base → base.Ns mainGlobals mg → FnOk l.prog w K mg base CX0 15 fa fd ["_law_script"] (spLaw K) := by
  have e := hfa.symm.trans (PySem.W.mg_of X G a_law)
  cases e
  have F_is_whole := fun_mk (st := s_is_whole) l_is_whole c_is_whole k_is_whole
  have b_is_whole := F_is_whole.binds (ps := ["value"]) fun _ _ _ _ _ _ us hl => match us, hl with | [_], _ => rfl
  have D_is_whole : Df K mg "is_whole" s_is_whole ["value"] _ _ := ⟨F_is_whole, b_is_whole, PySem.W.mg_of X G a_is_whole⟩
  have F_is_count := fun_mk (st := s_is_count) l_is_count c_is_count k_is_count
  have b_is_count := F_is_count.binds (ps := ["value"]) fun _ _ _ _ _ _ us hl => match us, hl with | [_], _ => rfl
  have D_is_count : Df K mg "is_count" s_is_count ["value"] _ _ := ⟨F_is_count, b_is_count, PySem.W.mg_of X G a_is_count⟩
  have F_is_below := fun_mk (st := s_is_below) l_is_below c_is_below k_is_below
  have b_is_below := F_is_below.binds (ps := ["size", "value"]) fun _ _ _ _ _ _ us hl => match us, hl with | [_, _], _ => rfl
  have D_is_below : Df K mg "is_below" s_is_below ["size", "value"] _ _ := ⟨F_is_below, b_is_below, PySem.W.mg_of X G a_is_below⟩
  have F_is_ascending := fun_mk (st := s_is_ascending) l_is_ascending c_is_ascending k_is_ascending
  have b_is_ascending := F_is_ascending.binds (ps := ["size", "value"]) fun _ _ _ _ _ _ us hl => match us, hl with | [_, _], _ => rfl
  have D_is_ascending : Df K mg "is_ascending" s_is_ascending ["size", "value"] _ _ := ⟨F_is_ascending, b_is_ascending, PySem.W.mg_of X G a_is_ascending⟩
  have F_is_size := fun_mk (st := s_is_size) l_is_size c_is_size k_is_size
  have b_is_size := F_is_size.binds (ps := ["value"]) fun _ _ _ _ _ _ us hl => match us, hl with | [_], _ => rfl
  have D_is_size : Df K mg "is_size" s_is_size ["value"] _ _ := ⟨F_is_size, b_is_size, PySem.W.mg_of X G a_is_size⟩
  have F_check_sizes := fun_mk (st := s_check_sizes) l_check_sizes c_check_sizes k_check_sizes
  have b_check_sizes := F_check_sizes.binds (ps := ["left", "right"]) fun _ _ _ _ _ _ us hl => match us, hl with | [_, _], _ => rfl
  have D_check_sizes : Df K mg "check_sizes" s_check_sizes ["left", "right"] _ _ := ⟨F_check_sizes, b_check_sizes, PySem.W.mg_of X G a_check_sizes⟩
  have F_is_values := fun_mk (st := s_is_values) l_is_values c_is_values k_is_values
  have b_is_values := F_is_values.binds (ps := ["size", "value"]) fun _ _ _ _ _ _ us hl => match us, hl with | [_, _], _ => rfl
  have D_is_values : Df K mg "is_values" s_is_values ["size", "value"] _ _ := ⟨F_is_values, b_is_values, PySem.W.mg_of X G a_is_values⟩
  have F_has_where_form := fun_mk (st := s_has_where_form) l_has_where_form c_has_where_form k_has_where_form
  have b_has_where_form := F_has_where_form.binds (ps := ["left", "right", "value"]) fun _ _ _ _ _ _ us hl => match us, hl with | [_, _, _], _ => rfl
  have D_has_where_form : Df K mg "has_where_form" s_has_where_form ["left", "right", "value"] _ _ := ⟨F_has_where_form, b_has_where_form, PySem.W.mg_of X G a_has_where_form⟩
  have F_is_where := fun_mk (st := s_is_where) l_is_where c_is_where k_is_where
  have b_is_where := F_is_where.binds (ps := ["left", "right", "value"]) fun _ _ _ _ _ _ us hl => match us, hl with | [_, _, _], _ => rfl
  have D_is_where : Df K mg "is_where" s_is_where ["left", "right", "value"] _ _ := ⟨F_is_where, b_is_where, PySem.W.mg_of X G a_is_where⟩
  have F_is_fact := fun_mk (st := s_is_fact) l_is_fact c_is_fact k_is_fact
  have b_is_fact := F_is_fact.binds (ps := ["left", "right", "value"]) fun _ _ _ _ _ _ us hl => match us, hl with | [_, _, _], _ => rfl
  have D_is_fact : Df K mg "is_fact" s_is_fact ["left", "right", "value"] _ _ := ⟨F_is_fact, b_is_fact, PySem.W.mg_of X G a_is_fact⟩
  have F_crosses := fun_mk (st := s_crosses) l_crosses c_crosses k_crosses
  have b_crosses := F_crosses.binds (ps := ["one", "other"]) fun _ _ _ _ _ _ us hl => match us, hl with | [_, _], _ => rfl
  have D_crosses : Df K mg "crosses" s_crosses ["one", "other"] _ _ := ⟨F_crosses, b_crosses, PySem.W.mg_of X G a_crosses⟩
  have F_first_crossing := fun_mk (st := s_first_crossing) l_first_crossing c_first_crossing k_first_crossing
  have b_first_crossing := F_first_crossing.binds (ps := ["facts"]) fun _ _ _ _ _ _ us hl => match us, hl with | [_], _ => rfl
  have D_first_crossing : Df K mg "first_crossing" s_first_crossing ["facts"] _ _ := ⟨F_first_crossing, b_first_crossing, PySem.W.mg_of X G a_first_crossing⟩
  have F_check_facts := fun_mk (st := s_check_facts) l_check_facts c_check_facts k_check_facts
  have b_check_facts := F_check_facts.binds (ps := ["left", "right", "facts"]) fun _ _ _ _ _ _ us hl => match us, hl with | [_, _, _], _ => rfl
  have D_check_facts : Df K mg "check_facts" s_check_facts ["left", "right", "facts"] _ _ := ⟨F_check_facts, b_check_facts, PySem.W.mg_of X G a_check_facts⟩
  have F_law_numbers := fun_mk (st := s_law_numbers) l_law_numbers c_law_numbers k_law_numbers
  have b_law_numbers := F_law_numbers.binds (ps := ["_law_cell", "_law_salt", "_law_sizes"]) fun _ _ _ _ _ _ us hl => match us, hl with | [_, _, _], _ => rfl
  have D_law_numbers : Df K mg "_law_numbers" s_law_numbers ["_law_cell", "_law_salt", "_law_sizes"] _ _ := ⟨F_law_numbers, b_law_numbers, PySem.W.mg_of X G a_law_numbers⟩
  have F_law_draw := fun_mk (st := s_law_draw) l_law_draw c_law_draw k_law_draw
  have b_law_draw := F_law_draw.binds (ps := ["_law_state", "_law_many"]) fun _ _ _ _ _ _ us hl => match us, hl with | [_, _], _ => rfl
  have D_law_draw : Df K mg "_law_draw" s_law_draw ["_law_state", "_law_many"] _ _ := ⟨F_law_draw, b_law_draw, PySem.W.mg_of X G a_law_draw⟩
  have F_law_pool := fun_mk (st := s_law_pool) l_law_pool c_law_pool k_law_pool
  have b_law_pool := F_law_pool.binds (ps := ["_law_cell", "_law_salt", "_law_many"]) fun _ _ _ _ _ _ us hl => match us, hl with | [_, _, _], _ => rfl
  have D_law_pool : Df K mg "_law_pool" s_law_pool ["_law_cell", "_law_salt", "_law_many"] _ _ := ⟨F_law_pool, b_law_pool, PySem.W.mg_of X G a_law_pool⟩
  have F_law_whole := fun_mk (st := s_law_whole) l_law_whole c_law_whole k_law_whole
  have b_law_whole := F_law_whole.binds (ps := ["_law_value"]) fun _ _ _ _ _ _ us hl => match us, hl with | [_], _ => rfl
  have D_law_whole : Df K mg "_law_whole" s_law_whole ["_law_value"] _ _ := ⟨F_law_whole, b_law_whole, PySem.W.mg_of X G a_law_whole⟩
  have F_law_is_fact := fun_mk (st := s_law_is_fact) l_law_is_fact c_law_is_fact k_law_is_fact
  have b_law_is_fact := F_law_is_fact.binds (ps := ["_law_left", "_law_right", "_law_value"]) fun _ _ _ _ _ _ us hl => match us, hl with | [_, _, _], _ => rfl
  have D_law_is_fact : Df K mg "_law_is_fact" s_law_is_fact ["_law_left", "_law_right", "_law_value"] _ _ := ⟨F_law_is_fact, b_law_is_fact, PySem.W.mg_of X G a_law_is_fact⟩
  have F_law_cross := fun_mk (st := s_law_cross) l_law_cross c_law_cross k_law_cross
  have b_law_cross := F_law_cross.binds (ps := ["_law_one", "_law_other"]) fun _ _ _ _ _ _ us hl => match us, hl with | [_, _], _ => rfl
  have D_law_cross : Df K mg "_law_cross" s_law_cross ["_law_one", "_law_other"] _ _ := ⟨F_law_cross, b_law_cross, PySem.W.mg_of X G a_law_cross⟩
  have F_law_due := fun_mk (st := s_law_due) l_law_due c_law_due k_law_due
  have b_law_due := F_law_due.binds (ps := ["_law_left", "_law_right", "_law_facts"]) fun _ _ _ _ _ _ us hl => match us, hl with | [_, _, _], _ => rfl
  have D_law_due : Df K mg "_law_due" s_law_due ["_law_left", "_law_right", "_law_facts"] _ _ := ⟨F_law_due, b_law_due, PySem.W.mg_of X G a_law_due⟩
  have F_law_told := fun_mk (st := s_law_told) l_law_told c_law_told k_law_told
  have b_law_told := F_law_told.binds (ps := ["_law_left", "_law_right", "_law_facts"]) fun _ _ _ _ _ _ us hl => match us, hl with | [_, _, _], _ => rfl
  have D_law_told : Df K mg "_law_told" s_law_told ["_law_left", "_law_right", "_law_facts"] _ _ := ⟨F_law_told, b_law_told, PySem.W.mg_of X G a_law_told⟩
  have F_law_values := fun_mk (st := s_law_values) l_law_values c_law_values k_law_values
  have b_law_values := F_law_values.binds (ps := ["_law_state", "_law_size"]) fun _ _ _ _ _ _ us hl => match us, hl with | [_, _], _ => rfl
  have D_law_values : Df K mg "_law_values" s_law_values ["_law_state", "_law_size"] _ _ := ⟨F_law_values, b_law_values, PySem.W.mg_of X G a_law_values⟩
  have F_law_fact := fun_mk (st := s_law_fact) l_law_fact c_law_fact k_law_fact
  have b_law_fact := F_law_fact.binds (ps := ["_law_state", "_law_left", "_law_right"]) fun _ _ _ _ _ _ us hl => match us, hl with | [_, _, _], _ => rfl
  have D_law_fact : Df K mg "_law_fact" s_law_fact ["_law_state", "_law_left", "_law_right"] _ _ := ⟨F_law_fact, b_law_fact, PySem.W.mg_of X G a_law_fact⟩
  have F_law_bent := fun_mk (st := s_law_bent) l_law_bent c_law_bent k_law_bent
  have b_law_bent := F_law_bent.binds (ps := ["_law_state", "_law_fact_here"]) fun _ _ _ _ _ _ us hl => match us, hl with | [_, _], _ => rfl
  have D_law_bent : Df K mg "_law_bent" s_law_bent ["_law_state", "_law_fact_here"] _ _ := ⟨F_law_bent, b_law_bent, PySem.W.mg_of X G a_law_bent⟩
  have F_law := fun_mk (st := s_law) l_law c_law k_law
  have b_law := F_law.binds (ps := ["_law_script"]) fun _ _ _ _ _ _ us hl => match us, hl with | [_], _ => rfl
  have F_m_listed := fun_mk (st := s_F_listed) l_m_listed c_m_listed k_m_listed
  have b_m_listed := F_m_listed.binds (ps := ["self"]) fun _ _ _ _ _ _ us hl => match us, hl with | [_], _ => rfl
  have W_listed : Meth K CF "listed" f_m_listed := ⟨a_m_listed, i_m_listed, k_m_listed⟩
  have F_m_len := fun_mk (st := s_F_len) l_m_len c_m_len k_m_len
  have b_m_len := F_m_len.binds (ps := ["self"]) fun _ _ _ _ _ _ us hl => match us, hl with | [_], _ => rfl
  have W_len : Meth K CF "__len__" f_m_len := ⟨a_m_len, i_m_len, k_m_len⟩
  have F_p_left := fun_mk (st := s_F_left) l_p_left c_p_left k_p_left
  have b_p_left := F_p_left.binds (ps := ["self"]) fun _ _ _ _ _ _ us hl => match us, hl with | [_], _ => rfl
  have PO_left : PropOf K CF "left" pr_left f_p_left := ⟨a_p_left, g_p_left, t_p_left, rs_left, r1_p_left⟩
  have F_p_right := fun_mk (st := s_F_right) l_p_right c_p_right k_p_right
  have b_p_right := F_p_right.binds (ps := ["self"]) fun _ _ _ _ _ _ us hl => match us, hl with | [_], _ => rfl
  have PO_right : PropOf K CF "right" pr_right f_p_right := ⟨a_p_right, g_p_right, t_p_right, rs_right, r1_p_right⟩
  have FI : FunD K "__init__" "Facts.__init__" (defArgs s_F_init) (defBody s_F_init) (defScope s_F_init) [.ref TE] [] f_ini _ := ⟨⟨_, _, _, _, _, _, _, _, _, _, rfl, l_ini, c_ini, .inr ⟨by simp, TD, _, [.ref TE], _, rfl, l_TD, rfl, .cons rfl .nil⟩, .inl rfl⟩, k_ini⟩
  obtain ⟨dsI, hvI, bI⟩ := FI.binds1 (ps := ["self", "left", "right", "facts"]) 4 1 (by simp) rfl (fun T kV doc pm an cdv ct us its hus hits => match us, its, hus, hits with | [_, _, _, _], [_], _, _ => ⟨_, rfl, rfl⟩)
  have hvI' : Vals [] dsI := hvI
  cases hvI'
  obtain ⟨dsJ, hvJ, bJ⟩ := FI.binds1 (ps := ["self", "left", "right", "facts"]) 3 0 (by simp) rfl (fun T kV doc pm an cdv ct us its hus hits => match us, its, hus, hits with | [_, _, _], [_], _, _ => ⟨_, rfl, rfl⟩)
  have hvJ' : Vals [V.ref TE] dsJ := hvJ
  have eJ : dsJ = [Value.ref TE] := by
    cases hvJ' with
    | cons h t =>
      cases t
      cases h
      rfl
  subst eJ
  have hTE : ∀ H', SqT K H' TE [] := fun H' => .inr ⟨_, #[], nE, l_TE, t_TE, rfl, by decide, .nil⟩
  have FK : FaK K mg CF f_ini := { cl := ⟨pgF, hdF, poF, saF⟩, n1 := nf0, n2 := nf1, n3 := nf2, gC := PySem.W.mg_of X G aF, mkc := ⟨mkF, a_ini, i_ini, kcF⟩ }
  have EP : PySem.ErrP.ErrTxt K mg "InvalidFact" "InvalidFact.__init__" CP iP := { gC := PySem.W.mg_of X G a_CP, cls := ⟨_, _, _, _, _, _, _, _, _, _, _, _, _, _, _, _, x_CP, tail_ex⟩, sa := sa_CP, ga := ga_CP, gg := gg_CP, noN := no_CP, iC := ic_CP, tC := tc_CP, kC := kc_CP, exC := ex_CP, tyC := ty_CP, hdC := hd_CP, te := PySem.W.exm_ref ex_CP hd_CP ty_CP te_CP, fn := ⟨_, _, _, _, _, _, _, _, _, _, _, _, _, _, l_CP, c_CP⟩ }
  have EV : PySem.ErrV.ErrTxt K mg "InvalidNumber" "InvalidNumber.__init__" CV iV := { gC := PySem.W.mg_of X G a_CV, cls := ⟨_, _, _, _, _, _, _, _, _, _, _, _, _, _, _, _, x_CV, tail_ve⟩, sa := sa_CV, ga := ga_CV, gg := gg_CV, noN := no_CV, iC := ic_CV, tC := tc_CV, kC := kc_CV, exC := ex_CV, tyC := ty_CV, hdC := hd_CV, te := PySem.W.exm_ref ex_CV hd_CV ty_CV te_CV, fn := ⟨_, _, _, _, _, _, _, _, _, _, _, _, _, _, l_CV, c_CV⟩ }
  have hVP : PySem.W.exmOne K (.ref CV) (.ref CP) = some false := PySem.W.exm_ref ex_CP hd_CP ty_CP vp
  have T : Txt mg tk := { n_isinstance := PySem.W.mg_none_of X G z_isinstance, n_int := PySem.W.mg_none_of X G z_int, n_bool := PySem.W.mg_none_of X G z_bool, n_tuple := PySem.W.mg_none_of X G z_tuple, n_len := PySem.W.mg_none_of X G z_len, n_all := PySem.W.mg_none_of X G z_all, n_zip := PySem.W.mg_none_of X G z_zip, n_range := PySem.W.mg_none_of X G z_range, n_enumerate := PySem.W.mg_none_of X G z_enumerate, n_max := PySem.W.mg_none_of X G z_max, n_str := PySem.W.mg_none_of X G z_str, n_list := PySem.W.mg_none_of X G z_list, n_sorted := PySem.W.mg_none_of X G z_sorted, n_set := PySem.W.mg_none_of X G z_set, c_MOST_VALUES := PySem.W.mg_of X G z_MV }
  have n_min := PySem.W.mg_none_of X G z_min
  have c_MF := PySem.W.mg_of X G z_MF
  clear l_is_whole c_is_whole k_is_whole l_is_count c_is_count k_is_count l_is_below c_is_below k_is_below l_is_ascending c_is_ascending k_is_ascending l_is_size c_is_size k_is_size l_check_sizes c_check_sizes k_check_sizes l_is_values c_is_values k_is_values l_has_where_form c_has_where_form k_has_where_form l_is_where c_is_where k_is_where l_is_fact c_is_fact k_is_fact l_crosses c_crosses k_crosses l_first_crossing c_first_crossing k_first_crossing l_check_facts c_check_facts k_check_facts l_law_numbers c_law_numbers k_law_numbers l_law_draw c_law_draw k_law_draw l_law_pool c_law_pool k_law_pool l_law_whole c_law_whole k_law_whole l_law_is_fact c_law_is_fact k_law_is_fact l_law_cross c_law_cross k_law_cross l_law_due c_law_due k_law_due l_law_told c_law_told k_law_told l_law_values c_law_values k_law_values l_law_fact c_law_fact k_law_fact l_law_bent c_law_bent k_law_bent l_m_listed c_m_listed k_m_listed l_m_len c_m_len k_m_len l_p_left c_p_left k_p_left l_p_right c_p_right k_p_right l_ini l_TD l_TE c_ini k_ini hdF saF kcF x_CP sa_CP ga_CP gg_CP no_CP ic_CP tc_CP kc_CP ex_CP ty_CP hd_CP te_CP l_CP c_CP x_CV sa_CV ga_CV gg_CV no_CV ic_CV tc_CV kc_CV ex_CV ty_CV hd_CV te_CV l_CV c_CV vp
  refine ⟨PySem.W.fnOf "law" "law" (defArgs s_law) (defBody s_law) (defScope s_law) .none kV_law dc_law pm_law an_law cd_law ct_law, fun s v => .of_eq rfl, fun base _ _ => ?_⟩
  have G1 := ok_whole (P := l.prog) (w := w) (base := base) (k := 0) T D_is_whole
  have G1T := ok_wholeT (P := l.prog) (w := w) (base := base) (k := 0) T D_is_whole
  have G2 := ok_below (k := 0) D_is_whole G1 T D_is_below
  have G3 := ok_size (k := 0) D_is_whole G1 T D_is_size
  have G4 := ok_check_sizes (k := 0) EV D_is_size G3 T D_check_sizes
  have G50 := ok_asc (k := 0) D_is_below G2 T D_is_ascending
  have G5 := ok_values (k := 0) D_is_ascending G50 T D_is_values
  have G6 := ok_formT (k := 0) D_is_below G2 D_is_values G5 T D_has_where_form
  have GW := ok_is_whereT (k := 0) (CV := CV) D_check_sizes G4 D_has_where_form G6 T D_is_where
  have H1 := ok_countT (k := 0) D_is_whole G1T D_is_count
  have H2 := ok_fact (k := 0) D_is_whole G1T D_is_count H1 D_has_where_form G6 T D_is_fact
  have H3 := ok_crosses (P := l.prog) (w := w) (base := base) (k := 0) n_min T D_crosses
  have Z1 := ok_firstL (k := 0) D_crosses H3 T D_first_crossing
  have Z2 := ok_firstT (k := 0) D_crosses H3 T D_first_crossing
  have Z3 := ok_firstZ (k := 0) D_crosses H3 T D_first_crossing
  have C1 := ok_chkL (k := 0) EP c_MF D_is_fact H2 D_first_crossing Z1 T D_check_facts
  have C2 := ok_chkT (k := 0) EP c_MF D_is_fact H2 D_first_crossing Z2 T D_check_facts
  have C3 := ok_chkZ (k := 0) EP c_MF D_is_fact H2 D_first_crossing Z3 T D_check_facts
  have C4 := ok_chkO (k := 0) EP c_MF D_is_fact H2 D_first_crossing Z1 T D_check_facts
  have I1 := ok_FIL (k := 0) EV FK T D_check_sizes G4 D_check_facts C1 FI
  have I2 := ok_FIT (k := 0) EV FK T D_check_sizes G4 D_check_facts C2 FI
  have I3 := ok_FIZ (k := 0) EV FK T D_check_sizes G4 D_check_facts C3 FI
  have I4 := ok_FIO (k := 0) EV FK T D_check_sizes G4 D_check_facts C4 FI
  have I5 := ok_FIN (k := 0) EV FK T D_check_sizes G4 D_check_facts C4 FI
  have J1 : FnOk l.prog w K mg base (L2.CX l.prog w) (0 + 8) f_ini _ ["self", "left", "right", "facts"] (spFI CF CP) := fn_or I1 I2
  have J2 : FnOk l.prog w K mg base (L2.CX l.prog w) (0 + 8) f_ini _ ["self", "left", "right", "facts"] (spF K CF CP CV) := fn_or (fn_or J1 I4) I5
  have M3 := ok_listed (P := l.prog) (w := w) (base := base) (k := 0) FK T F_m_listed
  have M4 := ok_lenF (P := l.prog) (w := w) (base := base) (k := 0) FK T F_m_len
  have M5 := ok_lenZ (P := l.prog) (w := w) (base := base) (k := 0) FK T F_m_len
  have M6 := ok_leftF (P := l.prog) (w := w) (base := base) (k := 0) FK F_p_left
  have M7 := ok_rightF (P := l.prog) (w := w) (base := base) (k := 0) FK F_p_right
  have g1 := ok_num (P := l.prog) (w := w) (base := base) (k := 0) T D_law_numbers
  have g2 := ok_draw (P := l.prog) (w := w) (base := base) (k := 0) T D_law_draw
  have g3 := ok_pool (k := 0) D_law_numbers g1 T D_law_pool
  have w1 := ok_lwhole (P := l.prog) (w := w) (base := base) (k := 0) T D_law_whole
  have w2 := ok_lisf (k := 0) D_law_whole w1 D_is_where GW T D_law_is_fact
  have w3 := ok_lcross (P := l.prog) (w := w) (base := base) (k := 0) T D_law_cross
  have u1 := ok_dueL (k := 0) D_law_is_fact w2 D_law_cross w3 T D_law_due
  have u2 := ok_dueT (k := 0) D_law_is_fact w2 D_law_cross w3 T D_law_due
  have u3 := ok_dueO (k := 0) D_law_is_fact w2 D_law_cross w3 T D_law_due
  have u : FnOk l.prog w K mg base CX0 (0 + 8) f_law_due _ ["_law_left", "_law_right", "_law_facts"] (spDueA K) := fn_or (fn_or u1 u2) u3
  have t := ok_told (k := 0) EV EP hVP FK T bI J2 W_listed M3 b_m_listed PO_left M6 b_p_left PO_right M7 b_p_right M4 a_m_len i_m_len b_m_len D_law_told
  have v1 := ok_lvalues (k := 0) D_law_draw g2 T D_law_values
  have v2 := ok_lfact (k := 0) D_law_draw g2 D_law_values v1 T D_law_fact
  have v3 := ok_lbent (k := 0) D_law_draw g2 T D_law_bent
  exact ok_law (k := 0) T FK hTE D_law_draw g2 D_law_pool g3 D_law_fact v2 D_law_bent v3 D_law_told t D_law_due u bJ I3 M5 a_m_len i_m_len b_m_len ⟨F_law, b_law, hfa⟩
theorem walk {l : PySem.W.OpenLaw} {q : Program} {loose : List Str} {XP : (Str → Option Value) → Heap → Prop} {YP : World → Heap → Prop} {d : DefRec} {K : Params → PySem.W.Frag} (hn : l.most = some 63) (hdf : d.params.defaults = [])
    (hY : ∀ (w : World) (h : Heap), YP w h → (K w.params).In h)
    (F : ∀ (w : World) (mg : Str → Option Value) (fa : Addr) (h : Heap), (K w.params).In h → h.Ns mainGlobals mg → mg d.name = some (.ref fa) →
      ∃ fd : FuncData, (∀ (s : Shared) (u : Value), BindsTo s fd ⟨[u], []⟩ [("_law_script", u)]) ∧ ∀ base : Heap, (K w.params).In base → base.Ns mainGlobals mg → FnOk l.prog w (K w.params) mg base CX0 15 fa fd ["_law_script"] (spLaw (K w.params))) :
    PySem.W.WalkO q loose XP YP l.row.toRowW d [] (fun f vs => PySem.call f vs) :=
  L2.walk_ofK (n := 63) (k := 15) (x := "_law_script") (CX := CX0) (sp := spLaw) hn (by decide) hdf ⟨rfl, by decide, by decide⟩ hY F (fun K H a ns hl _ hS => ⟨a, ns, rfl, hS, hl, fun _ => rfl⟩) fun _ _ _ _ z => z
end K20
open PySem PySem.W PyProof.Rows
set_option maxRecDepth 100000 in
set_option maxHeartbeats 0 in
theorem PySem.Challenge.cw_surecounts_k21_facts_told_apart_holds : PySem.Challenge.rw_surecounts_k21_facts_told_apart.Holds := by
  w_on; o_law; k_head; (case hw => w_witness2)
  k_fill
  refine K20.walk (l := PySem.Challenge.rw_surecounts_k21_facts_told_apart) rfl rfl (fun w h Y => PySem.W.kIn_of Y) ?F
  case F =>
    intro w mg fa h KX G hmg
    refine' K20.all_mk KX G hmg ?aF ?z_isinstance ?z_int ?z_bool ?z_tuple ?z_len ?z_all ?z_zip ?z_range ?z_enumerate ?z_max ?z_str ?z_list ?z_sorted ?z_set ?z_min ?z_MV ?z_MF ?a_is_whole ?l_is_whole ?c_is_whole ?k_is_whole ?a_is_count ?l_is_count ?c_is_count ?k_is_count ?a_is_below ?l_is_below ?c_is_below ?k_is_below ?a_is_ascending ?l_is_ascending ?c_is_ascending ?k_is_ascending ?a_is_size ?l_is_size ?c_is_size ?k_is_size ?a_check_sizes ?l_check_sizes ?c_check_sizes ?k_check_sizes ?a_is_values ?l_is_values ?c_is_values ?k_is_values ?a_has_where_form ?l_has_where_form ?c_has_where_form ?k_has_where_form ?a_is_where ?l_is_where ?c_is_where ?k_is_where ?a_is_fact ?l_is_fact ?c_is_fact ?k_is_fact ?a_crosses ?l_crosses ?c_crosses ?k_crosses ?a_first_crossing ?l_first_crossing ?c_first_crossing ?k_first_crossing ?a_check_facts ?l_check_facts ?c_check_facts ?k_check_facts ?a_law_numbers ?l_law_numbers ?c_law_numbers ?k_law_numbers ?a_law_draw ?l_law_draw ?c_law_draw ?k_law_draw ?a_law_pool ?l_law_pool ?c_law_pool ?k_law_pool ?a_law_whole ?l_law_whole ?c_law_whole ?k_law_whole ?a_law_is_fact ?l_law_is_fact ?c_law_is_fact ?k_law_is_fact ?a_law_cross ?l_law_cross ?c_law_cross ?k_law_cross ?a_law_due ?l_law_due ?c_law_due ?k_law_due ?a_law_told ?l_law_told ?c_law_told ?k_law_told ?a_law_values ?l_law_values ?c_law_values ?k_law_values ?a_law_fact ?l_law_fact ?c_law_fact ?k_law_fact ?a_law_bent ?l_law_bent ?c_law_bent ?k_law_bent ?a_law ?l_law ?c_law ?k_law ?a_m_listed ?l_m_listed ?c_m_listed ?k_m_listed ?i_m_listed ?a_m_len ?l_m_len ?c_m_len ?k_m_len ?i_m_len ?a_p_left ?r1_p_left ?g_p_left ?t_p_left ?l_p_left ?c_p_left ?k_p_left ?a_p_right ?r1_p_right ?g_p_right ?t_p_right ?l_p_right ?c_p_right ?k_p_right ?a_ini ?l_ini ?l_TD ?l_TE ?t_TE ?c_ini ?k_ini ?i_ini ?pgF ?hdF ?poF ?saF ?mkF ?kcF ?nf0 ?nf1 ?nf2 ?a_CP ?x_CP ?sa_CP ?ga_CP ?gg_CP ?no_CP ?ic_CP ?tc_CP ?kc_CP ?ex_CP ?ty_CP ?hd_CP ?te_CP ?l_CP ?c_CP ?a_CV ?x_CV ?sa_CV ?ga_CV ?gg_CV ?no_CV ?ic_CV ?tc_CV ?kc_CV ?ex_CV ?ty_CV ?hd_CV ?te_CV ?l_CV ?c_CV ?vp
    (case aF => k_is)
    (case z_isinstance => k_is)
    (case z_int => k_is)
    (case z_bool => k_is)
    (case z_tuple => k_is)
    (case z_len => k_is)
    (case z_all => k_is)
    (case z_zip => k_is)
    (case z_range => k_is)
    (case z_enumerate => k_is)
    (case z_max => k_is)
    (case z_str => k_is)
    (case z_list => k_is)
    (case z_sorted => k_is)
    (case z_set => k_is)
    (case z_min => k_is)
    (case z_MV => k_is)
    (case z_MF => k_is)
    (case a_is_whole => k_is)
    (case l_is_whole => k_is)
    (case c_is_whole => k_is)
    (case k_is_whole => k_is)
    (case a_is_count => k_is)
    (case l_is_count => k_is)
    (case c_is_count => k_is)
    (case k_is_count => k_is)
    (case a_is_below => k_is)
    (case l_is_below => k_is)
    (case c_is_below => k_is)
    (case k_is_below => k_is)
    (case a_is_ascending => k_is)
    (case l_is_ascending => k_is)
    (case c_is_ascending => k_is)
    (case k_is_ascending => k_is)
    (case a_is_size => k_is)
    (case l_is_size => k_is)
    (case c_is_size => k_is)
    (case k_is_size => k_is)
    (case a_check_sizes => k_is)
    (case l_check_sizes => k_is)
    (case c_check_sizes => k_is)
    (case k_check_sizes => k_is)
    (case a_is_values => k_is)
    (case l_is_values => k_is)
    (case c_is_values => k_is)
    (case k_is_values => k_is)
    (case a_has_where_form => k_is)
    (case l_has_where_form => k_is)
    (case c_has_where_form => k_is)
    (case k_has_where_form => k_is)
    (case a_is_where => k_is)
    (case l_is_where => k_is)
    (case c_is_where => k_is)
    (case k_is_where => k_is)
    (case a_is_fact => k_is)
    (case l_is_fact => k_is)
    (case c_is_fact => k_is)
    (case k_is_fact => k_is)
    (case a_crosses => k_is)
    (case l_crosses => k_is)
    (case c_crosses => k_is)
    (case k_crosses => k_is)
    (case a_first_crossing => k_is)
    (case l_first_crossing => k_is)
    (case c_first_crossing => k_is)
    (case k_first_crossing => k_is)
    (case a_check_facts => k_is)
    (case l_check_facts => k_is)
    (case c_check_facts => k_is)
    (case k_check_facts => k_is)
    (case a_law_numbers => k_is)
    (case l_law_numbers => k_is)
    (case c_law_numbers => k_is)
    (case k_law_numbers => k_is)
    (case a_law_draw => k_is)
    (case l_law_draw => k_is)
    (case c_law_draw => k_is)
    (case k_law_draw => k_is)
    (case a_law_pool => k_is)
    (case l_law_pool => k_is)
    (case c_law_pool => k_is)
    (case k_law_pool => k_is)
    (case a_law_whole => k_is)
    (case l_law_whole => k_is)
    (case c_law_whole => k_is)
    (case k_law_whole => k_is)
    (case a_law_is_fact => k_is)
    (case l_law_is_fact => k_is)
    (case c_law_is_fact => k_is)
    (case k_law_is_fact => k_is)
    (case a_law_cross => k_is)
    (case l_law_cross => k_is)
    (case c_law_cross => k_is)
    (case k_law_cross => k_is)
    (case a_law_due => k_is)
    (case l_law_due => k_is)
    (case c_law_due => k_is)
    (case k_law_due => k_is)
    (case a_law_told => k_is)
    (case l_law_told => k_is)
    (case c_law_told => k_is)
    (case k_law_told => k_is)
    (case a_law_values => k_is)
    (case l_law_values => k_is)
    (case c_law_values => k_is)
    (case k_law_values => k_is)
    (case a_law_fact => k_is)
    (case l_law_fact => k_is)
    (case c_law_fact => k_is)
    (case k_law_fact => k_is)
    (case a_law_bent => k_is)
    (case l_law_bent => k_is)
    (case c_law_bent => k_is)
    (case k_law_bent => k_is)
    (case a_law => k_is)
    (case l_law => k_is)
    (case c_law => k_is)
    (case k_law => k_is)
    (case a_m_listed => k_is)
    (case l_m_listed => k_is)
    (case c_m_listed => k_is)
    (case k_m_listed => k_is)
    (case i_m_listed => k_is)
    (case a_m_len => k_is)
    (case l_m_len => k_is)
    (case c_m_len => k_is)
    (case k_m_len => k_is)
    (case i_m_len => k_is)
    (case a_p_left => k_is)
    (case r1_p_left => k_is)
    (case g_p_left => k_is)
    (case t_p_left => k_is)
    (case l_p_left => k_is)
    (case c_p_left => k_is)
    (case k_p_left => k_is)
    (case a_p_right => k_is)
    (case r1_p_right => k_is)
    (case g_p_right => k_is)
    (case t_p_right => k_is)
    (case l_p_right => k_is)
    (case c_p_right => k_is)
    (case k_p_right => k_is)
    (case a_ini => k_is)
    (case l_ini => k_is)
    (case l_TD => k_is)
    (case l_TE => k_is)
    (case t_TE => first | rfl | k_is)
    (case c_ini => k_is)
    (case k_ini => k_is)
    (case i_ini => k_is)
    (case pgF => k_is)
    (case hdF => k_is)
    (case poF => k_is)
    (case saF => k_is)
    (case mkF => k_is)
    (case kcF => k_is)
    (case nf0 => k_is)
    (case nf1 => k_is)
    (case nf2 => k_is)
    (case a_CP => k_is)
    (case x_CP => k_is)
    (case sa_CP => k_is)
    (case ga_CP => k_is)
    (case gg_CP => k_is)
    (case no_CP => k_is)
    (case ic_CP => k_is)
    (case tc_CP => k_is)
    (case kc_CP => k_is)
    (case ex_CP => k_is)
    (case ty_CP => k_is)
    (case hd_CP => k_is)
    (case te_CP => k_is)
    (case l_CP => k_is)
    (case c_CP => k_is)
    (case a_CV => k_is)
    (case x_CV => k_is)
    (case sa_CV => k_is)
    (case ga_CV => k_is)
    (case gg_CV => k_is)
    (case no_CV => k_is)
    (case ic_CV => k_is)
    (case tc_CV => k_is)
    (case kc_CV => k_is)
    (case ex_CV => k_is)
    (case ty_CV => k_is)
    (case hd_CV => k_is)
    (case te_CV => k_is)
    (case l_CV => k_is)
    (case c_CV => k_is)
    (case vp => k_is)
