import PyProof.Rows.All
import Wide.All
import OpenK.AllK
import Wide.FinOn
import PySem.Challenge.RW_lanesmeet_k06_sayings_told_apart
import HandS.Base
import HandS.Call
import HandS.List
import HandS.Comp
import HandS.Ends
import HandS.Dict
import HandS.Iter
import HandS.Exc
import HandS.TryOnly
import HandS.ExcOwn
import HandS.ExcIs
import HandS.IsInst
import HandS.Lambda
import HandS.Words
import HandS.WordsList
import HandS.WordsDict
import HandS.WordsExc
import PyProof.ReprReads
import HandS.Defaults
import HandS.Codes
import HandS.Wide
import HandS.Style
import HandS.TupAny
import HandS.Conv
import HandS.More
import HandS.Deep
import HandS.TupLe
import HandS.Text
import HandS.ExcInit
import HandS.FStr
import KE.KExcSuper
import PyProof.FString2
import HandS.ExcField
import KE.KExcIs
import PyProof.ExcBaseAll.ValueError
import KE.DataMinKey
import PyProof.Rows.CallKwBuiltin
import KE.GoesEnum
import HandS.Walk
import HandS.Small
import HandS.SortKw
import HandS.Steps
import KE.DataMinMax
import HandS.SetFor
import HandS.Strs
import HandS.NoneIn
import PyProof.StrOps2
import PyProof.ReprRoads
import PyProof.ReprLen
import KE.KRevSl
import PyProof.Rows.ReprOcc
import HandS.DeepEq
import KE.KEqNest
import HandS.EndTab
import HandS.EndOwn
import KE.KExcLine
import KE.RegKSuper
set_option Elab.async false
set_option linter.all false
set_option maxRecDepth 100000
set_option maxHeartbeats 8000000
/-! An own exception that an except clause keeps: it is tracked from the clause on. -/
namespace Lm
open PySem PySem.Spec PyProof.Rows L2
/-- an exception's object, of the class cls, its own dict at d -/
def ExI (a : Addr) (cls : Value) (d : Option Addr) : HO := .ext fun h => ∃ oe : Obj, h.get? a = some oe ∧ Zc cls d oe ∧ ∃ vs, oe.data = .fields vs
theorem exI_ok {P : Program} {w : World} {H : Hp} {h : Heap} {a : Addr} {cls : Value} {d : Option Addr} {oe : Obj} {vs : Array Value} (e : h.get? a = some oe) (z : Zc cls d oe) (v : oe.data = .fields vs) : ObjOk P w H h a (ExI a cls d) :=
  ⟨⟨oe, e, z, vs, v⟩, ⟨oe, e⟩, fun _ _ ⟨o, q, r⟩ k => ⟨o, k o q, r⟩⟩
section
variable {X : Cx} {pins : List (Addr × Obj)} {σ : L2.St} {H : Hp} {s0 s1 : Shared} {B : Heap}
/-- back on the ground with the exception's object tracked -/
theorem landT {a : Addr} {o : HO} (I : Inv X pins σ H s0) (nb : ∀ b u, s0.heap.get? b = some u → b ∉ frs X.stack → B.get? b = some u)
    (st : B.StaysIn s1.heap) (up : s0.heap.UpToSlots s1.heap) (os : s1.os = s0.os) (ag : AllBare s1.gens)
    (n0 : s0.heap.get? a = none) (na : H a = none) (new : ObjOk X.prog X.w (upd H a o) s1.heap a o) : Inv X pins σ (upd H a o) s1 := by
  have slots : ∀ b ∈ frs X.stack, ∀ u, s0.heap.get? b = some u → ∃ sl, s1.heap.get? b = some { u with slots := sl } := by
    intro b hb u e
    obtain ⟨_, u', e', hd⟩ := I.stack.mem hb
    rw [e] at e'
    cases e'
    exact up b u e hd
  have off : ∀ b u, s0.heap.get? b = some u → b ≠ a := by
    intro b u e z
    rw [z, n0] at e
    cases e
  have un : Un (frs X.stack) [] H (upd H a o) s0.heap s1.heap := by
    constructor
    · intro b u e _ hb _
      exact st b u (nb b u e hb)
    · intro b u e _ hb _
      exact slots b hb u e
    · intro b u e n _
      rw [upd_ne (off b u e)]
      exact n
    · intro b u e _
      by_cases hb : b ∈ frs X.stack
      · obtain ⟨sl, q⟩ := slots b hb u e
        exact ⟨_, q⟩
      · exact ⟨u, st b u (nb b u e hb)⟩
    · intro b xs e
      rw [upd_ne (ne_of_none e na)]
      exact e
    · intro b u xs e
      rw [upd_ne (ne_of_none e na)]
      exact e
    · intro b ps e
      refine ⟨#[], ?_⟩
      rw [upd_ne (ne_of_none e na), e]
      simp
  have hk : HOk X.prog X.w H s1.heap := (I.inGround nb).kept st
  have hk2 : HOk X.prog X.w (upd H a o) s1.heap := by
    intro b u e
    by_cases hb : b = a
    · rw [hb] at e ⊢
      rw [upd_same] at e
      cases e
      exact new
    · rw [upd_ne hb] at e
      refine (hk b u e).stay (fun _ _ _ q => q) (fun c q => ?_) (fun c xs q => ?_)
      · rw [upd_ne (ne_of_none q na)]
        exact q
      · rw [upd_ne (ne_of_none q na)]
        exact q
  have fin := I.call (ch := []) (h' := s1.heap) (g' := s1.gens) (t' := s1.toks) (d' := s1.drawn) un hk2 ag (fun _ z => nomatch z)
  obtain ⟨p1, p2, p3, p4, p5⟩ := s1
  have e5 : p5 = s0.os := os
  subst e5
  exact fin
theorem suiteOf {a : Addr} {s : Shared} (I : Inv X pins σ H s) : Inv (X.suite a (X.pn ++ pins)) [] σ H s where
  ok := I.ok.suite _ _
  os := I.os
  bare := I.bare
  base := I.base
  loc := I.loc
  cell := I.cell
  free := I.free
  freeC := I.freeC
  pin := fun p hp => I.pin p (by
    have hp' : p ∈ (X.pn ++ pins) ++ [] := hp
    rwa [List.append_nil] at hp')
  hok := I.hok
  len := I.len
theorem ofSuite {a : Addr} {s : Shared} {more : List (Addr × Obj)} (ok : X.Ok) (I : Inv (X.suite a (X.pn ++ pins)) more σ H s) : Inv X pins σ H s where
  ok := ok
  os := I.os
  bare := I.bare
  base := I.base
  loc := I.loc
  cell := I.cell
  free := I.free
  freeC := I.freeC
  pin := fun p hp => I.pin p (List.mem_append_left _ hp)
  hok := I.hok
  len := I.len
end
/-- what such a clause wishes of an exception of the body -/
def wTr (K : PySem.W.Frag) (m : Nat) (c : Value) (i : Nat) (ts : Addr → TS) (D : Ends) : WX := fun cls d σ H =>
  PySem.W.exmOne K cls c = some true ∧ ∀ a, σ.length = m → H a = none → ts a { nx := fun σ' H' => D.nx (σ'.set i none) H', rt := D.rt, bk := fun σ' H' => D.bk (σ'.set i none) H', ct := fun σ' H' => D.ct (σ'.set i none) H' }
    (σ.set i (some (.ref a))) (upd H a (ExI a cls d))
section
variable {X : Cx} {x n : Str} {c : Value} {i : Nat} {body suite : List Stmt} {b₀ : Stmt} {np pos pos' : Pos} {tb : WX → TS} {ts : Addr → TS}
/-- try: .. / except x as n: suite; the exception's object is tracked in the suite and behind it -/
theorem ps_tryT (hs : X.stack = X.env :: X.outer) (hf : X.env.frame = some X.env.locals) (hN : X.N.Nodup) (hi : X.N[i]? = some n) (hln : X.env.kindOf n = some .local) (hc : Names X x c)
    (hb : ∀ (W : WX) (pn : List (Addr × Obj)) (xe : Value → Shared → Prop), Takes (X.tr pn xe) W → PassesOwn (model X.prog X.w) X.A X.env xe → PSs (X.tr pn xe) body (tb W))
    (hsu : ∀ (a : Addr) (pn : List (Addr × Obj)), PSs (X.suite a pn) (b₀ :: suite) (ts a)) :
    PS X (.Try body [.ExceptHandler (some (.Name x np)) (some n) (b₀ :: suite) pos'] [] [] pos) (fun D σ H => tb (wTr X.K X.N.length c i ts D) D σ H) := by
  constructor
  intro pins s σ H D I h
  have ok := I.ok
  have hfr : X.A.frames = some (X.env :: X.outer) := by rw [ok.frames, hs]
  refine wpAny_Try_except ?_
  refine wpAny_mono ((hb (wTr X.K X.N.length c i ts D) (X.pn ++ pins)
    (fun e s₁ => wpAny (model X.prog X.w) X.A (noteFrame e X.env) (fun _ s₂ => wpAny (model X.prog X.w) X.A (setFlight e none)
      (fun _ s₃ => wpAny (model X.prog X.w) X.A (handleBy e X.env [.ExceptHandler (some (.Name x np)) (some n) (b₀ :: suite) pos']) (SP X pins D) X.xe s₃) X.xe s₂) X.xe s₁)
    (fun u s' xx => ?kept) PassesOwn.looking).run [] s σ H D (I.toTry _) h) (fun f s1 hsp => ?done) (fun e s1 he => he)
  case kept =>
    obtain ⟨a, B, sI, pins', σ', H', cls, d, rfl, Ja, nb, up, sky, na, os, ag, hcls, hgo⟩ := xx
    have J : Inv X pins σ' H' sI := Ja.ofTry ok
    have nb' : ∀ b o, sI.heap.get? b = some o → b ∉ frs X.stack → B.get? b = some o := nb
    have skyX : Sky B (X.env :: X.outer) a (Zc cls d) X.env.locals s'.heap := by
      rw [← hs]
      exact sky
    refine Sky.land Zc.steady hfr hf skyX ?_
    intro h3 fl3 up3
    obtain ⟨oe3, vs3, g3, z3, d3⟩ := fl3.there
    have n0 : sI.heap.get? a = none := by
      cases q : sI.heap.get? a with
      | none => rfl
      | some o =>
        exfalso
        have hm : a ∈ frs X.stack := by
          refine Classical.byContradiction fun hn => ?_
          have z := nb' a o q hn
          rw [fl3.2.1] at z
          cases z
        rw [hs] at hm
        obtain ⟨_, o', e', hnf⟩ := fl3.2.2.1.mem hm
        rw [g3] at e'
        cases e'
        exact hnf _ d3
    have J3 := landT (a := a) (o := ExI a cls d) (s1 := { s' with heap := h3 }) J nb' fl3.1 (up.trans up3) os ag n0 na (exI_ok g3 z3 d3)
    refine wpAny_handleBy_cons (codeAny_handlers_test ?_) (by intro q; cases q)
    have LT : PySem.W.Looks (model X.prog X.w) h3 (typeOf (.ref a)) cls := by
      intro A Q E s k q
      refine wpAny_typeOf_ref (k _ _ g3) ?_
      rw [z3.1]
      exact q
    have LM := PySem.W.exm_one (M := model X.prog X.w) J3.kIn LT hcls
    have test : ∀ {Q : Value → Shared → Prop} {E : Value → Shared → Prop}, Q c { s' with heap := h3 } →
        wpAny (model X.prog X.w) (X.A.mark (some (.ref a))) (eval (.Name x np) X.env) Q E { s' with heap := h3 } := by
      intro Q E q
      obtain ⟨hg, hdbg, hm | ⟨hm, hv, hnn⟩⟩ := hc
      · exact ld_glob (X := X.suite a (X.pn ++ pins)) (suiteOf J3) hg hm q hdbg
      · exact ld_blt (X := X.suite a (X.pn ++ pins)) (suiteOf J3) hg hm hv q hnn hdbg
    refine test (LM.here ?_)
    refine codeAny_handlers_suite_as ?_
    refine HandSPX.lands_againZ fl3 ?_
    intro h4 fl4 up4
    obtain ⟨oe4, vs4, g4, z4, d4⟩ := fl4.there
    have J4 := landT (a := a) (o := ExI a cls d) (s1 := { s' with heap := h4 }) J nb' fl4.1 ((up.trans up3).trans up4) os ag n0 na (exI_ok g4 z4 d4)
    refine store_ok (X := X.suite a (X.pn ++ pins)) (v := .ref a) (suiteOf J4) hN hi (.inl hln) rfl (fun s5 S5 => ?_) (.inr hln)
    refine wpAny_mono ((hsu a (X.pn ++ pins)).run [] s5 _ _ _ S5 (hgo a J.len na)) (fun f s6 hsp => ?_) (fun _ _ z => z.elim)
    have gone : ∀ {σ6 : L2.St} {H6 : Hp} {R : Shared → Prop}, Inv (X.suite a (X.pn ++ pins)) [] σ6 H6 s6 → (∀ s7, Inv X pins (σ6.set i none) H6 s7 → R s7) →
        wpAny (model X.prog X.w) X.A (do bindName X.env n .none; unbindBehindTheSuite X.env n pos') (fun _ s7 => R s7) X.xe s6 := by
      intro σ6 H6 R S6 hq
      exact gone_ok (ofSuite ok S6) hN hi hln hq
    cases f with
    | next =>
      obtain ⟨σ6, H6, S6, q6⟩ := hsp
      exact gone S6 fun s7 J7 => ⟨_, _, J7, q6⟩
    | brk =>
      obtain ⟨σ6, H6, S6, q6⟩ := hsp
      exact gone S6 fun s7 J7 => ⟨_, _, J7, q6⟩
    | cont =>
      obtain ⟨σ6, H6, S6, q6⟩ := hsp
      exact gone S6 fun s7 J7 => ⟨_, _, J7, q6⟩
    | ret u =>
      obtain ⟨v6, σ6, H6, S6, r6, q6⟩ := hsp
      exact gone S6 fun s7 J7 => ⟨_, _, _, J7, r6, q6⟩
  case done =>
   cases f with
    | next =>
      obtain ⟨σ', H', J', q⟩ := hsp
      exact wpAny_execs_nil ⟨σ', H', J'.ofTry ok, q⟩
    | brk =>
      obtain ⟨σ', H', J', q⟩ := hsp
      exact ⟨σ', H', J'.ofTry ok, q⟩
    | cont =>
      obtain ⟨σ', H', J', q⟩ := hsp
      exact ⟨σ', H', J'.ofTry ok, q⟩
    | ret u =>
      obtain ⟨v, σ', H', J', r, q⟩ := hsp
      exact ⟨v, σ', H', J'.ofTry ok, r, q⟩
end
/-! ### isinstance of such an exception -/
theorem call_isX {X : Cx} {D : Addr} (C : ExcC X.K D) : CallR X (.builtin "isinstance") (fun xs H Q => ∃ (a : Addr) (c : V) (cv : Value) (b : Bool), xs = [.ref a, c] ∧ H a = some (ExI a (.ref D) none) ∧ (∀ u, RelV c u → u = cv) ∧ PySem.W.kitOne X.K (.ref D) cv = some b ∧ Q (.bl b) H) := by
  intro pins s σ H xs us Q I r h
  obtain ⟨a, c, cv, b, rfl, ha, hcv, e, q⟩ := h
  cases r with
  | cons rx rr =>
    cases rr with
    | cons rt rr =>
      cases rr
      cases rx
      have ec := hcv _ rt
      subst ec
      obtain ⟨⟨oe, hget, hz, vs, hv⟩, _, _⟩ := I.hok a _ ha
      have J : PySem.W.InstAt s.heap a oe D none := by
        obtain ⟨oc, od, oda, osl⟩ := oe
        obtain ⟨h1, h2⟩ := hz
        dsimp only at h1 h2 hv
        subst h1 h2 hv
        exact ⟨hget, rfl, rfl, trivial⟩
      exact PySem.W.kia_one (PySem.W.handS_kitx_exc C.hg C.hk C.hs C.hd C.ha C.hn C.ht C.hm) I.kIn J e (fun z => nomatch z)
        (fun tk => ⟨.bl b, H, I.kept (t' := tk) (fun _ _ z => z), rfl, q⟩)
end Lm
/-! repr of a list of data. -/
namespace Lm
open PySem PySem.Spec PyProof.Rows L2
theorem repr_list {prog : Program} {w : World} {A : Around} {E : Value → Shared → Prop} {s : Shared} {a : Addr} {oa : Obj} {x : Value} {l : List Value} {n : Nat} {as : List Addr} {ds : List PyData} {Q : Value → Shared → Prop}
    (ha : s.heap.get? a = some oa) (hc : oa.cls = .type "list") (hd : oa.data = .seq (x :: l).toArray n) (hr : ReadsAll s.heap (x :: l) ds as) (hs : PyData.showableAll ds = true) (hnd : PyData.hasDictAll ds = false)
    (hz : (listText (PyData.shownAll ds)).length ≤ sizeLine) (hg : A.guards = some []) (hu : A.units + (PyData.depthAll ds + 8) < cLine)
    (hQ : ∀ h' u tk, (∀ b o, s.heap.get? b = some o → h'.get? b = some o) → Q (.str (listText (PyData.shownAll ds)) u) { s with heap := h', toks := tk }) :
    wpAny (model prog w) A (call (.builtin "repr") [.ref a]) Q E s := by
  obtain ⟨bs, hb, hk⟩ := ReprAllK.of_readsAll (prog := prog) (w := w) hr hs (fun z => by rw [hnd] at z; cases z) (fun t ht => Nat.le_trans (listText_mem_le ht) hz)
  have r : Reads s.heap (.ref a) (.list ds) _ := .list ha hc hd hr
  have hna : a ∉ bs := not_mem_of_deeper r (by simp only [PyData.depth]; omega) hb
  have hT : s.TypeIs (.ref a) "list" := ⟨oa, ha, hc⟩
  refine Calls.call_function_entry F.kind_repr F.plain_repr F.entry_repr (F.args_repr1 _) ?_
  unfold Builtin.«repr»
  refine wpAny_bind (m := oneArg "repr" _) (wpAny_pure ?_)
  refine wpAny_bind (wpAny_cRoomFor (by show A.units + 1 < _; omega) ?_)
  refine wpAny_bind (wpAny_specialOf (name := Str.ofString "__repr__") hT PySem.F.slot_list_repr.lookup ?_)
  refine wpAny_bind (m := callSpecialIfBound? (.ref a) (Str.ofString "__repr__")) (wpAny_callSpecialIfBound?_slot (name := Str.ofString "__repr__") hT PySem.F.slot_list_repr
    (call_list_reprK ha hc hd hna (by simpa using hk.length_eq) (fun i y e => hk.item i y (by simpa using e)) (g := []) (by simpa using hg) (fun b _ => Clear.nil b) (by show A.units + 1 + _ < _; omega) (fun b o e => e) (fun h' u tk hk => ?_) hz))
  refine wpAny_bind (wpAny_isInstance (T := "str") (b := true) rfl isSubtype_str_str ?_)
  exact wpAny_pure ⟨_, rfl, hQ h' u tk hk⟩
end Lm
/-! A def at hand by its name; the state of the draws; data that the draws leave as they are. -/
namespace Lm
open PySem PySem.Spec PyProof.Rows L2
/-- the def named x keeps its promise -/
def Has (P : Program) (w : World) (K : PySem.W.Frag) (mg : Str → Option Value) (base : Heap) (CX : CXT) (k : Nat) (x : Str) (ps : List Str) (sp : Sp) : Prop :=
  ∃ (f : Addr) (fd : FuncData), mg x = some (.ref f) ∧ PySem.W.keepIn K (.ref f) = true ∧ L2.Binds K fd ps [] ∧ FnOk P w K mg base CX k f fd ps sp
theorem Has.imp {P : Program} {w : World} {K : PySem.W.Frag} {mg : Str → Option Value} {base : Heap} {CX : CXT} {k : Nat} {x : Str} {ps : List Str} {sp sp' : Sp} (h : Has P w K mg base CX k x ps sp) (i : ∀ vs H Q E, sp' vs H Q E → sp vs H Q E) : Has P w K mg base CX k x ps sp' := by
  obtain ⟨f, fd, a, b, c, d⟩ := h
  exact ⟨f, fd, a, b, c, d.imp i⟩
def tH (sp : Sp) (E : XK) (t : TA) : TE := fun σ H Q => t σ H fun vs H1 => sp vs H1 Q E
def tHK (ks : List Str) (gV : List V → List V) (sp : Sp) (E : XK) (tk : TA) : TE := fun σ H Q => tk σ H fun zs H1 => zs.length = ks.length ∧ sp (gV zs) H1 Q E
section
variable {X : Cx} {CX : CXT} {x : Str} {ps : List Str} {sp : Sp} {E : XK} {j k : Nat} {p pos : Pos} {e : Expr} {es : List Expr} {t : TA}
theorem pe_h (c : Has X.prog X.w X.K X.mg X.base CX k x ps sp) (hr : Room j X.A) (hk : k ≤ j) (hg : Gl X x) (hx : Passes CX X E) (ha : PA X (e :: es) t) (hdb : (x == ("__debug__" : Str)) = false := by decide)
    (he : starEach (e :: es) X.env = (false, eval e X.env) :: starEach es X.env := by rfl) (hpl : (backTo pos (starEach es X.env)).any (·.1) = false := by rfl) : PE X (.Call (.Name x p) (e :: es) [] pos) (tH sp E t) := by
  obtain ⟨f, fd, hm, kp, b, F⟩ := c
  constructor
  intro pins s σ H Q I h
  have h : t σ H fun vs H1 => sp vs H1 Q E := h
  refine (pe_call F (hr.mono hk) hg hm kp b .nil hx ha hdb he hpl).run pins s σ H Q I ?_
  show t σ H fun vs H1 => sp (vs ++ []) H1 Q E
  simpa using h
end
/-- a def that is called by keywords alone -/
def HasK (P : Program) (w : World) (K : PySem.W.Frag) (mg : Str → Option Value) (base : Heap) (CX : CXT) (k : Nat) (x : Str) (ps ks : List Str) (gV : List V → List V) (sp : Sp) : Prop :=
  ∃ (f : Addr) (fd : FuncData) (g : List Value → List Value → List Value), mg x = some (.ref f) ∧ PySem.W.keepIn K (.ref f) = true ∧ KBn K fd ps 0 ks g (fun _ zs => gV zs) ∧ FnOk P w K mg base CX k f fd ps sp
section
variable {X : Cx} {CX : CXT} {x : Str} {ps ks : List Str} {sp : Sp} {E : XK} {j k : Nat} {p pos : Pos} {kws : List Keyword} {tk : TA} {gV : List V → List V}
theorem pe_hK (c : HasK X.prog X.w X.K X.mg X.base CX k x ps ks gV sp) (hr : Room j X.A) (hk : k ≤ j) (hg : Gl X x) (hx : Passes CX X E) (hkw : PK X kws tk)
    (hall : (backToKw pos (keywordEach kws X.env)).all (·.1.isSome) = true := by rfl) (hks : (backToKw pos (keywordEach kws X.env)).filterMap (·.1) = ks := by rfl)
    (hpl : ((backTo pos (starEach [] X.env)).any (·.1) || (backToKw pos (keywordEach kws X.env)).any (·.1.isNone)) = false := by rfl) (hdb : (x == ("__debug__" : Str)) = false := by decide) :
    PE X (.Call (.Name x p) [] kws pos) (tHK ks gV sp E tk) := by
  obtain ⟨f, fd, g, hm, kp, b, F⟩ := c
  constructor
  intro pins s σ H Q I h
  have h : tk σ H fun zs H1 => zs.length = ks.length ∧ sp (gV zs) H1 Q E := h
  refine wpAny_Call_Name_kw (ld_glob I hg hm ?_ hdb)
  refine PySem.W.callWith_KW0 (h₀ := X.base) I.ok.mod.kin kp hall ?_ hpl
  refine thn (hkw.run pos pins s σ H _ I h) ?_
  intro ws s2 ⟨zs, H2, I2, rz, l2, q2⟩
  refine ⟨I2.kIn, ?_⟩
  rw [hks]
  exact run_fnN (us := []) (vs := []) F (hr.mono hk) b hx I2 .nil rz rfl l2 q2
end
/-! ### the state of the draws -/
structure DrA where
  d : Addr
  w : Addr
  c : Addr
def drF (D : DrA) (r t : Int) : List (Key × V) := [(.inr "wide", .ref D.w), (.inr "cells", .ref D.c), (.inr "rest", .int r), (.inr "turn", .int t)]
/-- the state stands, and at most n turns were taken -/
def DrawAt (D : DrA) (n : Nat) (H : Hp) : Prop := ∃ (ws cs : List Int) (r t : Int), H D.d = some (.dK (drF D r t)) ∧ H D.w = some (.lst (ws.map V.int)) ∧ H D.c = some (.lst (cs.map V.int)) ∧ ((∀ x ∈ cs, 0 ≤ x ∧ x < 2147483629) ∧ D.c ≠ D.w) ∧ 0 ≤ t ∧ t ≤ (n : Int)
theorem DrawAt.mono {D : DrA} {n m : Nat} {H : Hp} (h : DrawAt D n H) (l : n ≤ m) : DrawAt D m H := by
  obtain ⟨ws, cs, r, t, h1, h2, h3, h4, h5, h6⟩ := h
  exact ⟨ws, cs, r, t, h1, h2, h3, h4, h5, by omega⟩
theorem DrawAt.same {D : DrA} {n : Nat} {H H' : Hp} (h : DrawAt D n H) (s : ∀ b o, H b = some o → (∀ ps, o ≠ .tbl ps) → H' b = some o) : DrawAt D n H' := by
  obtain ⟨ws, cs, r, t, h1, h2, h3, h4, h5, h6⟩ := h
  exact ⟨ws, cs, r, t, s _ _ h1 (fun _ z => by cases z), s _ _ h2 (fun _ z => by cases z), s _ _ h3 (fun _ z => by cases z), h4, h5, h6⟩
/-- all but the state stands -/
def Fr (D : DrA) (H H' : Hp) : Prop := ∀ b o, H b = some o → b ≠ D.d → b ≠ D.w → H' b = some o
theorem Fr.refl (D : DrA) (H : Hp) : Fr D H H := fun _ _ h _ _ => h
theorem Fr.trans {D : DrA} {H H1 H2 : Hp} (a : Fr D H H1) (b : Fr D H1 H2) : Fr D H H2 := fun c o h n1 n2 => b c o (a c o h n1 n2) n1 n2
theorem Fr.of {D : DrA} {H H' : Hp} (a : Same H H') : Fr D H H' := fun c o h _ _ => a c o h
theorem same_upd {H : Hp} {p : Addr} {o : HO} (h : H p = none) : Same H (upd H p o) := by
  intro b x e
  rw [upd_ne (ne_of_none e h)]
  exact e
theorem drF_rest (D : DrA) (r t : Int) : valV (drF D r t) (.inr "rest") = some (.int r) := rfl
theorem drF_turn (D : DrA) (r t : Int) : valV (drF D r t) (.inr "turn") = some (.int t) := rfl
theorem drF_wide (D : DrA) (r t : Int) : valV (drF D r t) (.inr "wide") = some (.ref D.w) := rfl
theorem drF_cells (D : DrA) (r t : Int) : valV (drF D r t) (.inr "cells") = some (.ref D.c) := rfl
theorem drF_putR (D : DrA) (r t z : Int) : putK (drF D r t) (.inr "rest") (.int z) = drF D z t := rfl
theorem drF_putT (D : DrA) (r t z : Int) : putK (drF D r t) (.inr "turn") (.int z) = drF D r z := rfl
def B : Nat := 70368744177664
/-! ### data apart from the state -/
mutual
inductive Da (D : DrA) (H : Hp) : V → PyData → Prop
  | non : Da D H .non .none
  | bl (b : Bool) : Da D H (.bl b) (.bool b)
  | int (i : Int) : Da D H (.int i) (.int i)
  | str (x : Str) : Da D H (.str x) (.str x)
  | lst {a : Addr} {xs : List V} {ds : List PyData} : H a = some (.lst xs) → a ≠ D.d → a ≠ D.w → DaAll D H xs ds → Da D H (.ref a) (.list ds)
  | tup {a : Addr} {xs : List V} {ds : List PyData} : H a = some (.tup xs) → a ≠ D.d → a ≠ D.w → DaAll D H xs ds → Da D H (.ref a) (.tuple ds)
  | emp {a : Addr} : H a = some (.dK []) → a ≠ D.d → a ≠ D.w → Da D H (.ref a) (.dict [])
inductive DaAll (D : DrA) (H : Hp) : List V → List PyData → Prop
  | nil : DaAll D H [] []
  | cons {v : V} {vs : List V} {d : PyData} {ds : List PyData} : Da D H v d → DaAll D H vs ds → DaAll D H (v :: vs) (d :: ds)
end
/-- all but the state, and but the tables, stands -/
def FrT (D : DrA) (H H' : Hp) : Prop := ∀ b o, H b = some o → b ≠ D.d → b ≠ D.w → (∀ ps, o ≠ .tbl ps) → H' b = some o
theorem FrT.refl (D : DrA) (H : Hp) : FrT D H H := fun _ _ h _ _ _ => h
theorem FrT.trans {D : DrA} {H H1 H2 : Hp} (a : FrT D H H1) (b : FrT D H1 H2) : FrT D H H2 := fun c o h n1 n2 n3 => b c o (a c o h n1 n2 n3) n1 n2 n3
theorem Fr.t {D : DrA} {H H' : Hp} (a : Fr D H H') : FrT D H H' := fun c o h n1 n2 _ => a c o h n1 n2
mutual
theorem Da.fr {D : DrA} {H H' : Hp} (f : FrT D H H') : ∀ {d : PyData} {v : V}, Da D H v d → Da D H' v d
  | _, _, .non => .non
  | _, _, .bl b => .bl b
  | _, _, .int i => .int i
  | _, _, .str x => .str x
  | _, _, .lst h n1 n2 ha => .lst (f _ _ h n1 n2 (fun _ z => by cases z)) n1 n2 (DaAll.fr f ha)
  | _, _, .tup h n1 n2 ha => .tup (f _ _ h n1 n2 (fun _ z => by cases z)) n1 n2 (DaAll.fr f ha)
  | _, _, .emp h n1 n2 => .emp (f _ _ h n1 n2 (fun _ z => by cases z)) n1 n2
theorem DaAll.fr {D : DrA} {H H' : Hp} (f : FrT D H H') : ∀ {ds : List PyData} {vs : List V}, DaAll D H vs ds → DaAll D H' vs ds
  | _, _, .nil => .nil
  | _, _, .cons h ha => .cons (Da.fr f h) (DaAll.fr f ha)
end
theorem DaAll.length {D : DrA} {H : Hp} : ∀ {ds : List PyData} {vs : List V}, DaAll D H vs ds → vs.length = ds.length
  | _, _, .nil => rfl
  | _, _, .cons _ ha => congrArg Nat.succ (DaAll.length ha)
theorem DaAll.get {D : DrA} {H : Hp} : ∀ {ds : List PyData} {vs : List V} {i : Nat} {v : V}, DaAll D H vs ds → vs[i]? = some v → ∃ d, ds[i]? = some d ∧ Da D H v d
  | _, _, _, _, .nil, e => by simp at e
  | _, _, 0, _, .cons h _, e => by
    simp at e
    subst e
    exact ⟨_, rfl, h⟩
  | _, _, i + 1, _, .cons _ ha, e => by
    obtain ⟨d, h1, h2⟩ := DaAll.get (i := i) ha (by simpa using e)
    exact ⟨d, by simpa using h1, h2⟩
theorem DaAll.app {D : DrA} {H : Hp} : ∀ {ds es : List PyData} {vs ws : List V}, DaAll D H vs ds → DaAll D H ws es → DaAll D H (vs ++ ws) (ds ++ es)
  | _, _, _, _, .nil, h => h
  | _, _, _, _, .cons a b, h => .cons a (DaAll.app b h)
theorem DaAll.take {D : DrA} {H : Hp} (n : Nat) : ∀ {ds : List PyData} {vs : List V}, DaAll D H vs ds → DaAll D H (vs.take n) (ds.take n) := by
  induction n with
  | zero => intro ds vs _; exact .nil
  | succ n ih =>
    intro ds vs h
    cases h with
    | nil => exact .nil
    | cons a b => exact .cons a (ih b)
theorem DaAll.drop {D : DrA} {H : Hp} (n : Nat) : ∀ {ds : List PyData} {vs : List V}, DaAll D H vs ds → DaAll D H (vs.drop n) (ds.drop n) := by
  induction n with
  | zero => intro ds vs h; exact h
  | succ n ih =>
    intro ds vs h
    cases h with
    | nil => exact .nil
    | cons a b => exact ih b
theorem DaAll.rev {D : DrA} {H : Hp} : ∀ {ds : List PyData} {vs : List V}, DaAll D H vs ds → DaAll D H vs.reverse ds.reverse
  | _, _, .nil => .nil
  | _, _, .cons a b => by
    rw [List.reverse_cons, List.reverse_cons]
    exact DaAll.app (DaAll.rev b) (.cons a .nil)
theorem DaAll.ints {D : DrA} {H : Hp} : ∀ ns : List Int, DaAll D H (ns.map V.int) (ns.map PyData.int)
  | [] => .nil
  | n :: r => .cons (.int n) (DaAll.ints r)
/-- a new object lies apart from the state -/
theorem DrawAt.off {D : DrA} {n : Nat} {H : Hp} {p : Addr} (h : DrawAt D n H) (np : H p = none) : p ≠ D.d ∧ p ≠ D.w := by
  obtain ⟨ws, cs, r, t, h1, h2, _⟩ := h
  constructor
  · intro z
    rw [z, h1] at np
    cases np
  · intro z
    rw [z, h2] at np
    cases np
theorem DrawAt.new {D : DrA} {n : Nat} {H : Hp} {p : Addr} {o : HO} (h : DrawAt D n H) (np : H p = none) : DrawAt D n (upd H p o) := h.same fun b x e _ => same_upd np b x e
end Lm
/-! An own exception whose __init__ says super().__init__(f"..") and keeps one field. -/
namespace Lm
open PySem PySem.Spec PyProof.Rows L2
/-! ### {x!r} of None or an int -/
def tFmtN (te : TE) : TE := fun σ H Q => te σ H fun x H1 => (x = .non ∧ Q (.str "None") H1) ∨ ∃ i : Int, x = .int i ∧ i.natAbs.log2 < 1920 ∧ Q (.str (toString i)) H1
theorem pe_fmtN {X : Cx} {e : Expr} {te : TE} {pos : Pos} (he : PE X e te) : PE X (.FormattedValue e 114 none pos) (tFmtN te) := by
  refine ⟨fun pins s σ H Q I h => ?_⟩
  refine wpAny_FormattedValue_repr (thn (he.run pins s σ H _ I h) fun v s1 hv => ?_)
  obtain ⟨x, H1, I1, r1, q⟩ := hv
  rcases q with ⟨rfl, q⟩ | ⟨i, rfl, hz, q⟩
  · obtain rfl : v = Value.none := r1
    exact pyReprObj_none (wpAny_formatField_str ⟨.str "None", H1, I1.tok _, ⟨_, rfl⟩, q⟩ ⟨.str "None", H1, I1.tok _, ⟨_, rfl⟩, q⟩ (by decide +kernel))
  · obtain ⟨t, rfl⟩ := r1
    exact pyReprObj_int hz (wpAny_formatField_str ⟨.str (toString i), H1, I1.tok _, ⟨_, rfl⟩, q⟩ ⟨.str (toString i), H1, I1.tok _, ⟨_, rfl⟩, q⟩ (int_text_fits hz))
theorem lk_cons {α : Type} (k y : Str) (v : α) (r : List (Str × α)) : ((k, v) :: r).lookup y = if y = k then some v else r.lookup y := by
  by_cases h : y = k
  · rw [if_pos h]
    simp [List.lookup, h]
  · rw [if_neg h]
    have : (y == k) = false := by simpa using h
    simp [List.lookup, this]
theorem lk_nil {α : Type} (y : Str) : ([] : List (Str × α)).lookup y = none := rfl
/-! ### the frame of such an __init__ -/
/-- what the written part says of the def -/
structure InitAt (P : Program) (K : PySem.W.Frag) (mg : Str → Option Value) (C : Addr) (st : Stmt) (fI : Addr) (fd : FuncData) : Prop where
  ex : ∃ (oc : Value) (od : Option Addr) (kV doc pm : Value) (an : Option Addr) (cda cc : Addr) (ct : Value) (osl : Array (Option Value)) (qual : Str),
    fd = PySem.W.ksFn "__init__" qual (defArgs st) (defBody st) (defScope st) .none kV doc pm an (.ref cda) ct cc ∧ K.lookup fI = some ⟨oc, od, .func fd, osl⟩ ∧ PySem.W.codeIn K (.ref cda) qual = true ∧
    (∃ (ccl : Value) (cdd : Option Addr) (vs : Array Value) (ccs : Array (Option Value)) (file : Str) (tf : Tok), K.lookup cda = some ⟨ccl, cdd, .fields vs, ccs⟩ ∧ vs[2]? = some (.str file tf) ∧ ((P.main.file : Str) == file) = true) ∧
    ∃ (cl : Value) (cld : Option Addr) (csl : Array (Option Value)), K.lookup cc = some ⟨cl, cld, .cell (some (.ref C)), csl⟩
  cls : ∃ cd, PySem.W.clsIn K C = some cd
  self : PySem.W.mroIn K C (.ref C) = some true
  sup : mg "super" = none
  top : (P.main.scope.names.lookup ("super" : Str)).isSome = false
  along : PySem.W.ks_superIn K C C "__init__" = some (some (.builtin "ValueError.__init__"))
  isV : PySem.W.subIn K (.ref C) (.type "ValueError") = some true
  opq : PySem.W.nsIn K cStatics "thirdparty.any" = some none
  oex : OexC K C
/-- the context in which its body runs -/
def cxI (P : Program) (w : World) (K : PySem.W.Frag) (mg : Str → Option Value) (base : Heap) (N : List Str) (qual : Str) (scope : Scope) (f : Addr) (cd : Value) (cc : Addr) (A : Around) (outer : List Env) (s : Shared) (H : Hp) (xe : Value → Shared → Prop) : Cx where
  prog := P
  w := w
  K := K
  mg := mg
  base := base
  A := A.deeper (PySem.W.ksEnv qual scope s.heap.objs.size f cd cc)
  N := N
  s_0 := s
  H_0 := H
  env := PySem.W.ksEnv qual scope s.heap.objs.size f cd cc
  outer := outer
  stack := PySem.W.ksEnv qual scope s.heap.objs.size f cd cc :: outer
  ex := []
  calm := true
  fn := fun _ => false
  pn := []
  xe := xe
def nInit (x : Str) : List Str := ["self", x]
def scI (x : Str) : Scope := { kind := .function, names := [("self", .local), (x, .local), ("__class__", .free), ("super", .globalImplicit)], isGenerator := false, isCoroutine := false, more := [] }
section
variable {P : Program} {w : World} {K : PySem.W.Frag} {mg : Str → Option Value} {base : Heap}
theorem inv_init {x qual : Str} {f cc C : Addr} {cd : Value} {A : Around} {outer : List Env} {s : Shared} {H : Hp} {xe : Value → Shared → Prop} {u0 u1 : Value} {v0 v1 : V} {h₀ : Heap} {oc : Value} {od : Option Addr} {osl : Array (Option Value)}
    (hx : (x == ("self" : Str)) = false ∧ (x == ("__class__" : Str)) = false ∧ (x == ("super" : Str)) = false) (hd : A.handled = none) (e0 : Env0 P w K mg base A outer s H) (hcc : K.lookup cc = some ⟨oc, od, .cell (some (.ref C)), osl⟩)
    (r0 : RelV v0 u0) (r1 : RelV v1 u1) (ns : h₀.Ns s.heap.objs.size (fun y => ([("self", u0), (x, u1)] : List (Str × Value)).reverse.lookup y)) (hk : ∀ b o, s.heap.get? b = some o → h₀.get? b = some o) (t : Nat) :
    Inv (cxI P w K mg base (nInit x) qual (scI x) f cd cc A outer s H xe) [] [some v0, some v1] H { s with heap := h₀, toks := t } := by
  have KX : K.In s.heap := e0.mod.kin.keeps fun b o e => (e0.bs b o e).1
  have noA : ∀ b : Addr, b ∉ (cxI P w K mg base (nInit x) qual (scI x) f cd cc A outer s H xe).ex := fun b z => absurd (show b ∈ ([] : List Addr) from z) (by simp)
  have cells : ∀ y c, (cxI P w K mg base (nInit x) qual (scI x) f cd cc A outer s H xe).env.cells.lookup y = some c → y = ("__class__" : Str) ∧ c = cc := fun y c h => by
    have h : ([(("__class__" : Str), cc)] : List (Str × Addr)).lookup y = some c := h
    rw [lk_cons] at h
    by_cases e : y = ("__class__" : Str)
    · rw [if_pos e] at h
      exact ⟨e, (Option.some.inj h).symm⟩
    · rw [if_neg e] at h
      cases h
  have hccb : H cc = none := (e0.bs cc _ (e0.mod.kin _ _ hcc)).2
  refine ⟨⟨e0.mod, rfl, rfl, rfl, Nat.le_refl _, fun y z c h1 h2 => ?_, fun y hy => ?_, fun y c h => ?_, fun _ => hd, Around.frames_deeper e0.frames, .inr ⟨rfl, rfl⟩, fun b z => absurd z (noA b), e0.bs, e0.bsz, fun b _ _ => noA b, fun b z => absurd z (noA b), e0.funs, e0.frf⟩,
    rfl, e0.bare, Un.kept hk, ⟨_, ns, fun i y v h1 h2 h3 => ?_⟩, fun y c h => ?_, e0.hok.fresh (Nat.le_refl _), fun y c h => ?_, fun p hp => absurd (show p ∈ ([] : List (Addr × Obj)) from hp) (by simp), e0.hok.kept hk, rfl⟩
  · rw [(cells y c h1).1, (cells z c h2).1]
  · have hy : ([("self", .local), (x, .local), ("__class__", .free), ("super", .globalImplicit)] : List (Str × NameKind)).lookup y = some .cell ∨ ([("self", .local), (x, .local), ("__class__", .free), ("super", .globalImplicit)] : List (Str × NameKind)).lookup y = some .free := hy
    by_cases e : y = ("__class__" : Str)
    · exact ⟨cc, by rw [e]; rfl⟩
    · exfalso
      rw [lk_cons, lk_cons, lk_cons, lk_cons, lk_nil, if_neg e] at hy
      by_cases e1 : y = ("self" : Str)
      · rw [if_pos e1] at hy
        rcases hy with hy | hy <;> cases hy
      · rw [if_neg e1] at hy
        by_cases e2 : y = x
        · rw [if_pos e2] at hy
          rcases hy with hy | hy <;> cases hy
        · rw [if_neg e2] at hy
          by_cases e3 : y = ("super" : Str)
          · rw [if_pos e3] at hy
            rcases hy with hy | hy <;> cases hy
          · rw [if_neg e3] at hy
            rcases hy with hy | hy <;> cases hy
  · cases h
  · have hx1 : (x == ("self" : Str)) = false := hx.1
    match i, h1, h2 with
    | 0, h1, h2 =>
      have h1 : some ("self" : Str) = some y := h1
      cases h1
      have h2 : some (some v0) = some (some v) := h2
      cases h2
      refine ⟨u0, r0, .inl ⟨rfl, ?_⟩⟩
      have k : ¬ ("self" : Str) = x := fun z => by
        rw [← z] at hx1
        simp at hx1
      show ([(x, u1), ("self", u0)] : List (Str × Value)).lookup ("self" : Str) = some u0
      rw [lk_cons, if_neg k, lk_cons, if_pos rfl]
    | 1, h1, h2 =>
      have h1 : some x = some y := h1
      cases h1
      have h2 : some (some v1) = some (some v) := h2
      cases h2
      refine ⟨u1, r1, .inl ⟨?_, ?_⟩⟩
      · show ([("self", .local), (x, .local), ("__class__", .free), ("super", .globalImplicit)] : List (Str × NameKind)).lookup x = some .local
        rw [lk_cons, lk_cons, if_pos rfl]
        split <;> rfl
      · show ([(x, u1), ("self", u0)] : List (Str × Value)).lookup x = some u1
        rw [lk_cons, if_pos rfl]
    | i + 2, h1, h2 => cases h1
  · obtain ⟨_, rfl⟩ := cells y c h
    exact ⟨_, ⟨_, hk _ _ (KX _ _ hcc), rfl⟩⟩
  · obtain ⟨_, rfl⟩ := cells y c h
    exact hccb
theorem run_on {X : Cx} {pins : List (Addr × Obj)} {σ : L2.St} {H : Hp} {s : Shared} {D : Ends} {st : List Stmt} {t : TS} (I : Inv X pins σ H s) (p : PSs X st t) (q : t D σ H) : wpAny (model X.prog X.w) X.A (execs st X.env) (SP X pins D) X.xe s := p.run pins s σ H D I q
/-- ValueError.__init__, bound to the exception, is called -/
theorem call_mw {A : Around} {E : Value → Shared → Prop} {pins : List (Addr × Obj)} {σ : L2.St} {H : Hp} {s : Shared} {X : Cx} {u a C : Addr} {us : List Value} {Q : Value → Shared → Prop} (T : OexC X.K C) (I : Inv X pins σ H s) (e : H a = some (exo a C none))
    (hu : s.heap.get? u = some (PySem.W.kxs_mw "ValueError.__init__" a)) (hl : us.length ≤ sizeLine) (h : ∀ s', Inv X pins σ H s' → Q .none s') : wpAny (model X.prog X.w) A (call (.ref u) us) Q E s := by
  obtain ⟨nm, q, N, bs, bm, sn, sub, ab, col, dd, k0, k1, k2, k3, k5, hC, hbm⟩ := T.cls
  obtain ⟨t1, ho⟩ := exo_at I.hok e
  have fin : ∀ h', (∀ b o, b ≠ a → s.heap.get? b = some o → h'.get? b = some o) → h'.get? a = some (PySem.W.excRec (.ref C) s.heap.objs.size none .none .none (.bool false)) → Q .none { s with heap := h' } := fun h' k hx => by
    have J := I.write (t' := s.toks) (x := a) (e := a) (o := exo a C none) (by rw [e]; exact True.intro) (.inl rfl) k ⟨_, hx⟩ (exo_ok hx)
    have eu : upd H a (exo a C none) = H := by
      funext b
      by_cases hb : b = a
      · rw [hb, upd_same, e]
      · rw [upd_ne hb]
    rw [eu] at J
    exact h _ J
  have hCk := I.kIn _ _ hC
  obtain ⟨hh, g, d, t, os⟩ := s
  refine wpAny_call (codeAny_of_tree ?_)
  show wpAny _ A.in1 (callAny (.ref u) ⟨us, []⟩) _ _ _
  simp only [callAny]
  refine wpAny_bind (wpAny_load hu ?_)
  have kinds : (Value.type "method-wrapper" == Value.type "method" || Value.type "method-wrapper" == Value.type "builtin_function_or_method" || Value.type "method-wrapper" == Value.type "method-wrapper") = true := by decide
  simp only [PySem.W.kxs_mw, kinds, if_true]
  refine PySem.W.KFB.if_so (by decide) ?_
  refine wpAny_bind (PySem.W.check_bound_init PySem.F.excBase_ValueError.toExcCallFacts hCk ho rfl ?_)
  refine wpAny_bind (wpAny_pure (wpAny_pure ?_))
  refine ⟨plainId_quiet PySem.F.excBase_ValueError.init.plain _, codeAny_builtin PySem.F.excBase_ValueError.initEntry ?_⟩
  exact PySem.W.exc_init_tree (cls := .ref C) (t0 := t1) (dv := none) (c2 := .none) (c3 := .none) (b4 := .bool false) ho hl fun h' k hx _ => fin h' k hx
/-- the def's statements, as their text has them -/
structure InitTxt (st : Stmt) (x : Str) : Prop where
  sc : defScope st = scI x
  body : ∃ (m : Str) (j : Nat) (p0 p1 p2 p3 p4 p5 p6 p7 p8 p9 pa pb pc pd : Pos), defBody st = [
    .Expr (.Call (.Attribute (.Call (.Name "super" p0) [] [] p1) "__init__" p2) [.JoinedStr [.Constant (.str m) j p3, .FormattedValue (.Name x p4) 114 none p5] p6] [] p7) p8,
    .Assign [.Attribute (.Name "self" p9) x pa] (.Name x pb) pc] ∧ m.length ≤ 1000 ∧
    ∀ env, ∃ pl, eval (.Call (.Attribute (.Call (.Name "super" p0) [] [] p1) "__init__" p2) [.JoinedStr [.Constant (.str m) j p3, .FormattedValue (.Name x p4) 114 none p5] p6] [] p7) env = (do
      let ov ← attributeBase (.Call (.Name "super" p0) [] [] p1) "__init__" env (eval (.Call (.Name "super" p0) [] [] p1) env)
      standAt p2.atName
      let (f, first) ← holding [ov] (getMethod ov "__init__" pl)
      callWith p7 f first (backTo p7 (starEach [.JoinedStr [.Constant (.str m) j p3, .FormattedValue (.Name x p4) 114 none p5] p6] env)) [])
  params : (defArgs st).posonlyargs = [] ∧ ∃ a b, (defArgs st).args = [a, b] ∧ a.arg = "self"
/-- what it keeps: the argument in the one field -/
def spInit (K : PySem.W.Frag) (C : Addr) (x : Str) : Sp := fun vs H Q _ => ∃ (a : Addr) (y : V), vs = [.ref a, y] ∧ H a = some (exo a C none) ∧ PySem.W.findIn K (.ref C) x = some none ∧ (y = .non ∨ ∃ i : Int, y = .int i ∧ i.natAbs < 1000) ∧
  ∀ dx, H dx = none → dx ≠ a → Q .non (upd (upd H dx (exd dx [(x, y)])) a (exo a C (some dx)))
theorem ok_init {x : Str} {C fI : Addr} {st : Stmt} {fd : FuncData} (F : InitAt P K mg C st fI fd) (T : InitTxt st x) (hx : (x == ("self" : Str)) = false ∧ (x == ("__class__" : Str)) = false ∧ (x == ("super" : Str)) = false) (hdb : (x == ("__debug__" : Str)) = false ∧ (x == ("__classdict__" : Str)) = false) :
    FnOk P w K mg base CX0 1 fI fd ["self", x] (spInit K C x) := by
  refine ⟨fun vs H Q E h => ?_, fun A outer s H args us vs Q E hr e0 hb r hsp => ?_⟩
  · obtain ⟨a, y, rfl, _⟩ := h
    rfl
  · obtain ⟨a, y, rfl, ha, hno, hy, q⟩ := hsp
    obtain ⟨oc, od, kV, doc, pm, an, cda, cc, ct, osl, qual, rfl, lk, hcd, ⟨ccl, cdd, fs, ccs, file, tf, lcd, hfs, hfile⟩, cl, cld, csl, lcc⟩ := F.ex
    obtain ⟨cd, hcls⟩ := F.cls
    obtain ⟨m, j, p0, p1, p2, p3, p4, p5, p6, p7, p8, p9, pa, pb, pc, pd, hbody, hm, hev⟩ := T.body
    have hsc := T.sc
    have hpar := T.params
    have hself := F.self
    have hsup := F.sup
    have htop := F.top
    have halong := F.along
    have hisV := F.isV
    have hopq := F.opq
    have hoex := F.oex
    clear F T
    generalize defScope st = sc at *
    generalize defBody st = bd at *
    subst hsc hbody
    have KX : K.In s.heap := e0.mod.kin.keeps fun b o e => (e0.bs b o e).1
    have lim : s.heap.NoLimit := e0.mod.nolimit.keeps fun b o e => (e0.bs b o e).1
    match us, r with
    | [u0, u1], .cons r0 (.cons r1 .nil) =>
    obtain rfl : u0 = Value.ref a := r0
    refine ks_codeAny_call_defAt (binds := [("self", .ref a), (x, u1)]) hr.depth (KX _ _ lk) rfl lim (PySem.W.codeRec_of KX hcd) rfl hb ?_ ?_ (fun h₀ ns hk => ?_)
    · intro z hz
      have hz : z ∈ ([("self", .local), (x, .local), ("__class__", .free), ("super", .globalImplicit)] : List (Str × NameKind)) := hz
      simp at hz
      rcases hz with rfl | rfl | rfl | rfl <;> (intro e; cases e)
    · intro z hz
      have hz : z = (("self" : Str), Value.ref a) ∨ z = (x, u1) := by simpa using hz
      show ([("self", .local), (x, .local), ("__class__", .free), ("super", .globalImplicit)] : List (Str × NameKind)).lookup z.1 = some .local
      rcases hz with rfl | rfl
      · rw [lk_cons, if_pos rfl]
      · rw [lk_cons, lk_cons, if_pos rfl]
        split <;> rfl
    · have I := inv_init (qual := qual) (f := fI) (cd := .ref cda) (A := A) (outer := outer) (xe := fun e s' => wpAny (model P w) (A.deeper (PySem.W.ksEnv qual (scI x) s.heap.objs.size fI (.ref cda) cc)) (leaving (PySem.W.ksEnv qual (scI x) s.heap.objs.size fI (.ref cda) cc) e)
          (fun _ s'' => CR CX0 outer P w H s Q E (.error e) s'') (fun e' s'' => CR CX0 outer P w H s Q E (.error e') s'') s') hx hr.hd e0 lcc (v0 := .ref a) (u0 := .ref a) rfl r1 ns hk (s.toks + 2)
      have kS : (scI x).names.lookup ("super" : Str) = some .globalImplicit := by
        show ([("self", .local), (x, .local), ("__class__", .free), ("super", .globalImplicit)] : List (Str × NameKind)).lookup ("super" : Str) = some .globalImplicit
        rw [lk_cons, if_neg (by decide), lk_cons, if_neg (fun z => by rw [← z] at hx; simp at hx), lk_cons, if_neg (by decide), lk_cons, if_pos rfl]
      have kC : (scI x).names.lookup ("__class__" : Str) = some .free := by
        show ([("self", .local), (x, .local), ("__class__", .free), ("super", .globalImplicit)] : List (Str × NameKind)).lookup ("__class__" : Str) = some .free
        rw [lk_cons, if_neg (by decide), lk_cons, if_neg (fun z => by rw [← z] at hx; simp at hx), lk_cons, if_pos rfl]
      have kA : (scI x).names.lookup ("self" : Str) = some .local := rfl
      obtain ⟨hpos, ar, ar2, hargs, hself'⟩ := hpar
      obtain ⟨oD, hD1, hD2⟩ : ∃ oD, h₀.get? C = some oD ∧ oD.data = .cls cd := by
        unfold PySem.W.clsIn at hcls
        split at hcls
        · rename_i c0 d0 cd' sl ho
          cases hcls
          exact ⟨_, hk _ _ (KX _ _ ho), rfl⟩
        · cases hcls
      obtain ⟨t1, hxo⟩ := exo_at I.hok ha
      obtain ⟨pl, hev⟩ := hev (PySem.W.ksEnv qual (scI x) s.heap.objs.size fI (.ref cda) cc)
      refine ks_wpAt_execs_cons (ks_wpAt_Expr_any (ks_wpAt_MethodCall ?_ hev))
      · refine ks_wpAt_super_base (env := PySem.W.ksEnv qual (scI x) s.heap.objs.size fI (.ref cda) cc) (ar := ar) kS kC (by rfl) rfl (hk _ _ (KX _ _ lk)) rfl ?_ rfl (hk _ _ (KX _ _ lcd)) rfl hfs hfile htop ?_
        · show ((defArgs st).posonlyargs ++ (defArgs st).args).head? = some ar
          rw [hpos, hargs]
          rfl
        · obtain ⟨mb, b1, b2⟩ := e0.mod.blt
          refine PySem.W.ks_loadName_global rfl kS (Calls.loadGlobal_builtin (env := PySem.W.ksEnv qual (scI x) s.heap.objs.size fI (.ref cda) cc) (e0.mod.glob.keeps I.bk) hsup (b1.keeps I.bk) ((b2 "super" (by decide)).trans (by decide +kernel)) ⟨rfl, ?_⟩)
          refine wpAny_loadName_free rfl kC rfl ⟨_, hk _ _ (KX _ _ lcc), rfl⟩ ?_
          refine wpAny_loadName_local rfl (by rw [hself']; exact kA) ns (v := .ref a) ?_ ?_
          · rw [hself']
            show ([(x, u1), ("self", .ref a)] : List (Str × Value)).lookup ("self" : Str) = some (.ref a)
            rw [lk_cons, if_neg (fun z => by rw [← z] at hx; simp at hx), lk_cons, if_pos rfl]
          refine ks_wpAny_isType_cls hD1 hD2 ⟨rfl, ?_⟩
          refine ks_wpAny_call_super hD1 hD2 hxo rfl (fun c e => by cases e) (PySem.W.looks_mroIn I.kIn hself) (fun h2 hso hk2 => ?_)
          have I2 := I.kept (t' := s.toks + 2) hk2
          have hx2 := hk2 _ _ hxo
          have J2 : PySem.W.InstAt h2 a { cls := .ref C, dict := none, data := .fields #[.ref t1, .none, .none, .none, .bool false, .none] } C none := ⟨hx2, rfl, rfl, trivial⟩
          have along : PySem.W.alongIn K "__init__" ((cd.mro.dropWhile (· != .ref C)).drop 1) = some (some (.builtin "ValueError.__init__")) := by
            unfold PySem.W.ks_superIn at halong
            rw [hcls] at halong
            exact halong
          refine PySem.W.kxs_getMethod PySem.W.kxs_ValueError hso (PySem.W.looks_opaque I2.kIn hopq) (fun A Q E s k q => wpAny_bind ((PySem.W.looks_clsIn I2.kIn hcls) A _ E s k (wpAny_pure q))) rfl I2.kIn along (J2.type.andThen (PySem.W.looks_subIn I2.kIn hisV)) (PySem.W.ks_ne I2.kIn J2 hcls) (by decide) ?_
          have I3 := (I2.kept (t' := s.toks + 2 + 1) fun b o e => Heap.get?_push_of_some (PySem.W.kxs_mw "ValueError.__init__" a) e).pins_of (pins' := [(h2.objs.size, PySem.W.kxs_mw "ValueError.__init__" a)]) fun p hp => by
            rw [List.mem_singleton.mp hp]
            refine ⟨Heap.get?_push_size _ rfl, I2.hok.fresh (Nat.le_refl _), ?_, I2.nofs (Nat.le_refl _), fun v z => by cases z⟩
            exact Nat.ne_of_gt I2.lt
          have vx : Vis (scI x) x := .inl (by
            show ([("self", .local), (x, .local), ("__class__", .free), ("super", .globalImplicit)] : List (Str × NameKind)).lookup x = some .local
            rw [lk_cons, lk_cons, if_pos rfl]
            split <;> rfl)
          refine PySem.W.kxs_callWith (i := "ValueError.__init__") (x := a) rfl (PySem.Calls.evalArgs_plain ?_)
          refine thn ((pa_cons (pe_joined (.cons pe_str (.cons (pe_fmtN (pv 1 rfl vx hdb.1 hdb.2)) .nil))) pa_nil).run p7 [(h2.objs.size, PySem.W.kxs_mw "ValueError.__init__" a)] _ [some (.ref a), some y] H (fun vs H1 => vs.length = 1 ∧ H1 = H) I3 ?_) fun us s4 hus => ?_
          · have fits : ∀ z : Str, z.length ≤ 5000 → (Str.empty ++ m ++ z).length ≤ sizeLine := fun z hz => by
              rw [Str.length_append, Str.length_append, sizeLine_eq]
              have : Str.empty.length = 0 := rfl
              omega
            refine ⟨m, rfl, ?_, ?_⟩
            · have := fits "" (by decide +kernel)
              rw [Str.length_append] at this
              exact Nat.le_trans (Nat.le_add_right _ _) this
            · rcases hy with rfl | ⟨i, rfl, hi⟩
              · exact ⟨_, rfl, .inl ⟨rfl, _, rfl, fits _ (by decide +kernel), rfl, rfl⟩⟩
              · refine ⟨_, rfl, .inr ⟨i, rfl, ?_, _, rfl, fits _ ?_, rfl, rfl⟩⟩
                · by_cases h0 : i.natAbs = 0
                  · rw [h0]
                    decide
                  · have : i.natAbs.log2 < 10 := (Nat.log2_lt h0).mpr (by omega)
                    omega
                · have := int_text_length_le10 (a := i) (k := 4) (by decide) (by omega)
                  rw [PySem.ofString_length]
                  omega
          · obtain ⟨vs, H1, I4, r4, hl4, rfl⟩ := hus
            have pin := I4.pin _ (List.mem_append_right _ (List.mem_singleton.mpr rfl))
            refine ⟨pin.1, call_mw hoex I4 ha pin.1 ?_ fun s5 I5 => ?_⟩
            · show us.length ≤ sizeLine
              rw [← r4.length, hl4]
              decide
            · have I6 := (I5.pins_of (pins' := []) (fun _ z => nomatch z))
              have st := run_on (D := { nx := fun _ H' => Q .non H', rt := Q }) (st := [.Assign [.Attribute (.Name "self" p9) x pa] (.Name x pb) pc]) I6 (pss_one (ps_ost (pv 0) (pv 1 rfl vx hdb.1 hdb.2))) ⟨y, rfl, .ref a, rfl, a, C, rfl, hoex, hno, .inl ⟨ha, q⟩⟩
              refine wpAt_of_wpAny (wpAny_mono st (fun fl s6 hs => ?_) fun _ _ z => z)
              cases fl with
              | next =>
                obtain ⟨σ', H', J, qq⟩ := hs
                exact ⟨.non, H', J.os, J.bare, J.base, J.hok, rfl, qq⟩
              | ret u =>
                obtain ⟨v, σ', H', J, rv, qq⟩ := hs
                exact ⟨v, H', J.os, J.bare, J.base, J.hok, rv, qq⟩
              | brk =>
                obtain ⟨_, _, _, qq⟩ := hs
                exact False.elim qq
              | cont =>
                obtain ⟨_, _, _, qq⟩ := hs
                exact False.elim qq
end
end Lm
/-! Raising such an exception; its field and its class asked where it is held. -/
namespace Lm
open PySem PySem.Spec PyProof.Rows L2
/-- a class with such an __init__, as the head leaves it -/
structure YMk (P : Program) (K : PySem.W.Frag) (mg : Str → Option Value) (base : Heap) (w : World) (x : Str) (f : Str) (C : Addr) : Prop where
  at_ : mg x = some (.ref C)
  oex : OexC K C
  ini : ∃ (fI : Addr) (fd : FuncData), PySem.W.findIn K (.ref C) "__init__" = some (some (.ref fI)) ∧ PySem.W.typeIn K (.ref fI) = some (.type "function") ∧ FnOk P w K mg base CX0 1 fI fd ["self", f] (spInit K C f) ∧ L2.Binds K fd ["self", f] []
  no : PySem.W.findIn K (.ref C) f = some none
/-- a reading by what it leads to -/
def tOf (te : TE) : TE := fun σ H Q => ∃ Q0 : VK, te σ H Q0 ∧ ∀ v H', Q0 v H' → Q v H'
theorem pe_of {X : Cx} {e : Expr} {te : TE} (he : PE X e te) : PE X e (tOf te) := by
  refine ⟨fun pins s σ H Q I h => ?_⟩
  obtain ⟨Q0, h0, k⟩ := h
  exact thn (he.run pins s σ H Q0 I h0) fun u s1 ⟨v, H1, I1, r, q⟩ => ⟨v, H1, I1, r, k _ _ q⟩
/-- raise X(e) -/
def tBadY (C : Addr) (f : Str) (W : WX) (te : TE) : TS := fun _ σ H => te σ H fun y H1 => (y = .non ∨ ∃ i : Int, y = .int i ∧ i.natAbs < 1000) ∧ ∀ dx, H1 dx = none → W (.ref C) (some dx) σ (upd H1 dx (.xd [(f, y)]))
theorem xd_heap {H : Hp} {a dx : Addr} {C : Addr} {f : Str} {y : V} (na : H a = none) (hd : dx ≠ a) :
    upd (del (upd (upd (upd H a (exo a C none)) dx (exd dx [(f, y)])) a (exo a C (some dx))) a) dx (.xd [(f, y)]) = upd H dx (.xd [(f, y)]) := by
  funext b
  by_cases h1 : b = dx
  · rw [h1, upd_same, upd_same]
  · rw [upd_ne h1, upd_ne h1]
    by_cases h2 : b = a
    · rw [h2, del_same, na]
    · rw [del_ne h2, upd_ne h2, upd_ne h1, upd_ne h2]
theorem ps_badY {X : Cx} {W : WX} {x f : Str} {C : Addr} {e : Expr} {te : TE} {p pos pos2 : Pos} {j : Nat} (hc : X.calm = true) (M : YMk X.prog X.K X.mg X.base X.w x f C) (tk : Takes X W) (hr : Room j X.A) (hj : 2 ≤ j) (hg : Gl X x) (he : PE X e te) (hdb : (x == ("__debug__" : Str)) = false := by decide)
    (hs : starEach [e] X.env = (false, eval e X.env) :: starEach [] X.env := by rfl) : PS X (.Raise (some (.Call (.Name x p) [e] [] pos)) none pos2) (tBadY C f W te) := by
  obtain ⟨fI, fd, i1, i2, F, hb⟩ := M.ini
  have base := ps_raise (pos := pos2) hc tk (pmk_oex (p := p) (pos := pos) M.oex i1 i2 F (hr.mono hj) hb .nil pass0 hg M.at_ (pa_cons (pe_of he) pa_nil hs) hdb hs)
  refine ⟨fun pins s σ H D I h => base.run pins s σ H D I ?_⟩
  refine ⟨_, h, fun y H1 hq => ?_⟩
  obtain ⟨hy, q⟩ := hq
  refine ⟨by show 1 ≤ 1000; decide, fun a na => ⟨a, y, rfl, upd_same, M.no, hy, fun dx hd hne => ⟨rfl, dx, [(f, y)], upd_same, ?_, ?_, ?_⟩⟩⟩
  · rw [upd_ne hne, upd_same]
  · rwa [upd_ne hne] at hd
  · rw [xd_heap na hne]
    exact q dx (by rwa [upd_ne hne] at hd)
/-! ### such an exception, held -/
/-- e.f -/
def tXat (K : PySem.W.Frag) (f : Str) (te : TE) : TE := fun σ H Q => te σ H fun x H1 => ∃ (a C dd : Addr) (fs : List (Str × V)) (v : V), x = .ref a ∧ XfC K C ∧ PySem.W.findIn K (.ref C) f = some none ∧ H1 a = some (ExI a (.ref C) (some dd)) ∧ H1 dd = some (.xd fs) ∧ fs.lookup f = some v ∧ Q v H1
theorem pe_xat {X : Cx} {e : Expr} {te : TE} {pos : Pos} {f : Str} (he : PE X e te) (hb : attributeBase e f X.env (eval e X.env) = eval e X.env := by rfl) : PE X (.Attribute e f pos) (tXat X.K f te) := by
  refine ⟨fun pins s σ H Q I h => ?_⟩
  refine attr_of hb (thn (he.run pins s σ H _ I h) fun u s1 hh => ?_)
  obtain ⟨x, H1, I1, rx, a, C, dd, fs, v, ex, T, hno, ha, ea, l, q⟩ := hh
  subst ex
  obtain rfl : u = Value.ref a := rx
  obtain ⟨⟨oe, hget, hz, vs, hv⟩, _, _⟩ := I1.hok a _ ha
  have hx : ObjOk X.prog X.w H1 s1.heap dd (.xd fs) := I1.hok dd _ ea
  obtain ⟨mA, hns, hr⟩ := hx
  obtain ⟨od, ho, hl⟩ := lookIn_ns hns
  obtain ⟨u, hu, ru⟩ := RelO.some_of (v := v) (o := mA f) (by rw [← l]; exact hr f)
  have J : PySem.W.InstAt s1.heap a oe C (some od) := ⟨hget, hz.1, by unfold PySem.W.notCls; rw [hv] <;> rfl, by rw [hz.2]; exact ho⟩
  exact HandSPX.exc_get I1.kIn J T.ga T.gg T.exC (PySem.W.findObj_own T.hdC hno rfl (by rw [hl, hu])) (handed_of ru) ⟨v, H1, I1.tok _, ru, q⟩
theorem cls_there {K : PySem.W.Frag} {D : Addr} {cd : ClassData} (h : PySem.W.clsIn K D = some cd) : ∃ oD, K.lookup D = some oD ∧ oD.data = .cls cd := by
  unfold PySem.W.clsIn at h
  split at h
  · rename_i ho
    cases h
    exact ⟨_, ho, rfl⟩
  · cases h
/-- isinstance of it -/
theorem kitxY {K : PySem.W.Frag} {x D : Addr} {ox od : Obj} (C : ExcC K D) : PySem.W.KitX K (.ref x) (.ref D) (fun h => PySem.W.InstAt h x ox D (some od)) where
  ty := fun _ _ _ I => I.type
  it := fun M h X _ => by
    obtain ⟨cd, hc, _⟩ := PySem.W.any_some C.hd
    obtain ⟨oD, l, e⟩ := cls_there hc
    intro A Q E s k q
    obtain ⟨hh, g, d, t, os⟩ := s
    exact ks_wpAny_isType_cls (k _ _ (X _ _ l)) e q
  ne := fun h tp dd its n sl X htp => (PySem.W.handS_kitx_exc (x := x) (ox := ox) C.hg C.hk C.hs C.hd C.ha C.hn C.ht C.hm).ne h tp dd its n sl X htp
  ca := fun X I k => by
    have some_ : (PySem.W.clsIn K D).isSome = true := by
      obtain ⟨cd, hc, _⟩ := PySem.W.any_some C.hd
      rw [hc]
      rfl
    exact PySem.W.kx_classE X I C.hg C.hk C.hs (PySem.W.findObj_dataE some_ C.ha C.hn C.ht) C.hm k
theorem call_isY {X : Cx} {D : Addr} (C : ExcC X.K D) : CallR X (.builtin "isinstance") (fun xs H Q => ∃ (a dd : Addr) (fs : List (Str × V)) (c : V) (cv : Value) (b : Bool), xs = [.ref a, c] ∧ H a = some (ExI a (.ref D) (some dd)) ∧ H dd = some (.xd fs) ∧ (∀ u, RelV c u → u = cv) ∧ PySem.W.kitOne X.K (.ref D) cv = some b ∧ Q (.bl b) H) := by
  intro pins s σ H xs us Q I r h
  obtain ⟨a, dd, fs, c, cv, b, rfl, ha, hd, hcv, e, q⟩ := h
  match us, r with
  | [_, u], .cons rx (.cons rt .nil) =>
    cases rx
    have ec := hcv _ rt
    subst ec
    obtain ⟨⟨oe, hget, hz, vs, hv⟩, _, _⟩ := I.hok a _ ha
    have hx : ObjOk X.prog X.w H s.heap dd (.xd fs) := I.hok dd _ hd
    obtain ⟨mA, ⟨od, es, ep, ho, hr⟩, _⟩ := hx
    have J : PySem.W.InstAt s.heap a oe D (some od) := ⟨hget, hz.1, by unfold PySem.W.notCls; rw [hv] <;> rfl, by rw [hz.2]; exact ho⟩
    exact PySem.W.kia_one (kitxY C) I.kIn J e (fun z => nomatch z) (fun tk => ⟨.bl b, H, I.kept (t' := tk) (fun _ _ z => z), rfl, q⟩)
end Lm
/-! min(xs, key=len), the items tuples. -/
namespace Lm
open PySem PySem.Spec PyProof.Rows L2
theorem minLen_run {prog : Program} {w : World} {A : Around} {S : Addr} {n : Nat} {P : Nat → Value → Prop} {St : Nat → Shared → Prop} {s0 : Shared} {wr : List Addr} (L : Nat → Nat) (hS : s0.heap.objs.size ≤ S) (hw : ∀ b ∈ wr, s0.heap.objs.size ≤ b)
    (hP : ∀ i v, P i v → ∃ b its, v = .ref b ∧ IsTup s0.heap b its ∧ its.size = L i ∧ (its.size : Int) < 2 ^ 63) (hst : ∀ i (s : Shared) tk, St i s → St i { s with toks := tk }) :
    KeyRun prog w A (.builtin "len") .Lt S wr (fun a b => b = a) n P St (fun s => (∀ b o, s0.heap.get? b = some o → s.heap.get? b = some o) ∧ s.gens = s0.gens ∧ s.drawn = s0.drawn ∧ s.os = s0.os) (fun i k _ => ∃ t, k = .int (L i : Nat) t) (fun i j => decide ((L i : Int) < (L j : Int))) := by
  refine ⟨?_, ?_, ?_, ?_⟩
  · rintro s s' ⟨h1, h2, h3, h4⟩ m
    refine ⟨fun b o e => m.heap b o (fun hb => ?_) (h1 b o e), m.gens.trans h2, m.drawn.trans h3, m.os.trans h4⟩
    have hl := Heap.lt_size e
    rcases List.mem_cons.mp hb with z | z
    · exact absurd hl (Nat.not_lt.mpr (z ▸ hS))
    · exact absurd hl (Nat.not_lt.mpr (hw b z))
  · intro i k s s' h _
    exact h
  · intro i v s o Q E hi hp hJ hs ho q
    obtain ⟨b, its, rfl, ht, hL, hf⟩ := hP i v hp
    have ht' : IsTup s.heap b its := by
      obtain ⟨oo, e, r⟩ := ht
      exact ⟨oo, hJ.1 _ _ e, r⟩
    refine len_tuple ht' hf ?_
    rw [hL]
    exact q _ { s with toks := s.toks + 1 + 1 } hJ (hst _ _ _ hs) ho ⟨_, rfl⟩ fun _ _ h => h
  · rintro i j ki kj s Q E hJ ⟨t, rfl⟩ ⟨u, rfl⟩ q
    exact wpAny_lt_int (w := w) (show Q (.bool (decide ((L i : Int) < (L j : Int)))) s from q)
def tMinLen (K : PySem.W.Frag) (te : TE) : TE := fun σ H Q => te σ H fun x H1 => ∃ (a : Addr) (xs : List V) (L : Nat → Nat), x = .ref a ∧ SqL K H1 a xs ∧ 0 < xs.length ∧ (∀ (i : Nat) (v : V), xs[i]? = some v → ∃ (b : Addr) (ys : List V), v = .ref b ∧ SqT K H1 b ys ∧ ys.length = L i) ∧ ∀ (i : Nat) (v : V), xs[i]? = some v → Q v H1
theorem pe_minLen {X : Cx} {e : Expr} {te : TE} {p p2 kp pos : Pos} (hc : X.calm = true) (hg : Gl X "min") (hm : X.mg "min" = none) (hv : bootBuiltins "min" = some (.builtin "min")) (hg2 : Gl X "len") (hm2 : X.mg "len" = none) (he : PE X e te)
    (hs0 : starEach [e] X.env = (false, eval e X.env) :: starEach [] X.env := by rfl) (hst : backTo pos (starEach [e] X.env) = (false, eval e X.env) :: backTo pos (starEach [] X.env) := by rfl) (hpl : (backTo pos (starEach [e] X.env)).any (·.1) = false := by rfl)
    (hks : backToKw pos (keywordEach [⟨some (Str.ofString "key"), .Name "len" p2, kp⟩] X.env) = [(some (Str.ofString "key"), do let v ← eval (.Name "len" p2) X.env; standAt pos; pure v)] := by rfl) :
    PE X (.Call (.Name "min" p) [e] [⟨some (Str.ofString "key"), .Name "len" p2, kp⟩] pos) (tMinLen X.K te) := by
  refine ⟨fun pins s σ H Q I h => ?_⟩
  refine wpAny_Call_Name_kw (ld_blt I hg hm hv ?_)
  have ha : PA X [e] (tCons te tNil) := pa_cons he pa_nil hs0
  refine PyProof.Rows.callWith_kw (thn (ha.run pos pins s σ H (fun vs H1 => ∃ (a : Addr) (xs : List V) (L : Nat → Nat), vs = [.ref a] ∧ SqL X.K H1 a xs ∧ 0 < xs.length ∧ (∀ (i : Nat) (v : V), xs[i]? = some v → ∃ (b : Addr) (ys : List V), v = .ref b ∧ SqT X.K H1 b ys ∧ ys.length = L i) ∧ ∀ (i : Nat) (v : V), xs[i]? = some v → Q v H1) I ?_) fun us s1 hh => ?_) hst hpl (by rw [hks]; rfl) (by rw [hks]; rfl)
  · show te σ H _
    refine cast (congrArg (te σ H) (funext fun x => funext fun H1 => propext ⟨?_, ?_⟩)) h
    · rintro ⟨a, xs, L, rfl, k⟩
      exact ⟨a, xs, L, rfl, k⟩
    · rintro ⟨a, xs, L, ex, k⟩
      cases ex
      exact ⟨a, xs, L, rfl, k⟩
  · obtain ⟨vs, H1, I1, r1, a, xs, L, rfl, hq, h0, hL, q⟩ := hh
    rw [hks]
    refine wpAny_evalAll_cons (wpAny_bind (ld_blt I1 hg2 hm2 PySem.boot_len (wpAny_bind (wpAny_standAt (wpAny_pure (wpAny_evalAll_nil ?_))))))
    obtain ⟨u, rfl, r⟩ := vals1 r1
    obtain rfl : u = Value.ref a := r
    obtain ⟨its, rv, hl, hz⟩ := I1.list hq
    refine call_min_walkKB (q := "len") (iter_any hl.isList fun s₂ e2 st hne => ?_)
    subst e2
    have hlen := rv.length
    refine ⟨_, _, _, _, _, _, _, _, _, _, rfl, (Walks.list (A := X.A.in1) (I1.ok.hd hc) _ a hne its.toArray).toS, st, fun b hb => ?_, by rw [List.size_toArray]; omega, minLen_run (s0 := s1) L ?_ ?_ ?_ ?_, ⟨?_, rfl, rfl, rfl⟩, ?_⟩
    · show b < (s1.heap.push _).objs.size
      rw [Heap.size_push]
      have hal : a < s1.heap.objs.size := by
        obtain ⟨_, e, _⟩ := hl.isList
        exact Heap.lt_size e
      rcases List.mem_cons.mp hb with z | z
      · rw [z]
        exact Nat.lt_succ_self _
      · rw [List.mem_singleton.mp z]
        exact Nat.lt_succ_of_lt hal
    · show s1.heap.objs.size ≤ (s1.heap.push _).objs.size
      rw [Heap.size_push]
      exact Nat.le_succ _
    · intro b hb
      rw [List.mem_singleton.mp hb]
      exact Nat.le_refl _
    · intro i v hv
      have hv : its[i]? = some v := by simpa using hv
      obtain ⟨x, hx, rx⟩ : ∃ x, xs[i]? = some x ∧ RelV x v := by
        have hi : i < xs.length := by
          rw [hlen]
          exact (List.getElem?_eq_some_iff.mp hv).1
        obtain ⟨u, hu, ru⟩ := rv.get (List.getElem?_eq_getElem hi)
        rw [hv] at hu
        cases hu
        exact ⟨_, List.getElem?_eq_getElem hi, ru⟩
      obtain ⟨b, ys, rfl, hb, hl2⟩ := hL i x hx
      obtain rfl : v = Value.ref b := rx
      obtain ⟨it2, r2, p2', z2⟩ := I1.tuple hb
      have hn := line63
      have l2 := r2.length
      refine ⟨b, it2.toArray, rfl, p2', ?_, ?_⟩
      · rw [List.size_toArray, ← l2, hl2]
      · simp only [List.size_toArray]
        omega
    · intro i s tk h
      exact h
    · intro b o e
      exact Heap.get?_push_of_some _ e
    · intro v s' hp hJ
      have hv : its[PySem.argBest (fun i j => decide ((L i : Int) < (L j : Int))) (its.toArray.size - 1)]? = some v := by simpa using hp
      obtain ⟨x, hx, rx⟩ : ∃ x, xs[PySem.argBest (fun i j => decide ((L i : Int) < (L j : Int))) (its.toArray.size - 1)]? = some x ∧ RelV x v := by
        have hi : PySem.argBest (fun i j => decide ((L i : Int) < (L j : Int))) (its.toArray.size - 1) < xs.length := by
          rw [hlen]
          exact (List.getElem?_eq_some_iff.mp hv).1
        obtain ⟨u, hu, ru⟩ := rv.get (List.getElem?_eq_getElem hi)
        rw [hv] at hu
        cases hu
        exact ⟨_, List.getElem?_eq_getElem hi, ru⟩
      obtain ⟨k1, k2, k3, k4⟩ := hJ
      obtain ⟨h', g', d', tk', os'⟩ := s'
      have k2 : g' = s1.gens := k2
      have k3 : d' = s1.drawn := k3
      have k4 : os' = s1.os := k4
      subst k2 k3 k4
      exact ⟨x, H1, I1.kept (t' := tk') k1, rx, q _ x hx⟩
end Lm
/-! for i, x in enumerate(t), t a tuple. -/
namespace Lm
open PySem PySem.Spec PyProof.Rows L2
theorem enum_one {v : Value} {o : Obj} {G : Heap → Prop} (bg : Begins v o G) :
    Meets (Builtin.«enumerate.__new__» ⟨[.type "enumerate", v], []⟩) (fun _ R s => G s.heap ∧
      R (.ok (.ret (.ref (s.heap.push o).objs.size))) { s with heap := (s.heap.push o).push { cls := .type "enumerate", data := .fields #[.none, .bool false, .ref s.heap.objs.size, rawInt 0, .none, .none] } }) :=
  .of_wp fun prog w A R s hh => by
    obtain ⟨hp, g, d, tk, os⟩ := s
    obtain ⟨h1, hq⟩ := hh
    have hsub := sub_enumerate
    have go : ∀ {A' : Around} {E : Value → Shared → Prop} {Q : Value → Shared → Prop}, Q (.ref hp.objs.size) ⟨hp.push o, g, d, tk, os⟩ → wpAny (model prog w) A' (pyIter v) Q E ⟨hp, g, d, tk, os⟩ :=
      fun z => bg.iter prog w _ _ ⟨hp, g, d, tk, os⟩ _ h1 z
    wp_walk
    refine wpAny_stack_any fun st => wpAny_pure ?_
    split
    · rename_i c _ _ _ _ _
      cases (c == Value.type "enumerate")
      · wp_walk using go
        exact ⟨_, rfl, hq⟩
      · wp_walk using go
        exact ⟨_, rfl, hq⟩
    · wp_walk using go
      exact ⟨_, rfl, hq⟩
theorem call_enum_one {prog : Program} {w : World} {A : Around} {E : Value → Shared → Prop} {s : Shared} {v : Value} {o : Obj} {G : Heap → Prop} {Q : Value → Shared → Prop} (bg : Begins v o G) (h1 : G s.heap)
    (hq : ∀ h', IsEnum h' (s.heap.objs.size + 1) s.heap.objs.size 0 .none → h'.get? s.heap.objs.size = some o → (∀ b x, s.heap.get? b = some x → h'.get? b = some x) → Q (.ref (s.heap.objs.size + 1)) { s with heap := h' }) :
    wpAny (model prog w) A (call (.type "enumerate") [v]) Q E s := by
  refine callType_new F.called_enumerate (by decide) (F.typeCall_enumerate_1 _) (F.newCall_enumerate_1 _) (fun obj => F.args_object_init_2 obj _) F.entry_enumerate_new (enum_one bg) ⟨h1, ?_⟩
  have hz : (s.heap.push o).objs.size = s.heap.objs.size + 1 := Heap.size_push ..
  have at0 := Heap.get?_push_size (s.heap.push o) (o := { cls := .type "enumerate", data := .fields #[.none, .bool false, .ref s.heap.objs.size, rawInt 0, .none, .none] }) rfl
  show _ ∧ _
  rw [hz] at at0 ⊢
  exact ⟨⟨_, at0, rfl⟩, hq _ at0 (Heap.get?_push_of_some _ (Heap.get?_push_size _ bg.free)) fun b x e => Heap.get?_push_of_some _ (Heap.get?_push_of_some _ e)⟩
/-- the tuple at a as it stands at each turn, each item in a new pair -/
def ItT (K : PySem.W.Frag) (a : Addr) : It :=
  ⟨fun i H => ∃ (xs : List V) (x : V), SqT K H a xs ∧ xs[i]? = some x, fun i H v H' => ∃ T x, v = .ref T ∧ H T = none ∧ H' = upd H T (.tup [.int (i : Nat), x]) ∧ ∀ xs, SqT K H a xs → xs[i]? = some x, fun i H => ∃ xs : List V, SqT K H a xs ∧ xs.length = i⟩
theorem turn_enumT {P : Program} {w : World} {K : PySem.W.Frag} {elts : List Expr} {kk : Nat} {tpos : Pos} (a e it : Addr) :
    Turn P w K (.Tuple elts kk tpos) (ItT K a) [e, it] e (fun i h => (∃ old, IsEnum h e it ((i : Nat) : Int) old) ∧ h.IsTupleIter it a i ∧ e ≠ it) where
  mem := List.mem_cons_self ..
  obj := fun i h st b hb => by
    obtain ⟨⟨old, he⟩, ⟨o, ho, hc, hd⟩, _⟩ := st
    rcases List.mem_cons.mp hb with z | z
    · rw [z]
      exact ⟨_, he, fun v q => nomatch q⟩
    · rw [List.mem_singleton.mp z]
      exact ⟨o, ho, fun v q => by rw [hd] at q; cases q⟩
  keep := fun i h h' st k => by
    obtain ⟨⟨old, he⟩, hi, hne⟩ := st
    exact ⟨⟨old, k e (List.mem_cons_self ..) _ he⟩, hi.at fun o q => k it (List.mem_cons_of_mem _ (List.mem_cons_self ..)) o q, hne⟩
  item := by
    intro X hP hw hK hc i pins s σ H E I hf st hg
    subst hP hw hK
    obtain ⟨⟨old, he⟩, hit, hne⟩ := st
    obtain ⟨xs, x, hq, hx⟩ := hg
    obtain ⟨its, rv, p, _⟩ := I.tuple hq
    obtain ⟨u, hu, ru⟩ := rv.get hx
    have hel : e < s.heap.objs.size := Heap.lt_size he
    have hil : it < s.heap.objs.size := by
      obtain ⟨_, q, _⟩ := hit
      exact Heap.lt_size q
    have hT : s.heap.IsTuple a its.toArray := p
    obtain ⟨f0, f1, f2, f3, f4, f5⟩ := hf it (List.mem_cons_of_mem _ (List.mem_cons_self ..))
    have ait : a ≠ it := fun z => by
      obtain ⟨o1, e1, c1, _⟩ := hT
      obtain ⟨o2, e2, c2, _⟩ := hit
      rw [z, e2] at e1
      cases e1
      rw [c2] at c1
      exact absurd c1 (by decide)
    have hil2 : i < its.toArray.size := by
      have := (List.getElem?_eq_some_iff.mp hu).1
      simpa using this
    by_cases ea : e = a
    · exfalso
      obtain ⟨o1, e1, c1, _⟩ := hT
      rw [← ea, he] at e1
      cases e1
      have c1 : Value.type "enumerate" = Value.type "tuple" := c1
      exact absurd c1 (by decide)
    refine wpAny_pyNext_enum_itemC (Draws.tuple (A := X.A.in1) (I.ok.hd hc) it a ait its.toArray) he ⟨hit, hT⟩ hil2 hne (by simp [hne, ea]) fun v h' tk hP ho hst hT2 hsz hk => ?_
    have ev : v = u := by
      have hP : its.toArray[i]? = some v := hP
      rw [List.getElem?_toArray, hu] at hP
      exact (Option.some.inj hP).symm
    subst ev
    refine ⟨_, rfl, wpAny_letOwnedTupleGo_enum (s := { s with heap := h', toks := tk + 1 }) ho fun h'' he' sb => ?_⟩
    have hT3 : h''.get? s.heap.objs.size = some { cls := .type "tuple", data := .seq #[.int i tk, v] } := (sb.2 _ (Nat.ne_of_gt hel)).trans hT2
    have new : ObjOk X.prog X.w (upd H s.heap.objs.size (.tup [.int (i : Nat), x])) h'' s.heap.objs.size (.tup [.int (i : Nat), x]) :=
      ⟨by show 2 ≤ sizeLine; decide, [.int i tk, v], .cons ⟨_, rfl⟩ (.cons ru .nil), ⟨_, hT3, rfl, _, rfl⟩⟩
    have I1 : Inv X pins σ (upd H s.heap.objs.size (.tup [.int (i : Nat), x])) { s with heap := h'', toks := tk + 1 } :=
      I.turnedNew (ch := [e, it]) (fun b ob hb q => (sb.2 b (fun z => hb (by simp [z]))).trans (hk b ob (fun z => hb (by simp [z])) (fun z => hb (by simp [z])) q)) hf (Nat.le_refl _) new
    refine ⟨.ref s.heap.objs.size, _, I1, rfl, ⟨_, x, rfl, I.hok.fresh (Nat.le_refl _), rfl, fun ys hy => by rw [I.tuple_inj hy hq]; exact hx⟩, ⟨⟨v, ?_⟩, hst.1.at fun o q => (sb.2 it (Ne.symm hne)).trans q, hne⟩, fun b hb => ?_⟩
    · have e1 : ((i + 1 : Nat) : Int) = (i : Int) + 1 := by omega
      rw [e1]
      exact he'
    · have hb' : b < s.heap.objs.size := by
        rcases List.mem_cons.mp hb with z | z
        · rw [z]
          exact hel
        · rw [List.mem_singleton.mp z]
          exact hil
      rw [upd_ne (Nat.ne_of_lt hb')]
      exact (hf b hb).1
  done := by
    intro X hP hw hK hc i pins s σ H E I hf st hg
    subst hP hw hK
    obtain ⟨⟨old, he⟩, hit, hne⟩ := st
    obtain ⟨xs, hq, hx⟩ := hg
    obtain ⟨its, rv, p, _⟩ := I.tuple hq
    obtain ⟨f0, f1, f2, f3, f4, f5⟩ := hf it (List.mem_cons_of_mem _ (List.mem_cons_self ..))
    have hT : s.heap.IsTuple a its.toArray := p
    have hl := rv.length
    have ait : a ≠ it := fun z => by
      obtain ⟨o1, e1, c1, _⟩ := hT
      obtain ⟨o2, e2, c2, _⟩ := hit
      rw [z, e2] at e1
      cases e1
      rw [c2] at c1
      exact absurd c1 (by decide)
    have hn : its.toArray.size = i := by
      rw [List.size_toArray]
      omega
    subst hn
    exact wpAny_pyNext_enum_endD (Draws.tuple (A := X.A.in1) (I.ok.hd hc) it a ait its.toArray) he ⟨hit, hT⟩ fun h' eb => ⟨rfl, I.turned (t' := s.toks) (fun b o hb q => eb b o hb q) f0 f1 f3 f4 f5⟩
  self := fun A i s Q E st h => by
    obtain ⟨⟨_, he⟩, _⟩ := st
    exact wpAny_pyIter_enum he h
def iEnumT (K : PySem.W.Frag) (ta : TA) : TI := fun σ H R => ta σ H fun vs H1 => ∃ a xs, vs = [.ref a] ∧ SqT K H1 a xs ∧ R (ItT K a) H1
theorem pi_enumT {X : Cx} {e : Expr} {ta : TA} {p pos tpos : Pos} {elts : List Expr} {kk : Nat} (hg : Gl X "enumerate") (hm : X.mg "enumerate" = none) (ha : PA X [e] ta) (hs : starEach [e] X.env = [(false, eval e X.env)] := by rfl) :
    PI X (.Tuple elts kk tpos) (.Call (.Name "enumerate" p) [e] [] pos) (iEnumT X.K ta) := by
  refine ⟨fun pins s σ H R I h => ?_⟩
  have iter : ∀ (us : List Value) (s1 : Shared) (vs : List V) (H1 : Hp), Inv X pins σ H1 s1 → Vals vs us → (∃ a xs, vs = [V.ref a] ∧ SqT X.K H1 a xs ∧ R (ItT X.K a) H1) →
      wpAny (model X.prog X.w) X.A (call (.type "enumerate") us) (fun v s1 => wpAny (model X.prog X.w) X.A (pyIter v) (PIE X pins σ (.Tuple elts kk tpos) R) X.xe s1) X.xe s1 := by
    rintro us s1 vs H1 I1 r1 ⟨a, xs, rfl, hq, q⟩
    obtain ⟨u, rfl, r⟩ := vals1 r1
    obtain rfl : u = Value.ref a := r
    obtain ⟨its, rv, p', hz⟩ := I1.tuple hq
    refine call_enum_one (begins_tuple a its.toArray) p' fun h' he hit hk => wpAny_pyIter_enum he ?_
    have I2 : Inv X pins σ H1 { s1 with heap := h' } := I1.kept (t' := s1.toks) hk
    have hit0 : h'.IsTupleIter s1.heap.objs.size a 0 := ⟨_, hit, rfl, rfl⟩
    refine ⟨s1.heap.objs.size + 1, [s1.heap.objs.size + 1, s1.heap.objs.size], _, _, H1, rfl, I2, turn_enumT a (s1.heap.objs.size + 1) s1.heap.objs.size, ⟨⟨.none, he⟩, hit0, Nat.succ_ne_self _⟩, fun b hb => ?_, q⟩
    have hle : s1.heap.objs.size ≤ b := by
      rcases List.mem_cons.mp hb with z | z
      · rw [z]
        exact Nat.le_add_right _ _
      · rw [List.mem_singleton.mp z]
        exact Nat.le_refl _
    exact I1.fpOk hle (I1.hok.fresh hle)
  refine Call_ (ld_blt I hg hm boot_enumerate ?_)
  refine PyProof.Rows.callWith_type1 ?_ hs rfl
  refine thn (ha.run pos pins s σ H (fun vs H1 => ∃ a xs, vs = [V.ref a] ∧ SqT X.K H1 a xs ∧ R (ItT X.K a) H1) I h) fun us s1 hh => ?_
  obtain ⟨vs, H1, I1, r1, q1⟩ := hh
  exact iter us s1 vs H1 I1 r1 q1
theorem walk_enumT {K : PySem.W.Frag} {a : Addr} {xs : List V} : Walk (ItT K a) xs.length (fun H => SqT K H a xs) (fun i H v H' => ∃ T x, v = .ref T ∧ H T = none ∧ H' = upd H T (.tup [.int (i : Nat), x]) ∧ xs[i]? = some x) :=
  ⟨fun i H hi g => ⟨xs, xs[i], g, List.getElem?_eq_getElem hi⟩, fun H g => ⟨xs, g, rfl⟩, fun i H v H' hi g y => by
    obtain ⟨T, x, e1, e2, e3, e4⟩ := y
    exact ⟨T, x, e1, e2, e3, e4 xs g⟩⟩
theorem walk_enumL {K : PySem.W.Frag} {a : Addr} {xs : List V} : Walk (Ite K a) xs.length (fun H => SqL K H a xs) (fun i H v H' => ∃ T x, v = .ref T ∧ H T = none ∧ H' = upd H T (.tup [.int (i : Nat), x]) ∧ xs[i]? = some x) :=
  ⟨fun i H hi g => ⟨xs, xs[i], g, List.getElem?_eq_getElem hi⟩, fun H g => ⟨xs, g, Nat.le_refl _⟩, fun i H v H' hi g y => by
    obtain ⟨T, x, e1, e2, e3, e4⟩ := y
    exact ⟨T, x, e1, e2, e3, e4 xs g⟩⟩
end Lm
/-! d.update(e), both dicts of numbers and texts. -/
namespace Lm
open PySem PySem.Spec PyProof.Rows L2
theorem d_update {X : Cx} {pins : List (Addr × Obj)} {σ : L2.St} {H : Hp} {s : Shared} {a b : Addr} {kvs more : List (Key × V)} {A : Around} {E : Value → Shared → Prop} {Q : Value → Shared → Prop} (I : Inv X pins σ H s) (e : H a = some (.dK kvs)) (e2 : H b = some (.dK more)) (ne : a ≠ b) (hz : kvs.length + more.length ≤ sizeLine)
    (h : ∀ s', Inv X pins σ (upd H a (.dK (mergeK kvs more))) s' → Q .none s') : wpAny (model X.prog X.w) A (call (.builtin "dict.update") [.ref a, .ref b]) Q E s := by
  obtain ⟨z, hd, vs, rel, dd⟩ := dk_of I.hok e
  obtain ⟨z2, hd2, vs2, rel2, dd2⟩ := dk_of I.hok e2
  refine call_meetsIn PySem.F.slot_dict_update dd.typeIs PySem.F.entry_dict_update (PySem.F.args_dict_update_2 _ _) (meets_dict_update (mixKind X.prog X.w) a b ne hd2)
    ⟨vs, vs2, dd, dd2, by rw [← rel.length, ← rel2.length]; exact hz, fun h' dd' _ hs => ?_⟩
  refine h _ ?_
  have he : ∃ q, h'.get? a = some q := let ⟨q, _, _, hq, _⟩ := dd'; ⟨q, hq⟩
  exact d_write (t' := s.toks) I (by rw [e]; exact True.intro) hs he (dk_new (Nat.le_trans (length_mergeK more kvs) hz) hd (rel2.merge rel) dd')
def tDUpd (td ty : TE) : TE := fun σ H Q => td σ H fun x H1 => ∃ a, x = .ref a ∧ IsD H1 a ∧ ty σ H1 fun y H2 => ∃ kvs more b, H2 a = some (.dK kvs) ∧ y = .ref b ∧ H2 b = some (.dK more) ∧ a ≠ b ∧ kvs.length + more.length ≤ sizeLine ∧ Q .non (upd H2 a (.dK (mergeK kvs more)))
theorem pe_dupd {X : Cx} {o e : Expr} {apos cpos : Pos} {td ty : TE} (ho : PE X o td) (he : PE X e ty) (m : M1 X o "update" apos e cpos) : PE X (.Call (.Attribute o "update" apos) [e] [] cpos) (tDUpd td ty) := by
  refine ⟨fun pins s σ H Q I h => ?_⟩
  refine wpAny_Call_method m.base m.few m.line PySem.F.plainAttrs_dict PySem.F.slot_dict_update PySem.F.type_dict_update (thn (ho.run pins s σ H _ I h) fun u s1 ⟨x, H1, I1, rx, a, ex, d, q1⟩ => ?_)
  subst ex
  obtain rfl : u = Value.ref a := rx
  obtain ⟨t1, t2, _⟩ := isD_at I1 d
  refine ⟨t1, t2, ?_⟩
  rw [m.trees]
  refine Calls.callWith_builtin rfl (Calls.evalArgs_plain (Calls.spliced_cons (thn (he.run pins s1 σ H1 _ I1 q1) fun iv s2 h2 => Calls.spliced_nil ?_)))
  obtain ⟨y, H2, I2, ry, kvs, more, b, ea, ey, eb, ne, hz, q2⟩ := h2
  subst ey
  obtain rfl : iv = Value.ref b := ry
  exact d_update I2 ea eb ne hz fun s3 I3 => ⟨.non, _, I3, rfl, q2⟩
end Lm
namespace Lm
open PySem PySem.Spec PyProof.Rows L2
def topS (i : Nat) : Stmt := PySem.Challenge.pw_lanesmeet_k06_sayings_told_apart.main.body.getD i (.Pass ⟨0, 0, 0, 0⟩)
/-- the built-ins that no name of the module hides -/
structure Bl (mg : Str → Option Value) : Prop where
  bint : mg "int" = none
  blen : mg "len" = none
  bisi : mg "isinstance" = none
  bbool : mg "bool" = none
  btup : mg "tuple" = none
  blist : mg "list" = none
  bstr : mg "str" = none
  bmax : mg "max" = none
  brng : mg "range" = none
  babs : mg "abs" = none
  ball : mg "all" = none
  bmin : mg "min" = none
  brep : mg "repr" = none
  bany : mg "any" = none
  bsrt : mg "sorted" = none
  benu : mg "enumerate" = none
theorem dp_ints {K : PySem.W.Frag} {H : Hp} : ∀ ns : List Int, DpAll K H (ns.map V.int) (ns.map PyData.int)
  | [] => .nil
  | n :: r => .cons (.int n) (dp_ints r)
theorem shaped_ints (ns : List Int) : SeqAt.shaped (.list (ns.map .int)) = true := by
  have h1 : PyData.canLayAll0 (ns.map .int) = true := by
    induction ns with
    | nil => simp [PyData.canLayAll0]
    | cons n r ih => simp [PyData.canLayAll0, PyData.canLay0, ih]
  have h2 : PyData.depthAll (ns.map .int) ≤ 1 := by
    induction ns with
    | nil => simp [PyData.depthAll]
    | cons n r ih =>
      have ih' := ih (by simpa [PyData.canLayAll0, PyData.canLay0] using h1)
      simp [PyData.depthAll, PyData.depth]
      omega
  unfold SeqAt.shaped
  simp [PyData.canLay0, PyData.depth, h1]
  omega
theorem same_put {H H' : Hp} {p : Addr} {o : HO} (s : Same H H') (n : H p = none) : Same H (upd H' p o) := by
  intro b x e
  rw [upd_ne (ne_of_none e n)]
  exact s b x e
theorem int_at {ns : List Int} {i : Nat} {x : V} (h : (ns.map V.int)[i]? = some x) : ∃ z, ns[i]? = some z ∧ x = .int z := by
  rw [List.getElem?_map] at h
  cases e : ns[i]? with
  | none => rw [e] at h; cases h
  | some z => rw [e] at h; exact ⟨z, rfl, (Option.some.inj h).symm⟩
/-! ### kinds of data -/
def kindOf : PyData → String
  | .none => "NoneType" | .bool _ => "bool" | .int _ => "int" | .str _ => "str" | .list _ => "list" | .tuple _ => "tuple" | .dict _ => "dict"
theorem Da.ty {K : PySem.W.Frag} {D : DrA} {H : Hp} {v : V} {d : PyData} (h : Da D H v d) : TyX K H v (.type (kindOf d)) := by
  cases h with
  | non => exact .base .non
  | bl b => exact .base (.bl b)
  | int i => exact .base (.int i)
  | str x => exact .base (.str x)
  | lst h _ _ _ => exact .base (.lst h)
  | tup h _ _ _ => exact .base (.tup h)
  | emp h _ _ => exact .base (.dK h)
def isTup : PyData → Bool
  | .tuple _ => true
  | _ => false
def isStr : PyData → Bool
  | .str _ => true
  | _ => false
def isIntB : PyData → Bool
  | .int _ => true
  | .bool _ => true
  | _ => false
def isBoolB : PyData → Bool
  | .bool _ => true
  | _ => false
def isNum : PyData → Bool
  | .int _ => true
  | _ => false
theorem kit_tup (K : PySem.W.Frag) : ∀ d : PyData, PySem.W.kitOne K (.type (kindOf d)) (.type "tuple") = some (isTup d)
  | .none => kit_ty (show kitB "NoneType" "tuple" = some false by decide +kernel)
  | .bool _ => kit_ty (show kitB "bool" "tuple" = some false by decide +kernel)
  | .int _ => kit_ty (show kitB "int" "tuple" = some false by decide +kernel)
  | .str _ => kit_ty (show kitB "str" "tuple" = some false by decide +kernel)
  | .list _ => kit_ty (show kitB "list" "tuple" = some false by decide +kernel)
  | .tuple _ => kit_ty (show kitB "tuple" "tuple" = some true by decide +kernel)
  | .dict _ => kit_ty (show kitB "dict" "tuple" = some false by decide +kernel)
theorem kit_str (K : PySem.W.Frag) : ∀ d : PyData, PySem.W.kitOne K (.type (kindOf d)) (.type "str") = some (isStr d)
  | .none => kit_ty (show kitB "NoneType" "str" = some false by decide +kernel)
  | .bool _ => kit_ty (show kitB "bool" "str" = some false by decide +kernel)
  | .int _ => kit_ty (show kitB "int" "str" = some false by decide +kernel)
  | .str _ => kit_ty (show kitB "str" "str" = some true by decide +kernel)
  | .list _ => kit_ty (show kitB "list" "str" = some false by decide +kernel)
  | .tuple _ => kit_ty (show kitB "tuple" "str" = some false by decide +kernel)
  | .dict _ => kit_ty (show kitB "dict" "str" = some false by decide +kernel)
theorem kit_int (K : PySem.W.Frag) : ∀ d : PyData, PySem.W.kitOne K (.type (kindOf d)) (.type "int") = some (isIntB d)
  | .none => kit_ty (show kitB "NoneType" "int" = some false by decide +kernel)
  | .bool _ => kit_ty (show kitB "bool" "int" = some true by decide +kernel)
  | .int _ => kit_ty (show kitB "int" "int" = some true by decide +kernel)
  | .str _ => kit_ty (show kitB "str" "int" = some false by decide +kernel)
  | .list _ => kit_ty (show kitB "list" "int" = some false by decide +kernel)
  | .tuple _ => kit_ty (show kitB "tuple" "int" = some false by decide +kernel)
  | .dict _ => kit_ty (show kitB "dict" "int" = some false by decide +kernel)
theorem kit_bool (K : PySem.W.Frag) : ∀ d : PyData, PySem.W.kitOne K (.type (kindOf d)) (.type "bool") = some (isBoolB d)
  | .none => kit_ty (show kitB "NoneType" "bool" = some false by decide +kernel)
  | .bool _ => kit_ty (show kitB "bool" "bool" = some true by decide +kernel)
  | .int _ => kit_ty (show kitB "int" "bool" = some false by decide +kernel)
  | .str _ => kit_ty (show kitB "str" "bool" = some false by decide +kernel)
  | .list _ => kit_ty (show kitB "list" "bool" = some false by decide +kernel)
  | .tuple _ => kit_ty (show kitB "tuple" "bool" = some false by decide +kernel)
  | .dict _ => kit_ty (show kitB "dict" "bool" = some false by decide +kernel)
/-! ### readings that tell data -/
theorem Da.sm {D : DrA} {H H' : Hp} {v : V} {d : PyData} (h : Da D H v d) (s : Same H H') : Da D H' v d := h.fr (Fr.t (.of s))
theorem DaAll.sm {D : DrA} {H H' : Hp} {v : List V} {d : List PyData} (h : DaAll D H v d) (s : Same H H') : DaAll D H' v d := h.fr (Fr.t (.of s))
theorem DrawAt.sm {D : DrA} {n : Nat} {H H' : Hp} (h : DrawAt D n H) (s : Same H H') : DrawAt D n H' := h.same fun b o e _ => s b o e
theorem small10000 {n : Nat} (h : n ≤ 10000) : n ≤ sizeLine := Nat.le_trans h (by unfold sizeLine; decide)
section
variable {K : PySem.W.Frag} {D : DrA} {n : Nat} {H : Hp} {Q : VK}
theorem tup_da {xs : List V} {ds : List PyData} {p : Addr} (dr : DrawAt D n H) (h : DaAll D H xs ds) (np : H p = none) : Same H (upd H p (.tup xs)) ∧ DrawAt D n (upd H p (.tup xs)) ∧ Da D (upd H p (.tup xs)) (.ref p) (.tuple ds) :=
  ⟨same_upd np, dr.new np, .tup upd_same (dr.off np).1 (dr.off np).2 (h.sm (same_upd np))⟩
theorem lst_da {xs : List V} {ds : List PyData} {p : Addr} (dr : DrawAt D n H) (h : DaAll D H xs ds) (np : H p = none) : Same H (upd H p (.lst xs)) ∧ DrawAt D n (upd H p (.lst xs)) ∧ (upd H p (.lst xs)) p = some (.lst xs) ∧ p ≠ D.d ∧ p ≠ D.w ∧ DaAll D (upd H p (.lst xs)) xs ds :=
  ⟨same_upd np, dr.new np, upd_same, (dr.off np).1, (dr.off np).2, h.sm (same_upd np)⟩
theorem cutV_whole {xs : List V} {lo hi : Option Int} (h : HT.sIx xs.length 0 lo = 0 ∧ HT.sIx xs.length xs.length hi = xs.length) : cutV xs lo hi = xs := by
  unfold cutV
  rw [h.1, h.2, List.drop_zero, Nat.sub_zero, List.take_length]
theorem slA_da {a : Addr} {ds : List PyData} {lo hi : Option Int} (dr : DrawAt D n H) (h : Da D H (.ref a) (.tuple ds)) (q : ∀ (H' : Hp) (p : Addr) (es : List PyData), Same H H' → DrawAt D n H' → es.length ≤ ds.length → Da D H' (.ref p) (.tuple es) → Q (.ref p) H') : rSlA K (.ref a) lo hi H Q := by
  cases h with
  | tup h n1 n2 ha =>
    rename_i xs
    refine ⟨a, xs, rfl, SqT.of h, fun _ => q H a ds (fun _ _ z => z) dr (Nat.le_refl _) (.tup h n1 n2 ha), fun _ p np => ?_⟩
    refine q _ p _ (same_upd np) (dr.new np) ?_ (.tup upd_same (dr.off np).1 (dr.off np).2 (((ha.drop _).take _).sm (same_upd np)))
    rw [List.length_take, List.length_drop]
    omega
theorem catA_da {a b : Addr} {ds es : List PyData} (dr : DrawAt D n H) (h : Da D H (.ref a) (.tuple ds)) (h' : Da D H (.ref b) (.tuple es)) (hl : ds.length + es.length ≤ 10000) (q : ∀ (H' : Hp) (p : Addr), Same H H' → DrawAt D n H' → Da D H' (.ref p) (.tuple (ds ++ es)) → Q (.ref p) H') : rCatA K (.ref a) (.ref b) H Q := by
  have hh := h
  have hh' := h'
  cases h with
  | tup h n1 n2 ha =>
    cases h' with
    | tup h' m1 m2 ha' =>
      rename_i xs ys
      refine ⟨a, b, xs, ys, rfl, rfl, SqT.of h, SqT.of h', small10000 (by rw [ha.length, ha'.length]; exact hl), fun e => ?_, fun _ e => ?_, fun _ _ p np => ?_⟩
      · subst e
        cases ha
        exact q H b (fun _ _ z => z) dr hh'
      · subst e
        cases ha'
        rw [List.append_nil] at q
        exact q H a (fun _ _ z => z) dr hh
      · exact q _ p (same_upd np) (dr.new np) (.tup upd_same (dr.off np).1 (dr.off np).2 ((ha.app ha').sm (same_upd np)))
end
theorem daAll_sub {H : Hp} {ys xs : List V} (k : ys.Sublist xs) : ∀ {ds : List PyData}, DaAll D H xs ds → ∃ es : List PyData, es.Sublist ds ∧ DaAll D H ys es := by
  induction k with
  | slnil => intro ds h; cases h; exact ⟨[], .slnil, .nil⟩
  | cons a s ih =>
    intro ds h
    cases h with
    | cons h t =>
      obtain ⟨es, s', p⟩ := ih t
      exact ⟨es, s'.cons _, p⟩
  | cons_cons a s ih =>
    intro ds h
    cases h with
    | cons h t =>
      obtain ⟨es, s', p⟩ := ih t
      exact ⟨_, s'.cons_cons _, .cons h p⟩
section
end
/-! ### raising an own exception class with a message -/
structure XMk (K : PySem.W.Frag) (mg : Str → Option Value) (x : Str) (C : Addr) : Prop where
  at_ : mg x = some (.ref C)
  q : PySem.W.excIn K C [.type "ValueError", .type "Exception", .type "BaseException", .type "object"] "ValueError.__new__" = true
  kC : PySem.W.keepIn K (.ref C) = true
  sub : PySem.W.subIn K (.ref C) (.type "BaseException") = some true
  ty : PySem.W.typeIn K (.ref C) = some (.type "type")
theorem ps_bad {X : Cx} {W : WX} {x m : Str} {C : Addr} {j : Nat} {p p2 pos pos2 : Pos} (hc : X.calm = true) (M : XMk X.K X.mg x C) (tk : Takes X W) (hg : Gl X x) (hdb : (x == ("__debug__" : Str)) = false := by decide) :
    PS X (.Raise (some (.Call (.Name x p) [.Constant (.str m) j p2] [] pos)) none pos2) (fun _ σ H => W (.ref C) none σ H) :=
  ps_raise hc tk (pmk_own PySem.F.excBase_ValueError M.q M.at_ M.kC (raises_own M.sub M.ty) hg hdb)
section
variable {P : Program} {w : World} {K : PySem.W.Frag} {mg : Str → Option Value} {base : Heap}
theorem passE {N : List Str} {qual : Str} {scope : Scope} {f : Addr} {cdv : Value} {A : Around} {outer : List Env} {s : Shared} {H : Hp} {E : XK} : Passes (L2.CX P w) (cxOf (L2.CX P w) P w K mg base N qual scope f cdv A outer s H E) E := by
  have tk : Takes (cxOf (L2.CX P w) P w K mg base N qual scope f cdv A outer s H E) (fun cls d _ H => E cls d H) := takes_of (E := E) rfl rfl rfl rfl
  exact passes_call tk (fun _ _ _ _ h => h)
end
def btw (lo hi : Int) : PyData → Bool
  | .int n => decide (lo ≤ n) && decide (n ≤ hi)
  | _ => false
theorem btw_int {lo hi : Int} {d : PyData} (h : btw lo hi d = true) : ∃ n, d = .int n ∧ lo ≤ n ∧ n ≤ hi := by
  cases d with
  | int n =>
    have h : (decide (lo ≤ n) && decide (n ≤ hi)) = true := h
    rw [Bool.and_eq_true] at h
    exact ⟨n, rfl, of_decide_eq_true h.1, of_decide_eq_true h.2⟩
  | none => cases h
  | bool _ => cases h
  | str _ => cases h
  | list _ => cases h
  | tuple _ => cases h
  | dict _ => cases h
theorem btw_of {lo hi n : Int} (h1 : lo ≤ n) (h2 : n ≤ hi) : btw lo hi (.int n) = true := by
  show (decide (lo ≤ n) && decide (n ≤ hi)) = true
  rw [decide_eq_true h1, decide_eq_true h2]
  rfl
section
variable {P : Program} {w : World} {K : PySem.W.Frag} {mg : Str → Option Value} {base : Heap}
def spNum : Sp := fun vs H Q _ => ∃ (D : DrA) (v : V) (d : PyData), vs = [v] ∧ Da D H v d ∧ Q (.bl (isNum d)) H
abbrev sNumber : Stmt := topS 6
theorem scNumber : FnScope ["thing"] ["thing"] (defScope sNumber) := ⟨rfl, rfl, rfl, by decide +kernel, rfl, by decide +kernel, by decide +kernel⟩
theorem ok_number {f : Addr} {fd : FuncData} (F : Fun K "is_number" "is_number" sNumber f fd) (N : Bl mg) : FnOk P w K mg base CX0 1 f fd ["thing"] spNum := by
  refine F.ok scNumber (fun vs H Q E h => ?_) (fun cdv A outer s H vs Q E hr h => ?_)
  · obtain ⟨D, v, d, rfl, _⟩ := h
    rfl
  · obtain ⟨D, v, d, rfl, h, q⟩ := h
    refine ⟨_, pss_one (ps_ret (pe_and (pe_callB call_isi (by rfl) N.bisi (by decide +kernel) (pa_cons (pv 0) (pa_cons (pe_bltn (v := .ty "int") (by rfl) N.bint (by decide +kernel) rfl) pa_nil)))
      (pe_one (pe_not (pe_callB call_isi (by rfl) N.bisi (by decide +kernel) (pa_cons (pv 0) (pa_cons (pe_bltn (v := .ty "bool") (by rfl) N.bbool (by decide +kernel) rfl) pa_nil))))))), ?_⟩
    refine ⟨v, rfl, v, .ty "int", _, _, isIntB d, rfl, .ty "int", h.ty, kit_int K d, isIntB d, rfl, ?_⟩
    cases hb : isIntB d with
    | true =>
      refine iteT ⟨v, rfl, v, .ty "bool", _, _, isBoolB d, rfl, .ty "bool", h.ty, kit_bool K d, isBoolB d, rfl, ?_⟩
      have e : isNum d = !isBoolB d := by cases d <;> first | rfl | cases hb
      rw [← e]
      exact q
    | false =>
      have e : isNum d = false := by cases d <;> first | rfl | cases hb
      rw [e] at q
      exact iteF q
end
end Lm
/-! The draws of k06. -/
namespace Lm
open PySem PySem.Spec PyProof.Rows L2
section
variable {P : Program} {w : World} {K : PySem.W.Frag} {mg : Str → Option Value} {base : Heap}
/-! ### _law_mixed -/
abbrev sMixed : Stmt := topS 48
theorem scMixed : FnScope ["draw", "turn", "found", "prime", "blend", "grain"] ["draw"] (defScope sMixed) := ⟨rfl, rfl, rfl, by decide +kernel, rfl, by decide +kernel, by decide +kernel⟩
def spMixed : Sp := fun vs H Q _ => ∃ (D : DrA) (n : Nat), vs = [.ref D.d] ∧ DrawAt D n H ∧ n + 1 ≤ B ∧
  ∀ H' z, DrawAt D (n + 1) H' → Fr D H H' → Q (.int z) H'
theorem ok_mixed {f : Addr} {fd : FuncData} (F : Fun K "_law_mixed" "_law_mixed" sMixed f fd) (N : Bl mg) : FnOk P w K mg base CX0 1 f fd ["draw"] spMixed := by
  refine F.ok scMixed (fun vs H Q E h => ?_) (fun cdv A outer s H vs Q E hr h => ?_)
  · obtain ⟨D, n, rfl, _⟩ := h
    rfl
  · obtain ⟨D, n, rfl, ⟨ws, cs, r, t, h1, h2, h3, h4, h5, h6⟩, hn, q⟩ := h
    have hu := hu_of hr
    have mi := N.bint
    refine ⟨_, pss_cons (ps_par (i := 1) (j := 2) rfl scMixed.nd rfl rfl (by decide) rfl rfl (pa_cons (pe_op op_add (pe_dget hu (pv 0) pe_str (fun _ _ => rfl)) pe_int) (pa_cons pe_int pa_nil)) rfl)
      (pss_cons (ps_dput hu (pv 0) pe_str (pv 1) rfl)
      (pss_cons (ps_for PassesOwn.never rfl (pi_list (pe_lst (pa_cons pe_int (pa_cons pe_int (pa_cons pe_int (pa_cons pe_int pa_nil)))))) (pg_name (i := 3) scMixed.nd rfl (.inl rfl))
        (pss_cons (ps_set (i := 4) scMixed.nd rfl (.inl rfl) (pe_op op_add (pe_op op_mul pe_int (pv 1)) (pe_op op_fdiv (pv 3) pe_int)))
        (pss_cons (ps_for PassesOwn.never rfl (pi_list (pe_dget hu (pv 0) pe_str (fun _ _ => rfl))) (pg_name (i := 5) scMixed.nd rfl (.inl rfl))
          (pss_one (ps_set (i := 4) scMixed.nd rfl (.inl rfl) (pe_op op_mod (pe_callTy call_int1 (by rfl) mi (by decide +kernel) (pa_cons (pe_op op_add (pe_op op_add (pe_op op_mul (pv 4) pe_int) (pv 5)) (pv 1)) pa_nil)) (pv 3)))))
        (pss_one (ps_set (i := 2) scMixed.nd rfl (.inl rfl) (pe_op op_add (pe_op op_mul (pv 2) pe_int) (pe_op op_mod (pe_callTy call_int1 (by rfl) mi (by decide +kernel) (pa_cons (pe_op op_pow (pv 4) pe_int) pa_nil)) (pv 3))))))))
      (pss_one (ps_ret (pv 2))))), ?_⟩
    refine ⟨_, rfl, D.d, _, rfl, DGet.k (k := .inr "turn") h1, _, _, rfl, rfl, _, _, rfl, ?_⟩
    refine ⟨_, rfl, _, rfl, D.d, _, rfl, DPut.k (k := .inr "turn") h1 (by show 4 < sizeLine; decide), ?_⟩
    rw [drF_putT]
    have h1' : (upd H D.d (.dK (drF D r (t + 1)))) D.d = some (.dK (drF D r (t + 1))) := upd_same
    have ewd : D.w ≠ D.d := ne_of h2 h1 (fun z => by cases z)
    have ecd : D.c ≠ D.d := ne_of h3 h1 (fun z => by cases z)
    have h2' : (upd H D.d (.dK (drF D r (t + 1)))) D.w = some (.lst (ws.map V.int)) := by rw [upd_ne ewd]; exact h2
    have h3' : (upd H D.d (.dK (drF D r (t + 1)))) D.c = some (.lst (cs.map V.int)) := by rw [upd_ne ecd]; exact h3
    have fr1 : Fr D H (upd H D.d (.dK (drF D r (t + 1)))) := fun b o e n1 n2 => by rw [upd_ne n1]; exact e
    generalize upd H D.d (.dK (drF D r (t + 1))) = H1 at *
    refine ⟨by show 4 ≤ sizeLine; decide, fun p np => ?_⟩
    have s2 : Same H1 (upd H1 p (.lst [.int 2147483647, .int 2147483629, .int 2147483587, .int 2147483579])) := same_upd np
    have hp : (upd H1 p (.lst [.int 2147483647, .int 2147483629, .int 2147483587, .int 2147483579])) p = some _ := upd_same
    have k1 := s2 _ _ h1'
    have k2 := s2 _ _ h2'
    have k3 := s2 _ _ h3'
    generalize upd H1 p (.lst [.int 2147483647, .int 2147483629, .int 2147483587, .int 2147483579]) = H2 at *
    refine ⟨p, rfl, ⟨_, .inl (.inl hp)⟩, for_list (K := K) (a := p) (xs := [.int 2147483647, .int 2147483629, .int 2147483587, .int 2147483579])
      (fun i σ H' => H' = H2 ∧ ∃ fo x3 x4 x5, σ = [some (.ref D.d), some (.int (t + 1)), some (.int fo), x3, x4, x5]) ⟨rfl, _, _, _, _, rfl⟩ (fun i σ H' _ h => by rw [h.1]; exact .inl (.inl hp)) ?_ ?_⟩
    · rintro i x σ H' hx ⟨rfl, fo, x3, x4, x5, rfl⟩
      obtain ⟨pr, rfl, p0, p1⟩ : ∃ pr : Int, x = .int pr ∧ 0 < pr ∧ pr < 2 ^ 40 := by
        match i, hx with
        | 0, hx => cases hx; exact ⟨_, rfl, by decide, by decide⟩
        | 1, hx => cases hx; exact ⟨_, rfl, by decide, by decide⟩
        | 2, hx => cases hx; exact ⟨_, rfl, by decide, by decide⟩
        | 3, hx => cases hx; exact ⟨_, rfl, by decide, by decide⟩
        | i + 4, hx => simp at hx
      refine ⟨_, rfl, _, _, rfl, rfl, .inl (by constructor <;> decide), _, rfl, _, _, rfl, rfl, (by constructor <;> decide), _, _, rfl, rfl, ?_⟩
      refine ⟨_, rfl, D.d, _, rfl, DGet.k (k := .inr "cells") k1, ?_⟩
      refine ⟨D.c, rfl, ⟨_, .inl (.inl k3)⟩, for_list (K := K) (a := D.c) (xs := cs.map V.int)
        (fun i σ H'' => H'' = H' ∧ ∃ bl x5, σ = [some (.ref D.d), some (.int (t + 1)), some (.int fo), some (.int pr), some (.int bl), x5] ∧ 0 ≤ bl ∧ bl < 2 ^ 63) ⟨rfl, _, _, rfl, ?_, ?_⟩ (fun i σ H' _ h => by rw [h.1]; exact .inl (.inl k3)) ?_ ?_⟩
      · omega
      · unfold B at hn; omega
      · rintro j y σ H'' hy ⟨rfl, bl, x5, rfl, b0, b1⟩
        obtain ⟨g, _, rfl⟩ : ∃ g, cs[j]? = some g ∧ y = .int g := by
          rw [List.getElem?_map] at hy
          cases e : cs[j]? with
          | none => rw [e] at hy; cases hy
          | some z => rw [e] at hy; exact ⟨z, rfl, (Option.some.inj hy).symm⟩
        refine ⟨_, rfl, _, _, rfl, rfl, .inr (by constructor <;> decide), _, rfl, _, _, rfl, rfl, _, rfl, _, _, rfl, rfl, .inl ⟨_, rfl, _, rfl, _, _, rfl, rfl, p0, rfl, _, _, rfl, ?_, ?_⟩⟩
        · exact Int.emod_nonneg _ (by omega)
        · have := Int.emod_lt_of_pos (bl * 69621 + g + (t + 1)) p0
          omega
      · rintro σ H'' ⟨rfl, bl, x5, rfl, b0, b1⟩
        refine ⟨_, rfl, _, _, rfl, rfl, .inr (by constructor <;> decide), _, rfl, _, _, rfl, rfl, ⟨by decide, by decide, by omega⟩, .inl ⟨_, rfl, _, rfl, _, _, rfl, rfl, p0, _, _, rfl, rfl, rfl, _, _, _, _, rfl⟩⟩
    · rintro σ H' ⟨rfl, fo, x3, x4, x5, rfl⟩
      refine ⟨_, rfl, q _ _ ⟨ws, cs, r, t + 1, k1, k2, k3, h4, by omega, by omega⟩ (fr1.trans (.of s2))⟩
/-! ### _law_take -/
abbrev sTake : Stmt := topS 47
theorem scTake : FnScope ["draw", "size", "found"] ["draw", "size"] (defScope sTake) := ⟨rfl, rfl, rfl, by decide +kernel, rfl, by decide +kernel, by decide +kernel⟩
def spTake : Sp := fun vs H Q _ => ∃ (D : DrA) (n : Nat) (z : Int), vs = [.ref D.d, .int z] ∧ DrawAt D n H ∧ n + 1 ≤ B ∧ 0 < z ∧ z < 1073741824 ∧
  ∀ H' v, DrawAt D (n + 1) H' → Fr D H H' → 0 ≤ v → v < z → Q (.int v) H'
theorem ok_take {f : Addr} {fd : FuncData} (F : Fun K "_law_take" "_law_take" sTake f fd) (N : Bl mg) (GM : Has P w K mg base CX0 1 "_law_mixed" ["draw"] spMixed) : FnOk P w K mg base CX0 2 f fd ["draw", "size"] spTake := by
  refine F.ok scTake (fun vs H Q E h => ?_) (fun cdv A outer s H vs Q E hr h => ?_)
  · obtain ⟨D, n, z, rfl, _⟩ := h
    rfl
  · obtain ⟨D, n, z, rfl, h, hn, z0, z1, q⟩ := h
    have hu := hu_of hr
    have hu64 : (A.deeper (envOfC "_law_take" (defScope sTake) s.heap.objs.size f cdv)).units + 64 < cLine := by
      have := hr.un
      omega
    refine ⟨_, C8.pss_cut (ps_if (pt_cmpR op_eq (pe_dget hu (pv 0) pe_str (fun _ _ => rfl)) pe_int (nomark _))
        (pss_one (ps_dput hu (pv 0) pe_str (pe_ifExp (pt_cmpR (op_neD hu64) (pe_dget hu (pv 0) pe_str (fun _ _ => rfl)) (pe_lst pa_nil) (nomark _))
          (pe_bm PySem.F.plainAttrs_list PySem.F.slot_list_pop PySem.F.type_list_pop mt_popAt (pe_dget hu (pv 0) pe_str (fun _ _ => rfl)) (pa_cons pe_int pa_nil))
          (pe_h GM hr (by decide) (by rfl) pass0 (pa_cons (pv 0) pa_nil))) rfl)) pss_nil)
      (pss_cons (ps_set (i := 2) scTake.nd rfl (.inl rfl) (pe_op op_mod (pe_callTy call_int1 (by rfl) N.bint (by decide +kernel) (pa_cons (pe_dget hu (pv 0) pe_str (fun _ _ => rfl)) pa_nil)) (pv 1)))
      (pss_cons (ps_dput hu (pv 0) pe_str (pe_op op_fdiv (pe_dget hu (pv 0) pe_str (fun _ _ => rfl)) (pv 1)) rfl)
      (pss_one (ps_ret (pv 2))))), ?_⟩
    refine ⟨fun σ H1 => σ = [some (.ref D.d), some (.int z), none] ∧ DrawAt D (n + 1) H1 ∧ Fr D H H1, ?_, ?_⟩
    · obtain ⟨ws, cs, r, t, h1, h2, h3, h4, h5, h6⟩ := id h
      refine ⟨_, rfl, D.d, _, rfl, DGet.k (k := .inr "rest") h1, rfl, _, rfl, ite2 (fun e => ?_) (fun e => ?_)⟩
      · -- draw['wide'] != []
        refine ⟨_, rfl, D.d, _, rfl, DGet.k (k := .inr "wide") h1, Nat.zero_le _, fun p np => ?_⟩
        have s1 : Same H (upd H p (.lst [])) := same_upd np
        have d1 : DrawAt D n (upd H p (.lst [])) := h.new np
        have hp : (upd H p (.lst [])) p = some (.lst []) := upd_same
        have k1 := s1 _ _ h1
        have k2 := s1 _ _ h2
        have k3 := s1 _ _ h3
        generalize upd H p (.lst []) = H1 at *
        refine ⟨.list (ws.map .int), .list [], .lst (SqL.of k2) (dp_ints ws), .lst (SqL.of hp) .nil, shaped_ints ws, by decide +kernel, _, rfl, ?_⟩
        cases ws with
        | nil =>
          refine iteF ?_
          refine ⟨_, rfl, D, n, rfl, d1, hn, fun H2 v d2 f2 => ?_⟩
          obtain ⟨ws', cs', r', t', g1, g2, g3, g4, g5, g6⟩ := d2
          refine ⟨_, rfl, D.d, _, rfl, DPut.k (k := .inr "rest") g1 (by show 4 < sizeLine; decide), rfl, ?_, ?_⟩
          · rw [drF_putR]
            exact ⟨ws', cs', v, t', upd_same, by rw [upd_ne (ne_of g2 g1 (fun z => by cases z))]; exact g2, by rw [upd_ne (ne_of g3 g1 (fun z => by cases z))]; exact g3, g4, g5, g6⟩
          · intro b o eb n1 n2
            rw [upd_ne n1]
            exact f2 b o (s1 b o eb) n1 n2
        | cons y ys =>
          refine iteT ?_
          refine ⟨_, rfl, D.d, _, rfl, DGet.k (k := .inr "wide") k1, .inl ⟨rfl, _, .inl (.inl k2)⟩, D.w, _, 0, 0, .int y, rfl, rfl, k2, by decide, by decide, by simp [seqIndex?], rfl, ?_⟩
          have ewd : D.w ≠ D.d := ne_of k2 k1 (fun z => by cases z)
          have k1' : (upd H1 D.w (.lst (ys.map V.int))) D.d = some (.dK (drF D r t)) := by rw [upd_ne ewd.symm]; exact k1
          refine ⟨_, rfl, D.d, _, rfl, DPut.k (k := .inr "rest") k1' (by show 4 < sizeLine; decide), rfl, ?_, ?_⟩
          · rw [drF_putR]
            refine ⟨ys, cs, y, t, upd_same, ?_, ?_, h4, h5, by omega⟩
            · rw [upd_ne ewd]
              exact upd_same
            · rw [upd_ne (ne_of k3 k1 (fun z => by cases z)), upd_ne h4.2]
              exact k3
          · intro b o eb n1 n2
            rw [upd_ne n1, upd_ne n2]
            exact s1 b o eb
      · exact ⟨rfl, h.mono (by omega), Fr.refl D H⟩
    · rintro σ H1 ⟨rfl, ⟨ws, cs, r, t, h1, h2, h3, h4, h5, h6⟩, f1⟩
      refine ⟨_, rfl, D.d, _, rfl, DGet.k (k := .inr "rest") h1, .inl ⟨_, rfl, _, rfl, _, _, rfl, rfl, z0, ?_⟩⟩
      refine ⟨_, rfl, D.d, _, rfl, DGet.k (k := .inr "rest") h1, _, rfl, _, _, rfl, rfl, ⟨z0, z1⟩, _, rfl, D.d, _, rfl, DPut.k (k := .inr "rest") h1 (by show 4 < sizeLine; decide), ?_⟩
      rw [drF_putR]
      refine ⟨_, rfl, q _ _ ⟨ws, cs, _, t, upd_same, by rw [upd_ne (ne_of h2 h1 (fun z => by cases z))]; exact h2, by rw [upd_ne (ne_of h3 h1 (fun z => by cases z))]; exact h3, h4, h5, h6⟩ ?_ ?_ ?_⟩
      · intro b o eb n1 n2
        rw [upd_ne n1]
        exact f1 b o eb n1 n2
      · exact Int.emod_nonneg _ (by omega)
      · exact Int.emod_lt_of_pos _ z0
end
section
variable {P : Program} {w : World} {K : PySem.W.Frag} {mg : Str → Option Value} {base : Heap}
abbrev sPick : Stmt := topS 43
theorem scPick : FnScope ["draw", "some"] ["draw", "some"] (defScope sPick) := ⟨rfl, rfl, rfl, by decide +kernel, rfl, by decide +kernel, by decide +kernel⟩
def spPick : Sp := fun vs H Q _ => ∃ (D : DrA) (n : Nat) (l : Addr) (xs : List V), vs = [.ref D.d, .ref l] ∧ DrawAt D n H ∧ n + 1 ≤ B ∧ H l = some (.lst xs) ∧ l ≠ D.w ∧ xs ≠ [] ∧ xs.length < 1073741824 ∧
  ∀ (H' : Hp) (i : Nat) (v : V), xs[i]? = some v → DrawAt D (n + 1) H' → Fr D H H' → Q v H'
theorem ok_pick {f : Addr} {fd : FuncData} (F : Fun K "_law_pick" "_law_pick" sPick f fd) (N : Bl mg) (GT : Has P w K mg base CX0 2 "_law_take" ["draw", "size"] spTake) : FnOk P w K mg base CX0 3 f fd ["draw", "some"] spPick := by
  refine F.ok scPick (fun vs H Q E h => ?_) (fun cdv A outer s H vs Q E hr h => ?_)
  · obtain ⟨D, n, l, xs, rfl, _⟩ := h
    rfl
  · obtain ⟨D, n, l, xs, rfl, h, hn, hl, lw, x0, x1, q⟩ := h
    refine ⟨_, pss_one (ps_ret (pe_ix ix_list (pv 1) (pe_h GT hr (by decide) (by rfl) pass0 (pa_cons (pv 0) (pa_cons (pe_callB call_len_seq (by rfl) N.blen PySem.boot_len (pa_cons (pv 1) pa_nil)) pa_nil))) (fun _ _ => rfl))), ?_⟩
    have ld : l ≠ D.d := by
      obtain ⟨ws, cs, r, t, h1, _⟩ := h
      exact ne_of hl h1 (fun z => by cases z)
    refine ⟨_, rfl, _, rfl, .ref l, rfl, l, xs, rfl, .inl (SqL.of hl), D, n, _, rfl, h, hn, ?_, ?_, ?_⟩
    · cases xs with
      | nil => exact absurd rfl x0
      | cons a r => rw [List.length_cons]; omega
    · omega
    · intro H' v d' f' v0 v1
      have hl' := f' _ _ hl ld lw
      obtain ⟨j, rfl⟩ : ∃ j : Nat, v = (j : Int) := ⟨v.toNat, by omega⟩
      have hj : j < xs.length := by omega
      refine ⟨l, xs, _, xs[j], rfl, rfl, SqL.of hl', atI_nat (List.getElem?_eq_getElem hj), q H' j _ (List.getElem?_eq_getElem hj) d' f'⟩
abbrev sBegun : Stmt := topS 42
theorem scBegun : FnScope ["script", "wide", "grain"] ["script"] (defScope sBegun) := ⟨rfl, rfl, rfl, by decide +kernel, rfl, by decide +kernel, by decide +kernel⟩
def spBegun (K : PySem.W.Frag) : Sp := fun vs H Q _ => ∃ (a : Addr) (ns : List Int), vs = [.ref a] ∧ SqL K H a (ns.map V.int) ∧ ns.length ≤ 63 ∧
  ∀ (H' : Hp) (D : DrA), Same H H' → DrawAt D 0 H' → H D.d = none → H D.w = none → Q (.ref D.d) H'
theorem ok_begun {f : Addr} {fd : FuncData} (F : Fun K "_law_begun" "_law_begun" sBegun f fd) (N : Bl mg) : FnOk P w K mg base CX0 1 f fd ["script"] (spBegun K) := by
  refine F.ok scBegun (fun vs H Q E h => ?_) (fun cdv A outer s H vs Q E hr h => ?_)
  · obtain ⟨a, ns, rfl, _⟩ := h
    rfl
  · obtain ⟨a, ns, rfl, hS, hl, q⟩ := h
    refine ⟨_, pss_cons (ps_setLc (i := 1) (own := [("grain", 2)]) (g := gName 2) (by rfl) scBegun.nd rfl rfl (sw_true rfl rfl rfl (by decide +kernel)) (pi_list (pv 0))
        (blkOk_by (own := [("grain", 2)]) (N := ["script", "wide", "grain"]) (sc := defScope sBegun) (by decide +kernel)) (fun _ _ _ _ _ => pg_name (i := 2) scBegun.nd rfl (Or.inl rfl))
        (fun _ _ _ _ _ => pts_one (pt_cmpR op_ge (pe_callB call_abs (by rfl) N.babs (by decide +kernel) (pa_cons (pv 2) pa_nil)) (pe_op op_pow pe_int pe_int) (nomark _)))
        (fun _ _ _ _ _ => pe_op op_sub (pe_callB call_abs (by rfl) N.babs (by decide +kernel) (pa_cons (pv 2) pa_nil)) (pe_op op_pow pe_int pe_int)))
      (pss_one (ps_ret (pe_disp (pps_cons pe_str (pv 1) (pps_cons pe_str (pe_lc (own := [("grain", 2)]) (g := gName 2) (tt := tYes) rfl scBegun.nd (pi_list (pv 0))
          (blkOk_by (own := [("grain", 2)]) (N := ["script", "wide", "grain"]) (sc := defScope sBegun) (by decide +kernel)) (fun _ _ _ _ _ => pg_name (i := 2) scBegun.nd rfl (Or.inl rfl)) (fun _ _ _ _ _ => pts_nil)
          (fun _ _ _ _ _ => pe_op op_mod (pe_callTy call_int1 (by rfl) N.bint (by decide +kernel) (pa_cons (pe_callB call_abs (by rfl) N.babs (by decide +kernel) (pa_cons (pv 2) pa_nil)) pa_nil)) pe_int))
        (pps_cons pe_str pe_int (pps_cons pe_str pe_int pps_nil)))) (by rfl) (by rfl) (fun z => by cases z) (by decide)))), ?_⟩
    refine ⟨.ref a, rfl, a, rfl, ⟨_, hS⟩, fun W nW => lc_list (K := K) (a := a) (xs := ns.map V.int)
      (fun i H' => Same H H' ∧ ∃ acc : List Int, H' W = some (.lst (acc.map V.int)) ∧ acc.length ≤ i) ⟨same_upd nW, [], upd_same, Nat.zero_le _⟩ (fun i H' _ h => h.1.seq hS) ?_ ?_⟩
    · rintro i x H' hx ⟨sm, acc, hW, hi⟩
      obtain ⟨z, _, rfl⟩ := int_at hx
      refine ⟨rfl, _, rfl, z, rfl, _, _, rfl, rfl, ⟨by decide, by decide, by decide⟩, _, _, rfl, rfl, _, rfl, ite2 (fun c => ?_) (fun c => ?_)⟩
      · refine ⟨_, rfl, z, rfl, _, _, rfl, rfl, ⟨by decide, by decide, by decide⟩, _, _, rfl, rfl, acc.map V.int, hW, ?_, same_put sm nW, acc ++ [(if z < 0 then -z else z) - 10 ^ Int.toNat 18], ?_, ?_⟩
        · rw [List.length_map]
          have hi' : i < (ns.map V.int).length := (List.getElem?_eq_some_iff.mp hx).1
          rw [List.length_map] at hi'
          exact small1000 (by omega)
        · rw [List.map_append]
          exact upd_same
        · rw [List.length_append]
          exact Nat.add_le_add_right hi 1
      · exact ⟨sm, acc, hW, by omega⟩
    · rintro H1 ⟨sm, acc, hW, hi⟩
      intro p np
      have hpW : p ≠ W := fun z => by rw [z, hW] at np; cases np
      refine ⟨.ref W, rfl, .ref a, rfl, a, rfl, ⟨_, (sm.trans (same_upd np)).seq hS⟩, fun C nC => lc_list (K := K) (a := a) (xs := ns.map V.int)
        (fun i H' => Same (upd H1 p (.dK [])) H' ∧ ∃ acc : List Int, H' C = some (.lst (acc.map V.int)) ∧ acc.length ≤ i ∧ ∀ x ∈ acc, 0 ≤ x ∧ x < 2147483629) ⟨same_upd nC, [], upd_same, Nat.zero_le _, (fun x hx => by cases hx)⟩ (fun i H' _ h => (sm.trans ((same_upd np).trans h.1)).seq hS) ?_ ?_⟩
      · rintro i x H' hx ⟨sm2, acc2, hC, hi2, hb⟩
        obtain ⟨z, _, rfl⟩ := int_at hx
        refine ⟨rfl, _, rfl, z, rfl, .inl ⟨_, rfl, _, _, rfl, rfl, (by show (0 : Int) < 2147483629; decide), acc2.map V.int, hC, ?_, same_put sm2 nC, acc2 ++ [(if z < 0 then -z else z) % 2147483629], ?_, ?_, ?_⟩⟩
        · rw [List.length_map]
          have hi' : i < (ns.map V.int).length := (List.getElem?_eq_some_iff.mp hx).1
          rw [List.length_map] at hi'
          exact small1000 (by omega)
        · rw [List.map_append]
          exact upd_same
        · rw [List.length_append]
          exact Nat.add_le_add_right hi2 1
        · intro x hx
          rcases List.mem_append.mp hx with hx | hx
          · exact hb x hx
          · rw [List.mem_singleton.mp hx]
            exact ⟨Int.emod_nonneg _ (by decide), Int.emod_lt_of_pos _ (by decide)⟩
      · rintro H2 ⟨sm2, acc2, hC, hi2, hb⟩
        have hp : H2 p = some (.dK []) := sm2 _ _ upd_same
        have hW2 : H2 W = some (.lst (acc.map V.int)) := sm2 _ _ (by rw [upd_ne hpW.symm]; exact hW)
        refine ⟨hp, drF ⟨p, W, C⟩ 0 0, rfl, (by show 4 ≤ 15; decide), ?_⟩
        have e : mergeK [] (drF ⟨p, W, C⟩ 0 0) = drF ⟨p, W, C⟩ 0 0 := rfl
        rw [e]
        have nCW : C ≠ W := by
          intro z
          rw [z, upd_ne hpW.symm, hW] at nC
          cases nC
        have nCp : C ≠ p := by
          intro z
          rw [z, upd_same] at nC
          cases nC
        have np0 : H p = none := by
          cases e : H p with
          | none => rfl
          | some o => rw [sm _ _ e] at np; cases np
        refine q _ ⟨p, W, C⟩ ?_ ⟨acc, acc2, 0, 0, upd_same, ?_, ?_, ⟨hb, nCW⟩, by decide, by decide⟩ np0 nW
        · exact same_put (sm.trans ((same_upd np).trans sm2)) np0
        · rw [upd_ne hpW.symm]
          exact hW2
        · rw [upd_ne nCp]
          exact hC
/-! ### _law_few_of -/
abbrev sFew : Stmt := topS 49
theorem scFew : FnScope ["draw", "some", "size", "item"] ["draw", "some", "size"] (defScope sFew) := ⟨rfl, rfl, rfl, by decide +kernel, rfl, by decide +kernel, by decide +kernel⟩
def spFew : Sp := fun vs H Q _ => ∃ (D : DrA) (n : Nat) (l : Addr) (xs : List V) (z : Int), vs = [.ref D.d, .ref l, .int z] ∧ DrawAt D n H ∧ n + xs.length ≤ B ∧ H l = some (.lst xs) ∧ l ≠ D.w ∧ xs.length ≤ 1000 ∧ 0 < z ∧ z < 1073741824 ∧
  ∀ (H' : Hp) (p : Addr) (ys : List V), p ≠ D.d → p ≠ D.w → ys.Sublist xs → H' p = some (.lst ys) → DrawAt D (n + xs.length) H' → Fr D H H' → Q (.ref p) H'
theorem ok_few {f : Addr} {fd : FuncData} (F : Fun K "_law_few_of" "_law_few_of" sFew f fd) (GT : Has P w K mg base CX0 2 "_law_take" ["draw", "size"] spTake) : FnOk P w K mg base CX0 4 f fd ["draw", "some", "size"] spFew := by
  refine F.ok scFew (fun vs H Q E h => ?_) (fun cdv A outer s H vs Q E hr h => ?_)
  · obtain ⟨D, n, l, xs, z, rfl, _⟩ := h
    rfl
  · obtain ⟨D, n, l, xs, z, rfl, h, hn, hl, lw, x1, z0, z1, q⟩ := h
    refine ⟨_, pss_one (ps_ret (pe_lc (own := [("item", 3)]) (g := gName 3) rfl scFew.nd (pi_list (pv 1))
        (blkOk_by (own := [("item", 3)]) (N := ["draw", "some", "size", "item"]) (sc := defScope sFew) (by decide +kernel)) (fun _ _ _ _ _ => pg_name (i := 3) scFew.nd rfl (Or.inl rfl))
        (fun _ _ _ _ _ => pts_one (pt_cmpR op_eq (pe_h GT (hr.mono (by decide : 2 ≤ 3)) (by decide) (by rfl) pass0 (pa_cons (pv 0) (pa_cons (pv 2) pa_nil))) pe_int (nomark _)))
        (fun _ _ _ _ _ => pv 3))), ?_⟩
    have ld : l ≠ D.d := by
      obtain ⟨ws, cs, r, t, h1, _⟩ := h
      exact ne_of hl h1 (fun z => by cases z)
    refine ⟨.ref l, rfl, l, rfl, ⟨_, SqL.of hl⟩, fun R nR => lc_list (K := K) (a := l) (xs := xs)
      (fun i H' => Fr D H H' ∧ DrawAt D (n + i) H' ∧ R ≠ D.d ∧ R ≠ D.w ∧ ∃ ys : List V, H' R = some (.lst ys) ∧ ys.Sublist (xs.take i)) ⟨.of (same_upd nR), h.new nR, (h.off nR).1, (h.off nR).2, [], upd_same, List.Sublist.refl _⟩
      (fun i H' _ h => SqL.of (h.1 _ _ hl ld lw)) ?_ ?_⟩
    · rintro i x H' hx ⟨f1, d1, nd, nw, ys, hR, hs⟩
      have hi : i < xs.length := (List.getElem?_eq_some_iff.mp hx).1
      have ht : xs.take (i + 1) = xs.take i ++ [x] := by rw [List.take_add_one, hx]; rfl
      refine ⟨rfl, _, rfl, _, rfl, D, n + i, z, rfl, d1, by omega, z0, z1, fun H2 v d2 f2 v0 v1 => ?_⟩
      have hR2 := f2 _ _ hR nd nw
      refine ⟨rfl, _, rfl, ite2 (fun c => ?_) (fun c => ?_)⟩
      · refine ⟨x, rfl, ys, hR2, ?_, ?_⟩
        · have := hs.length_le
          rw [List.length_take] at this
          exact small1000 (by omega)
        · refine ⟨?_, ?_, nd, nw, ys ++ [x], upd_same, ?_⟩
          · intro b o e n1 n2
            rw [upd_ne (ne_of_none e nR)]
            exact f2 _ _ (f1 _ _ e n1 n2) n1 n2
          · obtain ⟨ws, cs, r, t, g1, g2, g3, g4, g5, g6⟩ := d2
            refine ⟨ws, cs, r, t, by rw [upd_ne nd.symm]; exact g1, by rw [upd_ne nw.symm]; exact g2, ?_, g4, g5, by omega⟩
            by_cases e : D.c = R
            · exfalso
              obtain ⟨_, _, _, _, _, _, k3, _⟩ := h
              rw [e, nR] at k3
              cases k3
            · rw [upd_ne e]
              exact g3
          · rw [ht]
            exact hs.append (List.Sublist.refl _)
      · refine ⟨f1.trans f2, d2, nd, nw, ys, hR2, ?_⟩
        rw [ht]
        exact hs.trans (List.sublist_append_left _ _)
    · rintro H' ⟨f1, d1, nd, nw, ys, hR, hs⟩
      rw [List.take_length] at hs
      exact q _ R ys nd nw hs hR d1 f1
end
end Lm
/-! Names. -/
namespace Lm
open PySem PySem.Spec PyProof.Rows L2
theorem smallM {n : Nat} (h : n ≤ 1000000) : n ≤ sizeLine := by rw [sizeLine_eq]; omega
mutual
def shortD : PyData → Bool
  | .str x => decide (x.length ≤ 1000)
  | .list ds => shortAll ds
  | .tuple ds => shortAll ds
  | _ => true
def shortAll : List PyData → Bool
  | [] => true
  | d :: r => shortD d && shortAll r
end
def rowNameD : PyData → Bool
  | .str x => decide ((1 : Int) ≤ (x.length : Nat)) && decide (((x.length : Nat) : Int) ≤ 20)
  | _ => false
def saidNameD : PyData → Bool
  | .str x => decide ((1 : Int) ≤ (x.length : Nat)) && decide (((x.length : Nat) : Int) ≤ 20) && !decide (33 ∈ x.cps.toList)
  | _ => false
def capL : List Nat := (List.range 26).map (65 + ·)
def bigD : PyData → Bool
  | .str x => match x.cps.toList with
    | c :: _ => decide (c ∈ capL)
    | [] => false
  | _ => false
section
variable {P : Program} {w : World} {K : PySem.W.Frag} {mg : Str → Option Value} {base : Heap}
abbrev sRowName : Stmt := topS 13
theorem scRowName : FnScope ["thing"] ["thing"] (defScope sRowName) := ⟨rfl, rfl, rfl, by decide +kernel, rfl, by decide +kernel, by decide +kernel⟩
def spB (f : PyData → Bool) : Sp := fun vs H Q _ => ∃ (D : DrA) (v : V) (d : PyData), vs = [v] ∧ Da D H v d ∧ shortD d = true ∧ Q (.bl (f d)) H
theorem Da.strOf {D : DrA} {H : Hp} {v : V} {d : PyData} (h : Da D H v d) (e : isStr d = true) : ∃ x, v = .str x ∧ d = .str x := by
  cases h <;> first | exact ⟨_, rfl, rfl⟩ | cases e
theorem short_str {x : Str} (h : shortD (.str x) = true) : x.length ≤ sizeLine := by
  have : x.length ≤ 1000 := of_decide_eq_true h
  exact small10000 (by omega)
theorem ok_rowName {f : Addr} {fd : FuncData} (F : Fun K "is_row_name" "is_row_name" sRowName f fd) (N : Bl mg) : FnOk P w K mg base CX0 1 f fd ["thing"] (spB rowNameD) := by
  refine F.ok scRowName (fun vs H Q E h => ?_) (fun cdv A outer s H vs Q E hr h => ?_)
  · obtain ⟨D, v, d, rfl, _⟩ := h
    rfl
  · obtain ⟨D, v, d, rfl, h, sd, q⟩ := h
    refine ⟨_, pss_one (ps_ret (pe_and (pe_callB call_isi (by rfl) N.bisi (by decide +kernel) (pa_cons (pv 0) (pa_cons (pe_bltn (v := .ty "str") (by rfl) N.bstr (by decide +kernel) rfl) pa_nil)))
      (pe_one (pe_chain op_le op_le pe_int (pe_callB call_len_str (by rfl) N.blen PySem.boot_len (pa_cons (pv 0) pa_nil)) pe_int)))), ?_⟩
    refine ⟨v, rfl, v, .ty "str", _, _, isStr d, rfl, .ty "str", h.ty, kit_str K d, isStr d, rfl, ?_⟩
    cases e : isStr d with
    | false =>
      have z : rowNameD d = false := by cases d <;> first | rfl | cases e
      rw [z] at q
      exact iteF q
    | true =>
      obtain ⟨x, rfl, rfl⟩ := h.strOf e
      refine iteT ⟨_, rfl, x, rfl, short_str sd, _, _, rfl, rfl, _, rfl, ?_⟩
      have q : Q (.bl (decide ((1 : Int) ≤ (x.length : Nat)) && decide (((x.length : Nat) : Int) ≤ 20))) H := q
      refine ite2 (fun z => ⟨_, _, rfl, rfl, ?_⟩) (fun z => ?_)
      · rw [z, Bool.true_and] at q
        exact q
      · rw [Bool.not_eq_true] at z
        rw [z, Bool.false_and] at q
        exact q
abbrev sSaidName : Stmt := topS 18
theorem scSaidName : FnScope ["thing"] ["thing"] (defScope sSaidName) := ⟨rfl, rfl, rfl, by decide +kernel, rfl, by decide +kernel, by decide +kernel⟩
theorem ok_saidName {f : Addr} {fd : FuncData} (F : Fun K "is_said_name" "is_said_name" sSaidName f fd) (N : Bl mg) : FnOk P w K mg base CX0 1 f fd ["thing"] (spB saidNameD) := by
  refine F.ok scSaidName (fun vs H Q E h => ?_) (fun cdv A outer s H vs Q E hr h => ?_)
  · obtain ⟨D, v, d, rfl, _⟩ := h
    rfl
  · obtain ⟨D, v, d, rfl, h, sd, q⟩ := h
    refine ⟨_, pss_one (ps_ret (pe_and (pe_callB call_isi (by rfl) N.bisi (by decide +kernel) (pa_cons (pv 0) (pa_cons (pe_bltn (v := .ty "str") (by rfl) N.bstr (by decide +kernel) rfl) pa_nil)))
      (pe_and (pe_chain op_le op_le pe_int (pe_callB call_len_str (by rfl) N.blen PySem.boot_len (pa_cons (pv 0) pa_nil)) pe_int)
      (pe_one (pe_cmpR op_notInS pe_str (pv 0) (by rfl)))))), ?_⟩
    refine ⟨v, rfl, v, .ty "str", _, _, isStr d, rfl, .ty "str", h.ty, kit_str K d, isStr d, rfl, ?_⟩
    cases e : isStr d with
    | false =>
      have z : saidNameD d = false := by cases d <;> first | rfl | cases e
      rw [z] at q
      exact iteF q
    | true =>
      obtain ⟨x, rfl, rfl⟩ := h.strOf e
      refine iteT ⟨_, rfl, x, rfl, short_str sd, _, _, rfl, rfl, _, rfl, ?_⟩
      have q : Q (.bl (decide ((1 : Int) ≤ (x.length : Nat)) && decide (((x.length : Nat) : Int) ≤ 20) && !decide (33 ∈ x.cps.toList))) H := q
      refine ite2 (fun z => ⟨_, _, rfl, rfl, _, rfl, ?_⟩) (fun z => ?_)
      · rw [z, Bool.true_and] at q
        refine ite2 (fun z2 => ⟨_, rfl, 33, x, rfl, rfl, ?_⟩) (fun z2 => ?_)
        · rw [z2, Bool.true_and] at q
          exact q
        · rw [Bool.not_eq_true] at z2
          rw [z2, Bool.false_and] at q
          exact q
      · rw [Bool.not_eq_true] at z
        rw [z, Bool.false_and, Bool.false_and] at q
        refine ⟨_, rfl, ?_⟩
        exact iteF q
end
end Lm
/-! Bound and free names; rows. -/
namespace Lm
open PySem PySem.Spec PyProof.Rows L2
def boundNameD (d : PyData) : Bool := saidNameD d && bigD d
def freeNameD (d : PyData) : Bool := saidNameD d && !bigD d
abbrev capS : Str := "ABCDEFGHIJKLMNOPQRSTUVWXYZ"
theorem caps_list : capS.cps.toList = capL := by decide +kernel
theorem said_str {d : PyData} (h : saidNameD d = true) : ∃ x c r, d = .str x ∧ x.cps.toList = c :: r := by
  cases d with
  | str x =>
    have h : (decide ((1 : Int) ≤ (x.length : Nat)) && decide (((x.length : Nat) : Int) ≤ 20) && !decide (33 ∈ x.cps.toList)) = true := h
    rw [Bool.and_eq_true, Bool.and_eq_true] at h
    have h1 := of_decide_eq_true h.1.1
    cases e : x.cps.toList with
    | nil =>
      have : x.length = 0 := by
        have := congrArg List.length e
        rw [Array.length_toList] at this
        exact this
      omega
    | cons c r => exact ⟨x, c, r, rfl, e⟩
  | _ => cases h
section
variable {P : Program} {w : World} {K : PySem.W.Frag} {mg : Str → Option Value} {base : Heap}
abbrev sBoundName : Stmt := topS 19
abbrev sFreeName : Stmt := topS 20
theorem scBoundName : FnScope ["thing"] ["thing"] (defScope sBoundName) := ⟨rfl, rfl, rfl, by decide +kernel, rfl, by decide +kernel, by decide +kernel⟩
theorem scFreeName : FnScope ["thing"] ["thing"] (defScope sFreeName) := ⟨rfl, rfl, rfl, by decide +kernel, rfl, by decide +kernel, by decide +kernel⟩
theorem ok_boundName {f : Addr} {fd : FuncData} {tc : Tok} (F : Fun K "is_bound_name" "is_bound_name" sBoundName f fd) (MC : mg "CAPITALS" = some (.str capS tc)) (GS : Has P w K mg base CX0 1 "is_said_name" ["thing"] (spB saidNameD)) : FnOk P w K mg base CX0 2 f fd ["thing"] (spB boundNameD) := by
  refine F.ok scBoundName (fun vs H Q E h => ?_) (fun cdv A outer s H vs Q E hr h => ?_)
  · obtain ⟨D, v, d, rfl, _⟩ := h
    rfl
  · obtain ⟨D, v, d, rfl, h, sd, q⟩ := h
    refine ⟨_, pss_one (ps_ret (pe_and (pe_h GS hr (by decide) (by rfl) pass0 (pa_cons (pv 0) pa_nil))
      (pe_one (pe_cmpR op_inS (pe_ix ix_str (pv 0) pe_int (fun _ _ => rfl)) (pe_glob (v := .str capS) (by rfl) MC ⟨tc, rfl⟩) (by rfl))))), ?_⟩
    refine ⟨v, rfl, D, v, d, rfl, h, sd, _, rfl, ?_⟩
    have q : Q (.bl (saidNameD d && bigD d)) H := q
    refine ite2 (fun z => ?_) (fun z => ?_)
    · obtain ⟨x, c, r, rfl, e⟩ := said_str z
      obtain rfl : v = .str x := by cases h; rfl
      refine ⟨_, rfl, x, 0, c, rfl, rfl, short_str sd, atI_nat (j := 0) (by rw [e]; rfl), c, capS, rfl, rfl, ?_⟩
      rw [z, Bool.true_and] at q
      have : bigD (.str x) = decide (c ∈ capS.cps.toList) := by
        rw [caps_list]
        show (match x.cps.toList with | c :: _ => decide (c ∈ capL) | [] => false) = _
        rw [e]
      rw [← this]
      exact q
    · rw [Bool.not_eq_true] at z
      rw [z, Bool.false_and] at q
      exact q
theorem ok_freeName {f : Addr} {fd : FuncData} {tc : Tok} (F : Fun K "is_free_name" "is_free_name" sFreeName f fd) (MC : mg "CAPITALS" = some (.str capS tc)) (GS : Has P w K mg base CX0 1 "is_said_name" ["thing"] (spB saidNameD)) : FnOk P w K mg base CX0 2 f fd ["thing"] (spB freeNameD) := by
  refine F.ok scFreeName (fun vs H Q E h => ?_) (fun cdv A outer s H vs Q E hr h => ?_)
  · obtain ⟨D, v, d, rfl, _⟩ := h
    rfl
  · obtain ⟨D, v, d, rfl, h, sd, q⟩ := h
    refine ⟨_, pss_one (ps_ret (pe_and (pe_h GS hr (by decide) (by rfl) pass0 (pa_cons (pv 0) pa_nil))
      (pe_one (pe_cmpR op_notInS (pe_ix ix_str (pv 0) pe_int (fun _ _ => rfl)) (pe_glob (v := .str capS) (by rfl) MC ⟨tc, rfl⟩) (by rfl))))), ?_⟩
    refine ⟨v, rfl, D, v, d, rfl, h, sd, _, rfl, ?_⟩
    have q : Q (.bl (saidNameD d && !bigD d)) H := q
    refine ite2 (fun z => ?_) (fun z => ?_)
    · obtain ⟨x, c, r, rfl, e⟩ := said_str z
      obtain rfl : v = .str x := by cases h; rfl
      refine ⟨_, rfl, x, 0, c, rfl, rfl, short_str sd, atI_nat (j := 0) (by rw [e]; rfl), c, capS, rfl, rfl, ?_⟩
      rw [z, Bool.true_and] at q
      have : bigD (.str x) = decide (c ∈ capS.cps.toList) := by
        rw [caps_list]
        show (match x.cps.toList with | c :: _ => decide (c ∈ capL) | [] => false) = _
        rw [e]
      rw [← this]
      exact q
    · rw [Bool.not_eq_true] at z
      rw [z, Bool.false_and] at q
      exact q
/-! ### is_tuple_of -/
abbrev sTupOf : Stmt := topS 8
theorem scTupOf : FnScope ["thing", "count"] ["thing", "count"] (defScope sTupOf) := ⟨rfl, rfl, rfl, by decide +kernel, rfl, by decide +kernel, by decide +kernel⟩
def tupLen : PyData → Option Nat
  | .tuple ds => some ds.length
  | _ => none
def spTupD : Sp := fun vs H Q _ => ∃ (D : DrA) (v : V) (d : PyData) (n : Nat), vs = [v, .int (n : Nat)] ∧ Da D H v d ∧ Q (.bl (decide (tupLen d = some n))) H
theorem Da.tupOf {D : DrA} {H : Hp} {v : V} {d : PyData} (h : Da D H v d) (e : isTup d = true) : ∃ p xs ds, v = .ref p ∧ d = .tuple ds ∧ H p = some (.tup xs) ∧ p ≠ D.d ∧ p ≠ D.w ∧ DaAll D H xs ds := by
  cases h with
  | tup h n1 n2 ha => exact ⟨_, _, _, rfl, rfl, h, n1, n2, ha⟩
  | _ => cases e
theorem ok_tupD {f : Addr} {fd : FuncData} (F : Fun K "is_tuple_of" "is_tuple_of" sTupOf f fd) (N : Bl mg) : FnOk P w K mg base CX0 1 f fd ["thing", "count"] spTupD := by
  refine F.ok scTupOf (fun vs H Q E h => ?_) (fun cdv A outer s H vs Q E hr h => ?_)
  · obtain ⟨D, v, d, n, rfl, _⟩ := h
    rfl
  · obtain ⟨D, v, d, n, rfl, h, q⟩ := h
    refine ⟨_, pss_one (ps_ret (pe_and (pe_callB call_isi (by rfl) N.bisi (by decide +kernel) (pa_cons (pv 0) (pa_cons (pe_bltn (v := .ty "tuple") (by rfl) N.btup (by decide +kernel) rfl) pa_nil)))
      (pe_one (pe_cmpR op_eq (pe_callB call_len_seq (by rfl) N.blen PySem.boot_len (pa_cons (pv 0) pa_nil)) (pv 1) (nomark _))))), ?_⟩
    refine ⟨v, rfl, v, .ty "tuple", _, _, isTup d, rfl, .ty "tuple", h.ty, kit_tup K d, isTup d, rfl, ?_⟩
    cases e : isTup d with
    | false =>
      have z : decide (tupLen d = some n) = false := by cases d <;> first | rfl | cases e
      rw [z] at q
      exact iteF q
    | true =>
      obtain ⟨p, xs, ds, rfl, rfl, hp, _, _, ha⟩ := h.tupOf e
      refine iteT ⟨_, rfl, p, xs, rfl, .inr (SqT.of hp), _, rfl, rfl, ?_⟩
      rw [dec_int, ha.length]
      have z : decide (tupLen (.tuple ds) = some n) = (((ds.length : Nat) : Int) == (n : Nat)) := by
        show decide (some ds.length = some n) = _
        by_cases e : ds.length = n
        · rw [e]
          simp
        · have : ¬ ((ds.length : Int) = (n : Int)) := by omega
          simp [e, this]
      rw [← z]
      exact q
end
end Lm
/-! Rows. -/
namespace Lm
open PySem PySem.Spec PyProof.Rows L2
theorem pi_tupK {X : Cx} {tg l : Expr} {tl : TE} (K : PySem.W.Frag) (hl : PE X l tl) (hK : X.K = K := by rfl) : PI X tg l (iTup K tl) := hK ▸ pi_tup hl
theorem pi_listK {X : Cx} {tg l : Expr} {tl : TE} (K : PySem.W.Frag) (hl : PE X l tl) (hK : X.K = K := by rfl) : PI X tg l (iList K tl) := hK ▸ pi_list hl
def sideD : PyData → Bool
  | .none => true
  | d => rowNameD d
def sideEq : PyData → PyData → Bool
  | .none, .none => true
  | .str x, .str y => decide (x = y)
  | _, _ => false
def rowD : PyData → Bool
  | .tuple [a, b, c] => sideD a && sideD b && !sideEq a b && isNum c
  | _ => false
theorem side_cases {D : DrA} {H : Hp} {v : V} {d : PyData} (h : Da D H v d) (e : sideD d = true) : (v = .non ∧ d = .none) ∨ ∃ x, v = .str x ∧ d = .str x := by
  cases h <;> first | exact .inl ⟨rfl, rfl⟩ | exact .inr ⟨_, rfl, rfl⟩ | cases e
theorem side_eq {D : DrA} {H : Hp} {v u : V} {d e : PyData} (h : Da D H v d) (k : Da D H u e) (hd : sideD d = true) (he : sideD e = true) : scal v u = true ∧ decide (v = u) = sideEq d e := by
  rcases side_cases h hd with ⟨rfl, rfl⟩ | ⟨x, rfl, rfl⟩ <;> rcases side_cases k he with ⟨rfl, rfl⟩ | ⟨y, rfl, rfl⟩
  · exact ⟨rfl, by decide⟩
  · exact ⟨rfl, decide_eq_false (fun z => by cases z)⟩
  · exact ⟨rfl, decide_eq_false (fun z => by cases z)⟩
  · refine ⟨rfl, ?_⟩
    show decide (V.str x = V.str y) = decide (x = y)
    by_cases e : x = y
    · rw [e]; simp
    · rw [decide_eq_false e, decide_eq_false (fun z => e (by injection z))]
section
variable {P : Program} {w : World} {K : PySem.W.Frag} {mg : Str → Option Value} {base : Heap}
abbrev sRow : Stmt := topS 14
def nRow : List Str := ["thing", "a", "b", "c", "name"]
theorem scRow : FnScope nRow ["thing"] (defScope sRow) := ⟨rfl, rfl, rfl, by decide +kernel, rfl, by decide +kernel, by decide +kernel⟩
def spS (f : PyData → Bool) : Sp := fun vs H Q _ => ∃ (D : DrA) (v : V) (d : PyData), vs = [v] ∧ Da D H v d ∧ shortD d = true ∧ ∀ H', Same H H' → Q (.bl (f d)) H'
theorem ok_row {f : Addr} {fd : FuncData} (F : Fun K "is_row" "is_row" sRow f fd) (GT : Has P w K mg base CX0 1 "is_tuple_of" ["thing", "count"] spTupD) (GR : Has P w K mg base CX0 1 "is_row_name" ["thing"] (spB rowNameD)) (GN : Has P w K mg base CX0 1 "is_number" ["thing"] spNum) : FnOk P w K mg base CX0 2 f fd ["thing"] (spS rowD) := by
  refine F.ok scRow (fun vs H Q E h => ?_) (fun cdv A outer s H vs Q E hr h => ?_)
  · obtain ⟨D, v, d, rfl, _⟩ := h
    rfl
  · obtain ⟨D, v, d, rfl, h, sd, q⟩ := h
    refine ⟨_, pss_cons (ps_if (pt_not (pt_val (pe_h GT hr (by decide) (by rfl) pass0 (pa_cons (pv 0) (pa_cons pe_int pa_nil))))) (pss_one (ps_ret pe_bl)) pss_nil)
      (pss_cons (ps_asg (pv 0) (pg_tup rfl (pgs_cons (pg_name (i := 1) scRow.nd rfl (.inl rfl)) (pgs_cons (pg_name (i := 2) scRow.nd rfl (.inl rfl)) (pgs_cons (pg_name (i := 3) scRow.nd rfl (.inl rfl)) pgs_nil)))))
      (pss_cons (ps_for PassesOwn.never rfl (pi_tupK K (pe_tup (pa_cons (pv 1) (pa_cons (pv 2) pa_nil)))) (pg_name (i := 4) scRow.nd rfl (.inl rfl))
        (pss_one (ps_if (pw_and (pt_cmpR op_notN1 (pv 4) pe_non (nomark _)) (pw_and1 (pt_not (pt_val (pe_h GR hr (by decide) (by rfl) pass0 (pa_cons (pv 4) pa_nil)))))).pt (pss_one (ps_ret pe_bl)) pss_nil)))
      (pss_one (ps_ret (pe_and (pe_cmpR op_ne (pv 1) (pv 2) (nomark _)) (pe_one (pe_h GN hr (by decide) (by rfl) pass0 (pa_cons (pv 3) pa_nil)))))))), ?_⟩
    refine ⟨_, rfl, D, v, d, 3, rfl, h, _, rfl, ?_⟩
    by_cases e : tupLen d = some 3
    · rw [decide_eq_true e]
      have et : isTup d = true := by cases d <;> first | rfl | cases e
      obtain ⟨p, xs, ds, rfl, rfl, hp, pd, pw, ha⟩ := h.tupOf et
      have el : ds.length = 3 := Option.some.inj e
      obtain ⟨a, b, c, rfl⟩ : ∃ a b c, ds = [a, b, c] := by
        match ds, el with
        | [a, b, c], _ => exact ⟨a, b, c, rfl⟩
      cases ha with
      | cons h1 ha => cases ha with
      | cons h2 ha => cases ha with
      | cons h3 ha =>
        cases ha
        rename_i va vb vc
        have sd : (shortD a && (shortD b && (shortD c && true))) = true := sd
        rw [Bool.and_eq_true, Bool.and_eq_true, Bool.and_eq_true] at sd
        obtain ⟨sa, sb, sc, _⟩ := sd
        refine iteF ⟨_, rfl, p, _, rfl, SqT.of hp, rfl, _, _, rfl, _, _, rfl, _, _, rfl, rfl, ?_⟩
        refine ⟨_, rfl, _, rfl, (by show 2 ≤ sizeLine; decide), fun t nt => ⟨t, rfl, ⟨_, SqT.of upd_same⟩, ?_⟩⟩
        have s1 := same_upd (o := .tup [va, vb]) nt
        have ht : (upd H t (.tup [va, vb])) t = some (.tup [va, vb]) := upd_same
        generalize upd H t (.tup [va, vb]) = H1 at *
        have h1 := h1.sm s1
        have h2 := h2.sm s1
        have h3 := h3.sm s1
        refine for_tup (K := K) (a := t) (xs := [va, vb]) (fun i σ H' => H' = H1 ∧ (0 < i → sideD a = true) ∧ (1 < i → sideD b = true) ∧ ∃ x4, σ = [some (.ref p), some va, some vb, some vc, x4])
          ⟨rfl, fun z => absurd z (by omega), fun z => absurd z (by omega), none, rfl⟩ (fun i σ H' _ z => by rw [z.1]; exact SqT.of ht) ?_ ?_
        · rintro i x σ H' hx ⟨rfl, ka, kb, x4, rfl⟩
          obtain ⟨dx, hd, sx, bad, good⟩ : ∃ dx, Da D H' x dx ∧ shortD dx = true ∧ (sideD dx = false → rowD (.tuple [a, b, c]) = false) ∧ (sideD dx = true → (0 < i + 1 → sideD a = true) ∧ (1 < i + 1 → sideD b = true)) := by
            match i, hx with
            | 0, hx =>
              obtain rfl : va = x := Option.some.inj hx
              exact ⟨a, h1, sa, fun z => by show (sideD a && sideD b && !sideEq a b && isNum c) = false; rw [z]; rfl, fun z => ⟨fun _ => z, fun y => absurd y (by omega)⟩⟩
            | 1, hx =>
              obtain rfl : vb = x := Option.some.inj hx
              exact ⟨b, h2, sb, fun z => by show (sideD a && sideD b && !sideEq a b && isNum c) = false; rw [z, Bool.and_false]; rfl, fun z => ⟨fun _ => ka (by omega), fun _ => z⟩⟩
            | n + 2, hx => simp at hx
          refine ⟨_, rfl, rfl, _, rfl, ?_⟩
          by_cases xn : x = .non
          · subst xn
            cases hd
            rw [decide_eq_true rfl]
            exact iteF (iteF ⟨rfl, (good rfl).1, (good rfl).2, _, rfl⟩)
          · rw [decide_eq_false xn]
            refine iteT ⟨_, rfl, D, x, dx, rfl, hd, sx, _, rfl, ?_⟩
            have es : sideD dx = rowNameD dx := by cases hd <;> first | rfl | exact absurd rfl xn
            cases er : rowNameD dx with
            | true => exact iteF ⟨rfl, (good (es.trans er)).1, (good (es.trans er)).2, _, rfl⟩
            | false =>
              have q := q H' s1
              rw [bad (es.trans er)] at q
              exact iteT q
        · rintro σ H' ⟨rfl, ka, kb, x4, rfl⟩
          have ka := ka (Nat.zero_lt_succ 1)
          have kb := kb (Nat.lt_succ_self 1)
          obtain ⟨z1, z2⟩ := side_eq h1 h2 ka kb
          have q := q H' s1
          have er : rowD (.tuple [a, b, c]) = (!sideEq a b && isNum c) := by
            show (sideD a && sideD b && !sideEq a b && isNum c) = _
            rw [ka, kb]
            rfl
          rw [er] at q
          refine ⟨_, rfl, _, rfl, z1, _, rfl, ?_⟩
          rw [z2]
          refine ite2 (fun z => ⟨_, rfl, D, vc, c, rfl, h3, ?_⟩) (fun z => ?_)
          · rw [z, Bool.true_and] at q
            exact q
          · rw [Bool.not_eq_true] at z
            rw [z, Bool.false_and] at q
            exact q
    · rw [decide_eq_false e]
      have z : rowD d = false := by
        cases d with
        | tuple ds =>
          match ds, e with
          | [], _ => rfl
          | [_], _ => rfl
          | [_, _], _ => rfl
          | [_, _, _], e => exact absurd rfl e
          | _ :: _ :: _ :: _ :: _, _ => rfl
        | _ => rfl
      have q := q H (fun _ _ z => z)
      rw [z] at q
      exact iteT q
end
end Lm
/-! Said rows. -/
namespace Lm
open PySem PySem.Spec PyProof.Rows L2
theorem in_strs (x : Str) : ∀ l : List Str, inV (.str x) (l.map V.str) = decide (x ∈ l)
  | [] => rfl
  | a :: r => by
    show (eqV (.str a) (.str x) || inV (.str x) (r.map V.str)) = _
    rw [in_strs x r]
    show (decide (a = x) || _) = _
    by_cases h : a = x
    · subst h
      simp
    · have : ¬ x = a := fun z => h z.symm
      simp [h, this]
theorem flat_strs : ∀ l : List Str, (l.map V.str).all flatV = true
  | [] => rfl
  | _ :: r => flat_strs r
theorem slA_td {K : PySem.W.Frag} {D : DrA} {n : Nat} {H : Hp} {Q : VK} {p : Addr} {xs us : List V} {es : List PyData} {lo hi : Option Int} (dr : DrawAt D n H) (hp : H p = some (.tup xs)) (pd : p ≠ D.d) (pw : p ≠ D.w) (e : cutV xs lo hi = us) (g : DaAll D H us es)
    (q : ∀ (H' : Hp) (p' : Addr), Same H H' → DrawAt D n H' → H' p' = some (.tup us) → p' ≠ D.d → p' ≠ D.w → DaAll D H' us es → Q (.ref p') H') : rSlA K (.ref p) lo hi H Q := by
  refine ⟨p, xs, rfl, SqT.of hp, fun k => ?_, fun _ p' np => ?_⟩
  · have e2 := cutV_whole k
    rw [e] at e2
    subst e2
    exact q H p (fun _ _ z => z) dr hp pd pw g
  · rw [e]
    exact q _ p' (same_upd np) (dr.new np) upd_same (dr.off np).1 (dr.off np).2 (g.sm (same_upd np))
theorem cut_from1 (a : V) (r : List V) : cutV (a :: r) (some 1) none = r := by simp [cutV, HT.sIx]
theorem cut_1_3 (a b c d : V) : cutV [a, b, c, d] (some 1) (some 3) = [b, c] := by simp [cutV, HT.sIx]
def inB (bs : List Str) : PyData → Bool
  | .str x => decide (x ∈ bs)
  | _ => false
def sideB (bs : List Str) : PyData → Bool
  | .none => true
  | d => freeNameD d || inB bs d
def saidRowD (bs : List Str) : List PyData → Bool
  | [a, b, c] => rowD (.tuple [a, b, c]) && sideB bs a && sideB bs b
  | _ => false
theorem row_three {r : List PyData} (h : rowD (.tuple r) = true) : ∃ a b c, r = [a, b, c] ∧ sideD a = true ∧ sideD b = true := by
  match r, h with
  | [a, b, c], h =>
    have h : (sideD a && sideD b && !sideEq a b && isNum c) = true := h
    rw [Bool.and_eq_true, Bool.and_eq_true, Bool.and_eq_true] at h
    exact ⟨a, b, c, rfl, h.1.1.1, h.1.1.2⟩
  | [], h => cases h
  | [_], h => cases h
  | [_, _], h => cases h
  | _ :: _ :: _ :: _ :: _, h => cases h
theorem saidRow_no {bs : List Str} {r : List PyData} (h : rowD (.tuple r) = false) : saidRowD bs r = false := by
  match r, h with
  | [a, b, c], h =>
    show (rowD (.tuple [a, b, c]) && sideB bs a && sideB bs b) = false
    rw [h]
    rfl
  | [], _ => rfl
  | [_], _ => rfl
  | [_, _], _ => rfl
  | _ :: _ :: _ :: _ :: _, _ => rfl
section
variable {P : Program} {w : World} {K : PySem.W.Frag} {mg : Str → Option Value} {base : Heap}
abbrev sSRow : Stmt := topS 22
def nSRow : List Str := ["thing", "bound", "name"]
theorem scSRow : FnScope nSRow ["thing", "bound"] (defScope sSRow) := ⟨rfl, rfl, rfl, by decide +kernel, rfl, by decide +kernel, by decide +kernel⟩
def spSRow : Sp := fun vs H Q _ => ∃ (D : DrA) (n : Nat) (p b : Addr) (x : V) (xs : List V) (d : PyData) (ds : List PyData) (bs : List Str), vs = [.ref p, .ref b] ∧ DrawAt D n H ∧ H p = some (.tup (x :: xs)) ∧ p ≠ D.d ∧ p ≠ D.w ∧ DaAll D H (x :: xs) (d :: ds) ∧ shortAll (d :: ds) = true ∧
  H b = some (.tup (bs.map V.str)) ∧ ∀ H', Same H H' → Q (.bl (saidRowD bs ds)) H'
theorem ok_srow {f : Addr} {fd : FuncData} (F : Fun K "is_said_row" "is_said_row" sSRow f fd) (GR : Has P w K mg base CX0 2 "is_row" ["thing"] (spS rowD)) (GF : Has P w K mg base CX0 2 "is_free_name" ["thing"] (spB freeNameD)) : FnOk P w K mg base CX0 3 f fd ["thing", "bound"] spSRow := by
  refine F.ok scSRow (fun vs H Q E h => ?_) (fun cdv A outer s H vs Q E hr h => ?_)
  · obtain ⟨D, n, p, b, x, xs, d, ds, bs, rfl, _⟩ := h
    rfl
  · obtain ⟨D, n, p, b, x, xs, d, ds, bs, rfl, dr, hp, pd, pw, ha, sd, hb, q⟩ := h
    refine ⟨_, pss_cons (ps_if (pt_not (pt_val (pe_h GR hr (by decide) (by rfl) pass0 (pa_cons (pe_slice sl_tupA (pv 0) (po_some pe_int) po_none) pa_nil)))) (pss_one (ps_ret pe_bl)) pss_nil)
      (pss_cons (ps_for PassesOwn.never rfl (pi_tupK K (pe_slice sl_tupA (pv 0) (po_some pe_int) (po_some pe_int))) (pg_name (i := 2) scSRow.nd rfl (.inl rfl))
        (pss_one (ps_if (pw_and (pt_cmpR op_notN1 (pv 2) pe_non (nomark _)) (pw_and (pt_not (pt_val (pe_h GF hr (by decide) (by rfl) pass0 (pa_cons (pv 2) pa_nil)))) (pw_and1 (pt_cmpR (show OpR _ _ (rIn K true) from op_notIn_seq) (pv 2) (pv 1) (by rfl))))).pt (pss_one (ps_ret pe_bl)) pss_nil)))
      (pss_one (ps_ret pe_bl))), ?_⟩
    have hr' : DaAll D H xs ds := by cases ha with | cons _ t => exact t
    have sr : shortAll ds = true := by
      have z : (shortD d && shortAll ds) = true := sd
      rw [Bool.and_eq_true] at z
      exact z.2
    refine ⟨_, rfl, 1, rfl, ?_⟩
    try unfold tNoPart
    refine slA_td dr hp pd pw (cut_from1 x xs) hr' fun H1 p1 s1 d1 h1 o1 o2 g1 => ?_
    refine ⟨D, .ref p1, .tuple ds, rfl, .tup h1 o1 o2 g1, sr, fun H2 s2 => ⟨_, rfl, ?_⟩⟩
    have s12 : Same H H2 := fun b o e => s2 b o (s1 b o e)
    cases er : rowD (.tuple ds) with
    | false =>
      have q := q H2 s12
      rw [saidRow_no er] at q
      exact iteT q
    | true =>
      obtain ⟨da, db, dc, rfl, ka, kb⟩ := row_three er
      have hr2 := hr'.sm s12
      cases hr2 with
      | cons h1' hr2 => cases hr2 with
      | cons h2' hr2 => cases hr2 with
      | cons h3' hr2 =>
        cases hr2
        rename_i va vb vc
        have sr : (shortD da && (shortD db && (shortD dc && true))) = true := sr
        rw [Bool.and_eq_true, Bool.and_eq_true, Bool.and_eq_true] at sr
        obtain ⟨sa, sb, sc, _⟩ := sr
        refine iteF ⟨_, rfl, 1, rfl, 3, rfl, ?_⟩
        refine slA_td (us := [va, vb]) (es := [da, db]) (dr.sm s12) (s12 _ _ hp) pd pw (cut_1_3 x va vb vc) (.cons h1' (.cons h2' .nil)) fun H3 p3 s3 d3 h3 o3 o4 g3 => ?_
        have s13 : Same H H3 := fun b o e => s3 b o (s12 b o e)
        have h1' := h1'.sm s3
        have h2' := h2'.sm s3
        have hb3 := s13 _ _ hb
        have en : saidRowD bs [da, db, dc] = (sideB bs da && sideB bs db) := by
          show (rowD (.tuple [da, db, dc]) && sideB bs da && sideB bs db) = _
          rw [er, Bool.true_and]
        refine ⟨p3, rfl, ⟨_, SqT.of h3⟩, for_tup (K := K) (a := p3) (xs := [va, vb]) (fun i σ H' => H' = H3 ∧ (0 < i → sideB bs da = true) ∧ (1 < i → sideB bs db = true) ∧ ∃ x2, σ = [some (.ref p), some (.ref b), x2])
          ⟨rfl, fun z => absurd z (by omega), fun z => absurd z (by omega), none, rfl⟩ (fun i σ H' _ z => by rw [z.1]; exact SqT.of h3) ?_ ?_⟩
        · rintro i y σ H' hx ⟨rfl, ka', kb', x2, rfl⟩
          obtain ⟨dx, hd, sx, sdx, bad, good⟩ : ∃ dx, Da D H' y dx ∧ shortD dx = true ∧ sideD dx = true ∧ (sideB bs dx = false → saidRowD bs [da, db, dc] = false) ∧ (sideB bs dx = true → (0 < i + 1 → sideB bs da = true) ∧ (1 < i + 1 → sideB bs db = true)) := by
            match i, hx with
            | 0, hx =>
              obtain rfl : va = y := Option.some.inj hx
              exact ⟨da, h1', sa, ka, fun z => by rw [en, z]; rfl, fun z => ⟨fun _ => z, fun y => absurd y (by omega)⟩⟩
            | 1, hx =>
              obtain rfl : vb = y := Option.some.inj hx
              exact ⟨db, h2', sb, kb, fun z => by rw [en, z, Bool.and_false], fun z => ⟨fun _ => ka' (by omega), fun _ => z⟩⟩
            | n + 2, hx => simp at hx
          refine ⟨_, rfl, rfl, _, rfl, ?_⟩
          rcases side_cases hd sdx with ⟨rfl, rfl⟩ | ⟨t, rfl, rfl⟩
          · rw [decide_eq_true rfl]
            exact iteF (iteF ⟨rfl, (good rfl).1, (good rfl).2, _, rfl⟩)
          · rw [decide_eq_false (fun z => by cases z)]
            refine iteT ⟨_, rfl, D, .str t, .str t, rfl, hd, sx, _, rfl, ?_⟩
            have es : sideB bs (.str t) = (freeNameD (.str t) || decide (t ∈ bs)) := rfl
            cases ef : freeNameD (.str t) with
            | true =>
              have e1 : sideB bs (.str t) = true := by rw [es, ef]; rfl
              exact iteF (iteF ⟨rfl, (good e1).1, (good e1).2, _, rfl⟩)
            | false =>
              refine iteT ⟨_, rfl, _, rfl, b, _, rfl, .inr (SqT.of hb3), rfl, flat_strs bs, _, rfl, ?_⟩
              rw [if_pos rfl, in_strs]
              rw [ef, Bool.false_or] at es
              by_cases hm : t ∈ bs
              · have e1 : sideB bs (.str t) = true := by rw [es]; exact decide_eq_true hm
                rw [decide_eq_true hm]
                exact iteF ⟨rfl, (good e1).1, (good e1).2, _, rfl⟩
              · have q := q H' s13
                rw [bad (by rw [es]; exact decide_eq_false hm)] at q
                rw [decide_eq_false hm]
                exact iteT q
        · rintro σ H' ⟨rfl, ka', kb', x2, rfl⟩
          have q := q H' s13
          rw [en, ka' (Nat.zero_lt_succ 1), kb' (Nat.lt_succ_self 1)] at q
          exact q
end
end Lm
/-! binds. -/
namespace Lm
open PySem PySem.Spec PyProof.Rows L2
def bindsL (bs : List Str) : List Str → List PyData → Bool
  | _, [] => true
  | before, .str x :: r => boundNameD (.str x) && !decide (x ∈ bs) && !decide (x ∈ before) && bindsL bs (before ++ [x]) r
  | _, _ :: _ => false
def bindsD (bs : List Str) : PyData → Bool
  | .tuple ds => decide ((1 : Int) ≤ (ds.length : Nat)) && decide (((ds.length : Nat) : Int) ≤ 4) && bindsL bs [] ds
  | _ => false
theorem bindsL_no {bs before : List Str} {d : PyData} {r : List PyData} (h : boundNameD d = false) : bindsL bs before (d :: r) = false := by
  cases d with
  | str x =>
    show (boundNameD (.str x) && _ && _ && _) = false
    rw [h]
    rfl
  | _ => rfl
theorem strs_of {D : DrA} {H : Hp} : ∀ {ss : List Str} {vs : List V}, DaAll D H vs (ss.map PyData.str) → vs = ss.map V.str
  | [], _, h => by cases h; rfl
  | s :: r, _, h => by
    cases h with
    | cons a t =>
      have := strs_of t
      subst this
      cases a
      rfl
theorem short_get : ∀ {ds : List PyData}, shortAll ds = true → ∀ d ∈ ds, shortD d = true
  | [], _, _, h => nomatch h
  | e :: r, s, d, h => by
    have s : (shortD e && shortAll r) = true := s
    rw [Bool.and_eq_true] at s
    rcases List.mem_cons.mp h with rfl | h
    · exact s.1
    · exact short_get s.2 d h
theorem cut_to {xs : List V} {i : Nat} (h : i ≤ xs.length) : cutV xs none (some ((i : Nat) : Int)) = xs.take i := by
  have e : HT.sIx xs.length xs.length (some ((i : Nat) : Int)) = i := by
    rw [HT.sIx_nat]
    omega
  unfold cutV
  rw [e]
  simp [HT.sIx]
theorem none_of {H H' : Hp} {p : Addr} (s : Same H H') (n : H' p = none) : H p = none := by
  cases e : H p with
  | none => rfl
  | some o => rw [s _ _ e] at n; cases n
section
variable {P : Program} {w : World} {K : PySem.W.Frag} {mg : Str → Option Value} {base : Heap}
abbrev sBinds : Stmt := topS 23
def nBinds : List Str := ["names", "bound", "at", "name"]
theorem scBinds : FnScope nBinds ["names", "bound"] (defScope sBinds) := ⟨rfl, rfl, rfl, by decide +kernel, rfl, by decide +kernel, by decide +kernel⟩
def spBinds : Sp := fun vs H Q _ => ∃ (D : DrA) (n : Nat) (v : V) (b : Addr) (d : PyData) (bs : List Str), vs = [v, .ref b] ∧ DrawAt D n H ∧ Da D H v d ∧ shortD d = true ∧ H b = some (.tup (bs.map V.str)) ∧ ∀ H', Same H H' → Q (.bl (bindsD bs d)) H'
theorem ok_binds {f : Addr} {fd : FuncData} (F : Fun K "binds" "binds" sBinds f fd) (N : Bl mg) (GB : Has P w K mg base CX0 2 "is_bound_name" ["thing"] (spB boundNameD)) : FnOk P w K mg base CX0 3 f fd ["names", "bound"] spBinds := by
  refine F.ok scBinds (fun vs H Q E h => ?_) (fun cdv A outer s H vs Q E hr h => ?_)
  · obtain ⟨D, n, v, b, d, bs, rfl, _⟩ := h
    rfl
  · obtain ⟨D, n, v, b, d, bs, rfl, dr, hd, sd, hb, q⟩ := h
    refine ⟨_, pss_cons (ps_if (pw_or (pt_not (pt_val (pe_callB call_isi (by rfl) N.bisi (by decide +kernel) (pa_cons (pv 0) (pa_cons (pe_bltn (v := .ty "tuple") (by rfl) N.btup (by decide +kernel) rfl) pa_nil)))))
        (pw_or1 (pt_not (pt_chain op_le op_le pe_int (pe_callB call_len_seq (by rfl) N.blen PySem.boot_len (pa_cons (pv 0) pa_nil)) pe_int)))).pt (pss_one (ps_ret pe_bl)) pss_nil)
      (pss_cons (ps_for PassesOwn.never rfl (pi_enumT (by rfl) N.benu (pa_cons (pv 0) pa_nil)) (pg_tup rfl (pgs_cons (pg_name (i := 2) scBinds.nd rfl (.inl rfl)) (pgs_cons (pg_name (i := 3) scBinds.nd rfl (.inl rfl)) pgs_nil)))
        (pss_one (ps_if (pw_or (pt_not (pt_val (pe_h GB hr (by decide) (by rfl) pass0 (pa_cons (pv 3) pa_nil)))) (pw_or (pt_cmpR (show OpR _ _ (rIn K false) from op_in_seq) (pv 3) (pv 1) (by rfl))
          (pw_or1 (pt_cmpR (show OpR _ _ (rIn K false) from op_in_seq) (pv 3) (pe_slice sl_tupA (pv 0) po_none (po_some (pv 2))) (by rfl))))).pt (pss_one (ps_ret pe_bl)) pss_nil)))
      (pss_one (ps_ret pe_bl))), ?_⟩
    refine ⟨_, rfl, v, .ty "tuple", _, _, isTup d, rfl, .ty "tuple", hd.ty, kit_tup K d, isTup d, rfl, ?_⟩
    cases et : isTup d with
    | false =>
      have z : bindsD bs d = false := by cases d <;> first | rfl | cases et
      have q := q H (fun _ _ z => z)
      rw [z] at q
      exact iteT q
    | true =>
      obtain ⟨p, xs, ds, rfl, rfl, hp, pd, pw, ha⟩ := hd.tupOf et
      have hl := ha.length
      have sall : shortAll ds = true := sd
      refine iteF ⟨_, rfl, p, xs, rfl, .inr (SqT.of hp), _, _, rfl, rfl, _, rfl, ?_⟩
      have en : bindsD bs (.tuple ds) = (decide ((1 : Int) ≤ (ds.length : Nat)) && decide (((ds.length : Nat) : Int) ≤ 4) && bindsL bs [] ds) := rfl
      rw [← hl] at en
      have no : (decide ((1 : Int) ≤ (xs.length : Nat)) && decide (((xs.length : Nat) : Int) ≤ 4)) = false → Q (.bl false) H := fun z => by
        have q := q H (fun _ _ z => z)
        rw [en, z] at q
        exact q
      by_cases h1 : (1 : Int) ≤ (xs.length : Nat)
      · rw [decide_eq_true h1]
        refine iteT ⟨_, _, rfl, rfl, _, rfl, ?_⟩
        by_cases h4 : ((xs.length : Nat) : Int) ≤ 4
        · rw [decide_eq_true h4]
          have en : bindsD bs (.tuple ds) = bindsL bs [] ds := by
            rw [en, decide_eq_true h1, decide_eq_true h4]
            rfl
          refine iteF ⟨_, rfl, p, xs, rfl, SqT.of hp, for_it (walk_enumT (xs := xs)) (fun i σ H' => Same H H' ∧ (∃ before : List Str, ds.take i = before.map PyData.str ∧ bindsL bs [] ds = bindsL bs before (ds.drop i)) ∧ ∃ x2 x3, σ = [some (.ref p), some (.ref b), x2, x3]) ⟨fun _ _ z => z, ⟨[], rfl, rfl⟩, none, none, rfl⟩ ?_ ?_ ?_⟩
          · intro i σ H' hi hp'
            exact SqT.of (hp'.1 _ _ hp)
          · intro i y σ H' H'' hi hp' hy
            obtain ⟨s2, ⟨before, k1, k2⟩, x2, x3, rfl⟩ := hp'
            obtain ⟨T, x, rfl, nT, rfl, hxi⟩ := hy
            obtain ⟨dx, hdx, hv⟩ := ha.get hxi
            have s3 : Same H (upd H' T (.tup [.int (i : Nat), x])) := same_put s2 (none_of s2 nT)
            have hT : (upd H' T (.tup [.int (i : Nat), x])) T = some (.tup [.int (i : Nat), x]) := upd_same
            generalize upd H' T (.tup [.int (i : Nat), x]) = H3 at *
            have hdr : ds.drop i = dx :: ds.drop (i + 1) := by
              have hi' : i < ds.length := (List.getElem?_eq_some_iff.mp hdx).1
              rw [List.drop_eq_getElem_cons hi']
              have := (List.getElem?_eq_some_iff.mp hdx).2
              rw [this]
            rw [hdr] at k2
            refine ⟨T, _, rfl, SqT.of hT, rfl, _, _, rfl, _, _, rfl, rfl, ?_⟩
            refine ⟨_, rfl, D, x, dx, rfl, hv.sm s3, short_get sall dx (List.mem_of_getElem? hdx), _, rfl, ?_⟩
            cases eb : boundNameD dx with
            | false =>
              have q := q H3 s3
              rw [en, k2, bindsL_no eb] at q
              exact iteT q
            | true =>
              obtain ⟨t, c, r, rfl, _⟩ := said_str (by
                have : (saidNameD dx && bigD dx) = true := eb
                rw [Bool.and_eq_true] at this
                exact this.1)
              obtain rfl : x = .str t := by cases hv; rfl
              have k2 : bindsL bs [] ds = (boundNameD (.str t) && !decide (t ∈ bs) && !decide (t ∈ before) && bindsL bs (before ++ [t]) (ds.drop (i + 1))) := k2
              rw [eb, Bool.true_and] at k2
              refine iteF ⟨_, rfl, _, rfl, b, _, rfl, .inr (SqT.of (s3 _ _ hb)), rfl, flat_strs bs, _, rfl, ?_⟩
              rw [if_neg (by decide), in_strs]
              by_cases m1 : t ∈ bs
              · have q := q H3 s3
                rw [en, k2, decide_eq_true m1] at q
                rw [decide_eq_true m1]
                exact iteT q
              · rw [decide_eq_false m1]
                rw [decide_eq_false m1] at k2
                have gt : DaAll D H3 (xs.take i) (before.map PyData.str) := by
                  rw [← k1]
                  exact (ha.take i).sm s3
                have et := strs_of gt
                refine iteF ⟨_, rfl, _, rfl, _, rfl, i, rfl, ?_⟩
                refine slA_td (dr.sm s3) (s3 _ _ hp) pd pw ((cut_to (by have := (List.getElem?_eq_some_iff.mp hxi).1; omega)).trans et) (et ▸ gt) fun H4 p4 s4 d4 h4 o1 o2 g4 => ?_
                have s5 : Same H H4 := fun b o e => s4 b o (s3 b o e)
                refine ⟨p4, _, rfl, .inr (SqT.of h4), rfl, flat_strs before, _, rfl, ?_⟩
                rw [if_neg (by decide), in_strs]
                by_cases m2 : t ∈ before
                · have q := q H4 s5
                  rw [en, k2, decide_eq_true m2] at q
                  rw [decide_eq_true m2]
                  exact iteT q
                · rw [decide_eq_false m2]
                  rw [decide_eq_false m2] at k2
                  refine iteF ⟨s5, ⟨before ++ [t], ?_, k2⟩, _, _, rfl⟩
                  rw [List.take_add_one, k1, hdx, List.map_append]
                  rfl
          · rintro σ H' ⟨s2, ⟨before, k1, k2⟩, x2, x3, rfl⟩
            have q := q H' s2
            rw [en, k2, hl, List.drop_length] at q
            exact q
        · rw [decide_eq_false h4]
          exact iteT (no (by rw [decide_eq_true h1, decide_eq_false h4]; rfl))
      · rw [decide_eq_false h1]
        exact iteF ⟨_, rfl, iteT (no (by rw [decide_eq_false h1]; rfl))⟩
end
end Lm
/-! What fits: the mathematics, and the rules. -/
namespace Lm
open PySem PySem.Spec PyProof.Rows L2
mutual
theorem Da.dp {K : PySem.W.Frag} {D : DrA} {H : Hp} : ∀ {d : PyData} {v : V}, Da D H v d → d.canLay0 = true → Dp K H v d
  | _, _, .non, _ => .non
  | _, _, .bl b, _ => .bl b
  | _, _, .int i, _ => .int i
  | _, _, .str x, _ => .str x
  | _, _, .lst h _ _ ha, c => .lst (SqL.of h) (DaAll.dp ha (by simpa only [PyData.canLay0] using c))
  | _, _, .tup h _ _ ha, c => .tup (SqT.of h) (DaAll.dp ha (by simpa only [PyData.canLay0] using c))
  | _, _, .emp _ _ _, c => by simp [PyData.canLay0] at c
theorem DaAll.dp {K : PySem.W.Frag} {D : DrA} {H : Hp} : ∀ {ds : List PyData} {vs : List V}, DaAll D H vs ds → PyData.canLayAll0 ds = true → DpAll K H vs ds
  | _, _, .nil, _ => .nil
  | _, _, .cons h ha, c => by
    simp only [PyData.canLayAll0, Bool.and_eq_true] at c
    exact .cons (Da.dp h c.1) (DaAll.dp ha c.2)
end
theorem lay_mem : ∀ {ds : List PyData}, PyData.canLayAll0 ds = true → ∀ d ∈ ds, d.canLay0 = true
  | [], _, _, h => nomatch h
  | e :: r, c, d, h => by
    simp only [PyData.canLayAll0, Bool.and_eq_true] at c
    rcases List.mem_cons.mp h with rfl | h
    · exact c.1
    · exact lay_mem c.2 d h
theorem depth_mem : ∀ {ds : List PyData} {d : PyData}, d ∈ ds → d.depth ≤ PyData.depthAll ds
  | [], _, h => nomatch h
  | e :: r, d, h => by
    simp only [PyData.depthAll]
    rcases List.mem_cons.mp h with rfl | h
    · exact Nat.le_max_left _ _
    · exact Nat.le_trans (depth_mem h) (Nat.le_max_right _ _)
def isS (t : Str) : PyData → Bool
  | .str x => decide (x = t)
  | _ => false
theorem eqv_str (t : Str) (d : PyData) : PyData.eqv d (.str t) = isS t d := by
  cases d with
  | str x =>
    simp only [PyData.eqv, isS]
    by_cases e : x = t
    · rw [e]; simp
    · simp [e]
  | _ => simp [PyData.eqv, isS]
/-- x in (..), a tuple of data -/
def rInTD (K : PySem.W.Frag) : R2 := fun x y H Q => ∃ d ds, Dp K H x d ∧ Dp K H y (.tuple ds) ∧ SeqAt.shaped d = true ∧ PyData.canLayAll0 ds = true ∧ Q (.bl (ds.any fun y => PyData.eqv y d)) H
theorem op_inTD {X : Cx} (hu : X.A.units + 65 < cLine) : OpR X (compareOp .In) (rInTD X.K) := by
  intro pins s σ H x y v u Q I rx ry h
  obtain ⟨d, ds, hd, he, sd, se, q⟩ := h
  obtain ⟨as, r1⟩ := Dp.reads I d x v hd rx
  obtain ⟨bs, r2⟩ := Dp.reads I (.tuple ds) y u he ry
  exact SeqAt.in_tuple_reads r2 r1 se (SeqAt.canLay_of_shaped sd) (room_in_shaped sd hu) ⟨.bl _, H, I, rfl, q⟩
theorem eqv_str2 (t : Str) (d : PyData) : PyData.eqv (.str t) d = isS t d := by
  cases d with
  | str x =>
    simp [PyData.eqv, isS]
    by_cases e : x = t
    · rw [e]; simp
    · have : ¬ t = x := fun z => e z.symm
      simp [e, this]
  | _ => simp [PyData.eqv, isS]
def unS : PyData → Option Str
  | .str x => some x
  | _ => none
def strsD : PyData → List Str
  | .tuple ds => ds.filterMap unS
  | _ => []
theorem strs_back : ∀ ss : List Str, (ss.map PyData.str).filterMap unS = ss
  | [] => rfl
  | s :: r => by
    rw [List.map_cons, List.filterMap_cons]
    show s :: _ = _
    rw [strs_back r]
def allF (f : PyData → Bool) : List PyData → Bool
  | [.tuple ds] => ds.all f
  | _ => false
def oneF (f : PyData → Bool) : List PyData → Bool
  | [x] => f x
  | _ => false
def twoF (f : PyData → Bool) (g : List Str → PyData → Bool) : List PyData → Bool
  | [ns, x] => f ns && g (strsD ns) x
  | _ => false
def fitsN : Nat → List Str → PyData → Bool
  | n + 1, bs, .tuple (w :: r) =>
    if isS "row" w then saidRowD bs r
    else if isS "and" w || isS "or" w then allF (fitsN n bs) r
    else if isS "not" w then oneF (fitsN n bs) r
    else if isS "some" w || isS "all" w then twoF (bindsD bs) (fun ss => fitsN n (bs ++ ss)) r
    else false
  | _, _, _ => false
theorem binds_strs {D : DrA} {H : Hp} {v : V} {d : PyData} {bs : List Str} (h : Da D H v d) (b : bindsD bs d = true) : ∃ p ss, v = .ref p ∧ H p = some (.tup (ss.map V.str)) ∧ strsD d = ss ∧ ss.length ≤ 4 := by
  cases d with
  | tuple ds =>
    cases h with
    | tup h n1 n2 ha =>
      have b : (decide ((1 : Int) ≤ (ds.length : Nat)) && decide (((ds.length : Nat) : Int) ≤ 4) && bindsL bs [] ds) = true := b
      rw [Bool.and_eq_true, Bool.and_eq_true] at b
      have l4 := of_decide_eq_true b.1.2
      have key : ∀ {ds : List PyData} {before : List Str}, bindsL bs before ds = true → ∃ ss : List Str, ds = ss.map PyData.str := by
        intro ds
        induction ds with
        | nil => exact fun _ => ⟨[], rfl⟩
        | cons d r ih =>
          intro before h
          cases d with
          | str x =>
            have h : (boundNameD (.str x) && !decide (x ∈ bs) && !decide (x ∈ before) && bindsL bs (before ++ [x]) r) = true := h
            rw [Bool.and_eq_true] at h
            obtain ⟨ss, e⟩ := ih h.2
            exact ⟨x :: ss, by rw [e]; rfl⟩
          | _ => cases h
      obtain ⟨ss, rfl⟩ := key b.2
      have e := strs_of ha
      subst e
      exact ⟨_, ss, rfl, h, strs_back ss, by rw [List.length_map] at l4; omega⟩
  | _ => cases b
end Lm
/-! fits. -/
namespace Lm
open PySem PySem.Spec PyProof.Rows L2
theorem cr_allK {X : Cx} (K : PySem.W.Frag) (hc : X.calm = true) (hK : X.K = K := by rfl) : CallR X (.builtin "all") (rAll K) := hK ▸ cr_all hc
theorem shape_of {d : PyData} (c : d.canLay0 = true) (h : d.depth ≤ 60) : SeqAt.shaped d = true := by
  unfold SeqAt.shaped
  rw [c, decide_eq_true (by omega)]
  rfl
theorem weight_mem : ∀ {ds : List PyData} {d : PyData}, d ∈ ds → d.weight + 1 ≤ PyData.weightAll ds
  | [], _, h => nomatch h
  | e :: r, d, h => by
    simp only [PyData.weightAll]
    rcases List.mem_cons.mp h with rfl | h
    · omega
    · have := weight_mem h
      omega
theorem weight_len : ∀ {ds : List PyData}, ds.length ≤ PyData.weightAll ds
  | [] => Nat.zero_le _
  | e :: r => by
    simp only [PyData.weightAll, List.length_cons]
    have := weight_len (ds := r)
    omega
theorem dp_str {K : PySem.W.Frag} {H : Hp} (x : Str) : Dp K H (.str x) (.str x) := .str x
section
variable {P : Program} {w : World} {K : PySem.W.Frag} {mg : Str → Option Value} {base : Heap}
abbrev sFits : Stmt := topS 21
def nFits : List Str := ["thing", "bound", "word", "part"]
theorem scFits : FnScope nFits ["thing", "bound"] (defScope sFits) := ⟨rfl, rfl, rfl, by decide +kernel, rfl, by decide +kernel, by decide +kernel⟩
def spFits (n : Nat) : Sp := fun vs H Q _ => ∃ (D : DrA) (m : Nat) (v : V) (b : Addr) (d : PyData) (bs : List Str) (k : Nat), vs = [v, .ref b] ∧ DrawAt D m H ∧ Da D H v d ∧ shortD d = true ∧ (isTup d = true → d.canLay0 = true) ∧ d.depth ≤ k ∧ d.weight ≤ 20000 ∧ k ≤ n ∧ n ≤ 60 ∧ H b = some (.tup (bs.map V.str)) ∧ bs.length + 4 * k ≤ 1000 ∧
  ∀ H', Same H H' → Q (.bl (fitsN k bs d)) H'
def spFitsBelow : Nat → Sp
  | 0 => fun _ _ _ _ => False
  | n + 1 => spFits n
theorem ok_fits_no {f : Addr} {fd : FuncData} (F : Fun K "fits" "fits" sFits f fd) (j : Nat) : FnOk P w K mg base CX0 (j + 1) f fd ["thing", "bound"] (spFitsBelow 0) :=
  F.ok scFits (fun vs H Q E h => h.elim) (fun cdv A outer s H vs Q E hr h => h.elim)
theorem ok_fits {f : Addr} {fd : FuncData} (F : Fun K "fits" "fits" sFits f fd) (N : Bl mg) (n : Nat) (GT : Has P w K mg base CX0 1 "is_tuple_of" ["thing", "count"] spTupD) (GR : Has P w K mg base CX0 3 "is_said_row" ["thing", "bound"] spSRow) (GB : Has P w K mg base CX0 3 "binds" ["names", "bound"] spBinds)
    (GF : Has P w K mg base CX0 (n + 4) "fits" ["thing", "bound"] (spFitsBelow n)) : FnOk P w K mg base CX0 (n + 5) f fd ["thing", "bound"] (spFits n) := by
  refine F.ok scFits (fun vs H Q E h => ?_) (fun cdv A outer s H vs Q E hr h => ?_)
  · obtain ⟨D, m, v, b, d, bs, k, rfl, _⟩ := h
    rfl
  · obtain ⟨D, m, v, b, d, bs, k, rfl, dr, hd, sd, lay, dep, wt, hk, n60, hb, hbl, q⟩ := h
    have hu64 : (A.deeper (envOfC "fits" (defScope sFits) s.heap.objs.size f cdv)).units + 64 < cLine := by
      have := hr.un
      omega
    have hu65 : (A.deeper (envOfC "fits" (defScope sFits) s.heap.objs.size f cdv)).units + 65 < cLine := by
      have := hr.un
      omega
    refine ⟨_, pss_cons (ps_if (pw_or (pt_not (pt_val (pe_callB call_isi (by rfl) N.bisi (by decide +kernel) (pa_cons (pv 0) (pa_cons (pe_bltn (v := .ty "tuple") (by rfl) N.btup (by decide +kernel) rfl) pa_nil)))))
          (pw_or1 (pt_not (pt_truth (pv 0) (fun _ => rfl))))).pt (pss_one (ps_ret pe_bl)) pss_nil)
      (pss_cons (ps_set (i := 2) scFits.nd rfl (.inl rfl) (pe_ix ix_tup (pv 0) pe_int (fun _ _ => rfl)))
      (pss_cons (ps_if (pt_cmpR (show OpR _ _ (rEqD K) from op_eqD hu64) (pv 2) pe_str (nomark _)) (pss_one (ps_ret (pe_h GR hr (by omega) (by rfl) pass0 (pa_cons (pv 0) (pa_cons (pv 1) pa_nil))))) pss_nil)
      (pss_cons (ps_if (pt_cmpR (show OpR _ _ (rInTD K) from op_inTD hu65) (pv 2) (pe_tup (pa_cons pe_str (pa_cons pe_str pa_nil))) (by rfl)) (pss_one (ps_ret (pe_and (pe_h GT hr (by omega) (by rfl) pass0 (pa_cons (pv 0) (pa_cons pe_int pa_nil)))
          (pe_and (pe_callB call_isi (by rfl) N.bisi (by decide +kernel) (pa_cons (pe_ix ix_tup (pv 0) pe_int (fun _ _ => rfl)) (pa_cons (pe_bltn (v := .ty "tuple") (by rfl) N.btup (by decide +kernel) rfl) pa_nil)))
          (pe_one (pe_callB (cr_allK K rfl) (by rfl) N.ball (by decide +kernel) (pa_cons
            (pe_lc (own := [("part", 3)]) (g := gName 3) (tt := tYes) rfl scFits.nd (pi_tupK K (pe_ix ix_tup (pv 0) pe_int (fun _ _ => rfl))) (blkOk_by (own := [("part", 3)]) (N := nFits) (sc := defScope sFits) (by decide +kernel)) (fun _ _ _ _ _ => pg_name (i := 3) scFits.nd rfl (Or.inl rfl))
              (fun _ _ _ _ _ => pts_nil) (fun _ _ _ _ _ => pe_h GF (hr.mono (Nat.le_refl (n + 4))) (by omega) (by rfl) pass0 (pa_cons (pv 3) (pa_cons (pv 1) pa_nil)))) pa_nil))))))) pss_nil)
      (pss_cons (ps_if (pt_cmpR (show OpR _ _ (rEqD K) from op_eqD hu64) (pv 2) pe_str (nomark _)) (pss_one (ps_ret (pe_and (pe_h GT hr (by omega) (by rfl) pass0 (pa_cons (pv 0) (pa_cons pe_int pa_nil)))
          (pe_one (pe_h GF hr (by omega) (by rfl) pass0 (pa_cons (pe_ix ix_tup (pv 0) pe_int (fun _ _ => rfl)) (pa_cons (pv 1) pa_nil))))))) pss_nil)
      (pss_cons (ps_if (pt_cmpR (show OpR _ _ (rInTD K) from op_inTD hu65) (pv 2) (pe_tup (pa_cons pe_str (pa_cons pe_str pa_nil))) (by rfl)) (pss_one (ps_ret (pe_and (pe_h GT hr (by omega) (by rfl) pass0 (pa_cons (pv 0) (pa_cons pe_int pa_nil)))
          (pe_and (pe_h GB hr (by omega) (by rfl) pass0 (pa_cons (pe_ix ix_tup (pv 0) pe_int (fun _ _ => rfl)) (pa_cons (pv 1) pa_nil)))
          (pe_one (pe_h GF hr (by omega) (by rfl) pass0 (pa_cons (pe_ix ix_tup (pv 0) pe_int (fun _ _ => rfl)) (pa_cons (pe_op op_catA (pv 1) (pe_ix ix_tup (pv 0) pe_int (fun _ _ => rfl))) pa_nil)))))))) pss_nil)
      (pss_one (ps_ret pe_bl))))))), ?_⟩
    have idS : Same H H := fun _ _ z => z
    refine ⟨_, rfl, v, .ty "tuple", _, _, isTup d, rfl, .ty "tuple", hd.ty, kit_tup K d, isTup d, rfl, ?_⟩
    cases et : isTup d with
    | false =>
      have z : fitsN k bs d = false := by cases k <;> cases d <;> first | rfl | cases et
      have q := q H idS
      rw [z] at q
      exact iteT q
    | true =>
      have lay := lay et
      obtain ⟨p, xs, ds, rfl, rfl, hp, pd, pw, ha⟩ := hd.tupOf et
      have sall : shortAll ds = true := sd
      have layA : PyData.canLayAll0 ds = true := by simpa only [PyData.canLay0] using lay
      refine iteF ⟨.ref p, rfl, !xs.isEmpty, .inr (.inl ⟨xs, SqT.of hp, rfl⟩), ?_⟩
      cases ha with
      | nil =>
        have z : fitsN k bs (.tuple []) = false := by cases k <;> rfl
        have q := q H idS
        rw [z] at q
        exact iteT q
      | @cons vw xr dw dr' hw har =>
        obtain ⟨k, rfl⟩ : ∃ k', k = k' + 1 := ⟨k - 1, by
          have : PyData.depthAll (dw :: dr') + 1 ≤ k := dep
          omega⟩
        obtain ⟨n, rfl⟩ : ∃ n', n = n' + 1 := ⟨n - 1, by omega⟩
        have dep : PyData.depthAll (dw :: dr') ≤ k := by
          have : PyData.depthAll (dw :: dr') + 1 ≤ k + 1 := dep
          omega
        have dpm : ∀ y ∈ dw :: dr', y.depth ≤ k := fun y hy => Nat.le_trans (depth_mem hy) dep
        have wt : PyData.weightAll (dw :: dr') ≤ 20000 := wt
        have wtm : ∀ y ∈ dw :: dr', y.weight ≤ 20000 := fun y hy => by have := weight_mem hy; omega
        have lm := lay_mem layA
        have sm := short_get sall
        have shw : SeqAt.shaped dw = true := shape_of (lm dw (List.mem_cons_self ..)) (by have := dpm dw (List.mem_cons_self ..); omega)
        have dpw : Dp K H vw dw := hw.dp (lm dw (List.mem_cons_self ..))
        have hfull : DaAll D H (vw :: xr) (dw :: dr') := .cons hw har
        have hdt : Da D H (.ref p) (.tuple (dw :: dr')) := .tup hp pd pw hfull
        refine iteF ⟨_, rfl, p, _, 0, vw, rfl, rfl, SqT.of hp, atI_nat (j := 0) rfl, ?_⟩
        have en : fitsN (k + 1) bs (.tuple (dw :: dr')) = (if isS "row" dw then saidRowD bs dr'
          else if isS "and" dw || isS "or" dw then allF (fitsN k bs) dr'
          else if isS "not" dw then oneF (fitsN k bs) dr'
          else if isS "some" dw || isS "all" dw then twoF (bindsD bs) (fun ss => fitsN k (bs ++ ss)) dr'
          else false) := rfl
        refine ⟨_, rfl, dw, .str "row", dpw, .str _, shw, by decide +kernel, _, rfl, ?_⟩
        rw [eqv_str]
        cases h1 : isS "row" dw with
        | true =>
          refine iteT ⟨_, rfl, _, rfl, D, m, p, b, vw, xr, dw, dr', bs, rfl, dr, hp, pd, pw, hfull, sall, hb, fun H' s' => ?_⟩
          have q := q H' s'
          rw [en, h1] at q
          exact q
        | false =>
        rw [h1] at en
        have en : fitsN (k + 1) bs (.tuple (dw :: dr')) = (if isS "and" dw || isS "or" dw then allF (fitsN k bs) dr'
          else if isS "not" dw then oneF (fitsN k bs) dr'
          else if isS "some" dw || isS "all" dw then twoF (bindsD bs) (fun ss => fitsN k (bs ++ ss)) dr'
          else false) := en
        refine iteF ⟨_, rfl, (by show 2 ≤ sizeLine; decide), fun t1 n1 => ?_⟩
        have s1 := same_upd (o := .tup [.str "and", .str "or"]) n1
        have ht1 : (upd H t1 (.tup [.str "and", .str "or"])) t1 = some (.tup [.str "and", .str "or"]) := upd_same
        have dr1 := dr.sm s1
        have hp1 := s1 _ _ hp
        have hf1 := hfull.sm s1
        have hd1 := hdt.sm s1
        have hb1 := s1 _ _ hb
        have dpw1 : Dp K (upd H t1 (.tup [.str "and", .str "or"])) vw dw := (hw.sm s1).dp (lm dw (List.mem_cons_self ..))
        generalize upd H t1 (.tup [.str "and", .str "or"]) = H1 at *
        refine ⟨dw, [.str "and", .str "or"], dpw1, .tup (SqT.of ht1) (.cons (.str _) (.cons (.str _) .nil)), shw, by decide +kernel, _, rfl, ?_⟩
        have ea : ([PyData.str "and", .str "or"].any fun y => PyData.eqv y dw) = (isS "and" dw || isS "or" dw) := by
          show (PyData.eqv (.str "and") dw || (PyData.eqv (.str "or") dw || false)) = _
          rw [eqv_str2, eqv_str2, Bool.or_false]
        rw [ea]
        cases h2 : (isS "and" dw || isS "or" dw) with
        | true =>
          rw [h2] at en
          have en : fitsN (k + 1) bs (.tuple (dw :: dr')) = allF (fitsN k bs) dr' := en
          refine iteT ⟨_, rfl, D, .ref p, _, 2, rfl, hd1, _, rfl, ?_⟩
          by_cases l2 : dr'.length = 1
          · obtain ⟨dx, rfl⟩ : ∃ dx, dr' = [dx] := by
              match dr', l2 with
              | [dx], _ => exact ⟨dx, rfl⟩
            have e2 : decide (tupLen (.tuple [dw, dx]) = some 2) = true := decide_eq_true rfl
            rw [e2]
            cases hf1 with
            | cons hw1 hf1 => cases hf1 with
            | @cons vx _ _ _ hx hf1 =>
              cases hf1
              refine iteT ⟨_, rfl, p, _, 1, vx, rfl, rfl, SqT.of hp1, atI_nat (j := 1) rfl, vx, .ty "tuple", _, _, isTup dx, rfl, .ty "tuple", hx.ty, kit_tup K dx, isTup dx, rfl, ?_⟩
              cases ex : isTup dx with
              | false =>
                have z : allF (fitsN k bs) [dx] = false := by cases dx <;> first | rfl | cases ex
                have q := q H1 s1
                rw [en, z] at q
                exact iteF q
              | true =>
                obtain ⟨px, ys, es, rfl, rfl, hpx, o1, o2, hes⟩ := hx.tupOf ex
                have mx : PyData.tuple es ∈ [dw, PyData.tuple es] := by simp
                have les := hes.length
                have layE : PyData.canLayAll0 es = true := by have := lm _ mx; simpa only [PyData.canLay0] using this
                have sE : shortAll es = true := sm _ mx
                have dE : PyData.depthAll es + 1 ≤ k := dpm _ mx
                have wE : PyData.weightAll es ≤ 20000 := wtm _ mx
                have lE := weight_len (ds := es)
                have en : fitsN (k + 1) bs (.tuple [dw, .tuple es]) = es.all (fitsN k bs) := en
                refine iteT ⟨_, rfl, p, _, 1, .ref px, rfl, rfl, SqT.of hp1, atI_nat (j := 1) rfl, px, rfl, ⟨_, SqT.of hpx⟩, fun R nR => lc_tup (K := K) (a := px) (xs := ys) (fun j H' => Same H1 H' ∧ H' R = some (.lst (((es.take j).map (fitsN k bs)).map V.bl)))
                  ⟨same_upd nR, upd_same⟩ (fun j H' _ h => SqT.of (h.1 _ _ hpx)) ?_ ?_⟩
                · rintro j y H' hy ⟨s2, hR⟩
                  obtain ⟨dy, hdy, gy⟩ := hes.get hy
                  have my := List.mem_of_getElem? hdy
                  have s12 : Same H H' := fun b o e => s2 b o (s1 b o e)
                  refine ⟨rfl, _, rfl, _, rfl, D, m, y, b, dy, bs, k, rfl, dr.sm s12, gy.sm s2, short_get sE dy my, fun _ => lay_mem layE dy my, by have := depth_mem my; omega, by have := weight_mem my; omega, by omega, by omega, s2 _ _ hb1, by omega, fun H'' s3 => ?_⟩
                  refine ⟨_, s3 _ _ hR, ?_, same_put (fun b o e => s3 b o (s2 b o e)) nR, ?_⟩
                  · rw [List.length_map, List.length_map, List.length_take]
                    exact Nat.lt_of_le_of_lt (Nat.min_le_right _ _) (by rw [sizeLine_eq]; omega)
                  · rw [List.take_add_one, hdy, List.map_append, List.map_append]
                    exact upd_same
                · rintro H' ⟨s2, hR⟩
                  rw [les, List.take_length] at hR
                  refine ⟨R, _, rfl, SqL.of hR, ?_⟩
                  have q := q H' (fun b o e => s2 b o (s1 b o e))
                  rw [en] at q
                  rw [List.all_map]
                  exact q
          · have e2 : decide (tupLen (.tuple (dw :: dr')) = some 2) = false := decide_eq_false (fun z => by
              have := Option.some.inj z
              rw [List.length_cons] at this
              omega)
            rw [e2]
            have z : allF (fitsN k bs) dr' = false := by
              unfold allF
              split
              · exact absurd rfl l2
              · rfl
            have q := q H1 s1
            rw [en, z] at q
            exact iteF q
        | false =>
        rw [h2] at en
        have en : fitsN (k + 1) bs (.tuple (dw :: dr')) = (if isS "not" dw then oneF (fitsN k bs) dr'
          else if isS "some" dw || isS "all" dw then twoF (bindsD bs) (fun ss => fitsN k (bs ++ ss)) dr'
          else false) := en
        refine iteF ⟨_, rfl, dw, .str "not", dpw1, .str _, shw, by decide +kernel, _, rfl, ?_⟩
        rw [eqv_str]
        cases h3 : isS "not" dw with
        | true =>
          rw [h3] at en
          have en : fitsN (k + 1) bs (.tuple (dw :: dr')) = oneF (fitsN k bs) dr' := en
          refine iteT ⟨_, rfl, D, .ref p, _, 2, rfl, hd1, _, rfl, ?_⟩
          by_cases l2 : dr'.length = 1
          · obtain ⟨dx, rfl⟩ : ∃ dx, dr' = [dx] := by
              match dr', l2 with
              | [dx], _ => exact ⟨dx, rfl⟩
            have e2 : decide (tupLen (.tuple [dw, dx]) = some 2) = true := decide_eq_true rfl
            rw [e2]
            cases hf1 with
            | cons hw1 hf1 => cases hf1 with
            | @cons vx _ _ _ hx hf1 =>
              cases hf1
              have mx : dx ∈ [dw, dx] := by simp
              refine iteT ⟨_, rfl, p, _, 1, vx, rfl, rfl, SqT.of hp1, atI_nat (j := 1) rfl, _, rfl, D, m, vx, b, dx, bs, k, rfl, dr1, hx, sm _ mx, fun _ => lm _ mx, dpm _ mx, wtm _ mx, by omega, by omega, hb1, by omega, fun H'' s3 => ?_⟩
              have q := q H'' (fun b o e => s3 b o (s1 b o e))
              rw [en] at q
              exact q
          · have e2 : decide (tupLen (.tuple (dw :: dr')) = some 2) = false := decide_eq_false (fun z => by
              have := Option.some.inj z
              rw [List.length_cons] at this
              omega)
            rw [e2]
            have z : oneF (fitsN k bs) dr' = false := by
              match dr', l2 with
              | [], _ => rfl
              | [_], l2 => exact absurd rfl l2
              | _ :: _ :: _, _ => rfl
            have q := q H1 s1
            rw [en, z] at q
            exact iteF q
        | false =>
        rw [h3] at en
        have en : fitsN (k + 1) bs (.tuple (dw :: dr')) = (if isS "some" dw || isS "all" dw then twoF (bindsD bs) (fun ss => fitsN k (bs ++ ss)) dr' else false) := en
        refine iteF ⟨_, rfl, (by show 2 ≤ sizeLine; decide), fun t2 n2 => ?_⟩
        have s2 := same_upd (o := .tup [.str "some", .str "all"]) n2
        have ht2 : (upd H1 t2 (.tup [.str "some", .str "all"])) t2 = some (.tup [.str "some", .str "all"]) := upd_same
        have dr2 := dr1.sm s2
        have hp2 := s2 _ _ hp1
        have hf2 := hf1.sm s2
        have hd2 := hd1.sm s2
        have hb2 := s2 _ _ hb1
        have dpw2 : Dp K (upd H1 t2 (.tup [.str "some", .str "all"])) vw dw := ((hw.sm s1).sm s2).dp (lm dw (List.mem_cons_self ..))
        generalize upd H1 t2 (.tup [.str "some", .str "all"]) = H2 at *
        have s12 : Same H H2 := fun b o e => s2 b o (s1 b o e)
        refine ⟨dw, [.str "some", .str "all"], dpw2, .tup (SqT.of ht2) (.cons (.str _) (.cons (.str _) .nil)), shw, by decide +kernel, _, rfl, ?_⟩
        have eb : ([PyData.str "some", .str "all"].any fun y => PyData.eqv y dw) = (isS "some" dw || isS "all" dw) := by
          show (PyData.eqv (.str "some") dw || (PyData.eqv (.str "all") dw || false)) = _
          rw [eqv_str2, eqv_str2, Bool.or_false]
        rw [eb]
        cases h4 : (isS "some" dw || isS "all" dw) with
        | false =>
          rw [h4] at en
          have q := q H2 s12
          rw [en] at q
          exact iteF q
        | true =>
          rw [h4] at en
          have en : fitsN (k + 1) bs (.tuple (dw :: dr')) = twoF (bindsD bs) (fun ss => fitsN k (bs ++ ss)) dr' := en
          refine iteT ⟨_, rfl, D, .ref p, _, 3, rfl, hd2, _, rfl, ?_⟩
          by_cases l3 : dr'.length = 2
          · obtain ⟨dn, dx, rfl⟩ : ∃ dn dx, dr' = [dn, dx] := by
              match dr', l3 with
              | [dn, dx], _ => exact ⟨dn, dx, rfl⟩
            have e2 : decide (tupLen (.tuple [dw, dn, dx]) = some 3) = true := decide_eq_true rfl
            rw [e2]
            cases hf2 with
            | cons hw2 hf2 => cases hf2 with
            | @cons vn _ _ _ hn hf2 => cases hf2 with
            | @cons vx _ _ _ hx hf2 =>
              cases hf2
              have mn : dn ∈ [dw, dn, dx] := by simp
              have mx : dx ∈ [dw, dn, dx] := by simp
              have en : fitsN (k + 1) bs (.tuple [dw, dn, dx]) = (bindsD bs dn && fitsN k (bs ++ strsD dn) dx) := en
              refine iteT ⟨_, rfl, p, _, 1, vn, rfl, rfl, SqT.of hp2, atI_nat (j := 1) rfl, _, rfl, D, m, vn, b, dn, bs, rfl, dr2, hn, sm _ mn, hb2, fun H3 s3 => ⟨_, rfl, ?_⟩⟩
              have s13 : Same H H3 := fun b o e => s3 b o (s12 b o e)
              cases eB : bindsD bs dn with
              | false =>
                have q := q H3 s13
                rw [en, eB] at q
                exact iteF q
              | true =>
                obtain ⟨pn, ss, rfl, hpn, es, l4⟩ := binds_strs hn eB
                rw [eB, Bool.true_and, es] at en
                have hp3 := s3 _ _ hp2
                have hb3 := s3 _ _ hb2
                have hpn3 := s3 _ _ hpn
                have hx3 := hx.sm s3
                have dr3 := dr2.sm s3
                have go : ∀ (H4 : Hp) (pb : Addr), Same H3 H4 → H4 pb = some (.tup ((bs ++ ss).map V.str)) → spFits n [vx, .ref pb] H4 Q E0 := fun H4 pb s4 hpb =>
                  ⟨D, m, vx, pb, dx, bs ++ ss, k, rfl, dr3.sm s4, hx3.sm s4, sm _ mx, fun _ => lm _ mx, dpm _ mx, wtm _ mx, by omega, by omega, hpb, by rw [List.length_append]; omega, fun H5 s5 => by
                    have q := q H5 (fun b o e => s5 b o (s4 b o (s13 b o e)))
                    rw [en] at q
                    exact q⟩
                refine iteT ⟨_, rfl, p, _, 2, vx, rfl, rfl, SqT.of hp3, atI_nat (j := 2) rfl, _, rfl, _, rfl, p, _, 1, .ref pn, rfl, rfl, SqT.of hp3, atI_nat (j := 1) rfl, ?_⟩
                refine ⟨b, pn, _, _, rfl, rfl, SqT.of hb3, SqT.of hpn3, small10000 (by rw [List.length_map, List.length_map]; omega), fun e0 => ?_, fun _ e0 => ?_, fun _ _ pb npb => ?_⟩
                · have z : bs = [] := List.map_eq_nil_iff.mp e0
                  exact go H3 pn (fun _ _ z => z) (by rw [z]; exact hpn3)
                · have z : ss = [] := List.map_eq_nil_iff.mp e0
                  exact go H3 b (fun _ _ z => z) (by rw [z, List.append_nil]; exact hb3)
                · exact go _ pb (same_upd npb) (by rw [upd_same, List.map_append])
          · have e2 : decide (tupLen (.tuple (dw :: dr')) = some 3) = false := decide_eq_false (fun z => by
              have := Option.some.inj z
              rw [List.length_cons] at this
              omega)
            rw [e2]
            have z : twoF (bindsD bs) (fun ss => fitsN k (bs ++ ss)) dr' = false := by
              match dr', l3 with
              | [], _ => rfl
              | [_], _ => rfl
              | [_, _], l3 => exact absurd rfl l3
              | _ :: _ :: _ :: _, _ => rfl
            have q := q H2 s12
            rw [en, z] at q
            exact iteF q
end
end Lm
/-! What a saying is. -/
namespace Lm
open PySem PySem.Spec PyProof.Rows L2
theorem isS_eq {t : Str} {d : PyData} (h : isS t d = true) : d = .str t := by
  cases d with
  | str x =>
    have : x = t := of_decide_eq_true h
    rw [this]
  | _ => cases h
inductive SaidC (k : Nat) (bs : List Str) : PyData → Prop
  | row {a b c : PyData} : saidRowD bs [a, b, c] = true → SaidC k bs (.tuple [.str "row", a, b, c])
  | many {w : Str} {ds : List PyData} : (w = "and" ∨ w = "or") → (∀ e ∈ ds, fitsN k bs e = true) → SaidC k bs (.tuple [.str w, .tuple ds])
  | no {x : PyData} : fitsN k bs x = true → SaidC k bs (.tuple [.str "not", x])
  | bind {w : Str} {ns x : PyData} : (w = "some" ∨ w = "all") → bindsD bs ns = true → fitsN k (bs ++ strsD ns) x = true → SaidC k bs (.tuple [.str w, ns, x])
theorem saidRow_three {bs : List Str} {r : List PyData} (h : saidRowD bs r = true) : ∃ a b c, r = [a, b, c] := by
  match r, h with
  | [a, b, c], _ => exact ⟨a, b, c, rfl⟩
  | [], h => cases h
  | [_], h => cases h
  | [_, _], h => cases h
  | _ :: _ :: _ :: _ :: _, h => cases h
theorem said_cases {k : Nat} {bs : List Str} {d : PyData} (h : fitsN (k + 1) bs d = true) : SaidC k bs d := by
  cases d with
  | tuple ds =>
    cases ds with
    | nil => cases h
    | cons w r =>
      replace h : (if isS "row" w then saidRowD bs r
        else if isS "and" w || isS "or" w then allF (fitsN k bs) r
        else if isS "not" w then oneF (fitsN k bs) r
        else if isS "some" w || isS "all" w then twoF (bindsD bs) (fun ss => fitsN k (bs ++ ss)) r
        else false) = true := h
      split at h
      · rename_i e
        obtain rfl := isS_eq e
        obtain ⟨a, b, c, rfl⟩ := saidRow_three h
        exact .row h
      · split at h
        · rename_i e
          have hw : ∃ t : Str, w = .str t ∧ (t = "and" ∨ t = "or") := by
            rw [Bool.or_eq_true] at e
            rcases e with e | e
            · exact ⟨_, isS_eq e, .inl rfl⟩
            · exact ⟨_, isS_eq e, .inr rfl⟩
          obtain ⟨t, rfl, ht⟩ := hw
          unfold allF at h
          split at h
          · exact .many ht (List.all_eq_true.mp h)
          · cases h
        · split at h
          · rename_i e
            obtain rfl := isS_eq e
            unfold oneF at h
            split at h
            · exact .no h
            · cases h
          · split at h
            · rename_i e
              have hw : ∃ t : Str, w = .str t ∧ (t = "some" ∨ t = "all") := by
                rw [Bool.or_eq_true] at e
                rcases e with e | e
                · exact ⟨_, isS_eq e, .inl rfl⟩
                · exact ⟨_, isS_eq e, .inr rfl⟩
              obtain ⟨t, rfl, ht⟩ := hw
              unfold twoF at h
              split at h
              · rw [Bool.and_eq_true] at h
                exact .bind ht h.1 h.2
              · cases h
            · cases h
  | _ => cases h
/-- the names of a saying, in its order -/
def namesN : Nat → PyData → List Str
  | _ + 1, .tuple [_, a, b, _] => [a, b].filterMap unS
  | n + 1, .tuple [.str w, x] => if w = "not" then namesN n x else (match x with | .tuple ds => (ds.map (namesN n)).flatten | _ => [])
  | n + 1, .tuple [_, ns, x] => (namesN n x).filter fun t => !decide (t ∈ strsD ns)
  | _, _ => []
theorem names_row {n : Nat} {w a b c : PyData} : namesN (n + 1) (.tuple [w, a, b, c]) = [a, b].filterMap unS := rfl
theorem names_no {n : Nat} {x : PyData} : namesN (n + 1) (.tuple [.str "not", x]) = namesN n x := rfl
theorem names_many {n : Nat} {w : Str} {ds : List PyData} (h : w = "and" ∨ w = "or") : namesN (n + 1) (.tuple [.str w, .tuple ds]) = (ds.map (namesN n)).flatten := by
  rcases h with rfl | rfl <;> rfl
theorem names_bind {n : Nat} {w ns x : PyData} : namesN (n + 1) (.tuple [w, ns, x]) = (namesN n x).filter fun t => !decide (t ∈ strsD ns) := rfl
theorem unS_len : ∀ ds : List PyData, (ds.filterMap unS).length ≤ ds.length := fun ds => List.length_filterMap_le _ _
theorem names_len : ∀ (n : Nat) (bs : List Str) (d : PyData), fitsN n bs d = true → (namesN n d).length ≤ d.weight
  | 0, bs, d, h => by cases d <;> cases h
  | n + 1, bs, d, h => by
    cases said_cases h with
    | row _ =>
      rw [names_row]
      refine Nat.le_trans (unS_len _) ?_
      simp only [PyData.weight, PyData.weightAll, List.length_cons, List.length_nil]
      omega
    | many hw hs =>
      rename_i w ds
      rw [names_many hw]
      have key : ∀ es : List PyData, (∀ e ∈ es, fitsN n bs e = true) → ((es.map (namesN n)).flatten).length ≤ PyData.weightAll es := by
        intro es
        induction es with
        | nil => exact fun _ => Nat.zero_le _
        | cons e r ih =>
          intro he
          have h1 := names_len n bs e (he e (List.mem_cons_self ..))
          have h2 := ih fun y hy => he y (List.mem_cons_of_mem _ hy)
          rw [List.map_cons, List.flatten_cons, List.length_append]
          simp only [PyData.weightAll]
          omega
      have := key ds hs
      simp only [PyData.weight, PyData.weightAll]
      omega
    | no hx =>
      rw [names_no]
      have := names_len n bs _ hx
      simp only [PyData.weight, PyData.weightAll]
      omega
    | bind hw hn hx =>
      rw [names_bind]
      have := names_len n _ _ hx
      refine Nat.le_trans (List.length_filter_le _ _) ?_
      simp only [PyData.weight, PyData.weightAll]
      omega
end Lm
/-! names_in. -/
namespace Lm
open PySem PySem.Spec PyProof.Rows L2
theorem in_two (w a b : Str) : inV (.str w) [.str a, .str b] = (decide (w = a) || decide (w = b)) := by
  have := in_strs w [a, b]
  show inV (.str w) ([a, b].map V.str) = _
  rw [this]
  by_cases h1 : w = a
  · simp [h1]
  · by_cases h2 : w = b
    · simp [h2]
    · simp [h1, h2]
theorem ix_tupK {X : Cx} (K : PySem.W.Frag) (hK : X.K = K := by rfl) : IxR X (rIxT K) := hK ▸ ix_tup
theorem filter_take_succ {α : Type} {p : α → Bool} {l : List α} {i : Nat} {x : α} (h : l[i]? = some x) : (l.take (i + 1)).filter p = (l.take i).filter p ++ (if p x = true then [x] else []) := by
  rw [List.take_add_one, h, List.filter_append]
  congr 1
  show [x].filter p = _
  rw [List.filter_cons]
  rfl
theorem names_flat {n : Nat} {bs : List Str} : ∀ {es : List PyData}, (∀ e ∈ es, fitsN n bs e = true) → ((es.map (namesN n)).flatten).length ≤ PyData.weightAll es
  | [], _ => Nat.zero_le _
  | e :: r, he => by
    have h1 := names_len n bs e (he e (List.mem_cons_self ..))
    have h2 := names_flat (es := r) fun y hy => he y (List.mem_cons_of_mem _ hy)
    rw [List.map_cons, List.flatten_cons, List.length_append]
    simp only [PyData.weightAll]
    omega
theorem weight_take : ∀ (es : List PyData) (i : Nat), PyData.weightAll (es.take i) ≤ PyData.weightAll es
  | [], i => by rw [List.take_nil]; exact Nat.le_refl _
  | e :: r, 0 => Nat.zero_le _
  | e :: r, i + 1 => by
    rw [List.take_succ_cons]
    simp only [PyData.weightAll]
    have := weight_take r i
    omega
theorem dec_str {i j : Str} : decide (V.str i = V.str j) = decide (i = j) := by
  by_cases h : i = j
  · rw [h]; simp
  · rw [decide_eq_false h, decide_eq_false (fun z => h (by injection z))]
theorem dec_ne {i j : Str} (h : i ≠ j) : decide (V.str i = V.str j) = false := by rw [dec_str, decide_eq_false h]
section
variable {P : Program} {w : World} {K : PySem.W.Frag} {mg : Str → Option Value} {base : Heap}
abbrev sNames : Stmt := topS 24
def nNames : List Str := ["saying", "word", "found", "part", "name"]
theorem scNames : FnScope nNames ["saying"] (defScope sNames) := ⟨rfl, rfl, rfl, by decide +kernel, rfl, by decide +kernel, by decide +kernel⟩
def spNames (n : Nat) : Sp := fun vs H Q _ => ∃ (D : DrA) (m : Nat) (v : V) (d : PyData) (bs : List Str) (k : Nat), vs = [v] ∧ DrawAt D m H ∧ Da D H v d ∧ fitsN k bs d = true ∧ d.weight ≤ 20000 ∧ k ≤ n ∧
  ∀ (H' : Hp) (R : Addr), H R = none → H' R = some (.lst ((namesN k d).map V.str)) → Same H H' → Q (.ref R) H'
def spNamesBelow : Nat → Sp
  | 0 => fun _ _ _ _ => False
  | n + 1 => spNames n
theorem ok_names_no {f : Addr} {fd : FuncData} (F : Fun K "names_in" "names_in" sNames f fd) (j : Nat) : FnOk P w K mg base CX0 (j + 1) f fd ["saying"] (spNamesBelow 0) :=
  F.ok scNames (fun vs H Q E h => h.elim) (fun cdv A outer s H vs Q E hr h => h.elim)
theorem ok_names {f : Addr} {fd : FuncData} (F : Fun K "names_in" "names_in" sNames f fd) (n : Nat) (GN : Has P w K mg base CX0 (n + 4) "names_in" ["saying"] (spNamesBelow n)) : FnOk P w K mg base CX0 (n + 5) f fd ["saying"] (spNames n) := by
  refine F.ok scNames (fun vs H Q E h => ?_) (fun cdv A outer s H vs Q E hr h => ?_)
  · obtain ⟨D, m, v, d, bs, k, rfl, _⟩ := h
    rfl
  · obtain ⟨D, m, v, d, bs, k, rfl, dr, hd, fit, wt, hk, q⟩ := h
    refine ⟨_, pss_cons (ps_set (i := 1) scNames.nd rfl (.inl rfl) (pe_ix ix_tup (pv 0) pe_int (fun _ _ => rfl)))
      (pss_cons (ps_if (pt_cmpR op_eq (pv 1) pe_str (nomark _)) (pss_one (ps_ret
          (pe_lc (own := [("name", 4)]) (g := gName 4) rfl scNames.nd (pi_tupK K (pe_slice sl_tupA (pv 0) (po_some pe_int) (po_some pe_int))) (blkOk_by (own := [("name", 4)]) (N := nNames) (sc := defScope sNames) (by decide +kernel)) (fun _ _ _ _ _ => pg_name (i := 4) scNames.nd rfl (Or.inl rfl))
            (fun _ _ _ _ _ => pts_one (pt_cmpR op_notN1 (pv 4) pe_non (nomark _))) (fun _ _ _ _ _ => pv 4)))) pss_nil)
      (pss_cons (ps_if (pt_cmpR op_eq (pv 1) pe_str (nomark _)) (pss_one (ps_ret (pe_h GN hr (by omega) (by rfl) pass0 (pa_cons (pe_ix ix_tup (pv 0) pe_int (fun _ _ => rfl)) pa_nil)))) pss_nil)
      (pss_cons (ps_if (pt_cmpR (show OpR _ _ (rIn K false) from op_in_seq) (pv 1) (pe_tup (pa_cons pe_str (pa_cons pe_str pa_nil))) (by rfl)) (pss_one (ps_ret
          (pe_lc (own := [("name", 4)]) (g := gName 4) rfl scNames.nd (pi_listK K (pe_h GN hr (by omega) (by rfl) pass0 (pa_cons (pe_ix ix_tup (pv 0) pe_int (fun _ _ => rfl)) pa_nil))) (blkOk_by (own := [("name", 4)]) (N := nNames) (sc := defScope sNames) (by decide +kernel)) (fun _ _ _ _ _ => pg_name (i := 4) scNames.nd rfl (Or.inl rfl))
            (fun _ _ _ _ _ => pts_one (pt_cmpR (show OpR _ _ (rIn K true) from op_notIn_seq) (pv 4) (pe_ix (ix_tupK K) (pv 0) pe_int (fun _ _ => rfl)) (by rfl))) (fun _ _ _ _ _ => pv 4)))) pss_nil)
      (pss_cons (ps_set (i := 2) scNames.nd rfl (.inl rfl) (pe_lst pa_nil))
      (pss_cons (ps_for PassesOwn.never rfl (pi_tupK K (pe_ix ix_tup (pv 0) pe_int (fun _ _ => rfl))) (pg_name (i := 3) scNames.nd rfl (.inl rfl))
        (pss_one (ps_expr (pe_bm PySem.F.plainAttrs_list PySem.F.slot_list_extend PySem.F.type_list_extend mt_extend (pv 2) (pa_cons (pe_h GN hr (by omega) (by rfl) pass0 (pa_cons (pv 3) pa_nil)) pa_nil)))))
      (pss_one (ps_ret (pv 2)))))))), ?_⟩
    obtain ⟨k, rfl⟩ : ∃ k', k = k' + 1 := by
      cases k with
      | zero => cases d <;> cases fit
      | succ k => exact ⟨k, rfl⟩
    obtain ⟨n, rfl⟩ : ∃ n', n = n' + 1 := ⟨n - 1, by omega⟩
    cases said_cases fit with
    | @row a b c hrow =>
      have hr0 : rowD (.tuple [a, b, c]) = true := by
        have z : (rowD (.tuple [a, b, c]) && sideB bs a && sideB bs b) = true := hrow
        rw [Bool.and_eq_true, Bool.and_eq_true] at z
        exact z.1.1
      obtain ⟨_, _, _, e0, ka, kb⟩ := row_three hr0
      injection e0 with e1 e0
      injection e0 with e2 e0
      subst e1 e2
      obtain ⟨p, xs, ds, rfl, ed, hp, pd, pw, ha⟩ := hd.tupOf rfl
      injection ed with ed
      subst ed
      cases ha with
      | @cons vw _ _ _ hw ha => cases ha with
      | @cons va _ _ _ h1 ha => cases ha with
      | @cons vb _ _ _ h2 ha => cases ha with
      | @cons vc _ _ _ h3 ha =>
        cases ha
        obtain rfl : vw = .str "row" := by cases hw; rfl
        refine ⟨_, rfl, p, _, 0, _, rfl, rfl, SqT.of hp, atI_nat (j := 0) rfl, _, rfl, rfl, _, rfl, ?_⟩
        rw [decide_eq_true rfl]
        refine iteT ⟨_, rfl, 1, rfl, 3, rfl, ?_⟩
        refine slA_td (us := [va, vb]) (es := [a, b]) dr hp pd pw (cut_1_3 _ va vb vc) (.cons h1 (.cons h2 .nil)) fun H1 p1 s1 d1 hp1 o1 o2 g1 => ⟨p1, rfl, ⟨_, SqT.of hp1⟩, fun R nR => lc_tup (K := K) (a := p1) (xs := [va, vb]) (fun j H' => Same H1 H' ∧ H' R = some (.lst ((([a, b].take j).filterMap unS).map V.str))) ⟨same_upd nR, upd_same⟩ (fun j H' _ h => SqT.of (h.1 _ _ hp1)) ?_ ?_⟩
        · rintro j y H' hy ⟨s2, hR⟩
          obtain ⟨dx, hdx, hd', sdx⟩ : ∃ dx, [a, b][j]? = some dx ∧ Da D H y dx ∧ sideD dx = true := by
            match j, hy with
            | 0, hy =>
              obtain rfl : va = y := Option.some.inj hy
              exact ⟨a, rfl, h1, ka⟩
            | 1, hy =>
              obtain rfl : vb = y := Option.some.inj hy
              exact ⟨b, rfl, h2, kb⟩
            | n + 2, hy => simp at hy
          have st : (([a, b].take (j + 1)).filterMap unS) = ([a, b].take j).filterMap unS ++ [dx].filterMap unS := by
            rw [List.take_add_one, hdx, List.filterMap_append]
            rfl
          have ln : (([a, b].take j).filterMap unS).length ≤ 500 := Nat.le_trans (unS_len _) (by rw [List.length_take]; show min j 2 ≤ 500; omega)
          refine ⟨rfl, _, rfl, rfl, _, rfl, ?_⟩
          rcases side_cases hd' sdx with ⟨rfl, rfl⟩ | ⟨t, rfl, rfl⟩
          · rw [decide_eq_true rfl]
            refine iteF ⟨s2, ?_⟩
            rw [st]
            show H' R = some (.lst ((_ ++ []).map V.str))
            rw [List.append_nil]
            exact hR
          · rw [decide_eq_false (fun z => by cases z)]
            refine iteT ⟨_, rfl, _, hR, small1000 (by rw [List.length_map]; omega), same_put s2 nR, ?_⟩
            rw [st, List.map_append]
            exact upd_same
        · rintro H' ⟨s2, hR⟩
          exact q H' R (none_of s1 nR) hR fun b o e => s2 b o (s1 b o e)
    | @many w es hww hes =>
      obtain ⟨p, xs, ds, rfl, ed, hp, pd, pw, ha⟩ := hd.tupOf rfl
      injection ed with ed
      subst ed
      cases ha with
      | @cons vw _ _ _ hw ha => cases ha with
      | @cons vx _ _ _ h1 ha =>
        cases ha
        obtain rfl : vw = .str w := by cases hw; rfl
        obtain ⟨px, ys, _, rfl, ed, hpx, o1, o2, hys⟩ := h1.tupOf rfl
        injection ed with ed
        subst ed
        have n1 : w ≠ "row" := by rcases hww with rfl | rfl <;> decide
        have n2 : w ≠ "not" := by rcases hww with rfl | rfl <;> decide
        have n3 : w ≠ "some" := by rcases hww with rfl | rfl <;> decide
        have n4 : w ≠ "all" := by rcases hww with rfl | rfl <;> decide
        have wE : PyData.weightAll es ≤ 20000 := by
          simp only [PyData.weight, PyData.weightAll] at wt
          omega
        refine ⟨_, rfl, p, _, 0, _, rfl, rfl, SqT.of hp, atI_nat (j := 0) rfl, _, rfl, rfl, _, rfl, ?_⟩
        rw [dec_ne n1]
        refine iteF ⟨_, rfl, rfl, _, rfl, ?_⟩
        rw [dec_ne n2]
        refine iteF ⟨_, rfl, (by show 2 ≤ sizeLine; decide), fun t nt => ?_⟩
        have s1 := same_upd (o := .tup [.str "some", .str "all"]) nt
        have ht : (upd H t (.tup [.str "some", .str "all"])) t = some (.tup [.str "some", .str "all"]) := upd_same
        generalize upd H t (.tup [.str "some", .str "all"]) = H1 at *
        refine ⟨t, _, rfl, .inr (SqT.of ht), rfl, rfl, _, rfl, ?_⟩
        rw [if_neg (by decide), in_two, decide_eq_false n3, decide_eq_false n4]
        refine iteF ⟨Nat.zero_le _, fun f nf => ?_⟩
        have s2 := same_upd (o := .lst []) nf
        have hf : (upd H1 f (.lst [])) f = some (.lst []) := upd_same
        have s12 : Same H (upd H1 f (.lst [])) := fun b o e => s2 b o (s1 b o e)
        have nfH := none_of s1 nf
        generalize upd H1 f (.lst []) = H2 at *
        refine ⟨_, rfl, p, _, 1, .ref px, rfl, rfl, SqT.of (s12 _ _ hp), atI_nat (j := 1) rfl, px, rfl, ⟨_, SqT.of (s12 _ _ hpx)⟩, for_tup (K := K) (a := px) (xs := ys) (fun i σ H' => Same H H' ∧ H' f = some (.lst ((((es.take i).map (namesN k)).flatten).map V.str)) ∧ ∃ x3 x4, σ = [some (.ref p), some (.str w), some (.ref f), x3, x4])
          ⟨s12, hf, none, none, rfl⟩ (fun i σ H' _ z => SqT.of (z.1 _ _ hpx)) ?_ ?_⟩
        · rintro i y σ H' hy ⟨s3, hf', x3, x4, rfl⟩
          obtain ⟨dy, hdy, gy⟩ := hys.get hy
          have my := List.mem_of_getElem? hdy
          have wy := weight_mem my
          refine ⟨_, rfl, .inl ⟨rfl, _, SqL.of hf'⟩, _, rfl, D, m, y, dy, bs, k, rfl, dr.sm s3, gy.sm s3, hes dy my, by omega, by omega, fun H4 R nR hR s4 => ?_⟩
          refine ⟨f, R, _, _, rfl, rfl, s4 _ _ hf', hR, ?_, same_put (fun b o e => s4 b o (s3 b o e)) nfH, ?_, _, _, rfl⟩
          · rw [List.length_map, List.length_map]
            have l1 := names_flat (n := k) (bs := bs) (es := es.take i) fun e he => hes e (List.mem_of_mem_take he)
            have l2 := weight_take es i
            have l3 := names_len k bs dy (hes dy my)
            rw [sizeLine_eq]
            omega
          · rw [upd_same, List.take_add_one, hdy, List.map_append, List.flatten_append, List.map_append]
            congr 4
            simp
        · rintro σ H' ⟨s3, hf', x3, x4, rfl⟩
          rw [hys.length, List.take_length] at hf'
          refine ⟨_, rfl, q H' f nfH ?_ s3⟩
          rw [names_many hww]
          exact hf'
    | @no x hx =>
      obtain ⟨p, xs, ds, rfl, ed, hp, pd, pw, ha⟩ := hd.tupOf rfl
      injection ed with ed
      subst ed
      cases ha with
      | @cons vw _ _ _ hw ha => cases ha with
      | @cons vx _ _ _ h1 ha =>
        cases ha
        obtain rfl : vw = .str "not" := by cases hw; rfl
        refine ⟨_, rfl, p, _, 0, _, rfl, rfl, SqT.of hp, atI_nat (j := 0) rfl, _, rfl, rfl, _, rfl, ?_⟩
        rw [dec_ne (by decide)]
        refine iteF ⟨_, rfl, rfl, _, rfl, ?_⟩
        rw [decide_eq_true rfl]
        refine iteT ⟨_, rfl, p, _, 1, vx, rfl, rfl, SqT.of hp, atI_nat (j := 1) rfl, D, m, vx, x, bs, k, rfl, dr, h1, hx, ?_, by omega, fun H' R nR hR s => q H' R nR hR s⟩
        simp only [PyData.weight, PyData.weightAll] at wt
        omega
    | @bind w ns x hww hns hx =>
      obtain ⟨p, xs, ds, rfl, ed, hp, pd, pw, ha⟩ := hd.tupOf rfl
      injection ed with ed
      subst ed
      cases ha with
      | @cons vw _ _ _ hw ha => cases ha with
      | @cons vn _ _ _ hn ha => cases ha with
      | @cons vx _ _ _ h1 ha =>
        cases ha
        obtain rfl : vw = .str w := by cases hw; rfl
        obtain ⟨pn, ss, rfl, hpn, es, l4⟩ := binds_strs hn hns
        have n1 : w ≠ "row" := by rcases hww with rfl | rfl <;> decide
        have n2 : w ≠ "not" := by rcases hww with rfl | rfl <;> decide
        refine ⟨_, rfl, p, _, 0, _, rfl, rfl, SqT.of hp, atI_nat (j := 0) rfl, _, rfl, rfl, _, rfl, ?_⟩
        rw [dec_ne n1]
        refine iteF ⟨_, rfl, rfl, _, rfl, ?_⟩
        rw [dec_ne n2]
        refine iteF ⟨_, rfl, (by show 2 ≤ sizeLine; decide), fun t nt => ?_⟩
        have s1 := same_upd (o := .tup [.str "some", .str "all"]) nt
        have ht : (upd H t (.tup [.str "some", .str "all"])) t = some (.tup [.str "some", .str "all"]) := upd_same
        generalize upd H t (.tup [.str "some", .str "all"]) = H1 at *
        refine ⟨t, _, rfl, .inr (SqT.of ht), rfl, rfl, _, rfl, ?_⟩
        have ew : (decide (w = "some") || decide (w = "all")) = true := by rcases hww with rfl | rfl <;> decide
        rw [if_neg (by decide), in_two, ew]
        refine iteT ⟨_, rfl, p, _, 2, vx, rfl, rfl, SqT.of (s1 _ _ hp), atI_nat (j := 2) rfl, D, m, vx, x, _, k, rfl, dr.sm s1, h1.sm s1, hx, ?_, by omega, fun H2 L nL hL s2 => ?_⟩
        · simp only [PyData.weight, PyData.weightAll] at wt
          omega
        have s12 : Same H H2 := fun b o e => s2 b o (s1 b o e)
        have lx := names_len _ _ _ hx
        have wx : x.weight ≤ 20000 := by
          simp only [PyData.weight, PyData.weightAll] at wt
          omega
        refine ⟨L, rfl, ⟨_, SqL.of hL⟩, fun R nR => lc_list (K := K) (a := L) (xs := (namesN k x).map V.str) (fun j H' => Same H2 H' ∧ H' R = some (.lst ((((namesN k x).take j).filter fun t => !decide (t ∈ ss)).map V.str))) ⟨same_upd nR, upd_same⟩ (fun j H' _ h => SqL.of (h.1 _ _ hL)) ?_ ?_⟩
        · rintro j y H' hy ⟨s3, hR⟩
          rw [List.getElem?_map] at hy
          obtain ⟨z, hz, rfl⟩ : ∃ z, (namesN k x)[j]? = some z ∧ y = .str z := by
            cases e : (namesN k x)[j]? with
            | none => rw [e] at hy; cases hy
            | some z => rw [e] at hy; exact ⟨z, rfl, (Option.some.inj hy).symm⟩
          have st := filter_take_succ (p := fun t => !decide (t ∈ ss)) hz
          have ln : (((namesN k x).take j).filter fun t => !decide (t ∈ ss)).length ≤ 20000 := Nat.le_trans (List.length_filter_le _ _) (by rw [List.length_take]; omega)
          refine ⟨rfl, _, rfl, _, rfl, p, _, 1, .ref pn, rfl, rfl, SqT.of (s3 _ _ (s12 _ _ hp)), atI_nat (j := 1) rfl, pn, _, rfl, .inr (SqT.of (s3 _ _ (s12 _ _ hpn))), rfl, flat_strs ss, _, rfl, ?_⟩
          rw [if_pos rfl, in_strs]
          by_cases hm : z ∈ ss
          · rw [decide_eq_true hm]
            refine iteF ⟨s3, ?_⟩
            rw [if_neg (by simpa using hm), List.append_nil] at st
            rw [st]
            exact hR
          · rw [decide_eq_false hm]
            refine iteT ⟨_, rfl, _, hR, Nat.lt_of_le_of_lt (by rw [List.length_map]; exact ln) (by rw [sizeLine_eq]; decide), same_put s3 nR, ?_⟩
            rw [if_pos (by simpa using hm)] at st
            rw [st, List.map_append]
            exact upd_same
        · rintro H' ⟨s3, hR⟩
          rw [List.length_map, List.take_length] at hR
          refine q H' R (none_of s12 nR) ?_ fun b o e => s3 b o (s12 b o e)
          rw [names_bind, es]
          exact hR
end
end Lm
/-! bound_in. -/
namespace Lm
open PySem PySem.Spec PyProof.Rows L2
/-- the bound names of a saying, in its order -/
def boundN : Nat → PyData → List Str
  | _ + 1, .tuple [_, _, _, _] => []
  | n + 1, .tuple [.str w, x] => if w = "not" then boundN n x else (match x with | .tuple ds => (ds.map (boundN n)).flatten | _ => [])
  | n + 1, .tuple [_, ns, x] => strsD ns ++ boundN n x
  | _, _ => []
theorem bound_row {n : Nat} {w a b c : PyData} : boundN (n + 1) (.tuple [w, a, b, c]) = [] := rfl
theorem bound_no {n : Nat} {x : PyData} : boundN (n + 1) (.tuple [.str "not", x]) = boundN n x := rfl
theorem bound_many {n : Nat} {w : Str} {ds : List PyData} (h : w = "and" ∨ w = "or") : boundN (n + 1) (.tuple [.str w, .tuple ds]) = (ds.map (boundN n)).flatten := by
  rcases h with rfl | rfl <;> rfl
theorem bound_bind {n : Nat} {w ns x : PyData} : boundN (n + 1) (.tuple [w, ns, x]) = strsD ns ++ boundN n x := rfl
theorem strs_len (ns : PyData) : (strsD ns).length ≤ ns.weight := by
  cases ns with
  | tuple ds =>
    refine Nat.le_trans (unS_len ds) ?_
    simp only [PyData.weight]
    exact weight_len
  | _ => exact Nat.zero_le _
theorem bound_len : ∀ (n : Nat) (bs : List Str) (d : PyData), fitsN n bs d = true → (boundN n d).length ≤ d.weight
  | 0, bs, d, h => by cases d <;> cases h
  | n + 1, bs, d, h => by
    cases said_cases h with
    | row _ => exact Nat.zero_le _
    | many hw hs =>
      rename_i w ds
      rw [bound_many hw]
      have key : ∀ es : List PyData, (∀ e ∈ es, fitsN n bs e = true) → ((es.map (boundN n)).flatten).length ≤ PyData.weightAll es := by
        intro es
        induction es with
        | nil => exact fun _ => Nat.zero_le _
        | cons e r ih =>
          intro he
          have h1 := bound_len n bs e (he e (List.mem_cons_self ..))
          have h2 := ih fun y hy => he y (List.mem_cons_of_mem _ hy)
          rw [List.map_cons, List.flatten_cons, List.length_append]
          simp only [PyData.weightAll]
          omega
      have := key ds hs
      simp only [PyData.weight, PyData.weightAll]
      omega
    | no hx =>
      rw [bound_no]
      have := bound_len n bs _ hx
      simp only [PyData.weight, PyData.weightAll]
      omega
    | @bind w ns x hw hn hx =>
      rw [bound_bind, List.length_append]
      have h1 := bound_len n _ _ hx
      have h2 := strs_len ns
      simp only [PyData.weight, PyData.weightAll]
      omega
theorem bound_flat {n : Nat} {bs : List Str} : ∀ {es : List PyData}, (∀ e ∈ es, fitsN n bs e = true) → ((es.map (boundN n)).flatten).length ≤ PyData.weightAll es
  | [], _ => Nat.zero_le _
  | e :: r, he => by
    have h1 := bound_len n bs e (he e (List.mem_cons_self ..))
    have h2 := bound_flat (es := r) fun y hy => he y (List.mem_cons_of_mem _ hy)
    rw [List.map_cons, List.flatten_cons, List.length_append]
    simp only [PyData.weightAll]
    omega
section
variable {P : Program} {w : World} {K : PySem.W.Frag} {mg : Str → Option Value} {base : Heap}
abbrev sBoundIn : Stmt := topS 26
def nBoundIn : List Str := ["saying", "word", "found", "part"]
theorem scBoundIn : FnScope nBoundIn ["saying"] (defScope sBoundIn) := ⟨rfl, rfl, rfl, by decide +kernel, rfl, by decide +kernel, by decide +kernel⟩
def spBoundIn (n : Nat) : Sp := fun vs H Q _ => ∃ (D : DrA) (m : Nat) (v : V) (d : PyData) (bs : List Str) (k : Nat), vs = [v] ∧ DrawAt D m H ∧ Da D H v d ∧ fitsN k bs d = true ∧ d.weight ≤ 20000 ∧ k ≤ n ∧
  ∀ (H' : Hp) (R : Addr), H R = none → H' R = some (.lst ((boundN k d).map V.str)) → Same H H' → Q (.ref R) H'
def spBoundBelow : Nat → Sp
  | 0 => fun _ _ _ _ => False
  | n + 1 => spBoundIn n
theorem ok_boundIn_no {f : Addr} {fd : FuncData} (F : Fun K "bound_in" "bound_in" sBoundIn f fd) (j : Nat) : FnOk P w K mg base CX0 (j + 1) f fd ["saying"] (spBoundBelow 0) :=
  F.ok scBoundIn (fun vs H Q E h => h.elim) (fun cdv A outer s H vs Q E hr h => h.elim)
theorem ok_boundIn {f : Addr} {fd : FuncData} (F : Fun K "bound_in" "bound_in" sBoundIn f fd) (N : Bl mg) (n : Nat) (GN : Has P w K mg base CX0 (n + 4) "bound_in" ["saying"] (spBoundBelow n)) : FnOk P w K mg base CX0 (n + 5) f fd ["saying"] (spBoundIn n) := by
  refine F.ok scBoundIn (fun vs H Q E h => ?_) (fun cdv A outer s H vs Q E hr h => ?_)
  · obtain ⟨D, m, v, d, bs, k, rfl, _⟩ := h
    rfl
  · obtain ⟨D, m, v, d, bs, k, rfl, dr, hd, fit, wt, hk, q⟩ := h
    refine ⟨_, pss_cons (ps_set (i := 1) scBoundIn.nd rfl (.inl rfl) (pe_ix ix_tup (pv 0) pe_int (fun _ _ => rfl)))
      (pss_cons (ps_if (pt_cmpR op_eq (pv 1) pe_str (nomark _)) (pss_one (ps_ret (pe_lst pa_nil))) pss_nil)
      (pss_cons (ps_if (pt_cmpR op_eq (pv 1) pe_str (nomark _)) (pss_one (ps_ret (pe_h GN hr (by omega) (by rfl) pass0 (pa_cons (pe_ix ix_tup (pv 0) pe_int (fun _ _ => rfl)) pa_nil)))) pss_nil)
      (pss_cons (ps_if (pt_cmpR (show OpR _ _ (rIn K false) from op_in_seq) (pv 1) (pe_tup (pa_cons pe_str (pa_cons pe_str pa_nil))) (by rfl)) (pss_one (ps_ret
          (pe_op op_cat (pe_callTy call_list_of (by rfl) N.blist (by decide +kernel) (pa_cons (pe_ix ix_tup (pv 0) pe_int (fun _ _ => rfl)) pa_nil)) (pe_h GN hr (by omega) (by rfl) pass0 (pa_cons (pe_ix ix_tup (pv 0) pe_int (fun _ _ => rfl)) pa_nil))))) pss_nil)
      (pss_cons (ps_set (i := 2) scBoundIn.nd rfl (.inl rfl) (pe_lst pa_nil))
      (pss_cons (ps_for PassesOwn.never rfl (pi_tupK K (pe_ix ix_tup (pv 0) pe_int (fun _ _ => rfl))) (pg_name (i := 3) scBoundIn.nd rfl (.inl rfl))
        (pss_one (ps_expr (pe_bm PySem.F.plainAttrs_list PySem.F.slot_list_extend PySem.F.type_list_extend mt_extend (pv 2) (pa_cons (pe_h GN hr (by omega) (by rfl) pass0 (pa_cons (pv 3) pa_nil)) pa_nil)))))
      (pss_one (ps_ret (pv 2)))))))), ?_⟩
    obtain ⟨k, rfl⟩ : ∃ k', k = k' + 1 := by
      cases k with
      | zero => cases d <;> cases fit
      | succ k => exact ⟨k, rfl⟩
    obtain ⟨n, rfl⟩ : ∃ n', n = n' + 1 := ⟨n - 1, by omega⟩
    cases said_cases fit with
    | @row a b c hrow =>
      obtain ⟨p, xs, ds, rfl, ed, hp, pd, pw, ha⟩ := hd.tupOf rfl
      injection ed with ed
      subst ed
      cases ha with
      | @cons vw _ _ _ hw ha =>
        obtain rfl : vw = .str "row" := by cases hw; rfl
        refine ⟨_, rfl, p, _, 0, _, rfl, rfl, SqT.of hp, atI_nat (j := 0) rfl, _, rfl, rfl, _, rfl, ?_⟩
        rw [decide_eq_true rfl]
        exact iteT ⟨Nat.zero_le _, fun R nR => q _ R nR upd_same (same_upd nR)⟩
    | @many w es hww hes =>
      obtain ⟨p, xs, ds, rfl, ed, hp, pd, pw, ha⟩ := hd.tupOf rfl
      injection ed with ed
      subst ed
      cases ha with
      | @cons vw _ _ _ hw ha => cases ha with
      | @cons vx _ _ _ h1 ha =>
        cases ha
        obtain rfl : vw = .str w := by cases hw; rfl
        obtain ⟨px, ys, _, rfl, ed, hpx, o1, o2, hys⟩ := h1.tupOf rfl
        injection ed with ed
        subst ed
        have n1 : w ≠ "row" := by rcases hww with rfl | rfl <;> decide
        have n2 : w ≠ "not" := by rcases hww with rfl | rfl <;> decide
        have n3 : w ≠ "some" := by rcases hww with rfl | rfl <;> decide
        have n4 : w ≠ "all" := by rcases hww with rfl | rfl <;> decide
        have wE : PyData.weightAll es ≤ 20000 := by
          simp only [PyData.weight, PyData.weightAll] at wt
          omega
        refine ⟨_, rfl, p, _, 0, _, rfl, rfl, SqT.of hp, atI_nat (j := 0) rfl, _, rfl, rfl, _, rfl, ?_⟩
        rw [dec_ne n1]
        refine iteF ⟨_, rfl, rfl, _, rfl, ?_⟩
        rw [dec_ne n2]
        refine iteF ⟨_, rfl, (by show 2 ≤ sizeLine; decide), fun t nt => ?_⟩
        have s1 := same_upd (o := .tup [.str "some", .str "all"]) nt
        have ht : (upd H t (.tup [.str "some", .str "all"])) t = some (.tup [.str "some", .str "all"]) := upd_same
        generalize upd H t (.tup [.str "some", .str "all"]) = H1 at *
        refine ⟨t, _, rfl, .inr (SqT.of ht), rfl, rfl, _, rfl, ?_⟩
        rw [if_neg (by decide), in_two, decide_eq_false n3, decide_eq_false n4]
        refine iteF ⟨Nat.zero_le _, fun f nf => ?_⟩
        have s2 := same_upd (o := .lst []) nf
        have hf : (upd H1 f (.lst [])) f = some (.lst []) := upd_same
        have s12 : Same H (upd H1 f (.lst [])) := fun b o e => s2 b o (s1 b o e)
        have nfH := none_of s1 nf
        generalize upd H1 f (.lst []) = H2 at *
        refine ⟨_, rfl, p, _, 1, .ref px, rfl, rfl, SqT.of (s12 _ _ hp), atI_nat (j := 1) rfl, px, rfl, ⟨_, SqT.of (s12 _ _ hpx)⟩, for_tup (K := K) (a := px) (xs := ys) (fun i σ H' => Same H H' ∧ H' f = some (.lst ((((es.take i).map (boundN k)).flatten).map V.str)) ∧ ∃ x3, σ = [some (.ref p), some (.str w), some (.ref f), x3])
          ⟨s12, hf, none, rfl⟩ (fun i σ H' _ z => SqT.of (z.1 _ _ hpx)) ?_ ?_⟩
        · rintro i y σ H' hy ⟨s3, hf', x3, rfl⟩
          obtain ⟨dy, hdy, gy⟩ := hys.get hy
          have my := List.mem_of_getElem? hdy
          have wy := weight_mem my
          refine ⟨_, rfl, .inl ⟨rfl, _, SqL.of hf'⟩, _, rfl, D, m, y, dy, bs, k, rfl, dr.sm s3, gy.sm s3, hes dy my, by omega, by omega, fun H4 R nR hR s4 => ?_⟩
          refine ⟨f, R, _, _, rfl, rfl, s4 _ _ hf', hR, ?_, same_put (fun b o e => s4 b o (s3 b o e)) nfH, ?_, _, rfl⟩
          · rw [List.length_map, List.length_map]
            have l1 := bound_flat (n := k) (bs := bs) (es := es.take i) fun e he => hes e (List.mem_of_mem_take he)
            have l2 := weight_take es i
            have l3 := bound_len k bs dy (hes dy my)
            rw [sizeLine_eq]
            omega
          · rw [upd_same, List.take_add_one, hdy, List.map_append, List.flatten_append, List.map_append]
            congr 4
            simp
        · rintro σ H' ⟨s3, hf', x3, rfl⟩
          rw [hys.length, List.take_length] at hf'
          refine ⟨_, rfl, q H' f nfH ?_ s3⟩
          rw [bound_many hww]
          exact hf'
    | @no x hx =>
      obtain ⟨p, xs, ds, rfl, ed, hp, pd, pw, ha⟩ := hd.tupOf rfl
      injection ed with ed
      subst ed
      cases ha with
      | @cons vw _ _ _ hw ha => cases ha with
      | @cons vx _ _ _ h1 ha =>
        cases ha
        obtain rfl : vw = .str "not" := by cases hw; rfl
        refine ⟨_, rfl, p, _, 0, _, rfl, rfl, SqT.of hp, atI_nat (j := 0) rfl, _, rfl, rfl, _, rfl, ?_⟩
        rw [dec_ne (by decide)]
        refine iteF ⟨_, rfl, rfl, _, rfl, ?_⟩
        rw [decide_eq_true rfl]
        refine iteT ⟨_, rfl, p, _, 1, vx, rfl, rfl, SqT.of hp, atI_nat (j := 1) rfl, D, m, vx, x, bs, k, rfl, dr, h1, hx, ?_, by omega, fun H' R nR hR s => q H' R nR hR s⟩
        simp only [PyData.weight, PyData.weightAll] at wt
        omega
    | @bind w ns x hww hns hx =>
      obtain ⟨p, xs, ds, rfl, ed, hp, pd, pw, ha⟩ := hd.tupOf rfl
      injection ed with ed
      subst ed
      cases ha with
      | @cons vw _ _ _ hw ha => cases ha with
      | @cons vn _ _ _ hn ha => cases ha with
      | @cons vx _ _ _ h1 ha =>
        cases ha
        obtain rfl : vw = .str w := by cases hw; rfl
        obtain ⟨pn, ss, rfl, hpn, es, l4⟩ := binds_strs hn hns
        have n1 : w ≠ "row" := by rcases hww with rfl | rfl <;> decide
        have n2 : w ≠ "not" := by rcases hww with rfl | rfl <;> decide
        refine ⟨_, rfl, p, _, 0, _, rfl, rfl, SqT.of hp, atI_nat (j := 0) rfl, _, rfl, rfl, _, rfl, ?_⟩
        rw [dec_ne n1]
        refine iteF ⟨_, rfl, rfl, _, rfl, ?_⟩
        rw [dec_ne n2]
        refine iteF ⟨_, rfl, (by show 2 ≤ sizeLine; decide), fun t nt => ?_⟩
        have s1 := same_upd (o := .tup [.str "some", .str "all"]) nt
        have ht : (upd H t (.tup [.str "some", .str "all"])) t = some (.tup [.str "some", .str "all"]) := upd_same
        generalize upd H t (.tup [.str "some", .str "all"]) = H1 at *
        refine ⟨t, _, rfl, .inr (SqT.of ht), rfl, rfl, _, rfl, ?_⟩
        have ew : (decide (w = "some") || decide (w = "all")) = true := by rcases hww with rfl | rfl <;> decide
        rw [if_neg (by decide), in_two, ew]
        refine iteT ⟨_, rfl, p, _, 1, .ref pn, rfl, rfl, SqT.of (s1 _ _ hp), atI_nat (j := 1) rfl, pn, _, rfl, .inr (SqT.of (s1 _ _ hpn)), fun l nl => ?_⟩
        have s2 := same_upd (o := .lst (ss.map V.str)) nl
        have hl : (upd H1 l (.lst (ss.map V.str))) l = some (.lst (ss.map V.str)) := upd_same
        have s12 : Same H (upd H1 l (.lst (ss.map V.str))) := fun b o e => s2 b o (s1 b o e)
        generalize upd H1 l (.lst (ss.map V.str)) = H2 at *
        refine ⟨_, rfl, p, _, 2, vx, rfl, rfl, SqT.of (s12 _ _ hp), atI_nat (j := 2) rfl, D, m, vx, x, _, k, rfl, dr.sm s12, h1.sm s12, hx, ?_, by omega, fun H3 L nL hL s3 => ?_⟩
        · simp only [PyData.weight, PyData.weightAll] at wt
          omega
        have lx := bound_len _ _ _ hx
        have wx : x.weight ≤ 20000 := by
          simp only [PyData.weight, PyData.weightAll] at wt
          omega
        have s13 : Same H H3 := fun b o e => s3 b o (s12 b o e)
        refine ⟨l, L, _, _, rfl, rfl, s3 _ _ hl, hL, smallM (by rw [List.length_map, List.length_map]; omega), fun R nR => q _ R (none_of s13 nR) ?_ fun b o e => same_upd nR _ _ (s13 b o e)⟩
        rw [upd_same, bound_bind, es, List.map_append]
end
end Lm
/-! max(xs, default=d) of a list of ints. -/
namespace Lm
open PySem PySem.Spec PyProof.Rows L2
theorem fold_top : ∀ (ns : List Int) (n : Int), (ns.foldl max n = n ∨ ns.foldl max n ∈ ns) ∧ n ≤ ns.foldl max n ∧ ∀ y ∈ ns, y ≤ ns.foldl max n
  | [], n => ⟨.inl rfl, Int.le_refl _, fun _ z => nomatch z⟩
  | k :: r, n => by
    obtain ⟨h1, h2, h3⟩ := fold_top r (max n k)
    refine ⟨?_, ?_, ?_⟩
    · show r.foldl max (max n k) = n ∨ r.foldl max (max n k) ∈ k :: r
      rcases h1 with e | e
      · by_cases c : n ≤ k
        · rw [e]
          right
          rw [show max n k = k by omega]
          exact List.mem_cons_self ..
        · left
          rw [e]
          omega
      · exact .inr (List.mem_cons_of_mem _ e)
    · show n ≤ r.foldl max (max n k)
      omega
    · intro y hy
      show y ≤ r.foldl max (max n k)
      rcases List.mem_cons.mp hy with rfl | hy
      · omega
      · exact h3 y hy
theorem depth_ints : ∀ ns : List Int, PyData.depthAll (ns.map PyData.int) ≤ 1
  | [] => by simp [PyData.depthAll]
  | n :: r => by
    have := depth_ints r
    simp [PyData.depthAll, PyData.depth]
    omega
def rMaxD (K : PySem.W.Frag) : List V → List V → Hp → VK → Prop := fun vs zs H Q => ∃ (a : Addr) (ns : List Int) (d : Int), vs = [.ref a] ∧ zs = [.int d] ∧ SqL K H a (ns.map V.int) ∧ (ns = [] → Q (.int d) H) ∧ ∀ m, m ∈ ns → (∀ y, y ∈ ns → y ≤ m) → Q (.int m) H
theorem cr_maxD {X : Cx} (hc : X.calm = true) (hu : X.A.units + 16 < cLine) : CallRK X (.builtin "max") [Str.ofString "default"] (rMaxD X.K) := by
  intro pins s σ H vs zs us ws Q I r rz h
  obtain ⟨a, ns, d, rfl, rfl, hs, q0, q1⟩ := h
  obtain rfl := Vals.ref1 r
  obtain ⟨w1, rfl, t, rfl⟩ := vals1 rz
  obtain ⟨its, rv, hl, _⟩ := I.list hs
  obtain ⟨as, rd⟩ := Dp.readsAll I _ _ _ (dp_ints (K := X.K) (H := H) ns) rv
  have alike : PySem.W.AlikeAll (ns.map PyData.int) := by
    constructor
    · intro x hx y hy
      obtain ⟨i, _, rfl⟩ := List.mem_map.mp hx
      obtain ⟨j, _, rfl⟩ := List.mem_map.mp hy
      rfl
    · intro x hx z
      obtain ⟨i, _, rfl⟩ := List.mem_map.mp hx
      cases z
  have depth := depth_ints ns
  refine PySem.W.max_list_default (I.ok.hd hc) hl.isList rd alike (by omega) (fun e h' tk hk => ⟨.int d, H, I.kept (t' := tk) hk, ⟨t, rfl⟩, q0 (List.map_eq_nil_iff.mp e)⟩) fun y ys i v h' tk bs e hi rv2 hk => ?_
  cases ns with
  | nil => cases e
  | cons n r =>
    rw [List.map_cons] at e
    injection e with e1 e2
    subst e1 e2
    rw [PySem.W.maxD_ints] at rv2
    cases rv2 with
    | int _ t2 =>
      obtain ⟨f1, f2, f3⟩ := fold_top r n
      refine ⟨.int (r.foldl max n), H, I.kept (t' := tk) hk, ⟨t2, rfl⟩, q1 _ ?_ fun y hy => ?_⟩
      · rcases f1 with e | e
        · rw [e]
          exact List.mem_cons_self ..
        · exact List.mem_cons_of_mem _ e
      · rcases List.mem_cons.mp hy with rfl | hy
        · exact f2
        · exact f3 y hy
end Lm
/-! greatest_number. -/
namespace Lm
open PySem PySem.Spec PyProof.Rows L2
def absI (c : Int) : Int := if c < 0 then -c else c
theorem absI_nn (c : Int) : 0 ≤ absI c := by unfold absI; split <;> omega
def maxL (l : List Int) : Int := l.foldl max 0
def greatN : Nat → PyData → Int
  | _ + 1, .tuple [_, _, _, .int c] => absI c
  | n + 1, .tuple [.str w, x] => if w = "not" then greatN n x else (match x with | .tuple ds => maxL (ds.map (greatN n)) | _ => 0)
  | n + 1, .tuple [_, _, x] => greatN n x
  | _, _ => 0
theorem great_row {n : Nat} {w a b : PyData} {c : Int} : greatN (n + 1) (.tuple [w, a, b, .int c]) = absI c := rfl
theorem great_no {n : Nat} {x : PyData} : greatN (n + 1) (.tuple [.str "not", x]) = greatN n x := rfl
theorem great_many {n : Nat} {w : Str} {ds : List PyData} (h : w = "and" ∨ w = "or") : greatN (n + 1) (.tuple [.str w, .tuple ds]) = maxL (ds.map (greatN n)) := by
  rcases h with rfl | rfl <;> rfl
theorem great_bind {n : Nat} {w ns x : PyData} : greatN (n + 1) (.tuple [w, ns, x]) = greatN n x := rfl
theorem maxL_nn (l : List Int) : 0 ≤ maxL l := (fold_top l 0).2.1
theorem great_nn : ∀ (n : Nat) (bs : List Str) (d : PyData), fitsN n bs d = true → 0 ≤ greatN n d
  | 0, bs, d, h => by cases d <;> cases h
  | n + 1, bs, d, h => by
    cases said_cases h with
    | @row a b c hrow =>
      cases c with
      | int c => exact absI_nn c
      | _ => exact Int.le_refl 0
    | many hw hs =>
      rw [great_many hw]
      exact maxL_nn _
    | no hx =>
      rw [great_no]
      exact great_nn n bs _ hx
    | bind hw hn hx =>
      rw [great_bind]
      exact great_nn n _ _ hx
theorem maxL_is {l : List Int} {m : Int} (h : m ∈ l) (g : ∀ y ∈ l, y ≤ m) (nn : ∀ y ∈ l, 0 ≤ y) : maxL l = m := by
  obtain ⟨h1, h2, h3⟩ := fold_top l 0
  have a := h3 m h
  have b := nn m h
  unfold maxL
  rcases h1 with e | e
  · rw [e] at a ⊢
    omega
  · have c := g _ e
    omega
section
variable {P : Program} {w : World} {K : PySem.W.Frag} {mg : Str → Option Value} {base : Heap}
abbrev sGreat : Stmt := topS 38
def nGreat : List Str := ["saying", "word", "part"]
theorem scGreat : FnScope nGreat ["saying"] (defScope sGreat) := ⟨rfl, rfl, rfl, by decide +kernel, rfl, by decide +kernel, by decide +kernel⟩
def spGreat (n : Nat) : Sp := fun vs H Q _ => ∃ (D : DrA) (m : Nat) (v : V) (d : PyData) (bs : List Str) (k : Nat), vs = [v] ∧ DrawAt D m H ∧ Da D H v d ∧ fitsN k bs d = true ∧ d.weight ≤ 20000 ∧ k ≤ n ∧
  ∀ (H' : Hp), Same H H' → Q (.int (greatN k d)) H'
def spGreatBelow : Nat → Sp
  | 0 => fun _ _ _ _ => False
  | n + 1 => spGreat n
theorem ok_great_no {f : Addr} {fd : FuncData} (F : Fun K "greatest_number" "greatest_number" sGreat f fd) (j : Nat) : FnOk P w K mg base CX0 (j + 1) f fd ["saying"] (spGreatBelow 0) :=
  F.ok scGreat (fun vs H Q E h => h.elim) (fun cdv A outer s H vs Q E hr h => h.elim)
theorem ok_great {f : Addr} {fd : FuncData} (F : Fun K "greatest_number" "greatest_number" sGreat f fd) (N : Bl mg) (n : Nat) (GN : Has P w K mg base CX0 (n + 4) "greatest_number" ["saying"] (spGreatBelow n)) : FnOk P w K mg base CX0 (n + 5) f fd ["saying"] (spGreat n) := by
  refine F.ok scGreat (fun vs H Q E h => ?_) (fun cdv A outer s H vs Q E hr h => ?_)
  · obtain ⟨D, m, v, d, bs, k, rfl, _⟩ := h
    rfl
  · obtain ⟨D, m, v, d, bs, k, rfl, dr, hd, fit, wt, hk, q⟩ := h
    have hu16 : (A.deeper (envOfC "greatest_number" (defScope sGreat) s.heap.objs.size f cdv)).units + 16 < cLine := by
      have := hr.un
      omega
    refine ⟨_, pss_cons (ps_set (i := 1) scGreat.nd rfl (.inl rfl) (pe_ix ix_tup (pv 0) pe_int (fun _ _ => rfl)))
      (pss_cons (ps_if (pt_cmpR op_eq (pv 1) pe_str (nomark _)) (pss_one (ps_ret (pe_callB call_abs (by rfl) N.babs (by decide +kernel) (pa_cons (pe_ix ix_tup (pv 0) pe_int (fun _ _ => rfl)) pa_nil)))) pss_nil)
      (pss_cons (ps_if (pt_cmpR op_eq (pv 1) pe_str (nomark _)) (pss_one (ps_ret (pe_h GN hr (by omega) (by rfl) pass0 (pa_cons (pe_ix ix_tup (pv 0) pe_int (fun _ _ => rfl)) pa_nil)))) pss_nil)
      (pss_cons (ps_if (pt_cmpR (show OpR _ _ (rIn K false) from op_in_seq) (pv 1) (pe_tup (pa_cons pe_str (pa_cons pe_str pa_nil))) (by rfl)) (pss_one (ps_ret
          (pe_h GN hr (by omega) (by rfl) pass0 (pa_cons (pe_ix ix_tup (pv 0) pe_int (fun _ _ => rfl)) pa_nil)))) pss_nil)
      (pss_one (ps_ret (pe_callBK (cr_maxD rfl hu16) (by rfl) N.bmax (by rfl) (pa_cons
          (pe_lc (own := [("part", 2)]) (g := gName 2) (tt := tYes) rfl scGreat.nd (pi_tupK K (pe_ix ix_tup (pv 0) pe_int (fun _ _ => rfl))) (blkOk_by (own := [("part", 2)]) (N := nGreat) (sc := defScope sGreat) (by decide +kernel)) (fun _ _ _ _ _ => pg_name (i := 2) scGreat.nd rfl (Or.inl rfl))
            (fun _ _ _ _ _ => pts_nil) (fun _ _ _ _ _ => pe_h GN (hr.mono (Nat.le_refl (n + 4))) (by omega) (by rfl) pass0 (pa_cons (pv 2) pa_nil))) pa_nil) (pk_cons pe_int pk_nil))))))), ?_⟩
    obtain ⟨k, rfl⟩ : ∃ k', k = k' + 1 := by
      cases k with
      | zero => cases d <;> cases fit
      | succ k => exact ⟨k, rfl⟩
    obtain ⟨n, rfl⟩ : ∃ n', n = n' + 1 := ⟨n - 1, by omega⟩
    cases said_cases fit with
    | @row a b c hrow =>
      have hr0 : rowD (.tuple [a, b, c]) = true := by
        have z : (rowD (.tuple [a, b, c]) && sideB bs a && sideB bs b) = true := hrow
        rw [Bool.and_eq_true, Bool.and_eq_true] at z
        exact z.1.1
      have hc : isNum c = true := by
        have z : (sideD a && sideD b && !sideEq a b && isNum c) = true := hr0
        rw [Bool.and_eq_true] at z
        exact z.2
      obtain ⟨z, rfl⟩ : ∃ z, c = .int z := by cases c <;> first | exact ⟨_, rfl⟩ | cases hc
      obtain ⟨p, xs, ds, rfl, ed, hp, pd, pw, ha⟩ := hd.tupOf rfl
      injection ed with ed
      subst ed
      cases ha with
      | @cons vw _ _ _ hw ha => cases ha with
      | @cons va _ _ _ h1 ha => cases ha with
      | @cons vb _ _ _ h2 ha => cases ha with
      | @cons vc _ _ _ h3 ha =>
        cases ha
        obtain rfl : vw = .str "row" := by cases hw; rfl
        obtain rfl : vc = .int z := by cases h3; rfl
        refine ⟨_, rfl, p, _, 0, _, rfl, rfl, SqT.of hp, atI_nat (j := 0) rfl, _, rfl, rfl, _, rfl, ?_⟩
        rw [decide_eq_true rfl]
        exact iteT ⟨_, rfl, p, _, 3, .int z, rfl, rfl, SqT.of hp, atI_nat (j := 3) rfl, z, rfl, q H fun _ _ y => y⟩
    | @many w es hww hes =>
      obtain ⟨p, xs, ds, rfl, ed, hp, pd, pw, ha⟩ := hd.tupOf rfl
      injection ed with ed
      subst ed
      cases ha with
      | @cons vw _ _ _ hw ha => cases ha with
      | @cons vx _ _ _ h1 ha =>
        cases ha
        obtain rfl : vw = .str w := by cases hw; rfl
        obtain ⟨px, ys, _, rfl, ed, hpx, o1, o2, hys⟩ := h1.tupOf rfl
        injection ed with ed
        subst ed
        have n1 : w ≠ "row" := by rcases hww with rfl | rfl <;> decide
        have n2 : w ≠ "not" := by rcases hww with rfl | rfl <;> decide
        have n3 : w ≠ "some" := by rcases hww with rfl | rfl <;> decide
        have n4 : w ≠ "all" := by rcases hww with rfl | rfl <;> decide
        have wE : PyData.weightAll es ≤ 20000 := by
          simp only [PyData.weight, PyData.weightAll] at wt
          omega
        refine ⟨_, rfl, p, _, 0, _, rfl, rfl, SqT.of hp, atI_nat (j := 0) rfl, _, rfl, rfl, _, rfl, ?_⟩
        rw [dec_ne n1]
        refine iteF ⟨_, rfl, rfl, _, rfl, ?_⟩
        rw [dec_ne n2]
        refine iteF ⟨_, rfl, (by show 2 ≤ sizeLine; decide), fun t nt => ?_⟩
        have s1 := same_upd (o := .tup [.str "some", .str "all"]) nt
        have ht : (upd H t (.tup [.str "some", .str "all"])) t = some (.tup [.str "some", .str "all"]) := upd_same
        generalize upd H t (.tup [.str "some", .str "all"]) = H1 at *
        refine ⟨t, _, rfl, .inr (SqT.of ht), rfl, rfl, _, rfl, ?_⟩
        rw [if_neg (by decide), in_two, decide_eq_false n3, decide_eq_false n4]
        refine iteF ⟨_, rfl, p, _, 1, .ref px, rfl, rfl, SqT.of (s1 _ _ hp), atI_nat (j := 1) rfl, px, rfl, ⟨_, SqT.of (s1 _ _ hpx)⟩, fun R nR => lc_tup (K := K) (a := px) (xs := ys) (fun j H' => Same H1 H' ∧ H' R = some (.lst (((es.take j).map (greatN k)).map V.int))) ⟨same_upd nR, upd_same⟩ (fun j H' _ h => SqT.of (h.1 _ _ (s1 _ _ hpx))) ?_ ?_⟩
        · rintro j y H' hy ⟨s2, hR⟩
          obtain ⟨dy, hdy, gy⟩ := hys.get hy
          have my := List.mem_of_getElem? hdy
          have wy := weight_mem my
          have lE := weight_len (ds := es)
          have s12 : Same H H' := fun b o e => s2 b o (s1 b o e)
          refine ⟨rfl, _, rfl, D, m, y, dy, bs, k, rfl, dr.sm s12, gy.sm s12, hes dy my, by omega, by omega, fun H'' s3 => ?_⟩
          refine ⟨_, s3 _ _ hR, ?_, same_put (fun b o e => s3 b o (s2 b o e)) nR, ?_⟩
          · rw [List.length_map, List.length_map, List.length_take]
            exact Nat.lt_of_le_of_lt (Nat.min_le_right _ _) (by rw [sizeLine_eq]; omega)
          · rw [List.take_add_one, hdy, List.map_append, List.map_append]
            exact upd_same
        · rintro H' ⟨s2, hR⟩
          rw [hys.length, List.take_length] at hR
          have s12 : Same H H' := fun b o e => s2 b o (s1 b o e)
          have q := q H' s12
          rw [great_many hww] at q
          refine ⟨R, es.map (greatN k), 0, rfl, rfl, SqL.of hR, fun e0 => ?_, fun t ht hmax => ?_⟩
          · rw [e0] at q
            exact q
          · rw [maxL_is ht hmax fun y hy => by
              obtain ⟨e, he, rfl⟩ := List.mem_map.mp hy
              exact great_nn k bs e (hes e he)] at q
            exact q
    | @no x hx =>
      obtain ⟨p, xs, ds, rfl, ed, hp, pd, pw, ha⟩ := hd.tupOf rfl
      injection ed with ed
      subst ed
      cases ha with
      | @cons vw _ _ _ hw ha => cases ha with
      | @cons vx _ _ _ h1 ha =>
        cases ha
        obtain rfl : vw = .str "not" := by cases hw; rfl
        refine ⟨_, rfl, p, _, 0, _, rfl, rfl, SqT.of hp, atI_nat (j := 0) rfl, _, rfl, rfl, _, rfl, ?_⟩
        rw [dec_ne (by decide)]
        refine iteF ⟨_, rfl, rfl, _, rfl, ?_⟩
        rw [decide_eq_true rfl]
        refine iteT ⟨_, rfl, p, _, 1, vx, rfl, rfl, SqT.of hp, atI_nat (j := 1) rfl, D, m, vx, x, bs, k, rfl, dr, h1, hx, ?_, by omega, fun H' s => q H' s⟩
        simp only [PyData.weight, PyData.weightAll] at wt
        omega
    | @bind w ns x hww hns hx =>
      obtain ⟨p, xs, ds, rfl, ed, hp, pd, pw, ha⟩ := hd.tupOf rfl
      injection ed with ed
      subst ed
      cases ha with
      | @cons vw _ _ _ hw ha => cases ha with
      | @cons vn _ _ _ hn ha => cases ha with
      | @cons vx _ _ _ h1 ha =>
        cases ha
        obtain rfl : vw = .str w := by cases hw; rfl
        obtain ⟨pn, ss, rfl, hpn, es, l4⟩ := binds_strs hn hns
        have n1 : w ≠ "row" := by rcases hww with rfl | rfl <;> decide
        have n2 : w ≠ "not" := by rcases hww with rfl | rfl <;> decide
        refine ⟨_, rfl, p, _, 0, _, rfl, rfl, SqT.of hp, atI_nat (j := 0) rfl, _, rfl, rfl, _, rfl, ?_⟩
        rw [dec_ne n1]
        refine iteF ⟨_, rfl, rfl, _, rfl, ?_⟩
        rw [dec_ne n2]
        refine iteF ⟨_, rfl, (by show 2 ≤ sizeLine; decide), fun t nt => ?_⟩
        have s1 := same_upd (o := .tup [.str "some", .str "all"]) nt
        have ht : (upd H t (.tup [.str "some", .str "all"])) t = some (.tup [.str "some", .str "all"]) := upd_same
        generalize upd H t (.tup [.str "some", .str "all"]) = H1 at *
        refine ⟨t, _, rfl, .inr (SqT.of ht), rfl, rfl, _, rfl, ?_⟩
        have ew : (decide (w = "some") || decide (w = "all")) = true := by rcases hww with rfl | rfl <;> decide
        rw [if_neg (by decide), in_two, ew]
        refine iteT ⟨_, rfl, p, _, 2, vx, rfl, rfl, SqT.of (s1 _ _ hp), atI_nat (j := 2) rfl, D, m, vx, x, _, k, rfl, dr.sm s1, h1.sm s1, hx, ?_, by omega, fun H3 s3 => q H3 fun b o e => s3 b o (s1 b o e)⟩
        simp only [PyData.weight, PyData.weightAll] at wt
        omega
end
end Lm
/-! is_listing, is_saying, check_saying. -/
namespace Lm
open PySem PySem.Spec PyProof.Rows L2
/-- data that may be asked about: small, and no dict within a tuple -/
structure Askd (k : Nat) (d : PyData) : Prop where
  sh : shortD d = true
  lay : isTup d = true → d.canLay0 = true
  dep : d.depth ≤ k
  wt : d.weight ≤ 20000
section
variable {P : Program} {w : World} {K : PySem.W.Frag} {mg : Str → Option Value} {base : Heap}
abbrev sSaying : Stmt := topS 32
theorem scSaying : FnScope ["thing"] ["thing"] (defScope sSaying) := ⟨rfl, rfl, rfl, by decide +kernel, rfl, by decide +kernel, by decide +kernel⟩
def spSaying (n : Nat) : Sp := fun vs H Q _ => ∃ (D : DrA) (m : Nat) (v : V) (d : PyData) (k : Nat), vs = [v] ∧ DrawAt D m H ∧ Da D H v d ∧ Askd k d ∧ k ≤ n ∧ ∀ H', Same H H' → Q (.bl (fitsN k [] d)) H'
theorem ok_saying {f : Addr} {fd : FuncData} (F : Fun K "is_saying" "is_saying" sSaying f fd) (n : Nat) (hn : n ≤ 60) (GF : Has P w K mg base CX0 (n + 5) "fits" ["thing", "bound"] (spFits n)) : FnOk P w K mg base CX0 (n + 6) f fd ["thing"] (spSaying n) := by
  refine F.ok scSaying (fun vs H Q E h => ?_) (fun cdv A outer s H vs Q E hr h => ?_)
  · obtain ⟨D, m, v, d, k, rfl, _⟩ := h
    rfl
  · obtain ⟨D, m, v, d, k, rfl, dr, hd, a, hk, q⟩ := h
    refine ⟨_, pss_one (ps_ret (pe_h GF hr (by omega) (by rfl) pass0 (pa_cons (pv 0) (pa_cons (pe_tup pa_nil) pa_nil)))), ?_⟩
    refine ⟨_, rfl, (by show 0 ≤ sizeLine; decide), fun p np => ?_⟩
    have s1 := same_upd (o := .tup []) np
    exact ⟨D, m, v, p, d, [], k, rfl, dr.sm s1, hd.sm s1, a.sh, a.lay, a.dep, a.wt, hk, hn, upd_same, by show 0 + 4 * k ≤ 1000; omega, fun H' s => q H' fun b o e => s b o (s1 b o e)⟩
abbrev sCkS : Stmt := topS 33
theorem scCkS : FnScope ["saying"] ["saying"] (defScope sCkS) := ⟨rfl, rfl, rfl, by decide +kernel, rfl, by decide +kernel, by decide +kernel⟩
def spCkS (BS : Addr) (n : Nat) : Sp := fun vs H Q E => ∃ (D : DrA) (m : Nat) (v : V) (d : PyData) (k : Nat), vs = [v] ∧ DrawAt D m H ∧ Da D H v d ∧ Askd k d ∧ k ≤ n ∧ ((fitsN k [] d = true ∧ ∀ H', Same H H' → Q .non H') ∨ (fitsN k [] d = false ∧ ∀ H', Same H H' → E (.ref BS) none H'))
theorem ok_ckS {BS : Addr} {f : Addr} {fd : FuncData} (F : Fun K "check_saying" "check_saying" sCkS f fd) (M1 : XMk K mg "BadSaying" BS) (n : Nat) (GS : Has P w K mg base CX0 (n + 6) "is_saying" ["thing"] (spSaying n)) : FnOk P w K mg base (L2.CX P w) (n + 7) f fd ["saying"] (spCkS BS n) := by
  refine F.okX scCkS (fun vs H Q E h => ?_) (fun cdv A outer s H vs Q E hr h => ?_)
  · obtain ⟨D, m, v, d, k, rfl, _⟩ := h
    rfl
  · obtain ⟨D, m, v, d, k, rfl, dr, hd, a, hk, q⟩ := h
    refine ⟨_, pss_one (ps_if (pt_not (pt_val (pe_h GS hr (by omega) (by rfl) (E := C8.E0) pass0 (pa_cons (pv 0) pa_nil)))) (pss_one (ps_bad rfl M1 (takes_of (E := E) rfl rfl rfl rfl) (by rfl))) pss_nil), ?_⟩
    refine ⟨_, rfl, D, m, v, d, k, rfl, dr, hd, a, hk, fun H' s => ⟨_, rfl, ?_⟩⟩
    rcases q with ⟨hb, q⟩ | ⟨hb, q⟩
    · rw [hb]
      exact iteF (q H' s)
    · rw [hb]
      exact iteT (q H' s)
end
end Lm
/-! is_listing, is_system. -/
namespace Lm
open PySem PySem.Spec PyProof.Rows L2
def isLst : PyData → Bool
  | .list _ => true
  | _ => false
theorem kit_list (K : PySem.W.Frag) : ∀ d : PyData, PySem.W.kitOne K (.type (kindOf d)) (.type "list") = some (isLst d)
  | .none => kit_ty (show kitB "NoneType" "list" = some false by decide +kernel)
  | .bool _ => kit_ty (show kitB "bool" "list" = some false by decide +kernel)
  | .int _ => kit_ty (show kitB "int" "list" = some false by decide +kernel)
  | .str _ => kit_ty (show kitB "str" "list" = some false by decide +kernel)
  | .list _ => kit_ty (show kitB "list" "list" = some true by decide +kernel)
  | .tuple _ => kit_ty (show kitB "tuple" "list" = some false by decide +kernel)
  | .dict _ => kit_ty (show kitB "dict" "list" = some false by decide +kernel)
theorem kit_listing (K : PySem.W.Frag) (d : PyData) : PySem.W.kitAny K (.type (kindOf d)) [.type "list", .type "tuple"] = some (isLst d || isTup d) := by
  unfold PySem.W.kitAny
  rw [kit_list K d]
  cases h : isLst d with
  | true => rfl
  | false =>
    show PySem.W.kitAny K (.type (kindOf d)) [.type "tuple"] = some (isTup d)
    unfold PySem.W.kitAny
    rw [kit_tup K d]
    cases isTup d <;> rfl
section
variable {P : Program} {w : World} {K : PySem.W.Frag} {mg : Str → Option Value} {base : Heap}
abbrev sListing : Stmt := topS 7
theorem scListing : FnScope ["thing"] ["thing"] (defScope sListing) := ⟨rfl, rfl, rfl, by decide +kernel, rfl, by decide +kernel, by decide +kernel⟩
def spListing : Sp := fun vs H Q _ => ∃ (D : DrA) (v : V) (d : PyData), vs = [v] ∧ Da D H v d ∧ ∀ H', Same H H' → Q (.bl (isLst d || isTup d)) H'
theorem ok_listing {f : Addr} {fd : FuncData} (F : Fun K "is_listing" "is_listing" sListing f fd) (N : Bl mg) : FnOk P w K mg base CX0 1 f fd ["thing"] spListing := by
  refine F.ok scListing (fun vs H Q E h => ?_) (fun cdv A outer s H vs Q E hr h => ?_)
  · obtain ⟨D, v, d, rfl, _⟩ := h
    rfl
  · obtain ⟨D, v, d, rfl, h, q⟩ := h
    refine ⟨_, pss_one (ps_ret (pe_callB call_isiT (by rfl) N.bisi (by decide +kernel) (pa_cons (pv 0) (pa_cons (pe_tup (pa_cons (pe_bltn (v := .ty "list") (by rfl) N.blist (by decide +kernel) rfl)
      (pa_cons (pe_bltn (v := .ty "tuple") (by rfl) N.btup (by decide +kernel) rfl) pa_nil))) pa_nil)))), ?_⟩
    refine ⟨v, rfl, (by show 2 ≤ sizeLine; decide), fun p np => ?_⟩
    exact ⟨v, p, _, _, [.type "list", .type "tuple"], _, rfl, upd_same, .cons (.ty "list") (.cons (.ty "tuple") .nil), (h.sm (same_upd np)).ty, kit_listing K d, q _ (same_upd np)⟩
def rowsD : PyData → Option (List PyData)
  | .list ds => some ds
  | .tuple ds => some ds
  | _ => none
def sysD (d : PyData) : Bool :=
  match rowsD d with
  | some ds => decide (ds.length ≤ 400) && ds.all rowD
  | none => false
theorem rows_kind (d : PyData) : (isLst d || isTup d) = (rowsD d).isSome := by cases d <;> rfl
theorem Da.rows {D : DrA} {H : Hp} {v : V} {d : PyData} {ds : List PyData} (h : Da D H v d) (e : rowsD d = some ds) : ∃ p xs, v = .ref p ∧ DaAll D H xs ds ∧ p ≠ D.d ∧ p ≠ D.w ∧ (H p = some (.lst xs) ∨ H p = some (.tup xs)) := by
  cases h with
  | lst h n1 n2 ha => cases e; exact ⟨_, _, rfl, ha, n1, n2, .inl h⟩
  | tup h n1 n2 ha => cases e; exact ⟨_, _, rfl, ha, n1, n2, .inr h⟩
  | _ => cases e
theorem short_rows {d : PyData} {ds : List PyData} (h : shortD d = true) (e : rowsD d = some ds) : shortAll ds = true := by
  cases d <;> cases e <;> exact h
abbrev sSys : Stmt := topS 15
def nSys : List Str := ["thing", "row"]
theorem scSys : FnScope nSys ["thing"] (defScope sSys) := ⟨rfl, rfl, rfl, by decide +kernel, rfl, by decide +kernel, by decide +kernel⟩
def iOr (a b : TI) : TI := fun σ H R => a σ H R ∨ b σ H R
theorem pi_or {X : Cx} {tg e : Expr} {a b : TI} (h1 : PI X tg e a) (h2 : PI X tg e b) : PI X tg e (iOr a b) := ⟨fun pins s σ H R I h => h.elim (h1.run pins s σ H R I) (h2.run pins s σ H R I)⟩
theorem ok_sys {f : Addr} {fd : FuncData} {tm : Tok} (F : Fun K "is_system" "is_system" sSys f fd) (N : Bl mg) (MR : mg "MOST_ROWS" = some (.int 400 tm)) (GL : Has P w K mg base CX0 1 "is_listing" ["thing"] spListing) (GR : Has P w K mg base CX0 2 "is_row" ["thing"] (spS rowD)) : FnOk P w K mg base CX0 3 f fd ["thing"] (spS sysD) := by
  refine F.ok scSys (fun vs H Q E h => ?_) (fun cdv A outer s H vs Q E hr h => ?_)
  · obtain ⟨D, v, d, rfl, _⟩ := h
    rfl
  · obtain ⟨D, v, d, rfl, hd, sd, q⟩ := h
    refine ⟨_, pss_cons (ps_if (pw_or (pt_not (pt_val (pe_h GL hr (by decide) (by rfl) pass0 (pa_cons (pv 0) pa_nil))))
          (pw_or1 (pt_cmpR op_gt (pe_callB call_len_seq (by rfl) N.blen PySem.boot_len (pa_cons (pv 0) pa_nil)) (pe_glob (v := .int 400) (by rfl) MR ⟨tm, rfl⟩) (nomark _)))).pt (pss_one (ps_ret pe_bl)) pss_nil)
      (pss_one (ps_ret (pe_callB (cr_allK K rfl) (by rfl) N.ball (by decide +kernel) (pa_cons
          (pe_lc (own := [("row", 1)]) (g := gName 1) (tt := tYes) rfl scSys.nd (pi_or (pi_listK K (pv 0)) (pi_tupK K (pv 0))) (blkOk_by (own := [("row", 1)]) (N := nSys) (sc := defScope sSys) (by decide +kernel)) (fun _ _ _ _ _ => pg_name (i := 1) scSys.nd rfl (Or.inl rfl))
            (fun _ _ _ _ _ => pts_nil) (fun _ _ _ _ _ => pe_h GR hr (by decide) (by rfl) pass0 (pa_cons (pv 1) pa_nil))) pa_nil)))), ?_⟩
    refine ⟨_, rfl, D, v, d, rfl, hd, fun H1 s1 => ⟨_, rfl, ?_⟩⟩
    rw [rows_kind]
    cases er : rowsD d with
    | none =>
      have q := q H1 s1
      have z : sysD d = false := by unfold sysD; rw [er]
      rw [z] at q
      exact iteT q
    | some ds =>
      obtain ⟨p, xs, rfl, ha, n1, n2, hp⟩ := hd.rows er
      have hl := ha.length
      have sall := short_rows sd er
      have en : sysD d = (decide (ds.length ≤ 400) && ds.all rowD) := by unfold sysD; rw [er]
      have hq : SqL K H1 p xs ∨ SqT K H1 p xs := by
        rcases hp with hp | hp
        · exact .inl (SqL.of (s1 _ _ hp))
        · exact .inr (SqT.of (s1 _ _ hp))
      refine iteF ⟨_, rfl, p, xs, rfl, hq, _, _, rfl, rfl, _, rfl, ?_⟩
      by_cases l4 : ds.length ≤ 400
      · have : ¬ (400 : Int) < (xs.length : Nat) := by omega
        rw [decide_eq_false this]
        rw [decide_eq_true l4, Bool.true_and] at en
        have body : ∀ (R : Addr) (nR : H1 R = none) (j : Nat) (y : V) (H' : Hp), xs[j]? = some y → (Same H1 H' ∧ H' R = some (.lst (((ds.take j).map rowD).map V.bl))) →
            ∃ dy, ds[j]? = some dy ∧ Da D H' y dy ∧ shortD dy = true := fun R nR j y H' hy ⟨s2, hR⟩ => by
          obtain ⟨dy, hdy, gy⟩ := ha.get hy
          exact ⟨dy, hdy, (gy.sm s1).sm s2, short_get sall dy (List.mem_of_getElem? hdy)⟩
        refine iteF ?_
        rcases hp with hp | hp
        · refine .inl ⟨_, rfl, p, rfl, ⟨_, SqL.of (s1 _ _ hp)⟩, fun R nR => lc_list (K := K) (a := p) (xs := xs) (fun j H' => Same H1 H' ∧ H' R = some (.lst (((ds.take j).map rowD).map V.bl))) ⟨same_upd nR, upd_same⟩ (fun j H' _ h => SqL.of (h.1 _ _ (s1 _ _ hp))) ?_ ?_⟩
          · rintro j y H' hy h
            obtain ⟨dy, hdy, gy, sy⟩ := body R nR j y H' hy h
            refine ⟨rfl, _, rfl, D, y, dy, rfl, gy, sy, fun H'' s3 => ⟨_, s3 _ _ h.2, ?_, same_put (fun b o e => s3 b o (h.1 b o e)) nR, ?_⟩⟩
            · rw [List.length_map, List.length_map, List.length_take]
              exact small1000 (by omega)
            · rw [List.take_add_one, hdy, List.map_append, List.map_append]
              exact upd_same
          · rintro H' ⟨s2, hR⟩
            rw [hl, List.take_length] at hR
            have q := q H' fun b o e => s2 b o (s1 b o e)
            rw [en] at q
            refine ⟨R, _, rfl, SqL.of hR, ?_⟩
            rw [List.all_map]
            exact q
        · refine .inr ⟨_, rfl, p, rfl, ⟨_, SqT.of (s1 _ _ hp)⟩, fun R nR => lc_tup (K := K) (a := p) (xs := xs) (fun j H' => Same H1 H' ∧ H' R = some (.lst (((ds.take j).map rowD).map V.bl))) ⟨same_upd nR, upd_same⟩ (fun j H' _ h => SqT.of (h.1 _ _ (s1 _ _ hp))) ?_ ?_⟩
          · rintro j y H' hy h
            obtain ⟨dy, hdy, gy, sy⟩ := body R nR j y H' hy h
            refine ⟨rfl, _, rfl, D, y, dy, rfl, gy, sy, fun H'' s3 => ⟨_, s3 _ _ h.2, ?_, same_put (fun b o e => s3 b o (h.1 b o e)) nR, ?_⟩⟩
            · rw [List.length_map, List.length_map, List.length_take]
              exact small1000 (by omega)
            · rw [List.take_add_one, hdy, List.map_append, List.map_append]
              exact upd_same
          · rintro H' ⟨s2, hR⟩
            rw [hl, List.take_length] at hR
            have q := q H' fun b o e => s2 b o (s1 b o e)
            rw [en] at q
            refine ⟨R, _, rfl, SqL.of hR, ?_⟩
            rw [List.all_map]
            exact q
      · have : (400 : Int) < (xs.length : Nat) := by omega
        rw [decide_eq_true this]
        have q := q H1 s1
        rw [en, decide_eq_false l4] at q
        exact iteT q
end
end Lm
/-! The law's own names and sides. -/
namespace Lm
open PySem PySem.Spec PyProof.Rows L2
theorem lt_one {a b : Nat} : (([a] : List Nat) < [b]) ↔ a < b := by
  rw [List.cons_lt_cons_iff]
  simp
theorem cap_iff {c : Nat} : c ∈ capL ↔ 65 ≤ c ∧ c ≤ 90 := by
  unfold capL
  rw [List.mem_map]
  constructor
  · rintro ⟨a, ha, rfl⟩
    rw [List.mem_range] at ha
    omega
  · intro h
    exact ⟨c - 65, List.mem_range.mpr (by omega), by omega⟩
theorem big_chain {c : Nat} : (!decide (([c] : List Nat) < [65]) && !decide (([90] : List Nat) < [c])) = decide (c ∈ capL) := by
  rw [Bool.eq_iff_iff, Bool.and_eq_true, decide_eq_true_iff, cap_iff]
  simp [lt_one]
def lawSideD (bs : List Str) : PyData → Bool
  | .none => true
  | d => saidNameD d && (!bigD d || inB bs d)
section
variable {P : Program} {w : World} {K : PySem.W.Frag} {mg : Str → Option Value} {base : Heap}
abbrev sTitle : Stmt := topS 60
theorem scTitle : FnScope ["item"] ["item"] (defScope sTitle) := ⟨rfl, rfl, rfl, by decide +kernel, rfl, by decide +kernel, by decide +kernel⟩
theorem ok_title {f : Addr} {fd : FuncData} (F : Fun K "_law_is_title" "_law_is_title" sTitle f fd) (N : Bl mg) : FnOk P w K mg base CX0 1 f fd ["item"] (spB saidNameD) := by
  refine F.ok scTitle (fun vs H Q E h => ?_) (fun cdv A outer s H vs Q E hr h => ?_)
  · obtain ⟨D, v, d, rfl, _⟩ := h
    rfl
  · obtain ⟨D, v, d, rfl, h, sd, q⟩ := h
    refine ⟨_, pss_one (ps_ret (pe_and (pe_callB call_isi (by rfl) N.bisi (by decide +kernel) (pa_cons (pv 0) (pa_cons (pe_bltn (v := .ty "str") (by rfl) N.bstr (by decide +kernel) rfl) pa_nil)))
      (pe_and (pe_chain op_le op_le pe_int (pe_callB call_len_str (by rfl) N.blen PySem.boot_len (pa_cons (pv 0) pa_nil)) pe_int)
      (pe_one (pe_cmpR op_notInS pe_str (pv 0) (by rfl)))))), ?_⟩
    refine ⟨v, rfl, v, .ty "str", _, _, isStr d, rfl, .ty "str", h.ty, kit_str K d, isStr d, rfl, ?_⟩
    cases e : isStr d with
    | false =>
      have z : saidNameD d = false := by cases d <;> first | rfl | cases e
      rw [z] at q
      exact iteF q
    | true =>
      obtain ⟨x, rfl, rfl⟩ := h.strOf e
      refine iteT ⟨_, rfl, x, rfl, short_str sd, _, _, rfl, rfl, _, rfl, ?_⟩
      have q : Q (.bl (decide ((1 : Int) ≤ (x.length : Nat)) && decide (((x.length : Nat) : Int) ≤ 20) && !decide (33 ∈ x.cps.toList))) H := q
      refine ite2 (fun z => ⟨_, _, rfl, rfl, _, rfl, ?_⟩) (fun z => ?_)
      · rw [z, Bool.true_and] at q
        refine ite2 (fun z2 => ⟨_, rfl, 33, x, rfl, rfl, ?_⟩) (fun z2 => ?_)
        · rw [z2, Bool.true_and] at q
          exact q
        · rw [Bool.not_eq_true] at z2
          rw [z2, Bool.false_and] at q
          exact q
      · rw [Bool.not_eq_true] at z
        rw [z, Bool.false_and, Bool.false_and] at q
        refine ⟨_, rfl, ?_⟩
        exact iteF q
abbrev sBig : Stmt := topS 56
theorem scBig : FnScope ["title"] ["title"] (defScope sBig) := ⟨rfl, rfl, rfl, by decide +kernel, rfl, by decide +kernel, by decide +kernel⟩
def spBig : Sp := fun vs H Q _ => ∃ (x : Str) (c : Nat) (r : List Nat), vs = [.str x] ∧ x.length ≤ sizeLine ∧ x.cps.toList = c :: r ∧ Q (.bl (bigD (.str x))) H
theorem ok_big {f : Addr} {fd : FuncData} (F : Fun K "_law_is_big" "_law_is_big" sBig f fd) : FnOk P w K mg base CX0 1 f fd ["title"] spBig := by
  refine F.ok scBig (fun vs H Q E h => ?_) (fun cdv A outer s H vs Q E hr h => ?_)
  · obtain ⟨x, c, r, rfl, _⟩ := h
    rfl
  · obtain ⟨x, c, r, rfl, hl, e, q⟩ := h
    refine ⟨_, pss_one (ps_ret (pe_chain op_le_str op_le_str pe_str (pe_ix ix_str (pv 0) pe_int (fun _ _ => rfl)) pe_str)), ?_⟩
    have eb : bigD (.str x) = (!decide (([c] : List Nat) < [65]) && !decide (([90] : List Nat) < [c])) := by
      rw [big_chain]
      show (match x.cps.toList with | c :: _ => decide (c ∈ capL) | [] => false) = _
      rw [e]
    rw [eb] at q
    refine ⟨_, rfl, x, 0, c, rfl, rfl, hl, atI_nat (j := 0) (by rw [e]; rfl), "A", ⟨#[c]⟩, rfl, rfl, _, rfl, ?_⟩
    have q : Q (.bl (!decide (([c] : List Nat) < [65]) && !decide (([90] : List Nat) < [c]))) H := q
    refine ite2 (fun z => ⟨⟨#[c]⟩, "Z", rfl, rfl, ?_⟩) (fun z => ?_)
    · have z : (!decide (([c] : List Nat) < [65])) = true := z
      rw [z, Bool.true_and] at q
      exact q
    · have z : ¬ (!decide (([c] : List Nat) < [65])) = true := z
      rw [Bool.not_eq_true] at z
      rw [z, Bool.false_and] at q
      exact q
abbrev sSide : Stmt := topS 61
theorem scSide : FnScope ["item", "inner"] ["item", "inner"] (defScope sSide) := ⟨rfl, rfl, rfl, by decide +kernel, rfl, by decide +kernel, by decide +kernel⟩
def spSide : Sp := fun vs H Q _ => ∃ (D : DrA) (v : V) (d : PyData) (b : Addr) (bs : List Str), vs = [v, .ref b] ∧ Da D H v d ∧ shortD d = true ∧ H b = some (.lst (bs.map V.str)) ∧ Q (.bl (lawSideD bs d)) H
theorem ok_side {f : Addr} {fd : FuncData} (F : Fun K "_law_is_one_side" "_law_is_one_side" sSide f fd) (GT : Has P w K mg base CX0 1 "_law_is_title" ["item"] (spB saidNameD)) (GB : Has P w K mg base CX0 1 "_law_is_big" ["title"] spBig) : FnOk P w K mg base CX0 2 f fd ["item", "inner"] spSide := by
  refine F.ok scSide (fun vs H Q E h => ?_) (fun cdv A outer s H vs Q E hr h => ?_)
  · obtain ⟨D, v, d, b, bs, rfl, _⟩ := h
    rfl
  · obtain ⟨D, v, d, b, bs, rfl, hd, sd, hb, q⟩ := h
    refine ⟨_, pss_cons (ps_if (pt_cmpR op_isN1 (pv 0) pe_non (nomark _)) (pss_one (ps_ret pe_bl)) pss_nil)
      (pss_one (ps_ret (pe_and (pe_h GT hr (by decide) (by rfl) pass0 (pa_cons (pv 0) pa_nil)) (pe_one (pe_or (pe_not (pe_h GB hr (by decide) (by rfl) pass0 (pa_cons (pv 0) pa_nil))) (pe_one (pe_cmpR (show OpR _ _ (rIn K false) from op_in_seq) (pv 0) (pv 1) (by rfl)))))))), ?_⟩
    refine ⟨_, rfl, rfl, _, rfl, ?_⟩
    by_cases vn : v = .non
    · subst vn
      cases hd
      rw [decide_eq_true rfl]
      exact iteT q
    · rw [decide_eq_false vn]
      have en : lawSideD bs d = (saidNameD d && (!bigD d || inB bs d)) := by cases hd <;> first | rfl | exact absurd rfl vn
      rw [en] at q
      refine iteF ⟨_, rfl, D, v, d, rfl, hd, sd, _, rfl, ?_⟩
      refine ite2 (fun z => ?_) (fun z => ?_)
      · obtain ⟨x, c, r, rfl, e⟩ := said_str z
        obtain rfl : v = .str x := by cases hd; rfl
        rw [z, Bool.true_and] at q
        refine ⟨_, rfl, x, c, r, rfl, short_str sd, e, _, rfl, _, rfl, ?_⟩
        cases eb : bigD (.str x) with
        | false =>
          rw [eb] at q
          exact iteT q
        | true =>
          rw [eb] at q
          refine iteF ⟨_, rfl, _, rfl, b, _, rfl, .inl (SqL.of hb), rfl, flat_strs bs, ?_⟩
          rw [if_neg (by decide), in_strs]
          exact q
      · rw [Bool.not_eq_true] at z
        rw [z, Bool.false_and] at q
        exact q
end
end Lm
/-! _law_is_said tells what fits tells: rows and bound names. -/
namespace Lm
open PySem PySem.Spec PyProof.Rows L2
def Bnd (bs : List Str) : Prop := ∀ x ∈ bs, boundNameD (.str x) = true
theorem said_row {x : Str} (h : saidNameD (.str x) = true) : rowNameD (.str x) = true := by
  have h : (decide ((1 : Int) ≤ (x.length : Nat)) && decide (((x.length : Nat) : Int) ≤ 20) && !decide (33 ∈ x.cps.toList)) = true := h
  rw [Bool.and_eq_true] at h
  exact h.1
theorem law_side {bs : List Str} (B : Bnd bs) (d : PyData) : lawSideD bs d = (sideD d && sideB bs d) := by
  cases d with
  | none => rfl
  | str x =>
    show (saidNameD (.str x) && (!bigD (.str x) || decide (x ∈ bs))) = (rowNameD (.str x) && ((saidNameD (.str x) && !bigD (.str x)) || decide (x ∈ bs)))
    cases es : saidNameD (.str x) with
    | true =>
      rw [said_row es, Bool.true_and, Bool.true_and, Bool.true_and]
    | false =>
      by_cases hm : x ∈ bs
      · have : (saidNameD (.str x) && bigD (.str x)) = true := B x hm
        rw [es] at this
        cases this
      · rw [decide_eq_false hm, Bool.false_and, Bool.false_and, Bool.or_false, Bool.and_false]
  | _ => rfl
theorem side_eqv {a b : PyData} (ha : sideD a = true) (hb : sideD b = true) : PyData.eqv a b = sideEq a b := by
  cases a <;> first | (cases ha; done) | skip
  · cases b <;> first | (cases hb; done) | simp [PyData.eqv, sideEq]
  · rename_i x
    cases b <;> first | (cases hb; done) | skip
    · simp [PyData.eqv, sideEq]
    · rename_i y
      by_cases e : x = y
      · simp [PyData.eqv, sideEq, e]
      · simp [PyData.eqv, sideEq, e]
theorem law_row {bs : List Str} (B : Bnd bs) (a b c : PyData) : saidRowD bs [a, b, c] = (isNum c && !PyData.eqv a b && (lawSideD bs a && lawSideD bs b)) := by
  show (sideD a && sideD b && !sideEq a b && isNum c && sideB bs a && sideB bs b) = _
  rw [law_side B a, law_side B b]
  cases ha : sideD a with
  | false => simp
  | true =>
    cases hb : sideD b with
    | false => simp
    | true =>
      rw [side_eqv ha hb]
      cases sideEq a b <;> cases isNum c <;> cases sideB bs a <;> cases sideB bs b <;> rfl
theorem bnd_app {bs : List Str} {ns : PyData} (B : Bnd bs) (h : bindsD bs ns = true) : Bnd (bs ++ strsD ns) := by
  cases ns with
  | tuple ds =>
    have h : (decide ((1 : Int) ≤ (ds.length : Nat)) && decide (((ds.length : Nat) : Int) ≤ 4) && bindsL bs [] ds) = true := h
    rw [Bool.and_eq_true] at h
    have key : ∀ (ds : List PyData) (before : List Str), bindsL bs before ds = true → ∀ x ∈ ds.filterMap unS, boundNameD (.str x) = true := by
      intro ds
      induction ds with
      | nil => exact fun _ _ x hx => nomatch hx
      | cons d r ih =>
        intro before h x hx
        cases d with
        | str y =>
          have h : (boundNameD (.str y) && !decide (y ∈ bs) && !decide (y ∈ before) && bindsL bs (before ++ [y]) r) = true := h
          rw [Bool.and_eq_true, Bool.and_eq_true, Bool.and_eq_true] at h
          rw [List.filterMap_cons] at hx
          have hx : x ∈ y :: r.filterMap unS := hx
          rcases List.mem_cons.mp hx with rfl | hx
          · exact h.1.1.1
          · exact ih _ h.2 x hx
        | _ => cases h
    intro x hx
    rcases List.mem_append.mp hx with hx | hx
    · exact B x hx
    · exact key ds [] h.2 x hx
  | _ => cases h
end Lm
/-! _law_is_said. -/
namespace Lm
open PySem PySem.Spec PyProof.Rows L2
theorem fits_at {k : Nat} {bs : List Str} {t : Str} {r : List PyData} : fitsN (k + 1) bs (.tuple (.str t :: r)) = (if decide (t = "row") then saidRowD bs r
    else if decide (t = "and") || decide (t = "or") then allF (fitsN k bs) r
    else if decide (t = "not") then oneF (fitsN k bs) r
    else if decide (t = "some") || decide (t = "all") then twoF (bindsD bs) (fun ss => fitsN k (bs ++ ss)) r
    else false) := rfl
theorem fits_nostr {k : Nat} {bs : List Str} {d : PyData} {r : List PyData} (h : isStr d = false) : fitsN k bs (.tuple (d :: r)) = false := by
  cases k with
  | zero => rfl
  | succ k => cases d <;> first | rfl | cases h
theorem fits_one {k : Nat} {bs : List Str} {d : PyData} : fitsN k bs (.tuple [d]) = false := by
  cases k with
  | zero => rfl
  | succ k =>
    cases d with
    | str t =>
      rw [fits_at]
      split
      · rfl
      · split
        · rfl
        · split
          · rfl
          · split <;> rfl
    | _ => rfl
theorem saidRow_len {bs : List Str} {r : List PyData} (h : r.length ≠ 3) : saidRowD bs r = false := by
  match r, h with
  | [], _ => rfl
  | [_], _ => rfl
  | [_, _], _ => rfl
  | [_, _, _], h => exact absurd rfl h
  | _ :: _ :: _ :: _ :: _, _ => rfl
theorem allF_len {f : PyData → Bool} {r : List PyData} (h : r.length ≠ 1) : allF f r = false := by
  unfold allF
  split
  · exact absurd rfl h
  · rfl
theorem oneF_len {f : PyData → Bool} {r : List PyData} (h : r.length ≠ 1) : oneF f r = false := by
  match r, h with
  | [], _ => rfl
  | [_], h => exact absurd rfl h
  | _ :: _ :: _, _ => rfl
theorem twoF_len {f : PyData → Bool} {g : List Str → PyData → Bool} {r : List PyData} (h : r.length ≠ 2) : twoF f g r = false := by
  match r, h with
  | [], _ => rfl
  | [_], _ => rfl
  | [_, _], h => exact absurd rfl h
  | _ :: _ :: _ :: _, _ => rfl
theorem eqv_ints_nil (ns : List Int) : PyData.eqv (.list (ns.map PyData.int)) (.list []) = ns.isEmpty := by
  cases ns <;> simp [PyData.eqv, PyData.eqvAll]
theorem shaped_ones (ns : List Int) : SeqAt.shaped (.list (ns.map PyData.int)) = true := shaped_ints ns
theorem all_filter {α : Type} (f : α → Bool) : ∀ l : List α, (((l.filter fun e => !f e).map fun _ => (1 : Int)).isEmpty) = l.all f
  | [] => rfl
  | a :: r => by
    rw [List.filter_cons, List.all_cons]
    cases h : f a with
    | true =>
      rw [if_neg (by decide), all_filter f r, Bool.true_and]
    | false =>
      rw [if_pos (by decide), Bool.false_and]
      rfl
theorem beq_len {l k : Nat} : (((l : Nat) : Int) == ((k : Nat) : Int)) = decide (l = k) := by
  by_cases h : l = k
  · rw [h, decide_eq_true rfl]; simp
  · rw [decide_eq_false h]
    exact beq_eq_false_iff_ne.mpr (by omega)
section
variable {P : Program} {w : World} {K : PySem.W.Frag} {mg : Str → Option Value} {base : Heap}
abbrev sWholeL : Stmt := topS 45
theorem scWholeL : FnScope ["item"] ["item"] (defScope sWholeL) := ⟨rfl, rfl, rfl, by decide +kernel, rfl, by decide +kernel, by decide +kernel⟩
theorem ok_wholeL {f : Addr} {fd : FuncData} (F : Fun K "_law_is_whole" "_law_is_whole" sWholeL f fd) (N : Bl mg) : FnOk P w K mg base CX0 1 f fd ["item"] spNum := by
  refine F.ok scWholeL (fun vs H Q E h => ?_) (fun cdv A outer s H vs Q E hr h => ?_)
  · obtain ⟨D, v, d, rfl, _⟩ := h
    rfl
  · obtain ⟨D, v, d, rfl, h, q⟩ := h
    refine ⟨_, pss_one (ps_ret (pe_and (pe_callB call_isi (by rfl) N.bisi (by decide +kernel) (pa_cons (pv 0) (pa_cons (pe_bltn (v := .ty "int") (by rfl) N.bint (by decide +kernel) rfl) pa_nil)))
      (pe_one (pe_not (pe_callB call_isi (by rfl) N.bisi (by decide +kernel) (pa_cons (pv 0) (pa_cons (pe_bltn (v := .ty "bool") (by rfl) N.bbool (by decide +kernel) rfl) pa_nil))))))), ?_⟩
    refine ⟨v, rfl, v, .ty "int", _, _, isIntB d, rfl, .ty "int", h.ty, kit_int K d, isIntB d, rfl, ?_⟩
    cases hb : isIntB d with
    | true =>
      refine iteT ⟨v, rfl, v, .ty "bool", _, _, isBoolB d, rfl, .ty "bool", h.ty, kit_bool K d, isBoolB d, rfl, ?_⟩
      have e : isNum d = !isBoolB d := by cases d <;> first | rfl | cases hb
      rw [← e]
      exact q
    | false =>
      have e : isNum d = false := by cases d <;> first | rfl | cases hb
      rw [e] at q
      exact iteF q
abbrev sIS : Stmt := topS 62
def nIS : List Str := ["item", "inner", "fresh", "title", "more"]
theorem scIS : FnScope nIS ["item", "inner"] (defScope sIS) := ⟨rfl, rfl, rfl, by decide +kernel, rfl, by decide +kernel, by decide +kernel⟩
def spIS (n : Nat) : Sp := fun vs H Q _ => ∃ (D : DrA) (m : Nat) (v : V) (b : Addr) (d : PyData) (bs : List Str) (k : Nat), vs = [v, .ref b] ∧ DrawAt D m H ∧ Da D H v d ∧ Askd k d ∧ k ≤ n ∧ n ≤ 60 ∧ H b = some (.lst (bs.map V.str)) ∧ Bnd bs ∧ bs.length + 4 * k ≤ 1000 ∧
  ∀ H', Same H H' → Q (.bl (fitsN k bs d)) H'
def spISBelow : Nat → Sp
  | 0 => fun _ _ _ _ => False
  | n + 1 => spIS n
theorem ok_is_no {f : Addr} {fd : FuncData} (F : Fun K "_law_is_said" "_law_is_said" sIS f fd) (j : Nat) : FnOk P w K mg base CX0 (j + 1) f fd ["item", "inner"] (spISBelow 0) :=
  F.ok scIS (fun vs H Q E h => h.elim) (fun cdv A outer s H vs Q E hr h => h.elim)
theorem ok_is {f : Addr} {fd : FuncData} (F : Fun K "_law_is_said" "_law_is_said" sIS f fd) (N : Bl mg) (n : Nat) (GW : Has P w K mg base CX0 1 "_law_is_whole" ["item"] spNum) (GS : Has P w K mg base CX0 2 "_law_is_one_side" ["item", "inner"] spSide) (GT : Has P w K mg base CX0 1 "_law_is_title" ["item"] (spB saidNameD)) (GB : Has P w K mg base CX0 1 "_law_is_big" ["title"] spBig)
    (GI : Has P w K mg base CX0 (n + 4) "_law_is_said" ["item", "inner"] (spISBelow n)) : FnOk P w K mg base CX0 (n + 5) f fd ["item", "inner"] (spIS n) := by
  refine F.ok scIS (fun vs H Q E h => ?_) (fun cdv A outer s H vs Q E hr h => ?_)
  · obtain ⟨D, m, v, b, d, bs, k, rfl, _⟩ := h
    rfl
  · obtain ⟨D, m, v, b, d, bs, k, rfl, dr, hd, ⟨sd, lay, dep, wt⟩, hk, n60, hb, bnd, hbl, q⟩ := h
    have hu64 : (A.deeper (envOfC "_law_is_said" (defScope sIS) s.heap.objs.size f cdv)).units + 64 < cLine := by
      have := hr.un
      omega
    refine ⟨_, pss_cons (ps_if (pw_or (pt_not (pt_val (pe_callB call_isi (by rfl) N.bisi (by decide +kernel) (pa_cons (pv 0) (pa_cons (pe_bltn (v := .ty "tuple") (by rfl) N.btup (by decide +kernel) rfl) pa_nil)))))
          (pw_or (pt_cmpR op_lt (pe_callB call_len_seq (by rfl) N.blen PySem.boot_len (pa_cons (pv 0) pa_nil)) pe_int (nomark _))
          (pw_or1 (pt_not (pt_val (pe_callB call_isi (by rfl) N.bisi (by decide +kernel) (pa_cons (pe_ix ix_tup (pv 0) pe_int (fun _ _ => rfl)) (pa_cons (pe_bltn (v := .ty "str") (by rfl) N.bstr (by decide +kernel) rfl) pa_nil)))))))).pt (pss_one (ps_ret pe_bl)) pss_nil)
      (pss_cons (ps_if (pt_cmpR op_eq (pe_ix ix_tup (pv 0) pe_int (fun _ _ => rfl)) pe_str (nomark _))
        (pss_cons (ps_if (pw_or (pt_cmpR op_ne (pe_callB call_len_seq (by rfl) N.blen PySem.boot_len (pa_cons (pv 0) pa_nil)) pe_int (nomark _))
            (pw_or (pt_not (pt_val (pe_h GW hr (by omega) (by rfl) pass0 (pa_cons (pe_ix ix_tup (pv 0) pe_int (fun _ _ => rfl)) pa_nil))))
            (pw_or1 (pt_cmpR (show OpR _ _ (rEqD K) from op_eqD hu64) (pe_ix ix_tup (pv 0) pe_int (fun _ _ => rfl)) (pe_ix ix_tup (pv 0) pe_int (fun _ _ => rfl)) (nomark _))))).pt (pss_one (ps_ret pe_bl)) pss_nil)
          (pss_one (ps_ret (pe_and (pe_h GS hr (by omega) (by rfl) pass0 (pa_cons (pe_ix ix_tup (pv 0) pe_int (fun _ _ => rfl)) (pa_cons (pv 1) pa_nil))) (pe_one (pe_h GS hr (by omega) (by rfl) pass0 (pa_cons (pe_ix ix_tup (pv 0) pe_int (fun _ _ => rfl)) (pa_cons (pv 1) pa_nil)))))))) pss_nil)
      (pss_cons (ps_if (pt_cmpR op_eq (pe_ix ix_tup (pv 0) pe_int (fun _ _ => rfl)) pe_str (nomark _)) (pss_one (ps_ret (pe_and (pe_cmpR op_eq (pe_callB call_len_seq (by rfl) N.blen PySem.boot_len (pa_cons (pv 0) pa_nil)) pe_int (nomark _))
          (pe_one (pe_h GI hr (by omega) (by rfl) pass0 (pa_cons (pe_ix ix_tup (pv 0) pe_int (fun _ _ => rfl)) (pa_cons (pv 1) pa_nil))))))) pss_nil)
      (pss_cons (ps_if (pt_cmpR (show OpR _ _ (rIn K false) from op_in_seq) (pe_ix ix_tup (pv 0) pe_int (fun _ _ => rfl)) (pe_tup (pa_cons pe_str (pa_cons pe_str pa_nil))) (by rfl))
        (pss_cons (ps_if (pw_or (pt_cmpR op_ne (pe_callB call_len_seq (by rfl) N.blen PySem.boot_len (pa_cons (pv 0) pa_nil)) pe_int (nomark _))
            (pw_or1 (pt_not (pt_val (pe_callB call_isi (by rfl) N.bisi (by decide +kernel) (pa_cons (pe_ix ix_tup (pv 0) pe_int (fun _ _ => rfl)) (pa_cons (pe_bltn (v := .ty "tuple") (by rfl) N.btup (by decide +kernel) rfl) pa_nil))))))).pt (pss_one (ps_ret pe_bl)) pss_nil)
          (pss_one (ps_ret (pe_cmpR (show OpR _ _ (rEqD K) from op_eqD hu64) (pe_lc (own := [("more", 4)]) (g := gName 4) rfl scIS.nd (pi_tupK K (pe_ix ix_tup (pv 0) pe_int (fun _ _ => rfl))) (blkOk_by (own := [("more", 4)]) (N := nIS) (sc := defScope sIS) (by decide +kernel)) (fun _ _ _ _ _ => pg_name (i := 4) scIS.nd rfl (Or.inl rfl))
              (fun _ _ _ _ _ => pts_one (pt_not (pt_val (pe_h GI (hr.mono (Nat.le_refl (n + 4))) (by omega) (by rfl) pass0 (pa_cons (pv 4) (pa_cons (pv 1) pa_nil)))))) (fun _ _ _ _ _ => pe_int)) (pe_lst pa_nil) (nomark _))))) pss_nil)
      (pss_cons (ps_if (pw_or (pt_cmpR (show OpR _ _ (rIn K true) from op_notIn_seq) (pe_ix ix_tup (pv 0) pe_int (fun _ _ => rfl)) (pe_tup (pa_cons pe_str (pa_cons pe_str pa_nil))) (by rfl))
          (pw_or (pt_cmpR op_ne (pe_callB call_len_seq (by rfl) N.blen PySem.boot_len (pa_cons (pv 0) pa_nil)) pe_int (nomark _))
          (pw_or1 (pt_not (pt_val (pe_callB call_isi (by rfl) N.bisi (by decide +kernel) (pa_cons (pe_ix ix_tup (pv 0) pe_int (fun _ _ => rfl)) (pa_cons (pe_bltn (v := .ty "tuple") (by rfl) N.btup (by decide +kernel) rfl) pa_nil)))))))).pt (pss_one (ps_ret pe_bl)) pss_nil)
      (pss_cons (ps_if (pw_or (pt_cmpR op_eq (pe_callB call_len_seq (by rfl) N.blen PySem.boot_len (pa_cons (pe_ix ix_tup (pv 0) pe_int (fun _ _ => rfl)) pa_nil)) pe_int (nomark _))
          (pw_or1 (pt_cmpR op_gt (pe_callB call_len_seq (by rfl) N.blen PySem.boot_len (pa_cons (pe_ix ix_tup (pv 0) pe_int (fun _ _ => rfl)) pa_nil)) pe_int (nomark _)))).pt (pss_one (ps_ret pe_bl)) pss_nil)
      (pss_cons (ps_set (i := 2) scIS.nd rfl (.inl rfl) (pe_callTy call_list_of (by rfl) N.blist (by decide +kernel) (pa_cons (pv 1) pa_nil)))
      (pss_cons (ps_for PassesOwn.never rfl (pi_tupK K (pe_ix ix_tup (pv 0) pe_int (fun _ _ => rfl))) (pg_name (i := 3) scIS.nd rfl (.inl rfl))
        (pss_cons (ps_if (pw_or (pt_not (pt_val (pe_h GT hr (by omega) (by rfl) pass0 (pa_cons (pv 3) pa_nil)))) (pw_or (pt_not (pt_val (pe_h GB hr (by omega) (by rfl) pass0 (pa_cons (pv 3) pa_nil)))) (pw_or1 (pt_cmpR (show OpR _ _ (rIn K false) from op_in_seq) (pv 3) (pv 2) (by rfl))))).pt (pss_one (ps_ret pe_bl)) pss_nil)
        (pss_one (ps_expr (pe_bm PySem.F.plainAttrs_list PySem.F.slot_list_append PySem.F.type_list_append mt_append (pv 2) (pa_cons (pv 3) pa_nil))))))
      (pss_one (ps_ret (pe_h GI hr (by omega) (by rfl) pass0 (pa_cons (pe_ix ix_tup (pv 0) pe_int (fun _ _ => rfl)) (pa_cons (pv 2) pa_nil)))))))))))), ?_⟩
    have idS : Same H H := fun _ _ z => z
    refine ⟨_, rfl, v, .ty "tuple", _, _, isTup d, rfl, .ty "tuple", hd.ty, kit_tup K d, isTup d, rfl, ?_⟩
    have no : ∀ {H' : Hp}, Same H H' → fitsN k bs d = false → Q (.bl false) H' := fun {H'} s z => by
      have q := q H' s
      rw [z] at q
      exact q
    cases et : isTup d with
    | false =>
      have z : fitsN k bs d = false := by cases k <;> cases d <;> first | rfl | cases et
      exact iteT (no idS z)
    | true =>
      have lay := lay et
      obtain ⟨p, xs, ds, rfl, rfl, hp, pd, pw, ha⟩ := hd.tupOf et
      have sall : shortAll ds = true := sd
      have layA : PyData.canLayAll0 ds = true := by simpa only [PyData.canLay0] using lay
      have hl := ha.length
      refine iteF ⟨_, rfl, p, xs, rfl, .inr (SqT.of hp), _, _, rfl, rfl, _, rfl, ?_⟩
      by_cases l2 : ds.length < 2
      · have : ((xs.length : Nat) : Int) < 2 := by omega
        rw [decide_eq_true this]
        refine iteT (no idS ?_)
        match ds, l2 with
        | [], _ => cases k <;> rfl
        | [x], _ => exact fits_one
        | _ :: _ :: _, l2 => simp at l2; omega
      · have : ¬ ((xs.length : Nat) : Int) < 2 := by omega
        rw [decide_eq_false this]
        cases ha with
        | nil => exact absurd (by decide : ([] : List PyData).length < 2) l2
        | @cons vw xr dw dr' hw har =>
        have hlr := har.length
        have l1 : 1 ≤ dr'.length := by rw [List.length_cons] at l2; omega
        refine iteF ⟨_, rfl, p, _, 0, vw, rfl, rfl, SqT.of hp, atI_nat (j := 0) rfl, vw, .ty "str", _, _, isStr dw, rfl, .ty "str", hw.ty, kit_str K dw, isStr dw, rfl, ?_⟩
        cases es : isStr dw with
        | false => exact iteT (no idS (fits_nostr es))
        | true =>
        obtain ⟨t, rfl, rfl⟩ := hw.strOf es
        obtain ⟨k, rfl⟩ : ∃ k', k = k' + 1 := ⟨k - 1, by
          have : PyData.depthAll (PyData.str t :: dr') + 1 ≤ k := dep
          omega⟩
        obtain ⟨n, rfl⟩ : ∃ n', n = n' + 1 := ⟨n - 1, by omega⟩
        have dep : PyData.depthAll (PyData.str t :: dr') ≤ k := by
          have : PyData.depthAll (PyData.str t :: dr') + 1 ≤ k + 1 := dep
          omega
        have dpm : ∀ y ∈ PyData.str t :: dr', y.depth ≤ k := fun y hy => Nat.le_trans (depth_mem hy) dep
        have wt : PyData.weightAll (PyData.str t :: dr') ≤ 20000 := wt
        have wtm : ∀ y ∈ PyData.str t :: dr', y.weight ≤ 20000 := fun y hy => by have := weight_mem hy; omega
        have lm := lay_mem layA
        have sm := short_get sall
        have ask : ∀ y ∈ PyData.str t :: dr', Askd k y := fun y hy => ⟨sm y hy, fun _ => lm y hy, dpm y hy, wtm y hy⟩
        have lenX : ((V.str t :: xr).length : Nat) = dr'.length + 1 := by rw [List.length_cons, hlr]
        refine iteF ⟨_, rfl, p, _, 0, .str t, rfl, rfl, SqT.of hp, atI_nat (j := 0) rfl, rfl, _, rfl, ?_⟩
        rw [dec_str]
        by_cases tr : t = "row"
        · rw [decide_eq_true tr]
          have en : fitsN (k + 1) bs (.tuple (.str t :: dr')) = saidRowD bs dr' := by rw [fits_at, tr]; rfl
          refine iteT ⟨_, rfl, p, _, rfl, .inr (SqT.of hp), rfl, _, rfl, ?_⟩
          rw [dec_int]
          by_cases l4 : dr'.length = 3
          · obtain ⟨a, b', c, rfl⟩ : ∃ a b' c, dr' = [a, b', c] := by
              match dr', l4 with
              | [a, b', c], _ => exact ⟨a, b', c, rfl⟩
            have e4 : (!(((V.str t :: xr).length : Int) == 4)) = false := by rw [lenX]; rfl
            rw [e4]
            cases har with
            | @cons va _ _ _ h1 har => cases har with
            | @cons vb _ _ _ h2 har => cases har with
            | @cons vc _ _ _ h3 har =>
              cases har
              rw [law_row bnd] at en
              refine iteF ⟨_, rfl, p, _, 3, vc, rfl, rfl, SqT.of hp, atI_nat (j := 3) rfl, D, vc, c, rfl, h3, isNum c, rfl, ?_⟩
              cases ec : isNum c with
              | false => exact iteT (no idS (by rw [en, ec]; rfl))
              | true =>
                have ma : a ∈ [PyData.str t, a, b', c] := by simp
                have mb : b' ∈ [PyData.str t, a, b', c] := by simp
                have sa : SeqAt.shaped a = true := shape_of (lm a ma) (by have := dpm a ma; omega)
                have sb : SeqAt.shaped b' = true := shape_of (lm b' mb) (by have := dpm b' mb; omega)
                rw [ec, Bool.true_and] at en
                refine iteF ⟨_, rfl, p, _, 1, va, rfl, rfl, SqT.of hp, atI_nat (j := 1) rfl, _, rfl, p, _, 2, vb, rfl, rfl, SqT.of hp, atI_nat (j := 2) rfl, a, b', h1.dp (lm a ma), h2.dp (lm b' mb), sa, sb, _, rfl, ?_⟩
                cases ee : PyData.eqv a b' with
                | true => exact iteT (no idS (by rw [en, ee]; rfl))
                | false =>
                  rw [ee] at en
                  have en : fitsN (k + 1) bs (.tuple [.str t, a, b', c]) = (lawSideD bs a && lawSideD bs b') := en
                  refine iteF ⟨_, rfl, p, _, 1, va, rfl, rfl, SqT.of hp, atI_nat (j := 1) rfl, _, rfl, D, va, a, b, bs, rfl, h1, sm a ma, hb, _, rfl, ?_⟩
                  have q := q H idS
                  rw [en] at q
                  refine ite2 (fun z => ?_) (fun z => ?_)
                  · rw [z, Bool.true_and] at q
                    exact ⟨_, rfl, p, _, 2, vb, rfl, rfl, SqT.of hp, atI_nat (j := 2) rfl, _, rfl, D, vb, b', b, bs, rfl, h2, sm b' mb, hb, q⟩
                  · rw [Bool.not_eq_true] at z
                    rw [z, Bool.false_and] at q
                    exact q
          · have e4 : (!(((V.str t :: xr).length : Int) == 4)) = true := by
              rw [lenX]
              have : ¬ (((dr'.length + 1 : Nat) : Int) = 4) := by omega
              rw [show (((dr'.length + 1 : Nat) : Int) == 4) = false from beq_eq_false_iff_ne.mpr this]
              rfl
            rw [e4]
            exact iteT (no idS (by rw [en]; exact saidRow_len l4))
        · rw [decide_eq_false tr]
          refine iteF ⟨_, rfl, p, _, 0, .str t, rfl, rfl, SqT.of hp, atI_nat (j := 0) rfl, rfl, _, rfl, ?_⟩
          rw [dec_str]
          have en : fitsN (k + 1) bs (.tuple (.str t :: dr')) = (if decide (t = "and") || decide (t = "or") then allF (fitsN k bs) dr'
            else if decide (t = "not") then oneF (fitsN k bs) dr'
            else if decide (t = "some") || decide (t = "all") then twoF (bindsD bs) (fun ss => fitsN k (bs ++ ss)) dr'
            else false) := by rw [fits_at, decide_eq_false tr]; rfl
          by_cases tn : t = "not"
          · rw [decide_eq_true tn]
            have en : fitsN (k + 1) bs (.tuple (.str t :: dr')) = oneF (fitsN k bs) dr' := by rw [en, tn]; rfl
            refine iteT ⟨_, rfl, p, _, rfl, .inr (SqT.of hp), rfl, _, rfl, ?_⟩
            rw [dec_int, lenX, show (2 : Int) = ((2 : Nat) : Int) from rfl, beq_len]
            by_cases l4 : dr'.length = 1
            · obtain ⟨x, rfl⟩ : ∃ x, dr' = [x] := by
                match dr', l4 with
                | [x], _ => exact ⟨x, rfl⟩
              rw [decide_eq_true (show [x].length + 1 = 2 from rfl)]
              cases har with
              | @cons vx _ _ _ h1 har =>
                cases har
                have mx : x ∈ [PyData.str t, x] := by simp
                refine iteT ⟨_, rfl, p, _, 1, vx, rfl, rfl, SqT.of hp, atI_nat (j := 1) rfl, _, rfl, D, m, vx, b, x, bs, k, rfl, dr, h1, ask x mx, by omega, by omega, hb, bnd, by omega, fun H' s => ?_⟩
                have q := q H' s
                rw [en] at q
                exact q
            · rw [decide_eq_false (by omega)]
              exact iteF (no idS (by rw [en]; exact oneF_len l4))
          · rw [decide_eq_false tn]
            refine iteF ⟨_, rfl, p, _, 0, .str t, rfl, rfl, SqT.of hp, atI_nat (j := 0) rfl, (by show 2 ≤ sizeLine; decide), fun t1 n1 => ?_⟩
            have s1 := same_upd (o := .tup [.str "and", .str "or"]) n1
            have ht1 : (upd H t1 (.tup [.str "and", .str "or"])) t1 = some (.tup [.str "and", .str "or"]) := upd_same
            have dr1 := dr.sm s1
            have hp1 := s1 _ _ hp
            have har1 := har.sm s1
            have hb1 := s1 _ _ hb
            generalize upd H t1 (.tup [.str "and", .str "or"]) = H1 at *
            refine ⟨t1, _, rfl, .inr (SqT.of ht1), rfl, rfl, _, rfl, ?_⟩
            rw [if_neg (by decide), in_two]
            cases eao : (decide (t = "and") || decide (t = "or")) with
            | true =>
              have en : fitsN (k + 1) bs (.tuple (.str t :: dr')) = allF (fitsN k bs) dr' := by rw [en, eao]; rfl
              refine iteT ⟨_, rfl, p, _, rfl, .inr (SqT.of hp1), rfl, _, rfl, ?_⟩
              rw [dec_int, lenX, show (2 : Int) = ((2 : Nat) : Int) from rfl, beq_len]
              by_cases l4 : dr'.length = 1
              · obtain ⟨x, rfl⟩ : ∃ x, dr' = [x] := by
                  match dr', l4 with
                  | [x], _ => exact ⟨x, rfl⟩
                rw [decide_eq_true (show [x].length + 1 = 2 from rfl)]
                cases har1 with
                | @cons vx _ _ _ h1 har1 =>
                  cases har1
                  have mx : x ∈ [PyData.str t, x] := by simp
                  refine iteF ⟨_, rfl, p, _, 1, vx, rfl, rfl, SqT.of hp1, atI_nat (j := 1) rfl, vx, .ty "tuple", _, _, isTup x, rfl, .ty "tuple", h1.ty, kit_tup K x, isTup x, rfl, ?_⟩
                  cases ex : isTup x with
                  | false => exact iteT (no s1 (by rw [en]; cases x <;> first | rfl | cases ex))
                  | true =>
                    obtain ⟨px, ys, es', rfl, rfl, hpx, o1, o2, hes⟩ := h1.tupOf ex
                    have les := hes.length
                    have layE : PyData.canLayAll0 es' = true := by have := lm _ mx; simpa only [PyData.canLay0] using this
                    have sE : shortAll es' = true := sm _ mx
                    have dE : PyData.depthAll es' + 1 ≤ k := dpm _ mx
                    have wE : PyData.weightAll es' ≤ 20000 := wtm _ mx
                    have lE := weight_len (ds := es')
                    have en : fitsN (k + 1) bs (.tuple [.str t, .tuple es']) = es'.all (fitsN k bs) := en
                    refine iteF ⟨_, rfl, p, _, 1, .ref px, rfl, rfl, SqT.of hp1, atI_nat (j := 1) rfl, px, rfl, ⟨_, SqT.of hpx⟩, fun R nR => lc_tup (K := K) (a := px) (xs := ys) (fun j H' => Same H1 H' ∧ H' R = some (.lst ((((es'.take j).filter fun e => !fitsN k bs e).map fun _ => (1 : Int)).map V.int)))
                      ⟨same_upd nR, upd_same⟩ (fun j H' _ h => SqT.of (h.1 _ _ hpx)) ?_ ?_⟩
                    · rintro j y H' hy ⟨s2, hR⟩
                      obtain ⟨dy, hdy, gy⟩ := hes.get hy
                      have my := List.mem_of_getElem? hdy
                      have st := filter_take_succ (p := fun e => !fitsN k bs e) hdy
                      refine ⟨rfl, _, rfl, _, rfl, D, m, y, b, dy, bs, k, rfl, dr1.sm s2, gy.sm s2, ⟨short_get sE dy my, fun _ => lay_mem layE dy my, by have := depth_mem my; omega, by have := weight_mem my; omega⟩, by omega, by omega, s2 _ _ hb1, bnd, by omega, fun H'' s3 => ⟨_, rfl, ?_⟩⟩
                      have hR3 := s3 _ _ hR
                      have s13 : Same H1 H'' := fun b o e => s3 b o (s2 b o e)
                      cases ef : fitsN k bs dy with
                      | true =>
                        rw [if_neg (by rw [ef]; decide), List.append_nil] at st
                        refine iteF ⟨s13, ?_⟩
                        rw [st]
                        exact hR3
                      | false =>
                        rw [if_pos (by rw [ef]; rfl)] at st
                        refine iteT ⟨_, hR3, ?_, same_put s13 nR, ?_⟩
                        · rw [List.length_map, List.length_map]
                          refine Nat.lt_of_le_of_lt (List.length_filter_le _ _) ?_
                          rw [List.length_take, sizeLine_eq]
                          omega
                        · rw [st, List.map_append, List.map_append]
                          exact upd_same
                    · rintro H' ⟨s2, hR⟩
                      rw [les, List.take_length] at hR
                      refine ⟨Nat.zero_le _, fun Z nZ => ?_⟩
                      have s3 : Same H1 (upd H' Z (.lst [])) := same_put s2 (none_of s2 nZ)
                      have q := q _ fun b o e => s3 b o (s1 b o e)
                      rw [en, ← all_filter] at q
                      refine ⟨_, _, .lst (SqL.of (same_upd nZ _ _ hR)) (dp_ints _), .lst (SqL.of upd_same) .nil, shaped_ints _, by decide +kernel, ?_⟩
                      rw [eqv_ints_nil]
                      exact q
              · rw [decide_eq_false (by omega)]
                exact iteT (no s1 (by rw [en]; exact allF_len l4))
            | false =>
              have en : fitsN (k + 1) bs (.tuple (.str t :: dr')) = (if decide (t = "some") || decide (t = "all") then twoF (bindsD bs) (fun ss => fitsN k (bs ++ ss)) dr' else false) := by rw [en, eao, decide_eq_false tn]; rfl
              refine iteF ⟨_, rfl, p, _, 0, .str t, rfl, rfl, SqT.of hp1, atI_nat (j := 0) rfl, (by show 2 ≤ sizeLine; decide), fun t2 n2 => ?_⟩
              have s2 := same_upd (o := .tup [.str "some", .str "all"]) n2
              have ht2 : (upd H1 t2 (.tup [.str "some", .str "all"])) t2 = some (.tup [.str "some", .str "all"]) := upd_same
              have s12 : Same H (upd H1 t2 (.tup [.str "some", .str "all"])) := fun b o e => s2 b o (s1 b o e)
              have dr2 := dr1.sm s2
              have hp2 := s2 _ _ hp1
              have har2 := har1.sm s2
              have hb2 := s2 _ _ hb1
              generalize upd H1 t2 (.tup [.str "some", .str "all"]) = H2 at *
              refine ⟨t2, _, rfl, .inr (SqT.of ht2), rfl, rfl, _, rfl, ?_⟩
              rw [if_pos rfl, in_two]
              cases esa : (decide (t = "some") || decide (t = "all")) with
              | false => exact iteT (no s12 (by rw [en, esa]; rfl))
              | true =>
                have en : fitsN (k + 1) bs (.tuple (.str t :: dr')) = twoF (bindsD bs) (fun ss => fitsN k (bs ++ ss)) dr' := by rw [en, esa]; rfl
                refine iteF ⟨_, rfl, p, _, rfl, .inr (SqT.of hp2), rfl, _, rfl, ?_⟩
                rw [dec_int, lenX, show (3 : Int) = ((3 : Nat) : Int) from rfl, beq_len]
                by_cases l4 : dr'.length = 2
                · obtain ⟨dn, dx, rfl⟩ : ∃ dn dx, dr' = [dn, dx] := by
                    match dr', l4 with
                    | [dn, dx], _ => exact ⟨dn, dx, rfl⟩
                  rw [decide_eq_true (show [dn, dx].length + 1 = 3 from rfl)]
                  cases har2 with
                  | @cons vn _ _ _ hn har2 => cases har2 with
                  | @cons vx _ _ _ hx har2 =>
                    cases har2
                    have mn : dn ∈ [PyData.str t, dn, dx] := by simp
                    have mx : dx ∈ [PyData.str t, dn, dx] := by simp
                    have en : fitsN (k + 1) bs (.tuple [.str t, dn, dx]) = (bindsD bs dn && fitsN k (bs ++ strsD dn) dx) := en
                    have nb : ∀ {H' : Hp}, Same H H' → bindsD bs dn = false → Q (.bl false) H' := fun s z => no s (by rw [en, z]; rfl)
                    refine iteF ⟨_, rfl, p, _, 1, vn, rfl, rfl, SqT.of hp2, atI_nat (j := 1) rfl, vn, .ty "tuple", _, _, isTup dn, rfl, .ty "tuple", hn.ty, kit_tup K dn, isTup dn, rfl, ?_⟩
                    cases ex : isTup dn with
                    | false => exact iteT (nb s12 (by cases dn <;> first | rfl | cases ex))
                    | true =>
                      obtain ⟨pn, ys, ns, rfl, rfl, hpn, o1, o2, hns⟩ := hn.tupOf ex
                      have les := hns.length
                      have sN : shortAll ns = true := sm _ mn
                      have eB : bindsD bs (.tuple ns) = (decide ((1 : Int) ≤ (ns.length : Nat)) && decide (((ns.length : Nat) : Int) ≤ 4) && bindsL bs [] ns) := rfl
                      refine iteF ⟨_, rfl, p, _, 1, .ref pn, rfl, rfl, SqT.of hp2, atI_nat (j := 1) rfl, pn, ys, rfl, .inr (SqT.of hpn), rfl, _, rfl, ?_⟩
                      rw [dec_int, les, show (0 : Int) = ((0 : Nat) : Int) from rfl, beq_len]
                      by_cases l0 : ns.length = 0
                      · rw [decide_eq_true l0]
                        exact iteT (nb s12 (by rw [eB, l0]; rfl))
                      · rw [decide_eq_false l0]
                        refine iteF ⟨_, rfl, p, _, 1, .ref pn, rfl, rfl, SqT.of hp2, atI_nat (j := 1) rfl, pn, ys, rfl, .inr (SqT.of hpn), _, _, rfl, rfl, _, rfl, ?_⟩
                        by_cases l5 : ns.length ≤ 4
                        · have g4 : ¬ (4 : Int) < (ys.length : Nat) := by omega
                          rw [decide_eq_false g4]
                          have eB : bindsD bs (.tuple ns) = bindsL bs [] ns := by
                            rw [eB, decide_eq_true (by omega : (1 : Int) ≤ (ns.length : Nat)), decide_eq_true (by omega : ((ns.length : Nat) : Int) ≤ 4)]
                            rfl
                          refine iteF ⟨_, rfl, b, _, rfl, .inl (SqL.of hb2), fun f nf => ?_⟩
                          have s3 := same_upd (o := .lst (bs.map V.str)) nf
                          have hf : (upd H2 f (.lst (bs.map V.str))) f = some (.lst (bs.map V.str)) := upd_same
                          generalize upd H2 f (.lst (bs.map V.str)) = H3 at *
                          refine ⟨_, rfl, p, _, 1, .ref pn, rfl, rfl, SqT.of (s3 _ _ hp2), atI_nat (j := 1) rfl, pn, rfl, ⟨_, SqT.of (s3 _ _ hpn)⟩, for_tup (K := K) (a := pn) (xs := ys) (fun i σ H' => Same H2 H' ∧ (∃ before : List Str, ns.take i = before.map PyData.str ∧ bindsL bs [] ns = bindsL bs before (ns.drop i) ∧ H' f = some (.lst ((bs ++ before).map V.str))) ∧ ∃ x3 x4, σ = [some (.ref p), some (.ref b), some (.ref f), x3, x4])
                            ⟨s3, ⟨[], rfl, rfl, by rw [List.append_nil]; exact hf⟩, none, none, rfl⟩ (fun i σ H' _ z => SqT.of (z.1 _ _ hpn)) ?_ ?_⟩
                          · rintro i y σ H' hy ⟨s4, ⟨before, k1, k2, hf'⟩, x3, x4, rfl⟩
                            obtain ⟨dy, hdy, gy⟩ := hns.get hy
                            have s14 : Same H H' := fun b o e => s4 b o (s12 b o e)
                            have sy := short_get sN dy (List.mem_of_getElem? hdy)
                            have hi' : i < ns.length := (List.getElem?_eq_some_iff.mp hdy).1
                            have hdr : ns.drop i = dy :: ns.drop (i + 1) := by
                              rw [List.drop_eq_getElem_cons hi']
                              have := (List.getElem?_eq_some_iff.mp hdy).2
                              rw [this]
                            rw [hdr] at k2
                            have lb : before.length ≤ 4 := by
                              have := congrArg List.length k1
                              rw [List.length_take, List.length_map] at this
                              omega
                            refine ⟨_, rfl, D, y, dy, rfl, gy.sm s4, sy, _, rfl, ?_⟩
                            cases es' : saidNameD dy with
                            | false => exact iteT (nb s14 (by rw [eB, k2]; exact bindsL_no (by show (saidNameD dy && bigD dy) = false; rw [es']; rfl)))
                            | true =>
                              obtain ⟨z, c, r, rfl, ez⟩ := said_str es'
                              obtain rfl : y = .str z := by cases gy; rfl
                              refine iteF ⟨_, rfl, z, c, r, rfl, short_str sy, ez, _, rfl, ?_⟩
                              cases eb : bigD (.str z) with
                              | false => exact iteT (nb s14 (by rw [eB, k2]; exact bindsL_no (by show (saidNameD (.str z) && bigD (.str z)) = false; rw [eb, Bool.and_false])))
                              | true =>
                                have ebn : boundNameD (.str z) = true := by show (saidNameD (.str z) && bigD (.str z)) = true; rw [es', eb]; rfl
                                have k2 : bindsL bs [] ns = (boundNameD (.str z) && !decide (z ∈ bs) && !decide (z ∈ before) && bindsL bs (before ++ [z]) (ns.drop (i + 1))) := k2
                                rw [ebn, Bool.true_and] at k2
                                refine iteF ⟨_, rfl, _, rfl, f, _, rfl, .inl (SqL.of hf'), rfl, flat_strs _, _, rfl, ?_⟩
                                rw [if_neg (by decide), in_strs]
                                by_cases hm : z ∈ bs ++ before
                                · rw [decide_eq_true hm]
                                  refine iteT (nb s14 ?_)
                                  rw [eB, k2]
                                  rcases List.mem_append.mp hm with h | h
                                  · rw [decide_eq_true h]; rfl
                                  · rw [decide_eq_true h]; simp
                                · rw [decide_eq_false hm]
                                  have m1 : z ∉ bs := fun h => hm (List.mem_append_left _ h)
                                  have m2 : z ∉ before := fun h => hm (List.mem_append_right _ h)
                                  rw [decide_eq_false m1, decide_eq_false m2] at k2
                                  refine iteF ⟨_, rfl, .inl ⟨rfl, _, SqL.of hf'⟩, _, rfl, f, _, _, rfl, rfl, hf', ?_, same_put s4 nf, ⟨before ++ [z], ?_, k2, ?_⟩, _, _, rfl⟩
                                  · rw [List.length_map, List.length_append]
                                    exact Nat.lt_of_le_of_lt (show bs.length + before.length ≤ 2000 by omega) (by rw [sizeLine_eq]; decide)
                                  · rw [List.take_add_one, k1, hdy, List.map_append]
                                    rfl
                                  · rw [upd_same, ← List.append_assoc, List.map_append (l₂ := [z])]
                                    rfl
                          · rintro σ H' ⟨s4, ⟨before, k1, k2, hf'⟩, x3, x4, rfl⟩
                            have s14 : Same H H' := fun b o e => s4 b o (s12 b o e)
                            rw [les, List.take_length] at k1
                            rw [les, List.drop_length] at k2
                            have eB1 : bindsD bs (.tuple ns) = true := by rw [eB, k2]; rfl
                            have est : strsD (.tuple ns) = before := by
                              show ns.filterMap unS = before
                              rw [k1, strs_back]
                            have bnd2 := bnd_app bnd eB1
                            rw [est] at bnd2
                            rw [eB1, Bool.true_and, est] at en
                            have lb : before.length ≤ 4 := by
                              have := congrArg List.length k1
                              rw [List.length_map] at this
                              omega
                            refine ⟨_, rfl, p, _, 2, vx, rfl, rfl, SqT.of (s4 _ _ hp2), atI_nat (j := 2) rfl, _, rfl, D, m, vx, f, dx, bs ++ before, k, rfl, dr2.sm s4, hx.sm s4, ask dx mx, by omega, by omega, hf', bnd2, by rw [List.length_append]; omega, fun H'' s5 => ?_⟩
                            have q := q H'' fun b o e => s5 b o (s14 b o e)
                            rw [en] at q
                            exact q
                        · have g4 : (4 : Int) < (ys.length : Nat) := by omega
                          rw [decide_eq_true g4]
                          exact iteT (nb s12 (by rw [eB, decide_eq_false (by omega : ¬ ((ns.length : Nat) : Int) ≤ 4), Bool.and_false]; rfl))
                · rw [decide_eq_false (by omega)]
                  exact iteT (no s12 (by rw [en]; exact twoF_len l4))
end
end Lm
/-! _law_many_bound. -/
namespace Lm
open PySem PySem.Spec PyProof.Rows L2
theorem sum_bound {k : Nat} : ∀ es : List PyData, (es.map fun e => (((boundN k e).length : Nat) : Int)).sum = (((es.map (boundN k)).flatten.length : Nat) : Int)
  | [] => rfl
  | e :: r => by
    rw [List.map_cons, List.sum_cons, sum_bound r, List.map_cons, List.flatten_cons, List.length_append]
    omega
section
variable {P : Program} {w : World} {K : PySem.W.Frag} {mg : Str → Option Value} {base : Heap}
abbrev sMB : Stmt := topS 55
def nMB : List Str := ["said_v", "item"]
theorem scMB : FnScope nMB ["said_v"] (defScope sMB) := ⟨rfl, rfl, rfl, by decide +kernel, rfl, by decide +kernel, by decide +kernel⟩
def spMB (n : Nat) : Sp := fun vs H Q _ => ∃ (D : DrA) (m : Nat) (v : V) (d : PyData) (bs : List Str) (k : Nat), vs = [v] ∧ DrawAt D m H ∧ Da D H v d ∧ fitsN k bs d = true ∧ d.weight ≤ 20000 ∧ k ≤ n ∧ ∀ H', Same H H' → Q (.int ((boundN k d).length : Nat)) H'
def spMBBelow : Nat → Sp
  | 0 => fun _ _ _ _ => False
  | n + 1 => spMB n
theorem cr_sumK {X : Cx} (K : PySem.W.Frag) (hc : X.calm = true) (hK : X.K = K := by rfl) : CallR X (.builtin "sum") (rSum K) := hK ▸ cr_sum hc
theorem ok_mb_no {f : Addr} {fd : FuncData} (F : Fun K "_law_many_bound" "_law_many_bound" sMB f fd) (j : Nat) : FnOk P w K mg base CX0 (j + 1) f fd ["said_v"] (spMBBelow 0) :=
  F.ok scMB (fun vs H Q E h => h.elim) (fun cdv A outer s H vs Q E hr h => h.elim)
theorem ok_mb {f : Addr} {fd : FuncData} (F : Fun K "_law_many_bound" "_law_many_bound" sMB f fd) (N : Bl mg) (bsum : mg "sum" = none) (n : Nat) (GM : Has P w K mg base CX0 (n + 4) "_law_many_bound" ["said_v"] (spMBBelow n)) : FnOk P w K mg base CX0 (n + 5) f fd ["said_v"] (spMB n) := by
  refine F.ok scMB (fun vs H Q E h => ?_) (fun cdv A outer s H vs Q E hr h => ?_)
  · obtain ⟨D, m, v, d, bs, k, rfl, _⟩ := h
    rfl
  · obtain ⟨D, m, v, d, bs, k, rfl, dr, hd, fit, wt, hk, q⟩ := h
    refine ⟨_, pss_cons (ps_if (pt_cmpR op_eq (pe_ix ix_tup (pv 0) pe_int (fun _ _ => rfl)) pe_str (nomark _)) (pss_one (ps_ret pe_int)) pss_nil)
      (pss_cons (ps_if (pt_cmpR (show OpR _ _ (rIn K false) from op_in_seq) (pe_ix ix_tup (pv 0) pe_int (fun _ _ => rfl)) (pe_tup (pa_cons pe_str (pa_cons pe_str pa_nil))) (by rfl))
        (pss_one (ps_ret (pe_callB (cr_sumK K rfl) (by rfl) bsum (by decide +kernel) (pa_cons (pe_lc (own := [("item", 1)]) (g := gName 1) (tt := tYes) rfl scMB.nd (pi_tupK K (pe_ix ix_tup (pv 0) pe_int (fun _ _ => rfl))) (blkOk_by (own := [("item", 1)]) (N := nMB) (sc := defScope sMB) (by decide +kernel)) (fun _ _ _ _ _ => pg_name (i := 1) scMB.nd rfl (Or.inl rfl))
            (fun _ _ _ _ _ => pts_nil) (fun _ _ _ _ _ => pe_h GM (hr.mono (Nat.le_refl (n + 4))) (by omega) (by rfl) pass0 (pa_cons (pv 1) pa_nil))) pa_nil)))) pss_nil)
      (pss_one (ps_ret (pe_op op_add (pe_h GM hr (by omega) (by rfl) pass0 (pa_cons (pe_ix ix_tup (pv 0) (pe_un un_neg pe_int) (fun _ _ => rfl)) pa_nil))
        (pe_ifExp (pt_cmpR (show OpR _ _ (rIn K false) from op_in_seq) (pe_ix ix_tup (pv 0) pe_int (fun _ _ => rfl)) (pe_tup (pa_cons pe_str (pa_cons pe_str pa_nil))) (by rfl)) (pe_callB call_len_seq (by rfl) N.blen PySem.boot_len (pa_cons (pe_ix ix_tup (pv 0) pe_int (fun _ _ => rfl)) pa_nil)) pe_int))))), ?_⟩
    obtain ⟨k, rfl⟩ : ∃ k', k = k' + 1 := by
      cases k with
      | zero => cases d <;> cases fit
      | succ k => exact ⟨k, rfl⟩
    obtain ⟨n, rfl⟩ : ∃ n', n = n' + 1 := ⟨n - 1, by omega⟩
    cases said_cases fit with
    | @row a b c hrow =>
      obtain ⟨p, xs, ds, rfl, ed, hp, pd, pw, ha⟩ := hd.tupOf rfl
      injection ed with ed
      subst ed
      cases ha with
      | @cons vw _ _ _ hw ha =>
        obtain rfl : vw = .str "row" := by cases hw; rfl
        refine ⟨_, rfl, p, _, 0, _, rfl, rfl, SqT.of hp, atI_nat (j := 0) rfl, rfl, _, rfl, ?_⟩
        rw [decide_eq_true rfl]
        exact iteT (q H fun _ _ z => z)
    | @many w es hww hes =>
      obtain ⟨p, xs, ds, rfl, ed, hp, pd, pw, ha⟩ := hd.tupOf rfl
      injection ed with ed
      subst ed
      cases ha with
      | @cons vw _ _ _ hw ha => cases ha with
      | @cons vx _ _ _ h1 ha =>
        cases ha
        obtain rfl : vw = .str w := by cases hw; rfl
        obtain ⟨px, ys, _, rfl, ed, hpx, o1, o2, hys⟩ := h1.tupOf rfl
        injection ed with ed
        subst ed
        have n1 : w ≠ "row" := by rcases hww with rfl | rfl <;> decide
        have ew : (decide (w = "and") || decide (w = "or")) = true := by rcases hww with rfl | rfl <;> decide
        have wE : PyData.weightAll es ≤ 20000 := by
          simp only [PyData.weight, PyData.weightAll] at wt
          omega
        refine ⟨_, rfl, p, _, 0, _, rfl, rfl, SqT.of hp, atI_nat (j := 0) rfl, rfl, _, rfl, ?_⟩
        rw [dec_ne n1]
        refine iteF ⟨_, rfl, p, _, 0, _, rfl, rfl, SqT.of hp, atI_nat (j := 0) rfl, (by show 2 ≤ sizeLine; decide), fun t nt => ?_⟩
        have s1 := same_upd (o := .tup [.str "and", .str "or"]) nt
        have ht : (upd H t (.tup [.str "and", .str "or"])) t = some (.tup [.str "and", .str "or"]) := upd_same
        generalize upd H t (.tup [.str "and", .str "or"]) = H1 at *
        refine ⟨t, _, rfl, .inr (SqT.of ht), rfl, rfl, _, rfl, ?_⟩
        rw [if_neg (by decide), in_two, ew]
        refine iteT ⟨_, rfl, p, _, 1, .ref px, rfl, rfl, SqT.of (s1 _ _ hp), atI_nat (j := 1) rfl, px, rfl, ⟨_, SqT.of (s1 _ _ hpx)⟩, fun R nR => lc_tup (K := K) (a := px) (xs := ys) (fun j H' => Same H1 H' ∧ H' R = some (.lst (((es.take j).map fun e => (((boundN k e).length : Nat) : Int)).map V.int))) ⟨same_upd nR, upd_same⟩ (fun j H' _ h => SqT.of (h.1 _ _ (s1 _ _ hpx))) ?_ ?_⟩
        · rintro j y H' hy ⟨s2, hR⟩
          obtain ⟨dy, hdy, gy⟩ := hys.get hy
          have my := List.mem_of_getElem? hdy
          have wy := weight_mem my
          have lE := weight_len (ds := es)
          have s12 : Same H H' := fun b o e => s2 b o (s1 b o e)
          refine ⟨rfl, _, rfl, D, m, y, dy, bs, k, rfl, dr.sm s12, gy.sm s12, hes dy my, by omega, by omega, fun H'' s3 => ?_⟩
          refine ⟨_, s3 _ _ hR, ?_, same_put (fun b o e => s3 b o (s2 b o e)) nR, ?_⟩
          · rw [List.length_map, List.length_map, List.length_take]
            exact Nat.lt_of_le_of_lt (Nat.min_le_right _ _) (by rw [sizeLine_eq]; omega)
          · rw [List.take_add_one, hdy, List.map_append, List.map_append]
            exact upd_same
        · rintro H' ⟨s2, hR⟩
          rw [hys.length, List.take_length] at hR
          have q := q H' fun b o e => s2 b o (s1 b o e)
          rw [bound_many hww] at q
          refine ⟨R, _, rfl, SqL.of hR, ?_⟩
          rw [sum_bound]
          exact q
    | @no x hx =>
      obtain ⟨p, xs, ds, rfl, ed, hp, pd, pw, ha⟩ := hd.tupOf rfl
      injection ed with ed
      subst ed
      cases ha with
      | @cons vw _ _ _ hw ha => cases ha with
      | @cons vx _ _ _ h1 ha =>
        cases ha
        obtain rfl : vw = .str "not" := by cases hw; rfl
        have wx : x.weight ≤ 20000 := by
          simp only [PyData.weight, PyData.weightAll] at wt
          omega
        refine ⟨_, rfl, p, _, 0, _, rfl, rfl, SqT.of hp, atI_nat (j := 0) rfl, rfl, _, rfl, ?_⟩
        rw [dec_ne (by decide)]
        refine iteF ⟨_, rfl, p, _, 0, _, rfl, rfl, SqT.of hp, atI_nat (j := 0) rfl, (by show 2 ≤ sizeLine; decide), fun t nt => ?_⟩
        have s1 := same_upd (o := .tup [.str "and", .str "or"]) nt
        have ht : (upd H t (.tup [.str "and", .str "or"])) t = some (.tup [.str "and", .str "or"]) := upd_same
        generalize upd H t (.tup [.str "and", .str "or"]) = H1 at *
        refine ⟨t, _, rfl, .inr (SqT.of ht), rfl, rfl, _, rfl, ?_⟩
        rw [if_neg (by decide), in_two]
        refine iteF ⟨_, rfl, 1, rfl, p, _, -1, vx, rfl, rfl, SqT.of (s1 _ _ hp), atI_last [.str "not"] vx, D, m, vx, x, bs, k, rfl, dr.sm s1, h1.sm s1, hx, wx, by omega, fun H2 s2 => ?_⟩
        have s12 : Same H H2 := fun b o e => s2 b o (s1 b o e)
        refine ⟨_, rfl, p, _, 0, _, rfl, rfl, SqT.of (s12 _ _ hp), atI_nat (j := 0) rfl, (by show 2 ≤ sizeLine; decide), fun t2 nt2 => ?_⟩
        have s3 := same_upd (o := .tup [.str "some", .str "all"]) nt2
        refine ⟨t2, _, rfl, .inr (SqT.of upd_same), rfl, rfl, _, rfl, ?_⟩
        rw [if_neg (by decide), in_two]
        refine iteF ⟨_, _, rfl, rfl, ?_⟩
        have q := q _ fun b o e => s3 b o (s12 b o e)
        rw [bound_no] at q
        show Q (.int (((boundN k x).length : Nat) + 0)) _
        rw [Int.add_zero]
        exact q
    | @bind w ns x hww hns hx =>
      obtain ⟨p, xs, ds, rfl, ed, hp, pd, pw, ha⟩ := hd.tupOf rfl
      injection ed with ed
      subst ed
      cases ha with
      | @cons vw _ _ _ hw ha => cases ha with
      | @cons vn _ _ _ hn ha => cases ha with
      | @cons vx _ _ _ h1 ha =>
        cases ha
        obtain rfl : vw = .str w := by cases hw; rfl
        obtain ⟨pn, ss, rfl, hpn, es, l4⟩ := binds_strs hn hns
        have n1 : w ≠ "row" := by rcases hww with rfl | rfl <;> decide
        have n2 : w ≠ "and" := by rcases hww with rfl | rfl <;> decide
        have n3 : w ≠ "or" := by rcases hww with rfl | rfl <;> decide
        have ew : (decide (w = "some") || decide (w = "all")) = true := by rcases hww with rfl | rfl <;> decide
        have wx : x.weight ≤ 20000 := by
          simp only [PyData.weight, PyData.weightAll] at wt
          omega
        refine ⟨_, rfl, p, _, 0, _, rfl, rfl, SqT.of hp, atI_nat (j := 0) rfl, rfl, _, rfl, ?_⟩
        rw [dec_ne n1]
        refine iteF ⟨_, rfl, p, _, 0, _, rfl, rfl, SqT.of hp, atI_nat (j := 0) rfl, (by show 2 ≤ sizeLine; decide), fun t nt => ?_⟩
        have s1 := same_upd (o := .tup [.str "and", .str "or"]) nt
        have ht : (upd H t (.tup [.str "and", .str "or"])) t = some (.tup [.str "and", .str "or"]) := upd_same
        generalize upd H t (.tup [.str "and", .str "or"]) = H1 at *
        refine ⟨t, _, rfl, .inr (SqT.of ht), rfl, rfl, _, rfl, ?_⟩
        rw [if_neg (by decide), in_two, decide_eq_false n2, decide_eq_false n3]
        refine iteF ⟨_, rfl, 1, rfl, p, _, -1, vx, rfl, rfl, SqT.of (s1 _ _ hp), atI_last [.str w, .ref pn] vx, D, m, vx, x, _, k, rfl, dr.sm s1, h1.sm s1, hx, wx, by omega, fun H2 s2 => ?_⟩
        have s12 : Same H H2 := fun b o e => s2 b o (s1 b o e)
        refine ⟨_, rfl, p, _, 0, _, rfl, rfl, SqT.of (s12 _ _ hp), atI_nat (j := 0) rfl, (by show 2 ≤ sizeLine; decide), fun t2 nt2 => ?_⟩
        have s3 := same_upd (o := .tup [.str "some", .str "all"]) nt2
        have s13 : Same H (upd H2 t2 (.tup [.str "some", .str "all"])) := fun b o e => s3 b o (s12 b o e)
        have ht2 : (upd H2 t2 (.tup [.str "some", .str "all"])) t2 = some (.tup [.str "some", .str "all"]) := upd_same
        generalize upd H2 t2 (.tup [.str "some", .str "all"]) = H3 at *
        refine ⟨t2, _, rfl, .inr (SqT.of ht2), rfl, rfl, _, rfl, ?_⟩
        rw [if_neg (by decide), in_two, ew]
        refine iteT ⟨_, rfl, p, _, 1, .ref pn, rfl, rfl, SqT.of (s13 _ _ hp), atI_nat (j := 1) rfl, pn, _, rfl, .inr (SqT.of (s13 _ _ hpn)), _, _, rfl, rfl, ?_⟩
        have q := q _ s13
        rw [bound_bind, es, List.length_append] at q
        rw [List.length_map]
        show Q (.int (((boundN k x).length : Nat) + ((ss.length : Nat) : Int))) _
        rw [show (((boundN k x).length : Nat) : Int) + ((ss.length : Nat) : Int) = ((ss.length + (boundN k x).length : Nat) : Int) by omega]
        exact q
end
end Lm
/-! _law_rows_said. -/
namespace Lm
open PySem PySem.Spec PyProof.Rows L2
/-- the rows of a saying, in its order -/
def rowsN : Nat → PyData → List PyData
  | _ + 1, .tuple [_, a, b, c] => [.tuple [a, b, c]]
  | n + 1, .tuple [.str w, x] => if w = "not" then rowsN n x else (match x with | .tuple ds => (ds.map (rowsN n)).flatten | _ => [])
  | n + 1, .tuple [_, _, x] => rowsN n x
  | _, _ => []
theorem rows_row {n : Nat} {w a b c : PyData} : rowsN (n + 1) (.tuple [w, a, b, c]) = [.tuple [a, b, c]] := rfl
theorem rows_no {n : Nat} {x : PyData} : rowsN (n + 1) (.tuple [.str "not", x]) = rowsN n x := rfl
theorem rows_many {n : Nat} {w : Str} {ds : List PyData} (h : w = "and" ∨ w = "or") : rowsN (n + 1) (.tuple [.str w, .tuple ds]) = (ds.map (rowsN n)).flatten := by
  rcases h with rfl | rfl <;> rfl
theorem rows_bind {n : Nat} {w ns x : PyData} : rowsN (n + 1) (.tuple [w, ns, x]) = rowsN n x := rfl
theorem rows_len : ∀ (n : Nat) (bs : List Str) (d : PyData), fitsN n bs d = true → (rowsN n d).length ≤ d.weight
  | 0, bs, d, h => by cases d <;> cases h
  | n + 1, bs, d, h => by
    cases said_cases h with
    | row _ =>
      rw [rows_row]
      simp only [PyData.weight, PyData.weightAll, List.length_cons, List.length_nil]
      omega
    | many hw hs =>
      rename_i w ds
      rw [rows_many hw]
      have key : ∀ es : List PyData, (∀ e ∈ es, fitsN n bs e = true) → ((es.map (rowsN n)).flatten).length ≤ PyData.weightAll es := by
        intro es
        induction es with
        | nil => exact fun _ => Nat.zero_le _
        | cons e r ih =>
          intro he
          have h1 := rows_len n bs e (he e (List.mem_cons_self ..))
          have h2 := ih fun y hy => he y (List.mem_cons_of_mem _ hy)
          rw [List.map_cons, List.flatten_cons, List.length_append]
          simp only [PyData.weightAll]
          omega
      have := key ds hs
      simp only [PyData.weight, PyData.weightAll]
      omega
    | no hx =>
      rw [rows_no]
      have := rows_len n bs _ hx
      simp only [PyData.weight, PyData.weightAll]
      omega
    | bind hw hn hx =>
      rw [rows_bind]
      have := rows_len n _ _ hx
      simp only [PyData.weight, PyData.weightAll]
      omega
theorem rows_flat {n : Nat} {bs : List Str} : ∀ {es : List PyData}, (∀ e ∈ es, fitsN n bs e = true) → ((es.map (rowsN n)).flatten).length ≤ PyData.weightAll es
  | [], _ => Nat.zero_le _
  | e :: r, he => by
    have h1 := rows_len n bs e (he e (List.mem_cons_self ..))
    have h2 := rows_flat (es := r) fun y hy => he y (List.mem_cons_of_mem _ hy)
    rw [List.map_cons, List.flatten_cons, List.length_append]
    simp only [PyData.weightAll]
    omega
section
variable {P : Program} {w : World} {K : PySem.W.Frag} {mg : Str → Option Value} {base : Heap}
abbrev sRS : Stmt := topS 54
def nRS : List Str := ["said_v", "found", "item"]
theorem scRS : FnScope nRS ["said_v"] (defScope sRS) := ⟨rfl, rfl, rfl, by decide +kernel, rfl, by decide +kernel, by decide +kernel⟩
def spRS (n : Nat) : Sp := fun vs H Q _ => ∃ (D : DrA) (m : Nat) (v : V) (d : PyData) (bs : List Str) (k : Nat), vs = [v] ∧ DrawAt D m H ∧ Da D H v d ∧ fitsN k bs d = true ∧ d.weight ≤ 20000 ∧ k ≤ n ∧
  ∀ (H' : Hp) (R : Addr) (xs : List V), H' R = some (.lst xs) → R ≠ D.d → R ≠ D.w → DaAll D H' xs (rowsN k d) → Same H H' → Q (.ref R) H'
def spRSBelow : Nat → Sp
  | 0 => fun _ _ _ _ => False
  | n + 1 => spRS n
theorem ok_rs_no {f : Addr} {fd : FuncData} (F : Fun K "_law_rows_said" "_law_rows_said" sRS f fd) (j : Nat) : FnOk P w K mg base CX0 (j + 1) f fd ["said_v"] (spRSBelow 0) :=
  F.ok scRS (fun vs H Q E h => h.elim) (fun cdv A outer s H vs Q E hr h => h.elim)
theorem ok_rs {f : Addr} {fd : FuncData} (F : Fun K "_law_rows_said" "_law_rows_said" sRS f fd) (n : Nat) (GM : Has P w K mg base CX0 (n + 4) "_law_rows_said" ["said_v"] (spRSBelow n)) : FnOk P w K mg base CX0 (n + 5) f fd ["said_v"] (spRS n) := by
  refine F.ok scRS (fun vs H Q E h => ?_) (fun cdv A outer s H vs Q E hr h => ?_)
  · obtain ⟨D, m, v, d, bs, k, rfl, _⟩ := h
    rfl
  · obtain ⟨D, m, v, d, bs, k, rfl, dr, hd, fit, wt, hk, q⟩ := h
    refine ⟨_, pss_cons (ps_if (pt_cmpR op_eq (pe_ix ix_tup (pv 0) pe_int (fun _ _ => rfl)) pe_str (nomark _)) (pss_one (ps_ret (pe_lst (pa_cons (pe_slice sl_tupA (pv 0) (po_some pe_int) po_none) pa_nil)))) pss_nil)
      (pss_cons (ps_if (pt_cmpR (show OpR _ _ (rIn K false) from op_in_seq) (pe_ix ix_tup (pv 0) pe_int (fun _ _ => rfl)) (pe_tup (pa_cons pe_str (pa_cons pe_str pa_nil))) (by rfl))
        (pss_cons (ps_set (i := 1) scRS.nd rfl (.inl rfl) (pe_lst pa_nil))
        (pss_cons (ps_for PassesOwn.never rfl (pi_tupK K (pe_ix ix_tup (pv 0) pe_int (fun _ _ => rfl))) (pg_name (i := 2) scRS.nd rfl (.inl rfl)) (pss_one (ps_set (i := 1) scRS.nd rfl (.inl rfl) (pe_op op_cat (pv 1) (pe_h GM hr (by omega) (by rfl) pass0 (pa_cons (pv 2) pa_nil))))))
        (pss_one (ps_ret (pv 1))))) pss_nil)
      (pss_one (ps_ret (pe_h GM hr (by omega) (by rfl) pass0 (pa_cons (pe_ix ix_tup (pv 0) (pe_un un_neg pe_int) (fun _ _ => rfl)) pa_nil))))), ?_⟩
    obtain ⟨k, rfl⟩ : ∃ k', k = k' + 1 := by
      cases k with
      | zero => cases d <;> cases fit
      | succ k => exact ⟨k, rfl⟩
    obtain ⟨n, rfl⟩ : ∃ n', n = n' + 1 := ⟨n - 1, by omega⟩
    cases said_cases fit with
    | @row a b c hrow =>
      obtain ⟨p, xs, ds, rfl, ed, hp, pd, pw, ha⟩ := hd.tupOf rfl
      injection ed with ed
      subst ed
      cases ha with
      | @cons vw xr _ _ hw ha =>
        obtain rfl : vw = .str "row" := by cases hw; rfl
        refine ⟨_, rfl, p, _, 0, _, rfl, rfl, SqT.of hp, atI_nat (j := 0) rfl, rfl, _, rfl, ?_⟩
        rw [decide_eq_true rfl]
        refine iteT ⟨_, rfl, 1, rfl, ?_⟩
        try unfold tNoPart
        refine slA_td dr hp pd pw (cut_from1 _ xr) ha fun H1 p1 s1 d1 h1 o1 o2 g1 => ⟨by show 1 ≤ sizeLine; decide, fun R nR => ?_⟩
        have s2 := same_upd (o := .lst [.ref p1]) nR
        refine q _ R _ upd_same (d1.off nR).1 (d1.off nR).2 (.cons (.tup (s2 _ _ h1) o1 o2 (g1.sm s2)) .nil) fun b o e => s2 b o (s1 b o e)
    | @many w es hww hes =>
      obtain ⟨p, xs, ds, rfl, ed, hp, pd, pw, ha⟩ := hd.tupOf rfl
      injection ed with ed
      subst ed
      cases ha with
      | @cons vw _ _ _ hw ha => cases ha with
      | @cons vx _ _ _ h1 ha =>
        cases ha
        obtain rfl : vw = .str w := by cases hw; rfl
        obtain ⟨px, ys, _, rfl, ed, hpx, o1, o2, hys⟩ := h1.tupOf rfl
        injection ed with ed
        subst ed
        have n1 : w ≠ "row" := by rcases hww with rfl | rfl <;> decide
        have ew : (decide (w = "and") || decide (w = "or")) = true := by rcases hww with rfl | rfl <;> decide
        have wE : PyData.weightAll es ≤ 20000 := by
          simp only [PyData.weight, PyData.weightAll] at wt
          omega
        refine ⟨_, rfl, p, _, 0, _, rfl, rfl, SqT.of hp, atI_nat (j := 0) rfl, rfl, _, rfl, ?_⟩
        rw [dec_ne n1]
        refine iteF ⟨_, rfl, p, _, 0, _, rfl, rfl, SqT.of hp, atI_nat (j := 0) rfl, (by show 2 ≤ sizeLine; decide), fun t nt => ?_⟩
        have s1 := same_upd (o := .tup [.str "and", .str "or"]) nt
        have ht : (upd H t (.tup [.str "and", .str "or"])) t = some (.tup [.str "and", .str "or"]) := upd_same
        have dr1 := dr.sm s1
        generalize upd H t (.tup [.str "and", .str "or"]) = H1 at *
        refine ⟨t, _, rfl, .inr (SqT.of ht), rfl, rfl, _, rfl, ?_⟩
        rw [if_neg (by decide), in_two, ew]
        refine iteT ⟨Nat.zero_le _, fun f nf => ?_⟩
        have s2 := same_upd (o := .lst []) nf
        have s12 : Same H (upd H1 f (.lst [])) := fun b o e => s2 b o (s1 b o e)
        have hf : (upd H1 f (.lst [])) f = some (.lst []) := upd_same
        have of := dr1.off nf
        generalize upd H1 f (.lst []) = H2 at *
        refine ⟨_, rfl, p, _, 1, .ref px, rfl, rfl, SqT.of (s12 _ _ hp), atI_nat (j := 1) rfl, px, rfl, ⟨_, SqT.of (s12 _ _ hpx)⟩, for_tup (K := K) (a := px) (xs := ys) (fun i σ H' => Same H H' ∧ ∃ (g : Addr) (zs : List V) (x2 : Option V), H' g = some (.lst zs) ∧ g ≠ D.d ∧ g ≠ D.w ∧ DaAll D H' zs (((es.take i).map (rowsN k)).flatten) ∧ σ = [some (.ref p), some (.ref g), x2])
          ⟨s12, f, [], none, hf, of.1, of.2, .nil, rfl⟩ (fun i σ H' _ z => SqT.of (z.1 _ _ hpx)) ?_ ?_⟩
        · rintro i y σ H' hy ⟨s3, g, zs, x2, hg, g1, g2, hz, rfl⟩
          obtain ⟨dy, hdy, gy⟩ := hys.get hy
          have my := List.mem_of_getElem? hdy
          have wy := weight_mem my
          refine ⟨_, rfl, _, rfl, D, m, y, dy, bs, k, rfl, dr.sm s3, gy.sm s3, hes dy my, by omega, by omega, fun H4 R us hR r1 r2 hu s4 => ?_⟩
          have s34 : Same H H4 := fun b o e => s4 b o (s3 b o e)
          refine ⟨g, R, zs, us, rfl, rfl, s4 _ _ hg, hR, ?_, fun L nL => ?_⟩
          · have l0 := hz.length
            have l0' := hu.length
            have l1 := rows_flat (n := k) (bs := bs) (es := es.take i) fun e he => hes e (List.mem_of_mem_take he)
            have l2 := weight_take es i
            have l3 := rows_len k bs dy (hes dy my)
            rw [sizeLine_eq]
            omega
          · have s5 := same_upd (o := .lst (zs ++ us)) nL
            have oL := (dr.sm s34).off nL
            refine ⟨fun b o e => s5 b o (s34 b o e), L, zs ++ us, _, upd_same, oL.1, oL.2, ?_, rfl⟩
            have e : ((es.take (i + 1)).map (rowsN k)).flatten = ((es.take i).map (rowsN k)).flatten ++ rowsN k dy := by
              rw [List.take_add_one, hdy, List.map_append, List.flatten_append]
              simp
            rw [e]
            exact ((hz.sm s4).sm s5).app (hu.sm s5)
        · rintro σ H' ⟨s3, g, zs, x2, hg, g1, g2, hz, rfl⟩
          rw [hys.length, List.take_length] at hz
          refine ⟨_, rfl, q H' g zs hg g1 g2 ?_ s3⟩
          rw [rows_many hww]
          exact hz
    | @no x hx =>
      obtain ⟨p, xs, ds, rfl, ed, hp, pd, pw, ha⟩ := hd.tupOf rfl
      injection ed with ed
      subst ed
      cases ha with
      | @cons vw _ _ _ hw ha => cases ha with
      | @cons vx _ _ _ h1 ha =>
        cases ha
        obtain rfl : vw = .str "not" := by cases hw; rfl
        have wx : x.weight ≤ 20000 := by
          simp only [PyData.weight, PyData.weightAll] at wt
          omega
        refine ⟨_, rfl, p, _, 0, _, rfl, rfl, SqT.of hp, atI_nat (j := 0) rfl, rfl, _, rfl, ?_⟩
        rw [dec_ne (by decide)]
        refine iteF ⟨_, rfl, p, _, 0, _, rfl, rfl, SqT.of hp, atI_nat (j := 0) rfl, (by show 2 ≤ sizeLine; decide), fun t nt => ?_⟩
        have s1 := same_upd (o := .tup [.str "and", .str "or"]) nt
        have ht : (upd H t (.tup [.str "and", .str "or"])) t = some (.tup [.str "and", .str "or"]) := upd_same
        generalize upd H t (.tup [.str "and", .str "or"]) = H1 at *
        refine ⟨t, _, rfl, .inr (SqT.of ht), rfl, rfl, _, rfl, ?_⟩
        rw [if_neg (by decide), in_two]
        exact iteF ⟨_, rfl, 1, rfl, p, _, -1, vx, rfl, rfl, SqT.of (s1 _ _ hp), atI_last [.str "not"] vx, D, m, vx, x, bs, k, rfl, dr.sm s1, h1.sm s1, hx, wx, by omega, fun H2 R us hR r1 r2 hu s2 => q H2 R us hR r1 r2 hu fun b o e => s2 b o (s1 b o e)⟩
    | @bind w ns x hww hns hx =>
      obtain ⟨p, xs, ds, rfl, ed, hp, pd, pw, ha⟩ := hd.tupOf rfl
      injection ed with ed
      subst ed
      cases ha with
      | @cons vw _ _ _ hw ha => cases ha with
      | @cons vn _ _ _ hn ha => cases ha with
      | @cons vx _ _ _ h1 ha =>
        cases ha
        obtain rfl : vw = .str w := by cases hw; rfl
        have n1 : w ≠ "row" := by rcases hww with rfl | rfl <;> decide
        have n2 : w ≠ "and" := by rcases hww with rfl | rfl <;> decide
        have n3 : w ≠ "or" := by rcases hww with rfl | rfl <;> decide
        have wx : x.weight ≤ 20000 := by
          simp only [PyData.weight, PyData.weightAll] at wt
          omega
        refine ⟨_, rfl, p, _, 0, _, rfl, rfl, SqT.of hp, atI_nat (j := 0) rfl, rfl, _, rfl, ?_⟩
        rw [dec_ne n1]
        refine iteF ⟨_, rfl, p, _, 0, _, rfl, rfl, SqT.of hp, atI_nat (j := 0) rfl, (by show 2 ≤ sizeLine; decide), fun t nt => ?_⟩
        have s1 := same_upd (o := .tup [.str "and", .str "or"]) nt
        have ht : (upd H t (.tup [.str "and", .str "or"])) t = some (.tup [.str "and", .str "or"]) := upd_same
        generalize upd H t (.tup [.str "and", .str "or"]) = H1 at *
        refine ⟨t, _, rfl, .inr (SqT.of ht), rfl, rfl, _, rfl, ?_⟩
        rw [if_neg (by decide), in_two, decide_eq_false n2, decide_eq_false n3]
        exact iteF ⟨_, rfl, 1, rfl, p, _, -1, vx, rfl, rfl, SqT.of (s1 _ _ hp), atI_last [.str w, vn] vx, D, m, vx, x, _, k, rfl, dr.sm s1, h1.sm s1, hx, wx, by omega, fun H2 R us hR r1 r2 hu s2 => q H2 R us hR r1 r2 hu fun b o e => s2 b o (s1 b o e)⟩
end
end Lm
/-! _law_shuffled. -/
namespace Lm
open PySem PySem.Spec PyProof.Rows L2
theorem map_erase {α β : Type} (f : α → β) : ∀ (l : List α) (k : Nat), (l.map f).eraseIdx k = (l.eraseIdx k).map f
  | [], _ => rfl
  | _ :: _, 0 => rfl
  | a :: r, k + 1 => congrArg (f a :: ·) (map_erase f r k)
theorem erase_perm {α : Type} : ∀ (l : List α) (k : Nat) (h : k < l.length), (l[k] :: l.eraseIdx k).Perm l
  | a :: r, 0, _ => List.Perm.refl _
  | a :: r, k + 1, h => (List.Perm.swap a (r[k]'(by simpa using h)) (r.eraseIdx k)).trans ((erase_perm r k (by simpa using h)).cons a)
theorem draw_put {D : DrA} {n m : Nat} {H H' : Hp} {f : Addr} {o : HO} (d0 : DrawAt D n H) (nf : H f = none) (dr : DrawAt D m H') : DrawAt D m (upd H' f o) := by
  obtain ⟨_, _, _, _, k1, k2, k3, _⟩ := d0
  obtain ⟨ws, cs, r, t, h1, h2, h3, h4, h5, h6⟩ := dr
  exact ⟨ws, cs, r, t, by rw [upd_ne (ne_of_none k1 nf)]; exact h1, by rw [upd_ne (ne_of_none k2 nf)]; exact h2, by rw [upd_ne (ne_of_none k3 nf)]; exact h3, h4, h5, h6⟩
theorem fr_put {D : DrA} {H H' : Hp} {f : Addr} {o : HO} (fr : Fr D H H') (nf : H f = none) : Fr D H (upd H' f o) := fun b x e n1 n2 => by
  rw [upd_ne (ne_of_none e nf)]
  exact fr b x e n1 n2
def oV : Option Str → V
  | none => .non
  | some x => .str x
def oD : Option Str → PyData
  | none => .none
  | some x => .str x
theorem dp_os {K : PySem.W.Frag} {H : Hp} : ∀ ns : List (Option Str), DpAll K H (ns.map oV) (ns.map oD)
  | [] => .nil
  | none :: r => .cons .non (dp_os r)
  | some x :: r => .cons (.str x) (dp_os r)
def OkO (ns : List (Option Str)) : Prop := ∀ o ∈ ns, ∀ x, o = some x → PyData.strOk x = true
theorem shaped_os (ns : List (Option Str)) (ok : OkO ns) (h : ns.length ≤ 100) : SeqAt.shaped (.list (ns.map oD)) = true := by
  have h1 : PyData.canLayAll0 (ns.map oD) = true := by
    clear h
    induction ns with
    | nil => simp [PyData.canLayAll0]
    | cons n r ih =>
      have ih := ih fun o ho => ok o (List.mem_cons_of_mem _ ho)
      cases n with
      | none => simp [PyData.canLayAll0, PyData.canLay0, oD, ih]
      | some x => simp [PyData.canLayAll0, PyData.canLay0, oD, ih, ok (some x) (List.mem_cons_self ..) x rfl]
  have h2 : PyData.depthAll (ns.map oD) ≤ 1 := by
    clear h h1 ok
    induction ns with
    | nil => simp [PyData.depthAll]
    | cons n r ih =>
      cases n <;> (simp [PyData.depthAll, PyData.depth, oD]; omega)
  unfold SeqAt.shaped
  simp [PyData.canLay0, PyData.depth, h1]
  omega
theorem eqv_os_nil (ns : List (Option Str)) : PyData.eqv (.list (ns.map oD)) (.list []) = ns.isEmpty := by
  cases ns <;> simp [PyData.eqv, PyData.eqvAll]
section
variable {P : Program} {w : World} {K : PySem.W.Frag} {mg : Str → Option Value} {base : Heap}
abbrev sShuf : Stmt := topS 50
def nShuf : List Str := ["draw", "some", "found", "left_here"]
theorem scShuf : FnScope nShuf ["draw", "some"] (defScope sShuf) := ⟨rfl, rfl, rfl, by decide +kernel, rfl, by decide +kernel, by decide +kernel⟩
def spShuf : Sp := fun vs H Q _ => ∃ (D : DrA) (n : Nat) (l : Addr) (zs : List (Option Str)), vs = [.ref D.d, .ref l] ∧ DrawAt D n H ∧ n + zs.length ≤ B ∧ H l = some (.lst (zs.map oV)) ∧ zs.length ≤ 100 ∧ OkO zs ∧
  ∀ (H' : Hp) (p : Addr) (ys : List (Option Str)), H p = none → H' p = some (.lst (ys.map oV)) → ys.Perm zs → DrawAt D (n + zs.length) H' → Fr D H H' → Q (.ref p) H'
theorem ok_shuf {f : Addr} {fd : FuncData} (F : Fun K "_law_shuffled" "_law_shuffled" sShuf f fd) (N : Bl mg) (GT : Has P w K mg base CX0 2 "_law_take" ["draw", "size"] spTake) : FnOk P w K mg base CX0 3 f fd ["draw", "some"] spShuf := by
  refine F.ok scShuf (fun vs H Q E h => ?_) (fun cdv A outer s H vs Q E hr h => ?_)
  · obtain ⟨D, n, l, zs, rfl, _⟩ := h
    rfl
  · obtain ⟨D, n, l, zs, rfl, dr, hn, hl, hlen, ok, q⟩ := h
    have hu64 : (A.deeper (envOfC "_law_shuffled" (defScope sShuf) s.heap.objs.size f cdv)).units + 64 < cLine := by
      have := hr.un
      omega
    refine ⟨_, pss_cons (ps_par (i := 3) (j := 2) rfl scShuf.nd rfl rfl (by decide) rfl rfl (pa_cons (pe_callTy call_list_of (by rfl) N.blist (by decide +kernel) (pa_cons (pv 1) pa_nil)) (pa_cons (pe_lst pa_nil) pa_nil)) rfl)
      (pss_cons (ps_while PassesOwn.never (pt_cmpR (op_neD hu64) (pv 3) (pe_lst pa_nil) (nomark _))
        (pss_one (ps_expr (pe_bm PySem.F.plainAttrs_list PySem.F.slot_list_append PySem.F.type_list_append mt_append (pv 2) (pa_cons
          (pe_bm PySem.F.plainAttrs_list PySem.F.slot_list_pop PySem.F.type_list_pop mt_popAt (pv 3) (pa_cons (pe_h GT hr (by decide) (by rfl) pass0 (pa_cons (pv 0) (pa_cons (pe_callB call_len_seq (by rfl) N.blen PySem.boot_len (pa_cons (pv 3) pa_nil)) pa_nil))) pa_nil)) pa_nil)))))
      (pss_one (ps_ret (pv 2)))), ?_⟩
    refine ⟨_, rfl, l, _, rfl, .inl (SqL.of hl), fun b nb => ?_⟩
    have s1 : Same H (upd H b (.lst (zs.map oV))) := same_upd nb
    have hb1 : (upd H b (.lst (zs.map oV))) b = some (.lst (zs.map oV)) := upd_same
    have nbH := nb
    have d1 := dr.sm s1
    generalize upd H b (.lst (zs.map oV)) = H1 at s1 hb1 d1 ⊢
    refine ⟨Nat.zero_le _, fun p np => ⟨_, _, rfl, ?_⟩⟩
    have s2 : Same H1 (upd H1 p (.lst [])) := same_upd np
    have npH := none_of s1 np
    have hpb : p ≠ b := fun z => by rw [← z] at hb1; rw [hb1] at np; cases np
    refine while_by (fun σ H' => ∃ (ys us : List (Option Str)) (m : Nat), σ = [some (.ref D.d), some (.ref l), some (.ref p), some (.ref b)] ∧ H' p = some (.lst (ys.map oV)) ∧ H' b = some (.lst (us.map oV)) ∧ (ys ++ us).Perm zs ∧ DrawAt D m H' ∧ m + us.length = n + zs.length ∧ Fr D H H')
      (fun σ H' => match H' b with | some (.lst xs) => xs.length | _ => 0) ⟨[], zs, n, rfl, upd_same, s2 _ _ hb1, List.Perm.refl _, d1.sm s2, rfl, (Fr.of s1).trans (.of s2)⟩ ?_ ?_
    · rintro σ H' ⟨ys, us, m, rfl, hp, hb, pm, dr', hm, fr⟩
      refine ⟨_, rfl, Nat.zero_le _, fun Z nZ => ?_⟩
      have s3 : Same H' (upd H' Z (.lst [])) := same_upd nZ
      refine ⟨_, _, .lst (SqL.of (s3 _ _ hb)) (dp_os us), .lst (SqL.of upd_same) .nil, shaped_os us (fun o ho => ok o (pm.subset (List.mem_append_right _ ho))) (by have := pm.length_eq; rw [List.length_append] at this; omega), by decide +kernel, _, rfl, ?_⟩
      rw [eqv_os_nil]
      have hp3 := s3 _ _ hp
      have hb3 := s3 _ _ hb
      have d3 := dr'.sm s3
      have fr3 := fr.trans (.of s3)
      generalize upd H' Z (.lst []) = H3 at hp3 hb3 d3 fr3 ⊢
      have ln : us.length ≤ 100 := by
        have := pm.length_eq
        rw [List.length_append] at this
        omega
      have lny : ys.length ≤ 100 := by
        have := pm.length_eq
        rw [List.length_append] at this
        omega
      cases us with
      | nil =>
        refine iteF ⟨_, rfl, ?_⟩
        rw [List.append_nil] at pm
        exact q H3 p ys npH hp3 pm (by rw [show n + zs.length = m from by simpa using hm.symm]; exact d3) fr3
      | cons u0 ur =>
        refine iteT ⟨_, rfl, .inl ⟨rfl, _, SqL.of hp3⟩, _, rfl, .inl ⟨rfl, _, SqL.of hb3⟩, _, rfl, _, rfl, b, _, rfl, .inl (SqL.of hb3), D, m, _, rfl, d3, ?_, ?_, ?_, fun H4 v d4 f4 v0 v1 => ?_⟩
        · rw [List.length_cons] at hm
          omega
        · rw [List.length_map, List.length_cons]
          omega
        · rw [List.length_map]
          omega
        · rw [List.length_map] at v1
          obtain ⟨k, rfl⟩ : ∃ k : Nat, v = (k : Int) := ⟨v.toNat, by omega⟩
          have hk : k < (u0 :: ur).length := by omega
          have opd : p ≠ D.d ∧ p ≠ D.w := dr.off npH
          have obd : b ≠ D.d ∧ b ≠ D.w := dr.off nbH
          have hp4 := f4 _ _ hp3 opd.1 opd.2
          have hb4 := f4 _ _ hb3 obd.1 obd.2
          refine ⟨b, _, _, k, oV (u0 :: ur)[k], rfl, rfl, hb4, by omega, by omega, ?_, ?_, ?_⟩
          · exact seqIndex_of (by omega) (by rw [List.length_map]; omega)
          · rw [List.getElem?_map, List.getElem?_eq_getElem hk]
            rfl
          · have hp5 : (upd H4 b (.lst (((u0 :: ur).map oV).eraseIdx k))) p = some (.lst (ys.map oV)) := by rw [upd_ne hpb]; exact hp4
            refine ⟨p, _, _, rfl, rfl, hp5, small1000 (by rw [List.length_map]; omega), ?_⟩
            have hb6 : (upd (upd H4 b (.lst (((u0 :: ur).map oV).eraseIdx k))) p (.lst (ys.map oV ++ [oV (u0 :: ur)[k]]))) b = some (.lst (((u0 :: ur).eraseIdx k).map oV)) := by
              rw [upd_ne hpb.symm, upd_same, map_erase]
            have le : ((u0 :: ur).eraseIdx k).length + 1 = (u0 :: ur).length := by
              rw [List.length_eraseIdx_of_lt hk]
              have : 0 < (u0 :: ur).length := Nat.succ_pos _
              omega
            refine ⟨⟨ys ++ [(u0 :: ur)[k]], (u0 :: ur).eraseIdx k, m + 1, rfl, ?_, hb6, ?_, draw_put dr npH (draw_put dr nbH d4), by omega, fr_put (fr_put (fr3.trans f4) nbH) npH⟩, ?_⟩
            · rw [upd_same, List.map_append]
              rfl
            · have p1 : ((u0 :: ur)[k] :: (u0 :: ur).eraseIdx k).Perm (u0 :: ur) := erase_perm _ k hk
              rw [List.append_assoc]
              exact (List.Perm.append_left ys p1).trans pm
            · rw [hb6, hb]
              show ((List.map oV ((u0 :: ur).eraseIdx k))).length < (List.map oV (u0 :: ur)).length
              rw [List.length_map, List.length_map]
              omega
    · rintro σ H' Q1 Q2 mono ⟨x, e, h0, h⟩
      exact ⟨x, e, h0, fun p np => by
        obtain ⟨d, e', a1, a2, a3, a4, k, ek, c⟩ := h p np
        exact ⟨d, e', a1, a2, a3, a4, k, ek, mono _ _ c⟩⟩
end
end Lm
/-! _law_said_row. -/
namespace Lm
open PySem PySem.Spec PyProof.Rows L2
theorem some_cat (ss : List Str) : ss.map V.str ++ [V.non] = (ss.map some ++ [none]).map oV := by
  rw [List.map_append, List.map_map]
  rfl
theorem nodup_cat {ss : List Str} (h : ss.Nodup) : (ss.map some ++ [none]).Nodup := by
  refine List.nodup_append.mpr ⟨?_, by simp, ?_⟩
  · exact List.Pairwise.map _ (fun a b n e => n (Option.some.inj e)) h
  · intro a ha b hb e
    obtain ⟨x, _, rfl⟩ := List.mem_map.mp ha
    rw [List.mem_singleton.mp hb] at e
    cases e
theorem none_fr {D : DrA} {m : Nat} {H H' : Hp} {p : Addr} (d : DrawAt D m H') (f : Fr D H H') (np : H' p = none) : H p = none := by
  cases e : H p with
  | none => rfl
  | some o =>
    obtain ⟨o1, o2⟩ := d.off np
    rw [f _ _ e o1 o2] at np
    cases np
theorem cut_two' (a b : V) (r : List V) : cutV (a :: b :: r) none (some 2) = [a, b] := by simp [cutV, HT.sIx]
section
variable {P : Program} {w : World} {K : PySem.W.Frag} {mg : Str → Option Value} {base : Heap}
abbrev sSR : Stmt := topS 52
def nSR : List Str := ["draw", "several", "top", "two"]
theorem scSR : FnScope nSR ["draw", "several", "top"] (defScope sSR) := ⟨rfl, rfl, rfl, by decide +kernel, rfl, by decide +kernel, by decide +kernel⟩
def spSR : Sp := fun vs H Q _ => ∃ (D : DrA) (n : Nat) (l : Addr) (ss : List Str) (top : Int), vs = [.ref D.d, .ref l, .int top] ∧ DrawAt D n H ∧ n + ss.length + 2 ≤ B ∧ H l = some (.lst (ss.map V.str)) ∧ ss ≠ [] ∧ ss.Nodup ∧ ss.length ≤ 50 ∧ (∀ x ∈ ss, PyData.strOk x = true) ∧ 0 ≤ top ∧ top ≤ 1000 ∧
  ∀ (H' : Hp) (p : Addr) (a b : Option Str) (c : Int), H p = none → H' p = some (.tup [.str "row", oV a, oV b, .int c]) → p ≠ D.d → p ≠ D.w → a ≠ b → (∀ x, a = some x → x ∈ ss) → (∀ x, b = some x → x ∈ ss) → -top ≤ c → c ≤ top → DrawAt D (n + ss.length + 2) H' → Fr D H H' → Q (.ref p) H'
theorem ok_sr {f : Addr} {fd : FuncData} (F : Fun K "_law_said_row" "_law_said_row" sSR f fd) (GT : Has P w K mg base CX0 2 "_law_take" ["draw", "size"] spTake) (GS : Has P w K mg base CX0 3 "_law_shuffled" ["draw", "some"] spShuf) : FnOk P w K mg base CX0 4 f fd ["draw", "several", "top"] spSR := by
  refine F.ok scSR (fun vs H Q E h => ?_) (fun cdv A outer s H vs Q E hr h => ?_)
  · obtain ⟨D, n, l, ss, top, rfl, _⟩ := h
    rfl
  · obtain ⟨D, n, l, ss, top, rfl, dr, hn, hl, s0, nd, hlen, ok, t0, t1, q⟩ := h
    refine ⟨_, pss_cons (ps_set (i := 3) scSR.nd rfl (.inl rfl) (pe_slice sl_list (pe_h GS hr (by decide) (by rfl) pass0 (pa_cons (pv 0) (pa_cons (pe_op op_cat (pv 1) (pe_lst (pa_cons pe_non pa_nil))) pa_nil))) po_none (po_some pe_int)))
      (pss_one (ps_ret (pe_tup (pa_cons pe_str (pa_cons (pe_ix ix_list (pv 3) pe_int (fun _ _ => rfl)) (pa_cons (pe_ix ix_list (pv 3) pe_int (fun _ _ => rfl)) (pa_cons (pe_op op_sub (pe_h GT hr (by decide) (by rfl) pass0 (pa_cons (pv 0) (pa_cons (pe_op op_add (pe_op op_mul pe_int (pv 2)) pe_int) pa_nil))) (pv 2)) pa_nil))))))), ?_⟩
    refine ⟨_, rfl, _, rfl, (by show 1 ≤ sizeLine; decide), fun p1 n1 => ?_⟩
    have s1 := same_upd (o := .lst [.non]) n1
    have h1 : (upd H p1 (.lst [.non])) p1 = some (.lst [.non]) := upd_same
    have hl1 := s1 _ _ hl
    have d1 := dr.sm s1
    generalize upd H p1 (.lst [.non]) = H1 at *
    refine ⟨l, p1, _, [.non], rfl, rfl, hl1, h1, small10000 (by rw [List.length_map]; show ss.length + 1 ≤ 10000; omega), fun p2 n2 => ?_⟩
    have s2 := same_upd (o := .lst (ss.map V.str ++ [.non])) n2
    have h2 : (upd H1 p2 (.lst (ss.map V.str ++ [.non]))) p2 = some (.lst ((ss.map some ++ [none]).map oV)) := by rw [upd_same, some_cat]
    have d2 := d1.sm s2
    have s12 : Same H (upd H1 p2 (.lst (ss.map V.str ++ [.non]))) := fun b o e => s2 b o (s1 b o e)
    generalize upd H1 p2 (.lst (ss.map V.str ++ [.non])) = H2 at *
    have lz : (ss.map some ++ [none]).length = ss.length + 1 := by rw [List.length_append, List.length_map]; rfl
    have mem : ∀ {o : Option Str} {x : Str}, o ∈ ss.map some ++ [none] → o = some x → x ∈ ss := fun {o x} ho e => by
      rcases List.mem_append.mp ho with ho | ho
      · obtain ⟨y, hy, e'⟩ := List.mem_map.mp ho
        rw [e] at e'
        rw [← Option.some.inj e']
        exact hy
      · rw [List.mem_singleton.mp ho] at e
        cases e
    refine ⟨D, n, p2, ss.map some ++ [none], rfl, d2, by rw [lz]; omega, h2, by rw [lz]; omega, fun o ho x e => ok x (mem ho e), fun H3 p3 ys n3 h3 pm d3 f3 => ?_⟩
    rw [lz] at d3
    have ly := pm.length_eq
    rw [lz] at ly
    have sp : 0 < ss.length := by
      cases ss with
      | nil => exact absurd rfl s0
      | cons _ _ => exact Nat.succ_pos _
    obtain ⟨a, b, r, rfl⟩ : ∃ a b r, ys = a :: b :: r := by
      match ys, ly with
      | [], h => simp at h
      | [_], h =>
        have h : 1 = ss.length + 1 := h
        omega
      | a :: b :: r, _ => exact ⟨a, b, r, rfl⟩
    have ndy := pm.nodup_iff.mpr (nodup_cat nd)
    have hab : a ≠ b := by
      intro e
      rw [e] at ndy
      exact absurd (List.mem_cons_self ..) (List.nodup_cons.mp ndy).1
    have ma := pm.mem_iff.mp (List.mem_cons_self (a := a) (l := b :: r))
    have mb := pm.mem_iff.mp (List.mem_cons_of_mem a (List.mem_cons_self (a := b) (l := r)))
    refine ⟨2, rfl, p3, _, rfl, SqL.of h3, fun p4 n4 => ?_⟩
    rw [show ((a :: b :: r).map oV) = oV a :: oV b :: r.map oV from rfl, cut_two']
    have s4 := same_upd (o := .lst [oV a, oV b]) n4
    have h4 : (upd H3 p4 (.lst [oV a, oV b])) p4 = some (.lst [oV a, oV b]) := upd_same
    have d4 := d3.sm s4
    have f4 : Fr D H (upd H3 p4 (.lst [oV a, oV b])) := ((Fr.of s12).trans f3).trans (.of s4)
    have o4 := d3.off n4
    generalize upd H3 p4 (.lst [oV a, oV b]) = H4 at *
    refine ⟨_, rfl, p4, _, 0, oV a, rfl, rfl, SqL.of h4, atI_nat (j := 0) rfl, _, rfl, p4, _, 1, oV b, rfl, rfl, SqL.of h4, atI_nat (j := 1) rfl, _, rfl, _, rfl, ?_⟩
    refine ⟨_, _, rfl, rfl, .inl ⟨by decide, by decide⟩, _, _, rfl, rfl, ?_⟩
    refine ⟨D, n + (ss.length + 1), 2 * top + 1, rfl, d4, by omega, by omega, by omega, fun H5 v d5 f5 v0 v1 => ⟨_, rfl, _, _, rfl, rfl, (by show 4 ≤ sizeLine; decide), fun p6 n6 => ?_⟩⟩
    have s6 := same_upd (o := .tup [.str "row", oV a, oV b, .int (v - top)]) n6
    have o6 := d5.off n6
    have d6 := d5.sm s6
    refine q _ p6 a b (v - top) (none_fr d5 (f4.trans f5) n6) upd_same o6.1 o6.2 hab (fun x e => mem ma e) (fun x e => mem mb e) (by omega) (by omega) ?_ ((f4.trans f5).trans (.of s6))
    rw [show n + ss.length + 2 = n + (ss.length + 1) + 1 by omega]
    exact d6
end
end Lm
/-! _law_step_of. -/
namespace Lm
open PySem PySem.Spec PyProof.Rows L2
theorem fold_from : ∀ (l : List Int) (a : Int), 0 ≤ a → l.foldl max a = max a (maxL l)
  | [], a, h => by
    show a = max a 0
    omega
  | x :: r, a, h => by
    have h1 : (x :: r).foldl max a = r.foldl max (max a x) := rfl
    have h2 : maxL (x :: r) = r.foldl max (max 0 x) := rfl
    rw [h1, h2, fold_from r (max a x) (by omega), fold_from r (max 0 x) (by omega)]
    have := maxL_nn r
    omega
theorem maxL_app (a b : List Int) : maxL (a ++ b) = max (maxL a) (maxL b) := by
  unfold maxL
  rw [List.foldl_append]
  exact fold_from b _ (maxL_nn a)
theorem maxL_cons (x : Int) (r : List Int) (h : 0 ≤ x) : maxL (x :: r) = max x (maxL r) := by
  have h2 : maxL (x :: r) = r.foldl max (max 0 x) := rfl
  rw [h2, fold_from r _ (by omega)]
  omega
def rowAbs : PyData → Int
  | .tuple [_, _, .int c] => absI c
  | _ => 0
theorem row_num {bs : List Str} {a b c : PyData} (h : saidRowD bs [a, b, c] = true) : ∃ z, c = .int z := by
  have z : (rowD (.tuple [a, b, c]) && sideB bs a && sideB bs b) = true := h
  rw [Bool.and_eq_true, Bool.and_eq_true] at z
  have z : (sideD a && sideD b && !sideEq a b && isNum c) = true := z.1.1
  rw [Bool.and_eq_true] at z
  cases c <;> first | exact ⟨_, rfl⟩ | cases z.2
theorem great_rows : ∀ (n : Nat) (bs : List Str) (d : PyData), fitsN n bs d = true → greatN n d = maxL ((rowsN n d).map rowAbs)
  | 0, bs, d, h => by cases d <;> cases h
  | n + 1, bs, d, h => by
    cases said_cases h with
    | @row a b c hrow =>
      obtain ⟨z, rfl⟩ := row_num hrow
      rw [great_row, rows_row]
      show absI z = maxL [absI z]
      rw [maxL_cons _ _ (absI_nn z)]
      have := absI_nn z
      show absI z = max (absI z) 0
      omega
    | @many w es hw hs =>
      rw [great_many hw, rows_many hw]
      have key : ∀ es : List PyData, (∀ e ∈ es, fitsN n bs e = true) → maxL (es.map (greatN n)) = maxL (((es.map (rowsN n)).flatten).map rowAbs) := by
        intro es
        induction es with
        | nil => exact fun _ => rfl
        | cons e r ih =>
          intro he
          have h1 := he e (List.mem_cons_self ..)
          rw [List.map_cons, maxL_cons _ _ (great_nn n bs e h1), ih fun y hy => he y (List.mem_cons_of_mem _ hy), great_rows n bs e h1, List.map_cons, List.flatten_cons, List.map_append, maxL_app]
      exact key es hs
    | @no x hx =>
      rw [great_no, rows_no]
      exact great_rows n bs x hx
    | @bind w ns x hw hn hx =>
      rw [great_bind, rows_bind]
      exact great_rows n _ x hx
theorem rows_shape : ∀ (n : Nat) (bs : List Str) (d : PyData), fitsN n bs d = true → ∀ e ∈ rowsN n d, ∃ a b z, e = .tuple [a, b, .int z]
  | 0, bs, d, h => by cases d <;> cases h
  | n + 1, bs, d, h => by
    cases said_cases h with
    | @row a b c hrow =>
      obtain ⟨z, rfl⟩ := row_num hrow
      rw [rows_row]
      intro e he
      rw [List.mem_singleton.mp he]
      exact ⟨a, b, z, rfl⟩
    | @many w es hw hs =>
      rw [rows_many hw]
      intro e he
      obtain ⟨l, hl, he⟩ := List.mem_flatten.mp he
      obtain ⟨y, hy, rfl⟩ := List.mem_map.mp hl
      exact rows_shape n bs y (hs y hy) e he
    | @no x hx =>
      rw [rows_no]
      exact rows_shape n bs x hx
    | @bind w ns x hw hn hx =>
      rw [rows_bind]
      exact rows_shape n _ x hx
end Lm
/-! _law_step_of. -/
namespace Lm
open PySem PySem.Spec PyProof.Rows L2
def stepN (k : Nat) (d : PyData) : Int := (1 + greatN k d) * 2 ^ (boundN k d).length
section
variable {P : Program} {w : World} {K : PySem.W.Frag} {mg : Str → Option Value} {base : Heap}
abbrev sStep : Stmt := topS 58
def nStep : List Str := ["said_v", "found", "row", "lap"]
theorem scStep : FnScope nStep ["said_v"] (defScope sStep) := ⟨rfl, rfl, rfl, by decide +kernel, rfl, by decide +kernel, by decide +kernel⟩
def spStep (n : Nat) : Sp := fun vs H Q _ => ∃ (D : DrA) (m : Nat) (v : V) (d : PyData) (bs : List Str) (k : Nat), vs = [v] ∧ DrawAt D m H ∧ Da D H v d ∧ fitsN k bs d = true ∧ d.weight ≤ 20000 ∧ k ≤ n ∧ ∀ H', Same H H' → Q (.int (stepN k d)) H'
theorem cr_maxK {X : Cx} (K : PySem.W.Frag) (hc : X.calm = true) (hK : X.K = K := by rfl) : CallR X (.builtin "max") (rMax K) := hK ▸ cr_max hc
theorem ok_step {f : Addr} {fd : FuncData} (F : Fun K "_law_step_of" "_law_step_of" sStep f fd) (N : Bl mg) (n : Nat) (GR : Has P w K mg base CX0 (n + 5) "_law_rows_said" ["said_v"] (spRS n)) (GM : Has P w K mg base CX0 (n + 5) "_law_many_bound" ["said_v"] (spMB n)) : FnOk P w K mg base CX0 (n + 6) f fd ["said_v"] (spStep n) := by
  refine F.ok scStep (fun vs H Q E h => ?_) (fun cdv A outer s H vs Q E hr h => ?_)
  · obtain ⟨D, m, v, d, bs, k, rfl, _⟩ := h
    rfl
  · obtain ⟨D, m, v, d, bs, k, rfl, dr, hd, fit, wt, hk, q⟩ := h
    refine ⟨_, pss_cons (ps_set (i := 1) scStep.nd rfl (.inl rfl) (pe_op op_add pe_int (pe_callB (cr_maxK K rfl) (by rfl) N.bmax (by decide +kernel) (pa_cons (pe_op op_cat (pe_lst (pa_cons pe_int pa_nil))
        (pe_lc (own := [("row", 2)]) (g := gName 2) (tt := tYes) rfl scStep.nd (pi_listK K (pe_h GR hr (by omega) (by rfl) pass0 (pa_cons (pv 0) pa_nil))) (blkOk_by (own := [("row", 2)]) (N := nStep) (sc := defScope sStep) (by decide +kernel)) (fun _ _ _ _ _ => pg_name (i := 2) scStep.nd rfl (Or.inl rfl))
          (fun _ _ _ _ _ => pts_nil) (fun _ _ _ _ _ => pe_callB call_abs (by rfl) N.babs (by decide +kernel) (pa_cons (pe_ix (ix_tupK K) (pv 2) pe_int (fun _ _ => rfl)) pa_nil)))) pa_nil))))
      (pss_cons (ps_for PassesOwn.never rfl (pi_range1 (by rfl) N.brng (pa_cons (pe_h GM hr (by omega) (by rfl) pass0 (pa_cons (pv 0) pa_nil)) pa_nil)) (pg_name (i := 3) scStep.nd rfl (.inl rfl)) (pss_one (ps_set (i := 1) scStep.nd rfl (.inl rfl) (pe_op op_mul pe_int (pv 1)))))
      (pss_one (ps_ret (pv 1)))), ?_⟩
    have lr := rows_len k bs d fit
    have lb := bound_len k bs d fit
    refine ⟨(by show 1 ≤ sizeLine; decide), fun p1 n1 => ?_⟩
    have s1 := same_upd (o := .lst [.int 0]) n1
    have h1 : (upd H p1 (.lst [.int 0])) p1 = some (.lst [.int 0]) := upd_same
    have dr1 := dr.sm s1
    have hd1 := hd.sm s1
    generalize upd H p1 (.lst [.int 0]) = H1 at *
    refine ⟨_, rfl, D, m, v, d, bs, k, rfl, dr1, hd1, fit, wt, hk, fun H2 L xs hL l1 l2 hx s2 => ?_⟩
    have hxl := hx.length
    refine ⟨L, rfl, ⟨_, SqL.of hL⟩, fun R nR => lc_list (K := K) (a := L) (xs := xs) (fun j H' => Same H2 H' ∧ H' R = some (.lst ((((rowsN k d).take j).map rowAbs).map V.int))) ⟨same_upd nR, upd_same⟩ (fun j H' _ h => SqL.of (h.1 _ _ hL)) ?_ ?_⟩
    · rintro j y H' hy ⟨s3, hR⟩
      obtain ⟨dy, hdy, gy⟩ := hx.get hy
      have my := List.mem_of_getElem? hdy
      obtain ⟨a, b, z, rfl⟩ := rows_shape k bs d fit dy my
      obtain ⟨t, ys, _, rfl, ed, ht, _, _, hys⟩ := gy.tupOf rfl
      injection ed with ed
      subst ed
      cases hys with
      | @cons va _ _ _ g1 hys => cases hys with
      | @cons vb _ _ _ g2 hys => cases hys with
      | @cons vc _ _ _ g3 hys =>
        cases hys
        obtain rfl : vc = .int z := by cases g3; rfl
        refine ⟨rfl, _, rfl, t, _, 2, .int z, rfl, rfl, SqT.of (s3 _ _ ht), atI_nat (j := 2) rfl, z, rfl, _, hR, ?_, same_put s3 nR, ?_⟩
        · rw [List.length_map, List.length_map, List.length_take]
          exact Nat.lt_of_le_of_lt (Nat.min_le_right _ _) (by rw [sizeLine_eq]; omega)
        · rw [List.take_add_one, hdy, List.map_append, List.map_append]
          exact upd_same
    · rintro H3 ⟨s3, hR⟩
      rw [hxl, List.take_length] at hR
      have s13 : Same H1 H3 := fun b o e => s3 b o (s2 b o e)
      refine ⟨p1, R, [.int 0], _, rfl, rfl, s13 _ _ h1, hR, smallM (by rw [List.length_map, List.length_map]; show 1 + (rowsN k d).length ≤ 1000000; omega), fun p4 n4 => ?_⟩
      have s4 := same_upd (o := .lst ([.int 0] ++ ((rowsN k d).map rowAbs).map V.int)) n4
      have h4 : (upd H3 p4 (.lst ([.int 0] ++ ((rowsN k d).map rowAbs).map V.int))) p4 = some (.lst ((0 :: (rowsN k d).map rowAbs).map V.int)) := upd_same
      have s04 : Same H (upd H3 p4 (.lst ([.int 0] ++ ((rowsN k d).map rowAbs).map V.int))) := fun b o e => s4 b o (s13 b o (s1 b o e))
      generalize upd H3 p4 (.lst ([.int 0] ++ ((rowsN k d).map rowAbs).map V.int)) = H4 at *
      have nn : ∀ y ∈ 0 :: (rowsN k d).map rowAbs, (0 : Int) ≤ y := fun y hy => by
        rcases List.mem_cons.mp hy with rfl | hy
        · exact Int.le_refl 0
        · obtain ⟨e, he, rfl⟩ := List.mem_map.mp hy
          obtain ⟨a, b, z, rfl⟩ := rows_shape k bs d fit e he
          exact absI_nn z
      refine ⟨p4, 0 :: (rowsN k d).map rowAbs, rfl, SqL.of h4, Nat.succ_pos _, fun g hg hmax => ⟨_, _, rfl, rfl, ?_⟩⟩
      have eg : g = greatN k d := by
        rw [great_rows k bs d fit, ← maxL_is hg hmax nn, maxL_cons _ _ (Int.le_refl 0)]
        have := maxL_nn ((rowsN k d).map rowAbs)
        omega
      subst eg
      refine ⟨_, rfl, D, m, v, d, bs, k, rfl, dr.sm s04, hd.sm s04, fit, wt, hk, fun H5 s5 => ?_⟩
      have s05 : Same H H5 := fun b o e => s5 b o (s04 b o e)
      refine ⟨_, rfl, by omega, by omega, for_range (fun i σ H' => H' = H5 ∧ ∃ x2 x3, σ = [some v, some (.int ((1 + greatN k d) * 2 ^ i)), x2, x3]) ⟨rfl, none, none, by rw [Int.pow_zero, Int.mul_one]; rfl⟩ ?_ ?_⟩
      · rintro i σ H' hi ⟨rfl, x2, x3, rfl⟩
        refine ⟨_, rfl, _, _, rfl, rfl, .inl ⟨by decide, by decide⟩, rfl, x2, some (.int (0 + (i : Int))), ?_⟩
        have e : (2 : Int) * ((1 + greatN k d) * 2 ^ i) = (1 + greatN k d) * 2 ^ (i + 1) := by
          rw [Int.pow_succ, ← Int.mul_assoc, Int.mul_comm 2, Int.mul_assoc, Int.mul_comm 2]
        rw [← e]
        rfl
      · rintro σ H' ⟨rfl, x2, x3, rfl⟩
        refine ⟨_, rfl, ?_⟩
        have q := q H' s05
        unfold stepN at q
        exact q
end
end Lm
/-! set(a list of texts), and sorted of it. -/
namespace Lm
open PySem PySem.Spec PyProof.Rows L2
def tkOf (e : Int × Value) : Str := match e.2 with
  | .str k _ => k
  | _ => Str.empty
def TxE (w : World) (e : Int × Value) : Prop := ∃ (k : Str) (tk : Tok), e.2 = Value.str k tk ∧ e.1 = hashStr w k
/-- the set at a holds just the texts of S -/
def TxS (w : World) (h : Heap) (a : Addr) (S : List Str) : Prop :=
  ∃ (o : Obj) (es : Array (Int × Value)) (ep : Nat) (t : SetTable), h.get? a = some o ∧ (o.ExactSet ∧ o.data = .set es ep t) ∧ (∀ e ∈ es.toList, TxE w e) ∧ (es.toList.map tkOf).Nodup ∧ (∀ k, k ∈ S ↔ k ∈ es.toList.map tkOf) ∧
    (es.size < scanBound ∧ t.fits es.size = true ∧ es.size ≤ S.length) ∧ Ris t.place.toList ∧ (w.params.followText "set-order" = true ∨ t.led = true)
section
variable {P : Program} {w : World} {h h' : Heap} {a : Addr} {S : List Str}
theorem TxS.stay (x : TxS w h a S) (k : ∀ o, h.get? a = some o → h'.get? a = some o) : TxS w h' a S :=
  let ⟨o, es, ep, t, ho, more⟩ := x
  ⟨o, es, ep, t, k o ho, more⟩
theorem tx_elems {l : List (Int × Value)} (g : ∀ e ∈ l, TxE w e) : ElemsOf (PySem.strKind P w) l := fun e he => by
  obtain ⟨k, tk, h1, h2⟩ := g e he
  refine ⟨⟨k, ?_, h2⟩, ?_⟩
  · rw [h1]
    exact strKind_is P w k tk
  · rw [h1]
    rfl
theorem tx_is {e : Int × Value} (g : TxE w e) (k : Str) : (PySem.strKind P w).is k e.2 = true ↔ tkOf e = k := by
  obtain ⟨k0, tk, h1, _⟩ := g
  unfold tkOf
  rw [h1]
  constructor
  · intro q
    exact (PySem.strKind P w).inj _ _ _ (strKind_is P w k0 tk) q
  · rintro rfl
    exact strKind_is P w _ tk
theorem tx_mem {l : List (Int × Value)} (g : ∀ e ∈ l, TxE w e) (k : Str) : k ∈ l.map tkOf ↔ ∃ e ∈ l, (PySem.strKind P w).is k e.2 = true := by
  rw [List.mem_map]
  exact ⟨fun ⟨e, he, q⟩ => ⟨e, he, (tx_is (g e he) k).2 q⟩, fun ⟨e, he, q⟩ => ⟨e, he, (tx_is (g e he) k).1 q⟩⟩
theorem tx_fresh (ho : h.get? a = some { cls := .type "set", dict := none, data := .set #[] 0 (.fresh 0 0 (!w.params.followText "set-order")) }) : TxS w h a [] := by
  refine ⟨_, #[], 0, _, ho, ⟨⟨rfl, rfl, rfl⟩, rfl⟩, fun e he => by simp at he, .nil, fun k => by simp, ⟨by decide, rfl, Nat.le_refl _⟩, List.Pairwise.nil, ?_⟩
  show _ ∨ (!w.params.followText "set-order") = true
  cases w.params.followText "set-order"
  · exact .inr rfl
  · exact .inl rfl
end
section
variable {P : Program} {w : World} {A : Around} {E : Value → Shared → Prop} {s : Shared} {a : Addr} {S : List Str}
/-- what is behind the table's write -/
theorem tx_put {g : Bool → Sem Unit} (hg : ∀ (b : Bool) (s₁ : Shared) (Q' : Unit → Shared → Prop), Q' () s₁ → wpAny (model P w) A (g b) Q' E s₁)
    {o : Obj} {es es1 : Array (Int × Value)} {ep : Nat} {t t2 : SetTable} {S' : List Str} {R : Option Bool → Shared → Prop} {wasDummy : Bool} (ho : s.heap.get? a = some o) (hx : o.ExactSet) (hd : o.data = .set es ep t)
    (g1 : ∀ e ∈ es1.toList, TxE w e) (nd : (es1.toList.map tkOf).Nodup) (m1 : ∀ k, k ∈ S' ↔ k ∈ es1.toList.map tkOf) (b1 : es1.size < scanBound) (f1 : t2.fits es1.size = true) (l1 : es1.size ≤ S'.length) (r1 : Ris t2.place.toList) (d1 : w.params.followText "set-order" = true ∨ t2.led = true)
    (hR : ∀ h', Heap.SameBut a s.heap h' → TxS w h' a S' → R (some true) { s with heap := h' }) :
    wpAny (model P w) A (storeSet a es1 t2 >>= fun _ => if (!wasDummy && t2.tooFull) = true then (g (relayAll t2 es1 (SetTable.grown es1.size)).2.2 >>= fun _ =>
      storeSet a (relayAll t2 es1 (SetTable.grown es1.size)).1 (relayAll t2 es1 (SetTable.grown es1.size)).2.1 >>= fun _ => pure (some true)) else pure (some true)) R E s := by
  refine wpAny_bind (wpAny_storeSet_of ho hd ?_ (fits_of_scanBound b1))
  have o1 := store_at (es' := es1) (t' := t2) ho hd
  have sb := Heap.SameBut.update s.heap a (Obj.putSet es1 t2)
  by_cases c : (!wasDummy && t2.tooFull) = true
  · rw [if_pos c]
    have pm : (relayAll t2 es1 (SetTable.grown es1.size)).1.toList.Perm es1.toList := relayAll_perm t2 es1 _
    have f3 : (relayAll t2 es1 (SetTable.grown es1.size)).2.1.fits (relayAll t2 es1 (SetTable.grown es1.size)).1.size = true := relayAll_fits t2 es1 _
    have r3 : Ris (relayAll t2 es1 (SetTable.grown es1.size)).2.1.place.toList := relayAll_ris t2 es1 _
    have d3 : (relayAll t2 es1 (SetTable.grown es1.size)).2.1.led = t2.led := relayAll_led t2 es1 _
    generalize (relayAll t2 es1 (SetTable.grown es1.size)) = Z at pm f3 r3 d3 ⊢
    have zl : Z.1.size = es1.size := by
      have q := pm.length_eq
      rw [Array.length_toList, Array.length_toList] at q
      exact q
    refine wpAny_bind (hg _ _ _ (wpAny_bind (wpAny_storeSet_of o1 rfl ?_ (fits_of_scanBound (by rw [zl]; exact b1)))))
    have o2 := store_at (es' := Z.1) (t' := Z.2.1) o1 rfl
    refine wpAny_pure (hR _ (sb.trans (Heap.SameBut.update _ a _)) ⟨_, Z.1, _, Z.2.1, o2, ⟨hx, rfl⟩, fun e he => g1 e (pm.mem_iff.mp he), (pm.map tkOf).nodup_iff.mpr nd, fun k => (m1 k).trans (pm.map tkOf).mem_iff.symm, ⟨by rw [zl]; exact b1, f3, by rw [zl]; exact l1⟩, r3, d1.imp id fun z => d3.trans z⟩)
  · rw [if_neg c]
    exact wpAny_pure (hR _ sb ⟨_, es1, _, t2, o1, ⟨hx, rfl⟩, g1, nd, m1, ⟨b1, f1, l1⟩, r1, d1⟩)
theorem tx_add {k : Str} {tk : Tok} {Q : Bool → Shared → Prop} (x : TxS w s.heap a S) (room : S.length + 1 < scanBound)
    (hQ : ∀ h' b, Heap.SameBut a s.heap h' → TxS w h' a (S ++ [k]) → Q b { s with heap := h' }) :
    wpAny (model P w) A (setAddHashed a (.str k tk) ((PySem.strKind P w).hash k)) Q E s := by
  obtain ⟨o, es, ep, t, ho, ⟨hx, hd⟩, g, nd, hm, ⟨hb, hf, hl⟩, hr, hd2⟩ := x
  have is0 : (PySem.strKind P w).is k (.str k tk) = true := strKind_is P w k tk
  have sc : (Value.str k tk).scannable = true := rfl
  have el : ElemsOf (PySem.strKind P w) es.toList := tx_elems g
  unfold setAddHashed
  unfold setAddHashedIn
  refine wpAny_holding (wpAny_bind (wpAny_setState_of ho hd hf ?_))
  dsimp only
  rw [byScan_of sc hb el, if_pos rfl]
  unfold setAddByScan
  refine wpAny_bind (wpAny_bind (wpAny_rule (wpAny_bind (wpAny_setScan_of is0 ho hd hf el ?_))))
  cases hfi : List.findIdx? (fun e => (PySem.strKind P w).is k e.2) es.toList with
  | some j =>
    dsimp only
    obtain ⟨hj, pj, _⟩ := List.findIdx?_eq_some_iff_getElem.mp hfi
    have mk : k ∈ S := (hm k).2 ((tx_mem (P := P) (w := w) g k).2 ⟨es.toList[j], List.getElem_mem hj, pj⟩)
    refine wpAny_pure (wpAny_pure (hQ s.heap _ (Heap.SameBut.refl a s.heap) ⟨o, es, ep, t, ho, ⟨hx, hd⟩, g, nd, fun i => ?_, ⟨hb, hf, by rw [List.length_append]; omega⟩, hr, hd2⟩))
    rw [List.mem_append, ← hm i, List.mem_singleton]
    exact ⟨fun z => z.elim id fun e => by rw [e]; exact mk, .inl⟩
  | none =>
    dsimp only
    have nk : k ∉ es.toList.map tkOf := fun z => by
      obtain ⟨e, he, q⟩ := (tx_mem (P := P) (w := w) g k).1 z
      have c := List.findIdx?_eq_none_iff.mp hfi e he
      rw [q] at c
      cases c
    have gw : ∀ (b : Bool) {s₁ : Shared} {Q' : Unit → Shared → Prop}, Q' () s₁ → wpAny (model P w) A (match b with | true => rule "set.scan.the-table-gave-way" | false => pure ()) Q' E s₁ :=
      fun b s₁ Q' q => by cases b <;> first | exact wpAny_pure q | exact wpAny_rule q
    have pm := layNew_perm t es ((PySem.strKind P w).hash k) (.str k tk)
    have lf := layNew_fits t es ((PySem.strKind P w).hash k) (.str k tk)
    have lr := layNew_ris t es ((PySem.strKind P w).hash k) (.str k tk) hr
    have ll := layNew_led t es ((PySem.strKind P w).hash k) (.str k tk)
    generalize layNew t es ((PySem.strKind P w).hash k) (.str k tk) = Z at pm lf lr ll ⊢
    obtain ⟨es1, t1, wasDummy, gave⟩ := Z
    dsimp only at pm lf lr ll ⊢
    rw [Array.toList_push] at pm
    have pc : es1.toList.Perm (((PySem.strKind P w).hash k, Value.str k tk) :: es.toList) := pm.trans (List.perm_append_singleton _ _)
    have pk : (es1.toList.map tkOf).Perm (k :: es.toList.map tkOf) := pc.map tkOf
    have g1 : ∀ e ∈ es1.toList, TxE w e := fun e he => by
      rcases List.mem_cons.mp (pc.mem_iff.mp he) with z | z
      · rw [z]; exact ⟨k, tk, rfl, rfl⟩
      · exact g e z
    have nd1 : (es1.toList.map tkOf).Nodup := pk.nodup_iff.mpr (List.nodup_cons.mpr ⟨nk, nd⟩)
    have m1 : ∀ i, i ∈ S ++ [k] ↔ i ∈ es1.toList.map tkOf := fun i => by
      rw [pk.mem_iff, List.mem_cons, ← hm i, List.mem_append, List.mem_singleton]
      exact Or.comm
    have sz : es1.size = es.size + 1 := by
      have q := pc.length_eq
      rw [Array.length_toList, List.length_cons, Array.length_toList] at q
      exact q
    have b1 : es1.size < scanBound := by omega
    have l1 : es1.size ≤ (S ++ [k]).length := by
      rw [List.length_append]
      show es1.size ≤ S.length + 1
      omega
    have d1 : w.params.followText "set-order" = true ∨ t1.led = true := hd2.imp id fun z => ll.trans z
    refine wpAny_bind (gw _ ?_)
    by_cases c : t1.plain = true
    · rw [if_pos c]
      refine wpAny_bind ?_
      rw [hashByValue_scannable 8 sc]
      refine wpAny_pure (tx_put ?_ ho hx hd g1 nd1 m1 b1 ?_ l1 ?_ ?_ fun h' sb r => wpAny_pure (hQ h' _ sb r))
      · intro b s₁ Q' q
        cases b <;> first | exact wpAny_pure q | exact wpAny_rule q
      · split <;> first | exact lf | exact SetTable.fits_plain_off lf
      · split <;> exact lr
      · split <;> exact d1
    · rw [if_neg c]
      refine wpAny_bind (wpAny_pure ?_)
      rw [if_pos rfl]
      refine tx_put ?_ ho hx hd g1 nd1 m1 b1 lf l1 lr d1 fun h' sb r => wpAny_pure (hQ h' _ sb r)
      intro b s₁ Q' q
      cases b <;> first | exact wpAny_pure q | exact wpAny_rule q
end
end Lm
/-! set(a list of texts): the call; sorted of it. -/
namespace Lm
open PySem PySem.Spec PyProof.Rows L2
def newSet (w : World) : Obj := { cls := .type "set", dict := none, data := .set #[] 0 (.fresh 0 0 (!w.params.followText "set-order")) }
section
variable {P : Program} {w : World} {A : Around} {E : Value → Shared → Prop} {s : Shared}
theorem tx_loop {I : Addr} {fp wr : List Addr} {G : Array GenState → Array GenState → Prop} {n : Nat} {Pv : Nat → Value → Prop} {St : Nat → Shared → Prop} {R : Result → Shared → Prop}
    (W : WalksS P w A.in1 I fp wr G n Pv St) (S : Addr) (off : S ∉ fp) (ss : List Str) (hn : n = ss.length) (hb : ss.length + 1 < scanBound) (hval : ∀ i v, Pv i v → ∃ k t, ss[i]? = some k ∧ v = .str k t) :
    ∀ (k i : Nat) (s : Shared), n - i = k → i ≤ n → St i s → TxS w s.heap S (ss.take i) →
      (∀ s', Moved (S :: wr) G s s' → TxS w s'.heap S ss → R (.ok (.ret .none)) s') →
      codeAny (model P w) A (.builtin "set.update.loop" ⟨[.ref S, .ref I], []⟩) R s := by
  have sw : S ∉ wr := fun z => off (W.sub _ z)
  have more : ∀ b ∈ wr, b ∈ S :: wr := fun _ z => List.mem_cons_of_mem _ z
  intro k
  induction k with
  | zero =>
    intro i s hk hi st x fin
    obtain rfl : i = n := by omega
    refine codeAny_builtin F.entry_set_update_loop ?_
    rw [Around.under_plainId F.plain_set_update_loop _]
    show wpAny _ A.in1 (pyNext (.ref I) >>= _) _ _ s
    refine wpAny_bind (W.done s _ _ st fun s1 mv => ?_)
    rw [List.take_of_length_le (by omega)] at x
    exact wpAny_pure (fin s1 (mv.mono more) (x.stay fun o e => mv.heap S o sw e))
  | succ k ih =>
    intro i s hk hi st x fin
    have lt : i < n := by omega
    refine codeAny_builtin F.entry_set_update_loop ?_
    rw [Around.under_plainId F.plain_set_update_loop _]
    show wpAny _ A.in1 (pyNext (.ref I) >>= _) _ _ s
    refine wpAny_bind (W.item i s _ _ lt st fun v s1 pv st1 mv => ?_)
    obtain ⟨z, t, hz, rfl⟩ := hval i v pv
    have x1 : TxS w s1.heap S (ss.take i) := x.stay fun o e => mv.heap S o sw e
    show wpAny _ A.in1 (holding [Value.str z t] (setAdd S (.str z t)) >>= _) _ _ s1
    refine wpAny_bind (wpAny_holding ?_)
    unfold setAdd
    refine wpAny_holding (wpAny_bind ((PySem.strKind P w).pyHash (k := z) (strKind_is _ _ _ _) ?_))
    refine tx_add (s := { s1 with toks := s1.toks + 1 }) x1 (by rw [List.length_take]; omega) fun h2 b sb x2 => ?_
    have e2 : ss.take i ++ [z] = ss.take (i + 1) := by rw [List.take_add_one, hz]; rfl
    rw [e2] at x2
    refine wpAny_pure ⟨plainId_quiet F.plain_set_update_loop _, ih (i + 1) _ (by omega) lt (W.frame _ s1 _ _ st1 (Nat.le_succ _) fun b hb o e => ?_) x2 fun s3 mv3 x3 => ?_⟩
    · exact (sb.2 b fun z => off (z ▸ hb)).trans e
    · exact fin s3 (Moved.trans W.gtrans ((mv.mono more).then_heap (Nat.le_succ _) fun b o hb e => (sb.2 b fun z => hb (by rw [z]; exact List.mem_cons_self ..)).trans e) mv3) x3
theorem tx_call {l : Addr} {items : Array Value} (ss : List Str) {Q : Value → Shared → Prop} (calm : A.handled = none) (il : s.heap.IsList l items) (hit : StrsAre items.toList ss) (hb : ss.length + 1 < scanBound)
    (fin : ∀ (h' : Heap) (tk : Nat), TxS w h' s.heap.objs.size ss → (∀ b o, s.heap.get? b = some o → h'.get? b = some o) → Q (.ref s.heap.objs.size) { s with heap := h', toks := tk }) :
    wpAny (model P w) A (call (.type "set") [.ref l]) Q E s := by
  have sz : items.size = ss.length := by rw [← Array.length_toList]; exact StrsAre.len_eq hit
  obtain ⟨c, tl, mro⟩ := F.called_set.mro
  have made := F.called_set.made
  have sub := F.called_set.sub
  have nt := F.called_set.notType
  have cc := F.called_set.canCreate
  have ct := F.typeCall_set_1 (.ref l)
  refine wpAny_call (codeAny_of_tree ?_)
  show wpAny _ _ (callAny (.type "set") _) _ _ _
  refine wpAny_pure ⟨Code.quiet_builtin _ (by decide +kernel), codeAny_builtin F.entry_type_call ?_⟩
  rw [Around.under_plain (weight_type_call_type "set" [.ref l] []) rfl]
  repeat (any_goals (first | assumption | wp_step))
  refine codeAny_mono (code_set_led1 (.ref l) (E := E) (Q₁ := fun obj s1 => obj = .ref s.heap.objs.size ∧ s1 = { s with heap := s.heap.push (newSet w) }) ⟨rfl, rfl⟩) fun r s1 hr => ?_
  cases r with
  | error e => exact hr
  | ok fl =>
    cases fl with
    | ret obj =>
      obtain ⟨rfl, rfl⟩ := hr
      have at0 : (s.heap.push (newSet w)).get? s.heap.objs.size = some (newSet w) := Heap.get?_push_size _ rfl
      have ty0 : Shared.TypeIs { s with heap := s.heap.push (newSet w) } (.ref s.heap.objs.size) "set" := ⟨_, at0, rfl⟩
      have li := F.called_set.init.lookup
      have bi := F.called_set.init.bind (.ref s.heap.objs.size)
      repeat (any_goals (first | assumption | wp_step))
      refine codeAny_mono (codeAny_call_builtin (R := wants (fun r s2 => r = .none ∧ ∃ h' tk, s2 = { s with heap := h', toks := tk } ∧ TxS w h' s.heap.objs.size ss ∧ ∀ b o, s.heap.get? b = some o → h'.get? b = some o) E) F.called_set.init.plain F.entry_set_init (check_set_init_1 ty0 ?_)) fun r2 s2 hr2 => ?_
      · obtain ⟨⟨cls, dict, data, slots⟩, ol, c1, nl, d1⟩ := il
        dsimp only at c1 d1
        subst c1 d1
        have ol' : (s.heap.push (newSet w)).get? l = some { cls := .type "list", dict := dict, data := .seq items nl, slots := slots } := Heap.get?_push_of_some _ ol
        have s1 := F.sub_list_set
        have s2 := F.sub_list_frozenset
        have ne : (Value.type "list" == Value.type "dict") = false := by decide
        have l1 : (s.heap.push (newSet w)).IsList l items := ⟨_, ol', rfl, nl, rfl⟩
        unfold Builtin.«set.__init__» noKeywords Builtin.Frozenset.updateFrom
        generalize hpi : pyIter = pi0
        wp_walk
        subst hpi
        refine wpAny_pyIter_list l1 (wpAny_bind (wpAny_runValue ?_))
        have lS : l < s.heap.objs.size := Heap.lt_size ol
        have z1 : (s.heap.push (newSet w)).objs.size = s.heap.objs.size + 1 := Heap.size_push ..
        have calm3 : A.in1.in1.in1.handled = none := calm
        have nI : l ≠ (s.heap.push (newSet w)).objs.size := by rw [z1]; exact Nat.ne_of_lt (Nat.lt_succ_of_lt lS)
        have off : s.heap.objs.size ∉ [(s.heap.push (newSet w)).objs.size, l] := by
          rw [z1]
          intro z
          rcases List.mem_cons.mp z with z | z
          · exact absurd z (Nat.ne_of_lt (Nat.lt_succ_self _))
          · rw [List.mem_singleton.mp z] at lS
            exact absurd lS (Nat.lt_irrefl _)
        have val : ∀ (i : Nat) (v : Value), items[i]? = some v → ∃ k t, ss[i]? = some k ∧ v = .str k t := fun i v hv => by
          have hi : i < ss.length := by rw [← sz]; exact (Array.getElem?_eq_some_iff.mp hv).1
          obtain ⟨t, e⟩ := SS.strs_at hit i v (by rw [Array.getElem?_toList]; exact hv)
          refine ⟨ss[i], t, List.getElem?_eq_getElem hi, ?_⟩
          rw [e, List.getD_eq_getElem?_getD, List.getElem?_eq_getElem hi]
          rfl
        refine tx_loop ((Walks.list calm3 _ l nI items).toS) s.heap.objs.size off ss sz hb val (items.size - 0) 0 _ (by omega) (Nat.zero_le _) ⟨⟨_, Heap.get?_push_size _ rfl, rfl, rfl⟩, (l1.push _)⟩ ?hS0 ?hR
        case hS0 => exact tx_fresh (Heap.get?_push_of_some _ at0)
        case hR =>
          intro s3 mv x3
          obtain ⟨h3, g3, d3, t3, os3⟩ := s3
          obtain rfl : g3 = s.gens := mv.gens
          obtain rfl : d3 = s.drawn := mv.drawn
          obtain rfl : os3 = s.os := mv.os
          show wpAny _ _ _ _ _ _
          refine wpAny_pure ?_
          show wpAny _ _ (ret Value.none) _ _ _
          refine wpAny_pure ⟨rfl, h3, t3, rfl, x3, fun b o e => ?_⟩
          have b0 : b < s.heap.objs.size := Heap.lt_size e
          refine mv.heap b o (fun z => ?_) (Heap.get?_push_of_some _ (Heap.get?_push_of_some _ e))
          rcases List.mem_cons.mp z with z | z
          · rw [z] at b0
            exact absurd b0 (Nat.lt_irrefl _)
          · rw [List.mem_singleton.mp z, z1] at b0
            exact absurd b0 (Nat.not_lt_of_lt (Nat.lt_succ_self _))
      · cases r2 with
        | error e => exact hr2
        | ok fl2 =>
          cases fl2 with
          | ret r =>
            obtain ⟨rfl, h', tk, rfl, x, k⟩ := hr2
            repeat (any_goals (first | assumption | wp_step))
            exact fin _ _ x k
          | _ => exact hr2.elim
    | _ => exact hr.elim
/-! ### sorted -/
theorem strs_map : ∀ (l : List Value), (∀ v ∈ l, ∃ k tk, v = Value.str k tk) → StrsAre l (l.map fun v => tkOf (0, v))
  | [], _ => .nil
  | v :: l, h => by
    obtain ⟨k, tk, rfl⟩ := h v (List.mem_cons_self ..)
    exact .cons k tk (strs_map l fun u hu => h u (List.mem_cons_of_mem _ hu))
theorem tx_sorted {a : Addr} {S : List Str} {Q : Value → Shared → Prop} (x : TxS w s.heap a S) (calm : A.handled = none) (few : S.length < 64)
    (fin : ∀ s' p (out : Array Value) (c : Nat) (ys : List Str), (∀ b o, s.heap.get? b = some o → s'.heap.get? b = some o) → s'.gens = s.gens → s'.os = s.os → s.heap.objs.size ≤ p →
      s'.heap.get? p = some (seqObj "list" out c) → StrsAre out.toList ys → sortedS ys = true → ys.Nodup → (∀ k, k ∈ ys ↔ k ∈ S) → Q (.ref p) s') :
    wpAny (model P w) A (call (.builtin "sorted") [.ref a]) Q E s := by
  obtain ⟨o, es, ep, t, ho, ⟨hx, hd⟩, g, nd, hm, ⟨hb, hf, hl⟩, hr, hd2⟩ := x
  refine Calls.call_function_entry kind_sorted plain_sorted entry_sorted (args_sorted1 _) ?_
  unfold Builtin.«sorted»
  refine wpAny_bind (m := checkCount "sorted" 1 1 _) (wpAny_pure (wpAny_bind (collect_set (A := A.in1) calm ⟨o, ho, hx.1, hd⟩ hf hb hr hd2 fun s1 vs k1 z1 g1 o1 pm => ?_)))
  have lv : vs.length = es.size := by rw [pm.length_eq, List.length_map, Array.length_toList]
  have sv : StrsAre vs (vs.map fun v => tkOf (0, v)) := strs_map vs fun v hv => by
    obtain ⟨e, he, q⟩ := List.mem_map.mp (pm.mem_iff.mp hv)
    obtain ⟨k, tk, h1, _⟩ := g e he
    exact ⟨k, tk, by rw [← q]; exact h1⟩
  have pk : (vs.map fun v => tkOf (0, v)).Perm (es.toList.map tkOf) := by
    have q := pm.map fun v => tkOf (0, v)
    rw [List.map_map] at q
    exact q
  refine wpAny_bind (wpAny_newList ?_ (small64 (by omega)))
  have oL : (s1.heap.push (seqObj "list" vs.toArray 0)).get? s1.heap.objs.size = some (seqObj "list" vs.toArray 0) := Heap.get?_push_size _ rfl
  refine wpAny_bind (wpAny_holding (wpAny_call_entry slot_list_sort ⟨_, oL, rfl⟩ entry_list_sort
    (list_sort_treeK strKind_oneLt (s := { s1 with heap := s1.heap.push (seqObj "list" vs.toArray 0) }) oL sv.keysOf (fun v₁ v₂ rest e => keyKind_strs (by rw [← e]; exact sv)) (by omega) fun st' hp hs => ⟨_, rfl, ?_⟩) (args_list_sort _)))
  obtain ⟨ys, q1, q2, q3⟩ := sorted_out_str sv hp hs
  obtain ⟨c, hc⟩ := sortedHeap_at (vs := vs) (out := (arrOf st').map (·.2)) oL
  have pn : ys.Perm (es.toList.map tkOf) := q2.trans pk
  refine wpAny_pure ⟨_, rfl, fin _ s1.heap.objs.size _ c ys (fun b u e => ?_) g1 o1 z1 hc q1 q3 (pn.nodup_iff.mpr nd) fun k => by rw [pn.mem_iff, ← hm k]⟩
  have q := k1 b u e
  have lt := Heap.lt_size q
  show (sortedHeap _ s1.heap.objs.size vs _).get? b = some u
  rw [sortedHeap_old (Nat.ne_of_lt lt) (by rw [Heap.size_push]; exact Nat.lt_succ_of_lt lt)]
  exact Heap.get?_push_of_some _ q
end
end Lm
/-! A sorted list without doubles is one by its members. -/
namespace Lm
open PySem PySem.Spec PyProof.Rows L2
/-- the set's object -/
def TxO (w : World) (a : Addr) (S : List Str) : HO := .ext fun h => TxS w h a S
theorem txO_ok {w : World} {P : Program} {H : Hp} {h : Heap} {a : Addr} {S : List Str} (x : TxS w h a S) : ObjOk P w H h a (TxO w a S) := by
  refine ⟨x, ?_, fun h1 h2 p k => TxS.stay p k⟩
  obtain ⟨o, _, _, _, ho, _⟩ := x
  exact ⟨o, ho⟩
section
variable {X : Cx}
def rSetTx (K : PySem.W.Frag) (w : World) : List V → Hp → VK → Prop := fun vs H Q => ∃ (l : Addr) (ss : List Str), vs = [V.ref l] ∧ SqL K H l (ss.map V.str) ∧ ss.length < 64 ∧ ∀ a, H a = none → Q (.ref a) (upd H a (TxO w a ss))
theorem cr_setTx (hc : X.calm = true) : CallR X (.type "set") (rSetTx X.K X.w) := by
  intro pins s σ H xs us Q I r h
  obtain ⟨l, ss, rfl, hl, h6, q⟩ := h
  obtain rfl := Vals.ref1 r
  obtain ⟨its, rv, ht, _⟩ := I.list hl
  refine tx_call ss (I.ok.hd hc) ht.isList (by simpa using rv.strs) (by unfold scanBound; omega) fun h' tk x kp => ?_
  exact ⟨.ref _, _, I.laid (t' := tk) kp (Nat.le_refl _) (txO_ok x), rfl, q _ (I.hok.fresh (Nat.le_refl _))⟩
def rSortTx (w : World) : List V → Hp → VK → Prop := fun vs H Q => ∃ (a : Addr) (ss : List Str), vs = [V.ref a] ∧ H a = some (TxO w a ss) ∧ ss.length < 64 ∧
  ∀ (ys : List Str) (p : Addr), sortedS ys = true → ys.Nodup → (∀ k, k ∈ ys ↔ k ∈ ss) → H p = none → Q (.ref p) (upd H p (.lst (ys.map V.str)))
theorem nodup_sub : ∀ {ys ss : List Str}, ys.Nodup → (∀ k, k ∈ ys → k ∈ ss) → ys.length ≤ ss.length
  | [], _, _, _ => Nat.zero_le _
  | y :: r, ss, nd, h => by
    obtain ⟨n1, n2⟩ := List.nodup_cons.mp nd
    have my := h y (List.mem_cons_self ..)
    have := nodup_sub (ss := ss.erase y) n2 fun k hk => (List.mem_erase_of_ne fun e => n1 (by rw [← e]; exact hk)).mpr (h k (List.mem_cons_of_mem _ hk))
    have l := List.length_erase_of_mem my
    have p := List.length_pos_of_mem my
    rw [List.length_cons]
    omega
theorem nodup_le {ys ss : List Str} (nd : ys.Nodup) (h : ∀ k, k ∈ ys ↔ k ∈ ss) : ys.length ≤ ss.length := nodup_sub nd fun k hk => (h k).mp hk
theorem cr_sortTx (hc : X.calm = true) : CallR X (.builtin "sorted") (rSortTx X.w) := by
  intro pins s σ H vs us Q I r h
  obtain ⟨a, ss, rfl, ha, few, q⟩ := h
  have x : TxS X.w s.heap a ss := (I.hok a _ ha).1
  rw [Vals.ref1 r]
  refine tx_sorted x (I.ok.hd hc) few fun s' p out c ys k g o hp hg hi hs nd hm => ?_
  have len : (ys.map V.str).length ≤ sizeLine := by
    rw [List.length_map]
    exact small64 (Nat.lt_of_le_of_lt (nodup_le nd hm) few)
  have nn : H p = none := I.hok.fresh hp
  have J : Inv X pins σ (upd H p (.lst (ys.map V.str))) { s with heap := s'.heap, gens := s'.gens, drawn := s'.drawn, toks := s'.toks } :=
    I.call (ch := []) (Un.laid k hp nn) (I.hok.laid k hp ⟨len, out.toList, c, vals_of_strs hi, by rw [Array.toArray_toList]; exact hg⟩) (by rw [g]; exact I.bare) (fun _ z => nomatch z)
  have e : s' = { s with heap := s'.heap, gens := s'.gens, drawn := s'.drawn, toks := s'.toks } := by
    cases s'
    cases s
    cases o
    rfl
  rw [e]
  exact ⟨.ref p, _, J, rfl, q ys p hs nd hm nn⟩
end
theorem cps_tr : ∀ a b c : List Nat, ltCps b a = false → ltCps c b = false → ltCps c a = false
  | a, b, [], h1, h2 => by
    cases b with
    | nil => exact h1
    | cons y u => cases h2
  | [], _, z :: r, _, _ => rfl
  | x :: t, [], z :: r, h1, _ => by cases h1
  | x :: t, y :: u, z :: r, h1, h2 => by
    have ih := cps_tr t u r
    simp only [ltCps, Bool.or_eq_false_iff, decide_eq_false_iff_not, Bool.and_eq_false_iff, beq_eq_false_iff_ne] at h1 h2 ⊢
    refine ⟨by omega, ?_⟩
    by_cases e : z = x
    · have e1 : y = x := by omega
      have e2 : z = y := by omega
      right
      exact ih (h1.2.resolve_left fun k => k e1) (h2.2.resolve_left fun k => k e2)
    · exact .inl e
theorem cps_anti : ∀ a b : List Nat, ltCps b a = false → ltCps a b = false → a = b
  | [], [], _, _ => rfl
  | [], y :: u, _, h2 => by cases h2
  | x :: t, [], h1, _ => by cases h1
  | x :: t, y :: u, h1, h2 => by
    have ih := cps_anti t u
    simp only [ltCps, Bool.or_eq_false_iff, decide_eq_false_iff_not, Bool.and_eq_false_iff, beq_eq_false_iff_ne] at h1 h2
    have e : x = y := by omega
    subst e
    rw [ih (h1.2.resolve_left fun k => k rfl) (h2.2.resolve_left fun k => k rfl)]
theorem str_anti {a b : Str} (h1 : ltCps b.cps.toList a.cps.toList = false) (h2 : ltCps a.cps.toList b.cps.toList = false) : a = b := by
  have e := cps_anti _ _ h1 h2
  obtain ⟨⟨a⟩⟩ := a
  obtain ⟨⟨b⟩⟩ := b
  have e : a = b := e
  rw [e]
def leS (a b : Str) : Prop := ltCps b.cps.toList a.cps.toList = false
theorem pw_rise : ∀ (l : List Str) (p : Str), risingS p l = true → (p :: l).Pairwise leS
  | [], p, _ => List.pairwise_singleton _ _
  | x :: r, p, h => by
    have h : (!ltCps x.cps.toList p.cps.toList && risingS x r) = true := h
    rw [Bool.and_eq_true, Bool.not_eq_true'] at h
    have ih := pw_rise r x h.2
    refine List.pairwise_cons.mpr ⟨fun y hy => ?_, ih⟩
    rcases List.mem_cons.mp hy with rfl | hy
    · exact h.1
    · exact cps_tr _ _ _ h.1 ((List.pairwise_cons.mp ih).1 y hy)
theorem pw_sorted : ∀ {l : List Str}, sortedS l = true → l.Pairwise leS
  | [], _ => .nil
  | x :: r, h => pw_rise r x h
theorem sorted_uniq : ∀ {ys zs : List Str}, ys.Pairwise leS → zs.Pairwise leS → ys.Perm zs → ys = zs
  | [], zs, _, _, p => (List.nil_perm.mp p).symm
  | y :: r, [], _, _, p => absurd p.length_eq (fun z => nomatch z)
  | y :: r, z :: t, h1, h2, p => by
    have my : y ∈ z :: t := p.mem_iff.mp (List.mem_cons_self ..)
    have mz : z ∈ y :: r := p.mem_iff.mpr (List.mem_cons_self ..)
    have e : y = z := by
      rcases List.mem_cons.mp my with e | my
      · exact e
      · rcases List.mem_cons.mp mz with e | mz
        · exact e.symm
        · exact str_anti ((List.pairwise_cons.mp h1).1 z mz) ((List.pairwise_cons.mp h2).1 y my)
    subst e
    rw [sorted_uniq (List.pairwise_cons.mp h1).2 (List.pairwise_cons.mp h2).2 (List.Perm.cons_inv p)]
/-- the ascending list of what l holds -/
def AscOf (l ys : List Str) : Prop := sortedS ys = true ∧ ys.Nodup ∧ ∀ k, k ∈ ys ↔ k ∈ l
theorem AscOf.uniq {l m ys zs : List Str} (h1 : AscOf l ys) (h2 : AscOf m zs) (e : ∀ k, k ∈ l ↔ k ∈ m) : ys = zs :=
  sorted_uniq (pw_sorted h1.1) (pw_sorted h2.1) ((List.perm_ext_iff_of_nodup h1.2.1 h2.2.1).mpr fun k => (h1.2.2 k).trans ((e k).trans (h2.2.2 k).symm))
theorem AscOf.len {l ys : List Str} (h : AscOf l ys) : ys.length ≤ l.length := nodup_le h.2.1 h.2.2
end Lm
/-! Dicts with None among their keys: stored to, walked, asked for their class; None looked up in a dict of texts. -/
namespace Lm
open PySem PySem.Spec PyProof.Rows L2
theorem mix_n {P : Program} {w : World} {h : Heap} {a : Addr} {vs : List (Key × Value)} (d : h.DictOf (mixKind P w) a vs) : h.DictOf (noneKind P w) a (vs.map fun p => (some p.1, p.2)) := by
  obtain ⟨o, es, ep, h1, h2, h3, h4, h5, h6⟩ := d
  have key : ∀ {l : List DictEntry} {m : List (Key × Value)}, Pairs (mixKind P w) l m → Pairs (noneKind P w) l (m.map fun p => (some p.1, p.2)) := by
    intro l m q
    induction q with
    | nil => exact .nil
    | @cons e kv l' m' k1 k2 _ ih => exact .cons (show nkIs (some kv.1) e.key = true from k1) k2 ih
  refine ⟨o, es, ep, h1, h2, h3, fun e he => ?_, key h5, ?_⟩
  · obtain ⟨k, hk, hh⟩ := h4 e he
    exact ⟨some k, hk, hh⟩
  · rw [List.map_map]
    have e : ((fun p : Option Key × Value => p.1) ∘ fun p : Key × Value => (some p.1, p.2)) = (fun k : Key => some k) ∘ fun p : Key × Value => p.1 := rfl
    rw [e, ← List.map_map]
    exact List.Pairwise.map _ (fun x y hxy z => hxy (Option.some.inj z)) h6
/-- the dict at a -/
def NX (P : Program) (w : World) (a : Addr) (kvs : List (Option Key × V)) : HO := .ext fun h => kvs.length ≤ sizeLine ∧ (a == sysModules) = false ∧ ∃ vs, KV kvs vs ∧ h.DictOf (noneKind P w) a vs
def kN : Option Key → V
  | none => .non
  | some k => kV k
theorem relV_n {k : Option Key} {u : Value} (h : nkIs k u = true) : RelV (kN k) u := by
  cases k with
  | none => exact nk_none h
  | some k => exact relV_key h
theorem kN_is {P : Program} {w : World} {k : Option Key} {u : Value} (r : RelV (kN k) u) : (noneKind P w).is k u = true := by
  cases k with
  | none =>
    obtain rfl : u = Value.none := r
    rfl
  | some k => exact kV_is (P := P) (w := w) r
theorem nx_ok {P : Program} {w : World} {H : Hp} {h : Heap} {a : Addr} {kvs : List (Option Key × V)} {vs : List (Option Key × Value)} (z : kvs.length ≤ sizeLine) (hd : (a == sysModules) = false) (rel : KV kvs vs) (dd : h.DictOf (noneKind P w) a vs) : ObjOk P w H h a (NX P w a kvs) := by
  refine ⟨⟨z, hd, vs, rel, dd⟩, let ⟨o, _, _, e, _⟩ := dd; ⟨o, e⟩, ?_⟩
  rintro h1 h2 ⟨z, hd, vs, rel, o, es, ep, e, r⟩ k
  exact ⟨z, hd, vs, rel, o, es, ep, k o e, r⟩
theorem kv_some {kvs : List (Key × V)} {vs : List (Key × Value)} (h : KV kvs vs) : KV (kvs.map fun p => ((some p.1 : Option Key), p.2)) (vs.map fun p => ((some p.1 : Option Key), p.2)) := by
  unfold KV at h ⊢
  induction h with
  | nil => exact .nil
  | cons r t ih => exact .cons ⟨congrArg some r.1, r.2⟩ ih
/-- a dict of ints and texts, or of None as well -/
def DicO (P : Program) (w : World) (H : Hp) (a : Addr) (kvs : List (Option Key × V)) : Prop := (∃ ks, H a = some (.dK ks) ∧ kvs = ks.map fun p => (some p.1, p.2)) ∨ H a = some (NX P w a kvs)
section
variable {X : Cx} {pins : List (Addr × Obj)} {σ : L2.St} {H : Hp} {s : Shared} {d : Addr} {o : Obj}
theorem nx_of {kvs : List (Option Key × V)} (I : Inv X pins σ H s) (h : H d = some (NX X.prog X.w d kvs)) : kvs.length ≤ sizeLine ∧ (d == sysModules) = false ∧ ∃ vs, KV kvs vs ∧ s.heap.DictOf (noneKind X.prog X.w) d vs := (I.hok d _ h).1
theorem dicO_of {kvs : List (Option Key × V)} (I : Inv X pins σ H s) (h : DicO X.prog X.w H d kvs) : kvs.length ≤ sizeLine ∧ (d == sysModules) = false ∧ (∃ vs, KV kvs vs ∧ s.heap.DictOf (noneKind X.prog X.w) d vs) ∧ Mut (H d) := by
  rcases h with ⟨ks, h, rfl⟩ | h
  · obtain ⟨z, hd, vs, rel, dd⟩ := dk_of I.hok h
    exact ⟨by rw [List.length_map]; exact z, hd, ⟨_, kv_some rel, mix_n dd⟩, by rw [h]; exact True.intro⟩
  · obtain ⟨z, hd, q⟩ := nx_of I h
    exact ⟨z, hd, q, by rw [h]; exact True.intro⟩
theorem frzN {kvs : List (Option Key × V)} (I : Inv X pins σ H s) (h : H d = some (.frz o (NX X.prog X.w d kvs))) :
    (d == sysModules) = false ∧ s.heap.get? d = some o ∧ o.ExactDict ∧ ∃ (es : Array DictEntry) (ep : Nat) (vs : List (Option Key × Value)), o.data = .dict es ep ∧ es.size = kvs.length ∧ KV kvs vs ∧ s.heap.DictAt (noneKind X.prog X.w) d vs ep := by
  obtain ⟨hd, ⟨z, hs, vs, kv, o', es, ep, ho, hx, hdt, r⟩, _⟩ := I.hok d _ h
  rw [hd] at ho
  cases ho
  refine ⟨hs, hd, hx, es, ep, vs, hdt, ?_, kv, o, es, hd, hx, hdt, r⟩
  have l1 := r.2.1.length
  have l2 : kvs.length = vs.length := Paired.length kv
  rw [Array.length_toList] at l1
  omega
end
/-- the keys of such a locked dict -/
def Itn (P : Program) (w : World) (d : Addr) (o : Obj) (kvs : List (Option Key × V)) : It :=
  ⟨fun i H => H d = some (.frz o (NX P w d kvs)) ∧ i < kvs.length, fun i H x H' => H' = H ∧ ∃ k v, kvs[i]? = some (k, v) ∧ x = kN k, fun i H => H d = some (.frz o (NX P w d kvs)) ∧ kvs.length ≤ i⟩
theorem walk_nx {P : Program} {w : World} {d : Addr} {o : Obj} {kvs : List (Option Key × V)} : Walk (Itn P w d o kvs) kvs.length (fun H => H d = some (.frz o (NX P w d kvs))) (fun i H x H' => H' = H ∧ ∃ k v, kvs[i]? = some (k, v) ∧ x = kN k) :=
  ⟨fun _ _ hi q => ⟨q, hi⟩, fun _ q => ⟨q, Nat.le_refl _⟩, fun _ _ _ _ _ _ y => y⟩
section
variable {P : Program} {w : World} {K : PySem.W.Frag} {tg : Expr} {d : Addr} {o : Obj} {es : Array DictEntry} {ep : Nat}
theorem turn_nx {kvs : List (Option Key × V)} (it : Addr) (hod : o.data = .dict es ep) : Turn P w K tg (Itn P w d o kvs) [it] it (fun i h => h.IsKeyIter it d i kvs.length ep) where
  mem := by simp
  obj := fun i h st b hb => by
    have e : b = it := by simpa using hb
    subst e
    obtain ⟨oi, e, c, dd⟩ := st
    exact ⟨oi, e, fun v z => by rw [dd] at z; cases z⟩
  keep := fun i h h' st k => st.at fun oi e => k it (by simp) oi e
  item := by
    intro X hP hw hK hc i pins s σ H E I hf st hg
    subst hP hw hK
    obtain ⟨hd, hi⟩ := hg
    obtain ⟨f0, f1, f2, f3, f4, f5⟩ := hf it (by simp)
    obtain ⟨hs, hgd, hx, es', ep', vs, hdt, hsz, kv, hm⟩ := frzN I hd
    obtain ⟨rfl, rfl⟩ := dict_ep hod hdt
    obtain ⟨⟨k, v⟩, hkv⟩ : ∃ p, kvs[i]? = some p := ⟨kvs[i], List.getElem?_eq_getElem hi⟩
    obtain ⟨u, hu, ru⟩ := kv_get kv hkv
    have hl : kvs.length = vs.length := Paired.length kv
    rw [hl] at st
    refine wpAny_pyNext_dict_item st hm hu fun key h' hkey st' sb => ?_
    have I1 : Inv X pins σ H { s with heap := h' } := I.turned (t' := s.toks) (fun b ob hb e => (sb.2 b hb).trans e) f0 f1 f3 f4 f5
    obtain ⟨oi, e, c, dd⟩ := id st'
    refine ⟨key, rfl, go_of (s := { s with heap := h' }) e c dd (by decide) ⟨kN k, H, I1, relV_n (show nkIs k key = true from hkey), ⟨rfl, k, v, hkv, rfl⟩, ?_, fun b hb => (hf b hb).1⟩⟩
    show h'.IsKeyIter it d (i + 1) kvs.length _
    rw [hl]
    exact st'
  done := by
    intro X hP hw hK hc i pins s σ H E I hf st hg
    subst hP hw hK
    obtain ⟨hd, hi⟩ := hg
    obtain ⟨f0, f1, f2, f3, f4, f5⟩ := hf it (by simp)
    obtain ⟨hs, hgd, hx, es', ep', vs, hdt, hsz, kv, hm⟩ := frzN I hd
    obtain ⟨rfl, rfl⟩ := dict_ep hod hdt
    exact next_key_end (I.ok.hd hc) st hgd hdt hsz hi fun h' eb => ⟨rfl, I.turned (t' := s.toks) (fun b ob hb e => eb b ob hb e) f0 f1 f3 f4 f5⟩
  self := fun A i s Q E st h => wpAny_pyIter_keyiter st h
end
/-- for k in d: the dict is locked, and of either kind -/
def iKeysN (P : Program) (w : World) (td : TE) : TI := fun σ H R => td σ H fun x H1 => ∃ d o, x = .ref d ∧ ((∃ kvs, H1 d = some (.frz o (.dK kvs)) ∧ R (Itk d o kvs) H1) ∨ ∃ kvs, H1 d = some (.frz o (NX P w d kvs)) ∧ R (Itn P w d o kvs) H1)
section
variable {X : Cx} {tg e : Expr} {td : TE} {P : Program} {w : World}
theorem pi_keysN (he : PE X e td) (hP : X.prog = P := by rfl) (hw : X.w = w := by rfl) : PI X tg e (iKeysN P w td) := by
  subst hP hw
  refine ⟨fun pins s σ H R I h => ?_⟩
  refine thn (he.run pins s σ H _ I h) fun u s1 ⟨x, H1, I1, rx, d, o, ex, q⟩ => ?_
  subst ex
  obtain rfl : u = Value.ref d := rx
  rcases q with ⟨kvs, hd, q⟩ | ⟨kvs, hd, q⟩
  · obtain ⟨hs, hgd, hx, es, ep, vs, hdt, hsz, kv, hm⟩ := I1.frzK hd
    refine iter_keys hs hgd hx hdt (pi_one (tk := s1.toks) I1 _ (turn_keys _ hdt) ⟨_, Heap.get?_push_size _ rfl, rfl, ?_⟩ q)
    rw [hsz] <;> rfl
  · obtain ⟨hs, hgd, hx, es, ep, vs, hdt, hsz, kv, hm⟩ := frzN I1 hd
    refine iter_keys hs hgd hx hdt (pi_one (tk := s1.toks) I1 _ (turn_nx _ hdt) ⟨_, Heap.get?_push_size _ rfl, rfl, ?_⟩ q)
    rw [hsz] <;> rfl
end
/-! ### d[k] = v -/
def sDPutN (P : Program) (w : World) (td ty tv : TE) : TS := fun D σ H => tv σ H fun v H1 => td σ H1 fun x H2 => ty σ H2 fun y H3 => ∃ a kvs k, x = .ref a ∧ DicO P w H3 a kvs ∧ y = kN k ∧ kvs.length < sizeLine ∧ D.nx σ (upd H3 a (NX P w a (putK kvs k v)))
section
variable {X : Cx} {o i value : Expr} {td ty tv : TE} {pos pos' : Pos}
theorem ps_dputN (ho : PE X o td) (hi : PE X i ty) (hv : PE X value tv) (hs : swapsWith value (some (.Subscript o i pos')) pos.line X.env = pure false) :
    PS X (.Assign [.Subscript o i pos'] value pos) (sDPutN X.prog X.w td ty tv) := by
  refine ⟨fun pins s σ H D I h => ?_⟩
  refine wpAny_Assign_Subscript (thn (hv.run pins s σ H _ I h) fun r s1 ⟨v, H1, I1, rv, q1⟩ => thn (ho.run pins s1 σ H1 _ I1 q1) fun u s2 ⟨x, H2, I2, rx, q2⟩ => thn (hi.run pins s2 σ H2 _ I2 q2) fun iv s3 ⟨y, H3, I3, ry, a, kvs, k, ex, g, ey, hl, q3⟩ => ?_) hs
  subst ex ey
  obtain rfl : u = Value.ref a := rx
  obtain ⟨z, hd, ⟨vs, rel, dd⟩, mu⟩ := dicO_of I3 g
  have hz : vs.length ≤ sizeLine := by rw [← rel.length]; exact z
  refine wpAny_setItem_pairs (knd := noneKind X.prog X.w) (hsz := hz) (kN_is ry) dd fun h' dd' hs' => ⟨σ, _, ?_, q3⟩
  have he : ∃ q, h'.get? a = some q := let ⟨q, _, _, hq, _⟩ := dd'; ⟨q, hq⟩
  refine d_write (t' := s3.toks + 1) I3 mu hs' he (nx_ok ?_ hd (rel.put k rv) dd')
  have := length_putK kvs k v
  omega
end
/-! ### {None: v} -/
def disQ (P : Program) (w : World) (p : Addr) (Q : VK) : List (V × V) → Hp → Prop
  | [(x, y)], H2 => x = .non ∧ H2 p = some (.dK []) ∧ Q (.ref p) (upd H2 p (NX P w p [(none, y)]))
  | _, _ => False
def tDisN (P : Program) (w : World) (tk tv : TE) : TE := fun σ H Q => ∀ p, H p = none → tk σ (upd H p (.dK [])) fun x H1 => tv σ H1 fun y H2 => x = .non ∧ H2 p = some (.dK []) ∧ Q (.ref p) (upd H2 p (NX P w p [(none, y)]))
theorem pe_disN {X : Cx} {k v : Expr} {pos : Pos} {tk tv : TE} (hk : PE X k tk) (hv : PE X v tv) : PE X (.Dict [some k] [v] pos) (tDisN X.prog X.w tk tv) := by
  refine ⟨fun pins s σ H Q I q => ?_⟩
  have I1 := I.laid (a := s.heap.objs.size) (o := .dK []) (h' := s.heap.push { cls := .type "dict", data := .dict #[] }) (t' := s.toks) (fun _ _ q => Heap.get?_push_of_some _ q) (Nat.le_refl _) (dk_empty s.heap I.big)
  refine wpAny_Dict_walk (knd := noneKind X.prog X.w) rfl rfl (fun z => nomatch z) (by show 1 ≤ 15; decide) (thn ((pps_cons (pos := pos) hk hv pps_nil).run pins _ σ _ (disQ X.prog X.w s.heap.objs.size Q) I1 (q _ (I.hok.fresh (Nat.le_refl s.heap.objs.size)))) fun ws s2 ⟨ps, H2, I2, rel, qq⟩ => ?_)
  cases rel with
  | nil => exact qq.elim
  | @cons p b ps bs r t =>
    cases t with
    | cons _ _ => exact qq.elim
    | nil =>
      obtain ⟨x, u⟩ := p
      obtain ⟨b1, b2⟩ := b
      obtain ⟨r1, r2⟩ := r
      obtain ⟨ex, e, q2⟩ := qq
      have ex : x = V.non := ex
      subst ex
      obtain rfl : b1 = Value.none := r1
      obtain ⟨z, hd, vs0, r0, dd⟩ := dk_of I2.hok e
      cases r0
      refine ⟨[(none, b2)], ⟨rfl, rfl, trivial⟩, mix_n dd, fun h' dd' hs => ⟨.ref s.heap.objs.size, _, ?_, rfl, q2⟩⟩
      have he : ∃ q, h'.get? s.heap.objs.size = some q := let ⟨q, _, _, hq, _⟩ := dd'; ⟨q, hq⟩
      exact d_write I2 (by rw [e]; exact True.intro) hs he (nx_ok (by show 1 ≤ sizeLine; decide) hd (.cons ⟨rfl, r2⟩ .nil) dd')
/-! ### isinstance of such a dict -/
def TyN (P : Program) (w : World) (K : PySem.W.Frag) (H : Hp) (x : V) (t : Value) : Prop := TyX K H x t ∨ ∃ a kvs, x = .ref a ∧ H a = some (NX P w a kvs) ∧ t = .type "dict"
theorem kit_ofN {X : Cx} {pins : List (Addr × Obj)} {σ : L2.St} {H : Hp} {s : Shared} {x : V} {u t : Value} (I : Inv X pins σ H s) (rx : RelV x u) (ty : TyN X.prog X.w X.K H x t) : ∃ P : Heap → Prop, PySem.W.KitX X.K u t P ∧ P s.heap ∧ u ≠ .builtin "__main__.__loader__#opaque" := by
  rcases ty with ty | ⟨a, kvs, rfl, ha, rfl⟩
  · exact kit_of I rx ty
  · cases (show u = Value.ref a from rx)
    obtain ⟨z, hs, vs, kv, o, es, ep, h1, h2, _⟩ := nx_of I ha
    exact ⟨_, PySem.W.kitx_dict, ⟨o, h1, h2.1⟩, fun z => nomatch z⟩
def rIsiN (P : Program) (w : World) (K : PySem.W.Frag) : List V → Hp → VK → Prop := fun xs H Q => ∃ (x c : V) (t u : Value) (b : Bool), xs = [x, c] ∧ ClsV c u ∧ TyN P w K H x t ∧ PySem.W.kitOne K t u = some b ∧ Q (.bl b) H
theorem call_isiN {X : Cx} {P : Program} {w : World} {K : PySem.W.Frag} (hP : X.prog = P := by rfl) (hw : X.w = w := by rfl) (hK : X.K = K := by rfl) : CallR X (.builtin "isinstance") (rIsiN P w K) := by
  subst hP hw hK
  intro pins s σ H xs us Q I r h
  obtain ⟨x, c, t, u, b, rfl, k, ty, e, q⟩ := h
  obtain ⟨u1, u2, rfl, r1, r2⟩ := vals2 r
  have e2 := k.eq r2
  subst e2
  obtain ⟨P, Z, p, hx⟩ := kit_ofN I r1 ty
  exact PySem.W.kia_one Z I.kIn p e hx fun tk => ⟨.bl b, H, I.tok tk, rfl, q⟩
/-! ### d.get(k, v), k a key or None -/
def tDGet2N (td ty tx : TE) : TE := fun σ H Q => td σ H fun x H1 => ∃ a, x = .ref a ∧ IsD H1 a ∧ ty σ H1 fun y H2 => tx σ H2 fun z H3 => (∃ o, DGet H3 a y o ∧ Q (o.getD z) H3) ∨ ∃ kvs, y = .non ∧ Rd H3 a (.dK kvs) ∧ Q z H3
theorem pe_dget2N {X : Cx} {o e f : Expr} {apos cpos : Pos} {td ty tx : TE} (hu : X.A.units + 1 < cLine) (ho : PE X o td) (he : PE X e ty) (hf : PE X f tx) (m : M2 X o "get" apos e f cpos) : PE X (.Call (.Attribute o "get" apos) [e, f] [] cpos) (tDGet2N td ty tx) := by
  refine ⟨fun pins s σ H Q I h => ?_⟩
  refine wpAny_Call_method m.base m.few m.line PySem.F.plainAttrs_dict PySem.F.slot_dict_get PySem.F.type_dict_get (thn (ho.run pins s σ H _ I h) fun u s1 hh => ?_)
  obtain ⟨x, H1, I1, rx, a, ex, d, q1⟩ := hh
  subst ex
  obtain rfl : u = Value.ref a := rx
  obtain ⟨t1, t2, _⟩ := isD_at I1 d
  refine ⟨t1, t2, ?_⟩
  rw [m.trees]
  refine Calls.callWith_builtin rfl (Calls.evalArgs_plain (Calls.spliced_cons (thn (he.run pins s1 σ H1 _ I1 q1) fun iv s2 h2 => ?_)))
  obtain ⟨y, H2, I2, ry, q2⟩ := h2
  refine Calls.spliced_cons (thn (hf.run pins s2 σ H2 _ I2 q2) fun fv s3 h3 => Calls.spliced_nil ?_)
  obtain ⟨z, H3, I3, rz, q3⟩ := h3
  rcases q3 with ⟨ov, g, q3⟩ | ⟨kvs, ey, g, q3⟩
  · exact d_get2 hu I3 g ry rz fun w' s4 I4 rw' => ⟨_, H3, I4, rw', q3⟩
  · subst ey
    obtain rfl : iv = Value.none := ry
    obtain ⟨_, hd, vs, _, dd⟩ := dk_rd I3.hok g
    obtain ⟨fm, hm, hf0⟩ := none_map dd
    refine call_meetsIn PySem.F.slot_dict_get dd.typeIs PySem.F.entry_dict_get (PySem.F.args_dict_get_3 _ _ _) (meets_dict_get_default (noneKind X.prog X.w) a (key := Value.none) (k := none) rfl hd fv) ⟨_, hm, ?_⟩
    rw [hf0]
    exact ⟨z, H3, I3.tok _, rz, q3⟩
end Lm
/-! free_in, free_names, is_term. -/
namespace Lm
open PySem PySem.Spec PyProof.Rows L2
theorem cr_setTxK {X : Cx} (K : PySem.W.Frag) (w : World) (hc : X.calm = true) (hK : X.K = K := by rfl) (hw : X.w = w := by rfl) : CallR X (.type "set") (rSetTx K w) := hK ▸ hw ▸ cr_setTx hc
theorem cr_sortTxK {X : Cx} (w : World) (hc : X.calm = true) (hw : X.w = w := by rfl) : CallR X (.builtin "sorted") (rSortTx w) := hw ▸ cr_sortTx hc
section
variable {P : Program} {w : World} {K : PySem.W.Frag} {mg : Str → Option Value} {base : Heap}
abbrev sFree : Stmt := topS 25
theorem scFree : FnScope ["saying"] ["saying"] (defScope sFree) := ⟨rfl, rfl, rfl, by decide +kernel, rfl, by decide +kernel, by decide +kernel⟩
def spFree (n : Nat) : Sp := fun vs H Q _ => ∃ (D : DrA) (m : Nat) (v : V) (d : PyData) (bs : List Str) (k : Nat), vs = [v] ∧ DrawAt D m H ∧ Da D H v d ∧ fitsN k bs d = true ∧ d.weight ≤ 20000 ∧ k ≤ n ∧ (namesN k d).length < 64 ∧
  ∀ (H' : Hp) (R : Addr) (ys : List Str), H R = none → AscOf (namesN k d) ys → H' R = some (.lst (ys.map V.str)) → Same H H' → Q (.ref R) H'
theorem ok_free {f : Addr} {fd : FuncData} (F : Fun K "free_in" "free_in" sFree f fd) (N : Bl mg) (bset : mg "set" = none) (n : Nat) (GN : Has P w K mg base CX0 (n + 5) "names_in" ["saying"] (spNames n)) : FnOk P w K mg base CX0 (n + 6) f fd ["saying"] (spFree n) := by
  refine F.ok scFree (fun vs H Q E h => ?_) (fun cdv A outer s H vs Q E hr h => ?_)
  · obtain ⟨D, m, v, d, bs, k, rfl, _⟩ := h
    rfl
  · obtain ⟨D, m, v, d, bs, k, rfl, dr, hd, fit, wt, hk, few, q⟩ := h
    refine ⟨_, pss_one (ps_ret (pe_callB (cr_sortTxK w rfl) (by rfl) N.bsrt (by decide +kernel) (pa_cons (pe_callTy (cr_setTxK K w rfl) (by rfl) bset (by decide +kernel) (pa_cons (pe_h GN hr (by omega) (by rfl) pass0 (pa_cons (pv 0) pa_nil)) pa_nil)) pa_nil))), ?_⟩
    refine ⟨_, rfl, D, m, v, d, bs, k, rfl, dr, hd, fit, wt, hk, fun H1 L nL hL s1 => ⟨L, namesN k d, rfl, SqL.of hL, few, fun a na => ⟨a, namesN k d, rfl, upd_same, few, fun ys p so nd mem np => ?_⟩⟩⟩
    have s2 := same_upd (o := TxO w a (namesN k d)) na
    have s12 : Same H (upd H1 a (TxO w a (namesN k d))) := fun b o e => s2 b o (s1 b o e)
    exact q _ p ys (none_of s12 np) ⟨so, nd, mem⟩ upd_same fun b o e => same_upd np b o (s12 b o e)
/-! ### free_names -/
abbrev sFN : Stmt := topS 34
theorem scFN : FnScope ["saying"] ["saying"] (defScope sFN) := ⟨rfl, rfl, rfl, by decide +kernel, rfl, by decide +kernel, by decide +kernel⟩
def spFN (BS : Addr) (n : Nat) : Sp := fun vs H Q E => ∃ (D : DrA) (m : Nat) (v : V) (d : PyData) (k : Nat), vs = [v] ∧ DrawAt D m H ∧ Da D H v d ∧ Askd k d ∧ k ≤ n ∧
  ((fitsN k [] d = true ∧ (namesN k d).length < 64 ∧ ∀ (H' : Hp) (R : Addr) (ys : List Str), H R = none → AscOf (namesN k d) ys → H' R = some (.tup (ys.map V.str)) → Same H H' → Q (.ref R) H') ∨ (fitsN k [] d = false ∧ ∀ H', Same H H' → E (.ref BS) none H'))
theorem ok_fn {BS : Addr} {f : Addr} {fd : FuncData} (F : Fun K "free_names" "free_names" sFN f fd) (N : Bl mg) (n : Nat) (GC : Has P w K mg base (L2.CX P w) (n + 7) "check_saying" ["saying"] (spCkS BS n)) (GF : Has P w K mg base CX0 (n + 6) "free_in" ["saying"] (spFree n)) : FnOk P w K mg base (L2.CX P w) (n + 8) f fd ["saying"] (spFN BS n) := by
  refine F.okX scFN (fun vs H Q E h => ?_) (fun cdv A outer s H vs Q E hr h => ?_)
  · obtain ⟨D, m, v, d, k, rfl, _⟩ := h
    rfl
  · obtain ⟨D, m, v, d, k, rfl, dr, hd, a, hk, q⟩ := h
    refine ⟨_, pss_cons (ps_expr (pe_h GC hr (by omega) (by rfl) (E := E) passE (pa_cons (pv 0) pa_nil)))
      (pss_one (ps_ret (pe_callTy call_tuple_of (by rfl) N.btup (by decide +kernel) (pa_cons (pe_h GF hr (by omega) (by rfl) (E := C8.E0) pass0 (pa_cons (pv 0) pa_nil)) pa_nil)))), ?_⟩
    refine ⟨_, rfl, D, m, v, d, k, rfl, dr, hd, a, hk, ?_⟩
    rcases q with ⟨hb, few, q⟩ | ⟨hb, q⟩
    · refine .inl ⟨hb, fun H1 s1 => ?_⟩
      refine ⟨_, rfl, D, m, v, d, [], k, rfl, dr.sm s1, hd.sm s1, hb, a.wt, hk, few, fun H2 R ys nR as hR s2 => ?_⟩
      refine ⟨R, _, rfl, .inl ⟨SqL.of hR, fun p np => ?_⟩⟩
      have s12 : Same H H2 := fun b o e => s2 b o (s1 b o e)
      exact q _ p ys (none_of s12 np) as upd_same fun b o e => same_upd np b o (s12 b o e)
    · exact .inr ⟨hb, fun H1 s1 => q H1 s1⟩
/-! ### is_term -/
abbrev sTerm : Stmt := topS 35
theorem scTerm : FnScope ["thing"] ["thing"] (defScope sTerm) := ⟨rfl, rfl, rfl, by decide +kernel, rfl, by decide +kernel, by decide +kernel⟩
def freeOrNone : PyData → Bool
  | .none => true
  | d => freeNameD d
def termD : PyData → Bool
  | .tuple [a, b] => freeOrNone a && isNum b
  | _ => false
theorem ok_term {f : Addr} {fd : FuncData} (F : Fun K "is_term" "is_term" sTerm f fd) (GT : Has P w K mg base CX0 1 "is_tuple_of" ["thing", "count"] spTupD) (GF : Has P w K mg base CX0 2 "is_free_name" ["thing"] (spB freeNameD)) (GN : Has P w K mg base CX0 1 "is_number" ["thing"] spNum) : FnOk P w K mg base CX0 3 f fd ["thing"] (spB termD) := by
  refine F.ok scTerm (fun vs H Q E h => ?_) (fun cdv A outer s H vs Q E hr h => ?_)
  · obtain ⟨D, v, d, rfl, _⟩ := h
    rfl
  · obtain ⟨D, v, d, rfl, hd, sd, q⟩ := h
    refine ⟨_, pss_cons (ps_if (pt_not (pt_val (pe_h GT hr (by decide) (by rfl) pass0 (pa_cons (pv 0) (pa_cons pe_int pa_nil))))) (pss_one (ps_ret pe_bl)) pss_nil)
      (pss_one (ps_ret (pe_and (pe_or (pe_cmpR op_isN1 (pe_ix ix_tup (pv 0) pe_int (fun _ _ => rfl)) pe_non (nomark _)) (pe_one (pe_h GF hr (by decide) (by rfl) pass0 (pa_cons (pe_ix ix_tup (pv 0) pe_int (fun _ _ => rfl)) pa_nil))))
        (pe_one (pe_h GN hr (by decide) (by rfl) pass0 (pa_cons (pe_ix ix_tup (pv 0) pe_int (fun _ _ => rfl)) pa_nil)))))), ?_⟩
    refine ⟨_, rfl, D, v, d, 2, rfl, hd, _, rfl, ?_⟩
    by_cases l2 : tupLen d = some 2
    · obtain ⟨p, xs, ds, rfl, rfl, hp, pd, pw, ha⟩ := hd.tupOf (by cases d <;> first | rfl | cases l2)
      obtain ⟨a, b, rfl⟩ : ∃ a b, ds = [a, b] := by
        have l2 : ds.length = 2 := Option.some.inj l2
        match ds, l2 with
        | [a, b], _ => exact ⟨a, b, rfl⟩
      cases ha with
      | @cons va _ _ _ h1 ha => cases ha with
      | @cons vb _ _ _ h2 ha =>
        cases ha
        have sd : (shortD a && (shortD b && true)) = true := sd
        rw [Bool.and_eq_true] at sd
        rw [decide_eq_true l2]
        have q : Q (.bl (freeOrNone a && isNum b)) H := q
      
        refine iteF ⟨_, rfl, p, _, 0, va, rfl, rfl, SqT.of hp, atI_nat (j := 0) rfl, rfl, ?_⟩
        by_cases vn : va = .non
        · subst vn
          cases h1
          rw [decide_eq_true rfl]
          refine ⟨_, rfl, iteT ⟨_, rfl, iteT ⟨_, rfl, p, _, 1, vb, rfl, rfl, SqT.of hp, atI_nat (j := 1) rfl, D, vb, b, rfl, h2, ?_⟩⟩⟩
          exact q
        · rw [decide_eq_false vn]
          have en : freeOrNone a = freeNameD a := by cases h1 <;> first | rfl | exact absurd rfl vn
          rw [en] at q
          refine ⟨_, rfl, iteF ⟨_, rfl, p, _, 0, va, rfl, rfl, SqT.of hp, atI_nat (j := 0) rfl, D, va, a, rfl, h1, sd.1, ⟨_, rfl, ?_⟩⟩⟩
          refine ite2 (fun z => ?_) (fun z => ?_)
          · rw [z, Bool.true_and] at q
            exact ⟨_, rfl, p, _, 1, vb, rfl, rfl, SqT.of hp, atI_nat (j := 1) rfl, D, vb, b, rfl, h2, q⟩
          · rw [Bool.not_eq_true] at z
            rw [z, Bool.false_and] at q
            exact q
    · rw [decide_eq_false l2]
      have z : termD d = false := by
        cases d with
        | tuple ds =>
          match ds, l2 with
          | [], _ => rfl
          | [_], _ => rfl
          | [_, _], e => exact absurd rfl e
          | _ :: _ :: _ :: _, _ => rfl
        | _ => rfl
      rw [z] at q
      exact iteT q
end
end Lm
/-! Data told in the heap without some places; statements one after the other. -/
namespace Lm
open PySem PySem.Spec PyProof.Rows L2
def Step (X : Cx) (st : Stmt) (I J : L2.St → Hp → Prop) : Prop := ∃ t, PS X st t ∧ ∀ D σ H, I σ H → (∀ σ' H', J σ' H' → D.nx σ' H') → t D σ H
def StepS (X : Cx) (st : List Stmt) (I J : L2.St → Hp → Prop) : Prop := ∃ t, PSs X st t ∧ ∀ D σ H, I σ H → (∀ σ' H', J σ' H' → D.nx σ' H') → t D σ H
theorem steps_nil {X : Cx} {I : L2.St → Hp → Prop} : StepS X [] I I := ⟨_, pss_nil, fun D σ H h q => q σ H h⟩
theorem steps_cons {X : Cx} {st : Stmt} {r : List Stmt} {I J L : L2.St → Hp → Prop} (h1 : Step X st I J) (h2 : StepS X r J L) : StepS X (st :: r) I L := by
  obtain ⟨t1, p1, q1⟩ := h1
  obtain ⟨t2, p2, q2⟩ := h2
  exact ⟨_, pss_cons p1 p2, fun D σ H h q => q1 _ σ H h fun σ' H' h' => q2 _ σ' H' h' q⟩
/-! ### without what stands at some places -/
def HidL (zs : List Addr) (H : Hp) : Hp := fun b => if b ∈ zs then none else H b
theorem HidL.sub {zs : List Addr} {H : Hp} {b : Addr} {o : HO} (h : HidL zs H b = some o) : b ∉ zs ∧ H b = some o := by
  unfold HidL at h
  by_cases e : b ∈ zs
  · rw [if_pos e] at h; cases h
  · rw [if_neg e] at h; exact ⟨e, h⟩
theorem HidL.of {zs : List Addr} {H : Hp} {b : Addr} {o : HO} (n : b ∉ zs) (h : H b = some o) : HidL zs H b = some o := by
  unfold HidL
  rw [if_neg n]
  exact h
theorem hidL_nil (H : Hp) : HidL [] H = H := by
  funext b
  unfold HidL
  rw [if_neg (by simp)]
theorem hidL_fr {zs : List Addr} {D : DrA} {H H' : Hp} (f : Fr D H H') : FrT D (HidL zs H) (HidL zs H') := fun b o e n1 n2 _ => by
  obtain ⟨h1, h2⟩ := HidL.sub e
  exact HidL.of h1 (f b o h2 n1 n2)
theorem hidL_upd {zs : List Addr} {H : Hp} {f : Addr} {o : HO} (h : f ∈ zs) : HidL zs (upd H f o) = HidL zs H := by
  funext b
  unfold HidL
  by_cases e : b ∈ zs
  · rw [if_pos e, if_pos e]
  · rw [if_neg e, if_neg e, upd_ne (fun z => e (by rw [z]; exact h))]
theorem hidL_less {zs ys : List Addr} {D : DrA} {H : Hp} (h : ∀ z ∈ zs, z ∈ ys) : FrT D (HidL ys H) (HidL zs H) := fun b o e _ _ _ => by
  obtain ⟨h1, h2⟩ := HidL.sub e
  exact HidL.of (fun z => h1 (h b z)) h2
/-- all of these places are taken -/
def Held (zs : List Addr) (H : Hp) : Prop := ∀ z ∈ zs, ∃ o, H z = some o
theorem Held.new {zs : List Addr} {H : Hp} (h : Held zs H) {p : Addr} (np : H p = none) : p ∉ zs := fun z => by
  obtain ⟨o, e⟩ := h p z
  rw [np] at e
  cases e
theorem Held.sm {zs : List Addr} {H H' : Hp} (h : Held zs H) (s : Same H H') : Held zs H' := fun z hz => by
  obtain ⟨o, e⟩ := h z hz
  exact ⟨o, s _ _ e⟩
theorem DrawAt.there {D : DrA} {n : Nat} {H : Hp} (h : DrawAt D n H) : (∃ o, H D.d = some o) ∧ ∃ o, H D.w = some o := by
  obtain ⟨ws, cs, r, t, h1, h2, _⟩ := h
  exact ⟨⟨_, h1⟩, ⟨_, h2⟩⟩
theorem Held.fr {zs : List Addr} {D : DrA} {n : Nat} {H H' : Hp} (h : Held zs H) (f : Fr D H H') (d : DrawAt D n H') : Held zs H' := fun z hz => by
  obtain ⟨o, e⟩ := h z hz
  by_cases e1 : z = D.d
  · rw [e1]
    exact d.there.1
  · by_cases e2 : z = D.w
    · rw [e2]
      exact d.there.2
    · exact ⟨o, f _ _ e e1 e2⟩
theorem hidL_more {zs : List Addr} {D : DrA} {H H' : Hp} {R : Addr} (nR : H R = none) (s : Same H H') : FrT D (HidL zs H) (HidL (R :: zs) H') := fun b o e _ _ _ => by
  obtain ⟨h1, h2⟩ := HidL.sub e
  refine HidL.of (fun z => ?_) (s _ _ h2)
  rcases List.mem_cons.mp z with z | z
  · rw [z, nR] at h2
    cases h2
  · exact h1 z
theorem hidL_sub {zs : List Addr} {D : DrA} {H : Hp} : FrT D (HidL zs H) H := fun b o e _ _ _ => (HidL.sub e).2
theorem hidL_cons {zs : List Addr} {D : DrA} {H : Hp} {R : Addr} : FrT D (HidL (R :: zs) H) (HidL zs H) := hidL_less fun z hz => List.mem_cons_of_mem _ hz
theorem hidL_sm {zs : List Addr} {D : DrA} {H H' : Hp} (s : Same H H') : FrT D (HidL zs H) (HidL zs H') := hidL_fr (.of s)
theorem Held.cons {zs : List Addr} {H : Hp} {R : Addr} {o : HO} (h : Held zs H) (e : H R = some o) : Held (R :: zs) H := fun z hz => by
  rcases List.mem_cons.mp hz with rfl | hz
  · exact ⟨o, e⟩
  · exact h z hz
section
variable {D : DrA} {n : Nat} {H : Hp} {zs : List Addr}
theorem tup_hid {vs : List V} {ds : List PyData} {p : Addr} (dr : DrawAt D n H) (hz : Held zs H) (np : H p = none) (g : DaAll D (HidL zs H) vs ds) : Da D (HidL zs (upd H p (.tup vs))) (.ref p) (.tuple ds) :=
  .tup (HidL.of (hz.new np) upd_same) (dr.off np).1 (dr.off np).2 (g.fr (hidL_sm (same_upd np)))
theorem lst_hid {vs : List V} {ds : List PyData} {p : Addr} (dr : DrawAt D n H) (hz : Held zs H) (np : H p = none) (g : DaAll D (HidL zs H) vs ds) : Da D (HidL zs (upd H p (.lst vs))) (.ref p) (.list ds) :=
  .lst (HidL.of (hz.new np) upd_same) (dr.off np).1 (dr.off np).2 (g.fr (hidL_sm (same_upd np)))
theorem Da.tupH {v : V} {d : PyData} (h : Da D (HidL zs H) v d) (e : isTup d = true) : ∃ p xs ds, v = .ref p ∧ d = .tuple ds ∧ H p = some (.tup xs) ∧ p ∉ zs ∧ p ≠ D.d ∧ p ≠ D.w ∧ DaAll D (HidL zs H) xs ds := by
  obtain ⟨p, xs, ds, h1, h2, h3, h4, h5, h6⟩ := h.tupOf e
  obtain ⟨k1, k2⟩ := HidL.sub h3
  exact ⟨p, xs, ds, h1, h2, k2, k1, h4, h5, h6⟩
end
end Lm
/-! row_with. -/
namespace Lm
open PySem PySem.Spec PyProof.Rows L2
abbrev TM := Str → Option (Option Str × Int)
/-- the terms in a dict -/
def TermsAt (H : Hp) (kvs : List (Key × V)) (tm : TM) : Prop := ∀ x : Str, (tm x = none ∧ valV kvs (.inr x) = none) ∨ ∃ t p, tm x = some t ∧ valV kvs (.inr x) = some (.ref p) ∧ H p = some (.tup [oV t.1, .int t.2])
theorem TermsAt.sm {H H' : Hp} {kvs : List (Key × V)} {tm : TM} (h : TermsAt H kvs tm) (s : Same H H') : TermsAt H' kvs tm := fun x => by
  rcases h x with h | ⟨t, p, h1, h2, h3⟩
  · exact .inl h
  · exact .inr ⟨t, p, h1, h2, s _ _ h3⟩
def inT (tm : TM) : Option Str → Bool
  | none => false
  | some x => (tm x).isSome
def getT (tm : TM) : Option Str → Option Str × Int
  | none => (none, 0)
  | some x => (tm x).getD (some x, 0)
def ledRow (tm : TM) (a b : Option Str) (c : Int) : PyData :=
  if (getT tm a).1 = (getT tm b).1 then .tuple [.str (if 0 ≤ c - (getT tm a).2 + (getT tm b).2 then "and" else "or"), .tuple []]
  else .tuple [.str "row", oD (getT tm a).1, oD (getT tm b).1, .int (c - (getT tm a).2 + (getT tm b).2)]
theorem getT_no {tm : TM} {o : Option Str} (h : inT tm o = false) : getT tm o = (o, 0) := by
  cases o with
  | none => rfl
  | some x =>
    have h : (tm x).isSome = false := h
    show (tm x).getD (some x, 0) = _
    cases e : tm x with
    | none => rfl
    | some t => rw [e] at h; cases h
theorem ledRow_no {tm : TM} {a b : Option Str} {c : Int} (h1 : inT tm a = false) (h2 : inT tm b = false) (ne : a ≠ b) : ledRow tm a b c = .tuple [.str "row", oD a, oD b, .int c] := by
  unfold ledRow
  rw [getT_no h1, getT_no h2, if_neg ne]
  rw [show c - 0 + 0 = c by omega]
theorem da_o {D : DrA} {H : Hp} (o : Option Str) : Da D H (oV o) (oD o) := by
  cases o with
  | none => exact .non
  | some x => exact .str x
theorem oV_eq {a b : Option Str} : decide (oV a = oV b) = decide (a = b) := by
  cases a with
  | none =>
    cases b with
    | none => rfl
    | some y => exact (decide_eq_false (show ¬ V.non = V.str y from fun z => nomatch z)).trans (decide_eq_false (fun z => nomatch z)).symm
  | some x =>
    cases b with
    | none => exact (decide_eq_false (show ¬ V.str x = V.non from fun z => nomatch z)).trans (decide_eq_false (fun z => nomatch z)).symm
    | some y =>
      show decide (V.str x = V.str y) = _
      rw [dec_str]
      by_cases e : x = y
      · rw [e]; simp
      · rw [decide_eq_false e, decide_eq_false (fun z => e (Option.some.inj z))]
theorem oV_scal {a b : Option Str} : scal (oV a) (oV b) = true := by cases a <;> cases b <;> rfl
theorem isD_of {H : Hp} {t : Addr} {kvs : List (Key × V)} (h : H t = some (.dK kvs)) : IsD H t := .inl ⟨kvs, .inl h⟩
/-- o not in terms -/
def tNotO (ty td : TE) : TE := fun σ H Q => ty σ H fun y H1 => td σ H1 fun x H2 => ∃ t kvs tm o, x = .ref t ∧ y = oV o ∧ H2 t = some (.dK kvs) ∧ TermsAt H2 kvs tm ∧ Q (.bl (!inT tm o)) H2
/-- terms.get(o, (o, 0)) -/
def tGetO (td ty tx : TE) : TE := fun σ H Q => td σ H fun x H1 => ∃ t, x = .ref t ∧ IsD H1 t ∧ ty σ H1 fun y H2 => tx σ H2 fun z H3 => ∃ kvs tm o q, y = oV o ∧ H3 t = some (.dK kvs) ∧ TermsAt H3 kvs tm ∧ z = .ref q ∧ H3 q = some (.tup [oV o, .int 0]) ∧
  ∀ p, H3 p = some (.tup [oV (getT tm o).1, .int (getT tm o).2]) → Q (.ref p) H3
section
variable {X : Cx} {o i e f : Expr} {td ty tx : TE} {apos cpos : Pos}
theorem pc_notO (hu : X.A.units + 1 < cLine) (hi : PE X i ty) (ho : PE X o td) : PC X .NotIn i o (tNotO ty td) := by
  refine ⟨fun pins s σ H Q I h => ?_⟩
  refine thn (hi.run pins s σ H _ I h) fun iv s1 h1 => ?_
  obtain ⟨y, H1, I1, ry, q1⟩ := h1
  refine thn (ho.run pins s1 σ H1 _ I1 q1) fun u s2 h2 => ?_
  obtain ⟨x, H2, I2, rx, t, kvs, tm, o, ex, ey, ht, tt, q2⟩ := h2
  subst ex ey
  obtain rfl : u = Value.ref t := rx
  cases o with
  | none =>
    obtain rfl : iv = Value.none := ry
    exact d_notInNone I2 (.inl ht) fun s3 I3 => ⟨.bl true, H2, I3, rfl, q2⟩
  | some x =>
    refine d_notIn hu I2 (DGet.k (k := .inr x) ht) ry fun s3 I3 => ⟨.bl (!(valV kvs (.inr x)).isSome), H2, I3, rfl, ?_⟩
    have q2 : Q (.bl (!(tm x).isSome)) H2 := q2
    rcases tt x with ⟨h1, h2⟩ | ⟨r, p, h1, h2, h3⟩
    · rw [h2]
      rw [h1] at q2
      exact q2
    · rw [h2]
      rw [h1] at q2
      exact q2
theorem pe_getO (hu : X.A.units + 1 < cLine) (ho : PE X o td) (he : PE X e ty) (hf : PE X f tx) (m : M2 X o "get" apos e f cpos) : PE X (.Call (.Attribute o "get" apos) [e, f] [] cpos) (tGetO td ty tx) := by
  refine ⟨fun pins s σ H Q I h => ?_⟩
  refine wpAny_Call_method m.base m.few m.line PySem.F.plainAttrs_dict PySem.F.slot_dict_get PySem.F.type_dict_get (thn (ho.run pins s σ H _ I h) fun u s1 hh => ?_)
  obtain ⟨x, H1, I1, rx, a, ex, d, q1⟩ := hh
  subst ex
  obtain rfl : u = Value.ref a := rx
  obtain ⟨t1, t2, _⟩ := isD_at I1 d
  refine ⟨t1, t2, ?_⟩
  rw [m.trees]
  refine Calls.callWith_builtin rfl (Calls.evalArgs_plain (Calls.spliced_cons (thn (he.run pins s1 σ H1 _ I1 q1) fun iv s2 h2 => ?_)))
  obtain ⟨y, H2, I2, ry, q2⟩ := h2
  refine Calls.spliced_cons (thn (hf.run pins s2 σ H2 _ I2 q2) fun fv s3 h3 => Calls.spliced_nil ?_)
  obtain ⟨z, H3, I3, rz, kvs, tm, o, q, ey, ht, tt, ez, hq, k⟩ := h3
  subst ey ez
  cases o with
  | none =>
    obtain rfl : iv = Value.none := ry
    obtain ⟨_, hd, vs, _, dd⟩ := dk_rd I3.hok (.inl ht)
    obtain ⟨fm, hm, hf0⟩ := none_map dd
    refine call_meetsIn PySem.F.slot_dict_get dd.typeIs PySem.F.entry_dict_get (PySem.F.args_dict_get_3 _ _ _) (meets_dict_get_default (noneKind X.prog X.w) a (key := Value.none) (k := none) rfl hd fv) ⟨_, hm, ?_⟩
    rw [hf0]
    exact ⟨.ref q, H3, I3.tok _, rz, k q hq⟩
  | some x =>
    refine d_get2 hu I3 (DGet.k (k := .inr x) ht) ry rz fun w' s4 I4 rw' => ⟨_, H3, I4, rw', ?_⟩
    rcases tt x with ⟨h1, h2⟩ | ⟨r, p, h1, h2, h3⟩
    · rw [h2]
      refine k q ?_
      show H3 q = some (.tup [oV ((tm x).getD (some x, 0)).1, .int ((tm x).getD (some x, 0)).2])
      rw [h1]
      exact hq
    · rw [h2]
      refine k p ?_
      show H3 p = some (.tup [oV ((tm x).getD (some x, 0)).1, .int ((tm x).getD (some x, 0)).2])
      rw [h1]
      exact h3
end
section
variable {P : Program} {w : World} {K : PySem.W.Frag} {mg : Str → Option Value} {base : Heap}
abbrev sRW : Stmt := topS 28
def nRW : List Str := ["saying", "terms", "_", "a", "b", "c", "first", "more", "second", "less", "number"]
theorem scRW : FnScope nRW ["saying", "terms"] (defScope sRW) := ⟨rfl, rfl, rfl, by decide +kernel, rfl, by decide +kernel, by decide +kernel⟩
def spRW : Sp := fun vs H Q _ => ∃ (D : DrA) (m : Nat) (p t : Addr) (oa ob : Option Str) (c : Int) (kvs : List (Key × V)) (tm : TM) (zs : List Addr), vs = [.ref p, .ref t] ∧ DrawAt D m H ∧ Held zs H ∧ H p = some (.tup [.str "row", oV oa, oV ob, .int c]) ∧ p ∉ zs ∧ p ≠ D.d ∧ p ≠ D.w ∧ oa ≠ ob ∧ H t = some (.dK kvs) ∧ TermsAt H kvs tm ∧
  ∀ H' v, Same H H' → Da D (HidL zs H') v (ledRow tm oa ob c) → Q v H'
theorem ok_rw {f : Addr} {fd : FuncData} (F : Fun K "row_with" "row_with" sRW f fd) : FnOk P w K mg base CX0 1 f fd ["saying", "terms"] spRW := by
  refine F.ok scRW (fun vs H Q E h => ?_) (fun cdv A outer s H vs Q E hr h => ?_)
  · obtain ⟨D, m, p, t, oa, ob, c, kvs, tm, zs, rfl, _⟩ := h
    rfl
  · obtain ⟨D, m, p, t, oa, ob, c, kvs, tm, zs, rfl, dr, hz, hp, pz, pd, pw, ne, ht, tt, q⟩ := h
    have hu := hu_of hr
    refine ⟨_, pss_cons (ps_asg (pv 0) (pg_tup rfl (pgs_cons (pg_name (i := 2) scRW.nd rfl (.inl rfl)) (pgs_cons (pg_name (i := 3) scRW.nd rfl (.inl rfl)) (pgs_cons (pg_name (i := 4) scRW.nd rfl (.inl rfl)) (pgs_cons (pg_name (i := 5) scRW.nd rfl (.inl rfl)) pgs_nil))))))
      (C8.pss_cut (ps_if (pw_and (pt_cmp (pc_notO hu (pv 3) (pv 1)) (by rfl)) (pw_and1 (pt_cmp (pc_notO hu (pv 4) (pv 1)) (by rfl)))).pt (pss_one (ps_ret (pv 0))) pss_nil)
      (pss_cons (ps_asg (pe_getO hu (pv 1) (pv 3) (pe_tup (pa_cons (pv 3) (pa_cons pe_int pa_nil))) ⟨rfl, rfl, rfl, rfl⟩) (pg_tup rfl (pgs_cons (pg_name (i := 6) scRW.nd rfl (.inl rfl)) (pgs_cons (pg_name (i := 7) scRW.nd rfl (.inl rfl)) pgs_nil))))
      (pss_cons (ps_asg (pe_getO hu (pv 1) (pv 4) (pe_tup (pa_cons (pv 4) (pa_cons pe_int pa_nil))) ⟨rfl, rfl, rfl, rfl⟩) (pg_tup rfl (pgs_cons (pg_name (i := 8) scRW.nd rfl (.inl rfl)) (pgs_cons (pg_name (i := 9) scRW.nd rfl (.inl rfl)) pgs_nil))))
      (pss_cons (ps_set (i := 10) scRW.nd rfl (.inl rfl) (pe_op op_add (pe_op op_sub (pv 5) (pv 7)) (pv 9)))
      (pss_cons (ps_if (pt_cmpR op_ne (pv 6) (pv 8) (nomark _)) (pss_one (ps_ret (pe_tup (pa_cons pe_str (pa_cons (pv 6) (pa_cons (pv 8) (pa_cons (pv 10) pa_nil))))))) pss_nil)
      (pss_one (ps_ret (pe_ifExp (pt_cmpR op_ge (pv 10) pe_int (nomark _)) (pe_tup (pa_cons pe_str (pa_cons (pe_tup pa_nil) pa_nil))) (pe_tup (pa_cons pe_str (pa_cons (pe_tup pa_nil) pa_nil))))))))))), ?_⟩
    refine ⟨_, rfl, p, _, rfl, SqT.of hp, rfl, _, _, rfl, _, _, rfl, _, _, rfl, _, _, rfl, rfl, ?_⟩
    have same0 : Same H H := fun _ _ z => z
    refine ⟨fun σ H1 => H1 = H ∧ σ = [some (.ref p), some (.ref t), some (.str "row"), some (oV oa), some (oV ob), some (.int c), none, none, none, none, none], ?_, ?_⟩
    · refine ⟨_, rfl, _, rfl, t, kvs, tm, oa, rfl, rfl, ht, tt, _, rfl, ?_⟩
      cases go : inT tm oa with
      | true => exact iteF (iteF ⟨rfl, rfl⟩)
      | false =>
        refine iteT ⟨_, rfl, _, rfl, t, kvs, tm, ob, rfl, rfl, ht, tt, _, rfl, ?_⟩
        cases gb : inT tm ob with
        | true => exact iteF ⟨rfl, rfl⟩
        | false =>
          refine iteT ⟨_, rfl, q H _ same0 ?_⟩
          rw [ledRow_no go gb ne]
          exact .tup (HidL.of pz hp) pd pw (.cons (.str _) (.cons (da_o oa) (.cons (da_o ob) (.cons (.int c) .nil))))
    · rintro σ H0 ⟨rfl, rfl⟩
      refine ⟨_, rfl, t, rfl, isD_of ht, _, rfl, _, rfl, (by show 2 ≤ sizeLine; decide), fun q1 n1 => ?_⟩
      have s1 := same_upd (o := .tup [oV oa, .int 0]) n1
      have h1 : (upd H0 q1 (.tup [oV oa, .int 0])) q1 = some (.tup [oV oa, .int 0]) := upd_same
      generalize upd H0 q1 (.tup [oV oa, .int 0]) = H1 at *
      refine ⟨kvs, tm, oa, q1, rfl, s1 _ _ ht, tt.sm s1, rfl, h1, fun p1 hp1 => ?_⟩
      refine ⟨p1, _, rfl, SqT.of hp1, rfl, _, _, rfl, _, _, rfl, rfl, ?_⟩
      refine ⟨_, rfl, t, rfl, isD_of (s1 _ _ ht), _, rfl, _, rfl, (by show 2 ≤ sizeLine; decide), fun q2 n2 => ?_⟩
      have s2 := same_upd (o := .tup [oV ob, .int 0]) n2
      have h2 : (upd H1 q2 (.tup [oV ob, .int 0])) q2 = some (.tup [oV ob, .int 0]) := upd_same
      have s12 : Same H0 (upd H1 q2 (.tup [oV ob, .int 0])) := fun b o e => s2 b o (s1 b o e)
      generalize upd H1 q2 (.tup [oV ob, .int 0]) = H2 at *
      refine ⟨kvs, tm, ob, q2, rfl, s12 _ _ ht, tt.sm s12, rfl, h2, fun p2 hp2 => ?_⟩
      refine ⟨p2, _, rfl, SqT.of hp2, rfl, _, _, rfl, _, _, rfl, rfl, ?_⟩
      have dr2 := dr.sm s12
      have hz2 := hz.sm s12
      refine ⟨_, rfl, _, rfl, _, _, rfl, rfl, _, rfl, _, _, rfl, rfl, ?_⟩
      refine ⟨_, rfl, _, rfl, oV_scal, _, rfl, ?_⟩
      rw [oV_eq]
      by_cases e : (getT tm oa).1 = (getT tm ob).1
      · rw [decide_eq_true e]
        refine iteF ⟨_, rfl, _, _, rfl, rfl, _, rfl, ?_⟩
        have en : ledRow tm oa ob c = .tuple [.str (if 0 ≤ c - (getT tm oa).2 + (getT tm ob).2 then "and" else "or"), .tuple []] := by
          unfold ledRow
          rw [if_pos e]
        rw [en] at q
        by_cases g : 0 ≤ c - (getT tm oa).2 + (getT tm ob).2
        · rw [if_pos g] at q
          rw [decide_eq_true g]
          refine iteT ⟨(by show 0 ≤ sizeLine; decide), fun p3 n3 => ⟨(by show 2 ≤ sizeLine; decide), fun p4 n4 => ?_⟩⟩
          have s3 := same_upd (o := .tup []) n3
          have s4 := same_upd (o := .tup [.str "and", .ref p3]) n4
          have a1 : Da D (HidL zs _) (.ref p3) (.tuple []) := tup_hid dr2 hz2 n3 .nil
          exact q _ _ (fun b o e => s4 b o (s3 b o (s12 b o e))) (tup_hid (dr2.sm s3) (hz2.sm s3) n4 (.cons (.str _) (.cons a1 .nil)))
        · rw [if_neg g] at q
          rw [decide_eq_false g]
          refine iteF ⟨(by show 0 ≤ sizeLine; decide), fun p3 n3 => ⟨(by show 2 ≤ sizeLine; decide), fun p4 n4 => ?_⟩⟩
          have s3 := same_upd (o := .tup []) n3
          have s4 := same_upd (o := .tup [.str "or", .ref p3]) n4
          have a1 : Da D (HidL zs _) (.ref p3) (.tuple []) := tup_hid dr2 hz2 n3 .nil
          exact q _ _ (fun b o e => s4 b o (s3 b o (s12 b o e))) (tup_hid (dr2.sm s3) (hz2.sm s3) n4 (.cons (.str _) (.cons a1 .nil)))
      · rw [decide_eq_false e]
        have en : ledRow tm oa ob c = .tuple [.str "row", oD (getT tm oa).1, oD (getT tm ob).1, .int (c - (getT tm oa).2 + (getT tm ob).2)] := by
          unfold ledRow
          rw [if_neg e]
        rw [en] at q
        refine iteT ⟨_, rfl, _, rfl, _, rfl, (by show 4 ≤ sizeLine; decide), fun p4 n4 => ?_⟩
        have s4 := same_upd (o := .tup [.str "row", oV (getT tm oa).1, oV (getT tm ob).1, .int (c - (getT tm oa).2 + (getT tm ob).2)]) n4
        exact q _ _ (fun b o e => s4 b o (s12 b o e)) (tup_hid dr2 hz2 n4 (.cons (.str _) (.cons (da_o _) (.cons (da_o _) (.cons (.int _) .nil)))))
end
end Lm
/-! with_terms. -/
namespace Lm
open PySem PySem.Spec PyProof.Rows L2
def unO : PyData → Option Str
  | .str x => some x
  | _ => none
def unI : PyData → Int
  | .int c => c
  | _ => 0
/-- the saying with the terms put in -/
def ledN (tm : TM) : Nat → PyData → PyData
  | _ + 1, .tuple [_, a, b, c] => ledRow tm (unO a) (unO b) (unI c)
  | n + 1, .tuple [.str w, x] => if w = "not" then .tuple [.str "not", ledN tm n x] else (match x with | .tuple ds => .tuple [.str w, .tuple (ds.map (ledN tm n))] | _ => .none)
  | n + 1, .tuple [w, ns, x] => .tuple [w, ns, ledN tm n x]
  | _, _ => .none
section
variable {tm : TM} {n : Nat}
theorem led_row {w a b c : PyData} : ledN tm (n + 1) (.tuple [w, a, b, c]) = ledRow tm (unO a) (unO b) (unI c) := rfl
theorem led_no {x : PyData} : ledN tm (n + 1) (.tuple [.str "not", x]) = .tuple [.str "not", ledN tm n x] := rfl
theorem led_many {w : Str} {ds : List PyData} (h : w = "and" ∨ w = "or") : ledN tm (n + 1) (.tuple [.str w, .tuple ds]) = .tuple [.str w, .tuple (ds.map (ledN tm n))] := by
  rcases h with rfl | rfl <;> rfl
theorem led_bind {w ns x : PyData} : ledN tm (n + 1) (.tuple [w, ns, x]) = .tuple [w, ns, ledN tm n x] := rfl
end
theorem row_z {a b c : PyData} (h : rowD (.tuple [a, b, c]) = true) : (sideD a = true ∧ sideD b = true) ∧ sideEq a b = false ∧ ∃ z, c = .int z := by
  have h : (sideD a && sideD b && !sideEq a b && isNum c) = true := h
  rw [Bool.and_eq_true, Bool.and_eq_true, Bool.and_eq_true, Bool.not_eq_true'] at h
  refine ⟨h.1.1, h.1.2, ?_⟩
  cases c <;> first | exact ⟨_, rfl⟩ | cases h.2
theorem saidRow_row {bs : List Str} {a b c : PyData} (h : saidRowD bs [a, b, c] = true) : rowD (.tuple [a, b, c]) = true := by
  have z : (rowD (.tuple [a, b, c]) && sideB bs a && sideB bs b) = true := h
  rw [Bool.and_eq_true, Bool.and_eq_true] at z
  exact z.1.1
theorem side_o {D : DrA} {H : Hp} {v : V} {d : PyData} (h : Da D H v d) (e : sideD d = true) : v = oV (unO d) ∧ d = oD (unO d) := by
  rcases side_cases h e with ⟨rfl, rfl⟩ | ⟨x, rfl, rfl⟩ <;> exact ⟨rfl, rfl⟩
theorem side_un {d : PyData} (e : sideD d = true) : d = oD (unO d) := by
  cases d <;> first | rfl | cases e
theorem side_ne {a b : PyData} (ha : sideD a = true) (hb : sideD b = true) (h : sideEq a b = false) : unO a ≠ unO b := by
  intro e
  have ea := side_un ha
  have eb := side_un hb
  rw [ea, eb, e] at h
  cases hx : unO b with
  | none => rw [hx] at h; cases h
  | some x =>
    rw [hx] at h
    have : decide (x = x) = false := h
    simp at this
section
variable {P : Program} {w : World} {K : PySem.W.Frag} {mg : Str → Option Value} {base : Heap}
abbrev sWT : Stmt := topS 27
def nWT : List Str := ["saying", "terms", "word", "part"]
theorem scWT : FnScope nWT ["saying", "terms"] (defScope sWT) := ⟨rfl, rfl, rfl, by decide +kernel, rfl, by decide +kernel, by decide +kernel⟩
def spWT (n : Nat) : Sp := fun vs H Q _ => ∃ (D : DrA) (m : Nat) (v : V) (t : Addr) (d : PyData) (bs : List Str) (k : Nat) (kvs : List (Key × V)) (tm : TM) (zs : List Addr), vs = [v, .ref t] ∧ DrawAt D m H ∧ Held zs H ∧ Da D (HidL zs H) v d ∧ fitsN k bs d = true ∧ d.weight ≤ 20000 ∧ k ≤ n ∧ H t = some (.dK kvs) ∧ TermsAt H kvs tm ∧
  ∀ H' v', Same H H' → Da D (HidL zs H') v' (ledN tm k d) → Q v' H'
def spWTBelow : Nat → Sp
  | 0 => fun _ _ _ _ => False
  | n + 1 => spWT n
theorem ok_wt_no {f : Addr} {fd : FuncData} (F : Fun K "with_terms" "with_terms" sWT f fd) (j : Nat) : FnOk P w K mg base CX0 (j + 1) f fd ["saying", "terms"] (spWTBelow 0) :=
  F.ok scWT (fun vs H Q E h => h.elim) (fun cdv A outer s H vs Q E hr h => h.elim)
theorem ok_wt {f : Addr} {fd : FuncData} (F : Fun K "with_terms" "with_terms" sWT f fd) (N : Bl mg) (n : Nat) (GR : Has P w K mg base CX0 1 "row_with" ["saying", "terms"] spRW) (GW : Has P w K mg base CX0 (n + 4) "with_terms" ["saying", "terms"] (spWTBelow n)) : FnOk P w K mg base CX0 (n + 5) f fd ["saying", "terms"] (spWT n) := by
  refine F.ok scWT (fun vs H Q E h => ?_) (fun cdv A outer s H vs Q E hr h => ?_)
  · obtain ⟨D, m, v, t, d, bs, k, kvs, tm, zs, rfl, _⟩ := h
    rfl
  · obtain ⟨D, m, v, t, d, bs, k, kvs, tm, zs, rfl, dr, hz, hd, fit, wt, hk, ht, tt, q⟩ := h
    refine ⟨_, pss_cons (ps_set (i := 2) scWT.nd rfl (.inl rfl) (pe_ix ix_tup (pv 0) pe_int (fun _ _ => rfl)))
      (pss_cons (ps_if (pt_cmpR op_eq (pv 2) pe_str (nomark _)) (pss_one (ps_ret (pe_h GR hr (by omega) (by rfl) pass0 (pa_cons (pv 0) (pa_cons (pv 1) pa_nil))))) pss_nil)
      (pss_cons (ps_if (pt_cmpR op_eq (pv 2) pe_str (nomark _)) (pss_one (ps_ret (pe_tup (pa_cons pe_str (pa_cons (pe_h GW hr (by omega) (by rfl) pass0 (pa_cons (pe_ix ix_tup (pv 0) pe_int (fun _ _ => rfl)) (pa_cons (pv 1) pa_nil))) pa_nil))))) pss_nil)
      (pss_cons (ps_if (pt_cmpR (show OpR _ _ (rIn K false) from op_in_seq) (pv 2) (pe_tup (pa_cons pe_str (pa_cons pe_str pa_nil))) (by rfl)) (pss_one (ps_ret
          (pe_tup (pa_cons (pv 2) (pa_cons (pe_ix ix_tup (pv 0) pe_int (fun _ _ => rfl)) (pa_cons (pe_h GW hr (by omega) (by rfl) pass0 (pa_cons (pe_ix ix_tup (pv 0) pe_int (fun _ _ => rfl)) (pa_cons (pv 1) pa_nil))) pa_nil)))))) pss_nil)
      (pss_one (ps_ret (pe_tup (pa_cons (pv 2) (pa_cons (pe_callTy call_tuple_of (by rfl) N.btup (by decide +kernel) (pa_cons
          (pe_lc (own := [("part", 3)]) (g := gName 3) (tt := tYes) rfl scWT.nd (pi_tupK K (pe_ix ix_tup (pv 0) pe_int (fun _ _ => rfl))) (blkOk_by (own := [("part", 3)]) (N := nWT) (sc := defScope sWT) (by decide +kernel)) (fun _ _ _ _ _ => pg_name (i := 3) scWT.nd rfl (Or.inl rfl))
            (fun _ _ _ _ _ => pts_nil) (fun _ _ _ _ _ => pe_h GW hr (by omega) (by rfl) pass0 (pa_cons (pv 3) (pa_cons (pv 1) pa_nil)))) pa_nil)) pa_nil)))))))), ?_⟩
    obtain ⟨k, rfl⟩ : ∃ k', k = k' + 1 := by
      cases k with
      | zero => cases d <;> cases fit
      | succ k => exact ⟨k, rfl⟩
    obtain ⟨n, rfl⟩ : ∃ n', n = n' + 1 := ⟨n - 1, by omega⟩
    cases said_cases fit with
    | @row a b c hrow =>
      have hr0 := saidRow_row hrow
      obtain ⟨⟨ka, kb⟩, kne, z, rfl⟩ := row_z hr0
      obtain ⟨p, xs, ds, rfl, ed, hp, pz, pd, pw, ha⟩ := hd.tupH rfl
      injection ed with ed
      subst ed
      cases ha with
      | @cons vw _ _ _ hw ha => cases ha with
      | @cons va _ _ _ h1 ha => cases ha with
      | @cons vb _ _ _ h2 ha => cases ha with
      | @cons vc _ _ _ h3 ha =>
        cases ha
        obtain rfl : vw = .str "row" := by cases hw; rfl
        obtain rfl : vc = .int z := by cases h3; rfl
        obtain ⟨rfl, ea⟩ := side_o h1 ka
        obtain ⟨rfl, eb⟩ := side_o h2 kb
        refine ⟨_, rfl, p, _, 0, _, rfl, rfl, SqT.of hp, atI_nat (j := 0) rfl, _, rfl, rfl, _, rfl, ?_⟩
        rw [decide_eq_true rfl]
        exact iteT ⟨_, rfl, _, rfl, D, m, p, t, unO a, unO b, z, kvs, tm, zs, rfl, dr, hz, hp, pz, pd, pw, side_ne ka kb kne, ht, tt, fun H' v s1 g => q H' v s1 g⟩
    | @many w es hww hes =>
      obtain ⟨p, xs, ds, rfl, ed, hp, pz, pd, pw, ha⟩ := hd.tupH rfl
      injection ed with ed
      subst ed
      cases ha with
      | @cons vw _ _ _ hw ha => cases ha with
      | @cons vx _ _ _ h1 ha =>
        cases ha
        obtain rfl : vw = .str w := by cases hw; rfl
        obtain ⟨px, ys, _, rfl, ed, hpx, oz, o1, o2, hys⟩ := h1.tupH rfl
        injection ed with ed
        subst ed
        have n1 : w ≠ "row" := by rcases hww with rfl | rfl <;> decide
        have n2 : w ≠ "not" := by rcases hww with rfl | rfl <;> decide
        have n3 : w ≠ "some" := by rcases hww with rfl | rfl <;> decide
        have n4 : w ≠ "all" := by rcases hww with rfl | rfl <;> decide
        have wE : PyData.weightAll es ≤ 20000 := by
          simp only [PyData.weight, PyData.weightAll] at wt
          omega
        refine ⟨_, rfl, p, _, 0, _, rfl, rfl, SqT.of hp, atI_nat (j := 0) rfl, _, rfl, rfl, _, rfl, ?_⟩
        rw [dec_ne n1]
        refine iteF ⟨_, rfl, rfl, _, rfl, ?_⟩
        rw [dec_ne n2]
        refine iteF ⟨_, rfl, (by show 2 ≤ sizeLine; decide), fun t1 nt => ?_⟩
        have s1 := same_upd (o := .tup [.str "some", .str "all"]) nt
        have ht1 : (upd H t1 (.tup [.str "some", .str "all"])) t1 = some (.tup [.str "some", .str "all"]) := upd_same
        generalize upd H t1 (.tup [.str "some", .str "all"]) = H1 at *
        refine ⟨t1, _, rfl, .inr (SqT.of ht1), rfl, rfl, _, rfl, ?_⟩
        rw [if_neg (by decide), in_two, decide_eq_false n3, decide_eq_false n4]
        have hz1 := hz.sm s1
        have dr1 := dr.sm s1
        refine iteF ⟨_, rfl, _, rfl, p, _, 1, .ref px, rfl, rfl, SqT.of (s1 _ _ hp), atI_nat (j := 1) rfl, px, rfl, ⟨_, SqT.of (s1 _ _ hpx)⟩, fun R nR => lc_tup (K := K) (a := px) (xs := ys) (fun j H' => Same H1 H' ∧ ∃ us, H' R = some (.lst us) ∧ DaAll D (HidL (R :: zs) H') us ((es.take j).map (ledN tm k)) ∧ us.length = min j es.length) ⟨same_upd nR, [], upd_same, .nil, by simp⟩ (fun j H' _ h => SqT.of (h.1 _ _ (s1 _ _ hpx))) ?_ ?_⟩
        · rintro j y H' hy ⟨s2, us, hR, g, lu⟩
          obtain ⟨dy, hdy, gy⟩ := hys.get hy
          have my := List.mem_of_getElem? hdy
          have wy := weight_mem my
          have lE := weight_len (ds := es)
          have s12 : Same H H' := fun b o e => s2 b o (s1 b o e)
          have nRH : H R = none := none_of s1 nR
          have hz' : Held (R :: zs) H' := (hz.sm s12).cons hR
          refine ⟨rfl, _, rfl, _, rfl, D, m, y, t, dy, bs, k, kvs, tm, R :: zs, rfl, dr.sm s12, hz', gy.fr (hidL_more nRH s12), hes dy my, by omega, by omega, s12 _ _ ht, tt.sm s12, fun H'' v' s3 g' => ?_⟩
          refine ⟨_, s3 _ _ hR, ?_, same_put (fun b o e => s3 b o (s2 b o e)) nR, _, upd_same, ?_, ?_⟩
          · rw [sizeLine_eq]
            omega
          · rw [hidL_upd (List.mem_cons_self ..), List.take_add_one, hdy, List.map_append]
            exact (g.fr (hidL_sm s3)).app (.cons g' .nil)
          · have lj : j < es.length := (List.getElem?_eq_some_iff.mp hdy).1
            rw [List.length_append, lu]
            show min j es.length + 1 = _
            omega
        · rintro H' ⟨s2, us, hR, g, lu⟩
          rw [hys.length, List.take_length] at g
          have s12 : Same H H' := fun b o e => s2 b o (s1 b o e)
          have g2 : DaAll D (HidL zs H') us (es.map (ledN tm k)) := g.fr hidL_cons
          have l2 := g2.length
          have lE := weight_len (ds := es)
          refine ⟨R, _, rfl, .inl ⟨SqL.of hR, fun p3 n3 => ⟨(by show 2 ≤ sizeLine; decide), fun p4 n4 => ?_⟩⟩⟩
          have s3 := same_upd (o := .tup us) n3
          have a1 : Da D (HidL zs _) (.ref p3) (.tuple (es.map (ledN tm k))) := tup_hid (dr.sm s12) (hz.sm s12) n3 g2
          have s4 := same_upd (o := .tup [.str w, .ref p3]) n4
          refine q _ _ (fun b o e => s4 b o (s3 b o (s12 b o e))) ?_
          rw [led_many hww]
          exact tup_hid ((dr.sm s12).sm s3) ((hz.sm s12).sm s3) n4 (.cons (.str _) (.cons a1 .nil))
    | @no x hx =>
      obtain ⟨p, xs, ds, rfl, ed, hp, pz, pd, pw, ha⟩ := hd.tupH rfl
      injection ed with ed
      subst ed
      cases ha with
      | @cons vw _ _ _ hw ha => cases ha with
      | @cons vx _ _ _ h1 ha =>
        cases ha
        obtain rfl : vw = .str "not" := by cases hw; rfl
        refine ⟨_, rfl, p, _, 0, _, rfl, rfl, SqT.of hp, atI_nat (j := 0) rfl, _, rfl, rfl, _, rfl, ?_⟩
        rw [dec_ne (by decide)]
        refine iteF ⟨_, rfl, rfl, _, rfl, ?_⟩
        rw [decide_eq_true rfl]
        refine iteT ⟨_, rfl, p, _, 1, vx, rfl, rfl, SqT.of hp, atI_nat (j := 1) rfl, _, rfl, D, m, vx, t, x, bs, k, kvs, tm, zs, rfl, dr, hz, h1, hx, ?_, by omega, ht, tt, fun H' v' s1 g => ⟨(by show 2 ≤ sizeLine; decide), fun p4 n4 => ?_⟩⟩
        · simp only [PyData.weight, PyData.weightAll] at wt
          omega
        · have s4 := same_upd (o := .tup [.str "not", v']) n4
          refine q _ _ (fun b o e => s4 b o (s1 b o e)) ?_
          rw [led_no]
          exact tup_hid (dr.sm s1) (hz.sm s1) n4 (.cons (.str _) (.cons g .nil))
    | @bind w ns x hww hns hx =>
      obtain ⟨p, xs, ds, rfl, ed, hp, pz, pd, pw, ha⟩ := hd.tupH rfl
      injection ed with ed
      subst ed
      cases ha with
      | @cons vw _ _ _ hw ha => cases ha with
      | @cons vn _ _ _ hn ha => cases ha with
      | @cons vx _ _ _ h1 ha =>
        cases ha
        obtain rfl : vw = .str w := by cases hw; rfl
        have n1 : w ≠ "row" := by rcases hww with rfl | rfl <;> decide
        have n2 : w ≠ "not" := by rcases hww with rfl | rfl <;> decide
        refine ⟨_, rfl, p, _, 0, _, rfl, rfl, SqT.of hp, atI_nat (j := 0) rfl, _, rfl, rfl, _, rfl, ?_⟩
        rw [dec_ne n1]
        refine iteF ⟨_, rfl, rfl, _, rfl, ?_⟩
        rw [dec_ne n2]
        refine iteF ⟨_, rfl, (by show 2 ≤ sizeLine; decide), fun t1 nt => ?_⟩
        have s1 := same_upd (o := .tup [.str "some", .str "all"]) nt
        have ht1 : (upd H t1 (.tup [.str "some", .str "all"])) t1 = some (.tup [.str "some", .str "all"]) := upd_same
        generalize upd H t1 (.tup [.str "some", .str "all"]) = H1 at *
        refine ⟨t1, _, rfl, .inr (SqT.of ht1), rfl, rfl, _, rfl, ?_⟩
        have ew : (decide (w = "some") || decide (w = "all")) = true := by rcases hww with rfl | rfl <;> decide
        rw [if_neg (by decide), in_two, ew]
        refine iteT ⟨_, rfl, _, rfl, p, _, 1, vn, rfl, rfl, SqT.of (s1 _ _ hp), atI_nat (j := 1) rfl, _, rfl, p, _, 2, vx, rfl, rfl, SqT.of (s1 _ _ hp), atI_nat (j := 2) rfl, _, rfl, D, m, vx, t, x, _, k, kvs, tm, zs, rfl, dr.sm s1, hz.sm s1, h1.fr (hidL_sm s1), hx, ?_, by omega, s1 _ _ ht, tt.sm s1, fun H' v' s2 g => ⟨(by show 3 ≤ sizeLine; decide), fun p4 n4 => ?_⟩⟩
        · simp only [PyData.weight, PyData.weightAll] at wt
          omega
        · have s12 : Same H H' := fun b o e => s2 b o (s1 b o e)
          have s4 := same_upd (o := .tup [.str w, vn, v']) n4
          refine q _ _ (fun b o e => s4 b o (s12 b o e)) ?_
          rw [led_bind]
          exact tup_hid (dr.sm s12) (hz.sm s12) n4 (.cons (.str _) (.cons (hn.fr (hidL_sm s12)) (.cons g .nil)))
end
end Lm
/-! put_terms. -/
namespace Lm
open PySem PySem.Spec PyProof.Rows L2
def isDic : PyData → Bool
  | .dict _ => true
  | _ => false
theorem kit_dict (K : PySem.W.Frag) : ∀ d : PyData, PySem.W.kitOne K (.type (kindOf d)) (.type "dict") = some (isDic d)
  | .none => kit_ty (show kitB "NoneType" "dict" = some false by decide +kernel)
  | .bool _ => kit_ty (show kitB "bool" "dict" = some false by decide +kernel)
  | .int _ => kit_ty (show kitB "int" "dict" = some false by decide +kernel)
  | .str _ => kit_ty (show kitB "str" "dict" = some false by decide +kernel)
  | .list _ => kit_ty (show kitB "list" "dict" = some false by decide +kernel)
  | .tuple _ => kit_ty (show kitB "tuple" "dict" = some false by decide +kernel)
  | .dict _ => kit_ty (show kitB "dict" "dict" = some true by decide +kernel)
/-- all but what stands at t stands -/
def SameBut (t : Addr) (H H' : Hp) : Prop := ∀ b o, b ≠ t → H b = some o → H' b = some o
/-- a term for a free name -/
def GoodT (D : DrA) (H : Hp) (ns : List Str) (e : Key × V) : Prop := ∃ x p o c, e = (.inr x, .ref p) ∧ x ∈ ns ∧ p ≠ D.d ∧ p ≠ D.w ∧ H p = some (.tup [oV o, .int c]) ∧ freeOrNone (oD o) = true ∧ shortD (oD o) = true
theorem upd_eqself {H : Hp} {a : Addr} {o : HO} (h : H a = some o) : upd H a o = H := by
  funext b
  by_cases e : b = a
  · rw [e, upd_same, h]
  · rw [upd_ne e]
theorem val_of_nodup {κ : Type} [DecidableEq κ] : ∀ {kvs : List (κ × V)} {i : Nat} {x : κ} {v : V}, (kvs.map (·.1)).Nodup → kvs[i]? = some (x, v) → valV kvs x = some v
  | [], _, _, _, _, h => by simp at h
  | (y, u) :: r, 0, x, v, _, h => by
    have h : (y, u) = (x, v) := Option.some.inj h
    cases h
    simp [valV]
  | (y, u) :: r, i + 1, x, v, nd, h => by
    have h : r[i]? = some (x, v) := by simpa using h
    have nd : ((y :: r.map (·.1))).Nodup := nd
    obtain ⟨n1, n2⟩ := List.nodup_cons.mp nd
    have hx : x ∈ r.map (·.1) := List.mem_map.mpr ⟨_, List.mem_of_getElem? h, rfl⟩
    have ne : y ≠ x := fun z => n1 (by rw [z]; exact hx)
    have ih := val_of_nodup n2 h
    simp only [valV, List.find?_cons] at ih ⊢
    rw [decide_eq_false ne]
    exact ih
/-- how put_terms finds what it is given -/
inductive PtIs (P : Program) (w : World) (BT : Addr) (D : DrA) (H : Hp) (ns : List Str) (led : TM → PyData) (Q : VK) (E : XK) : V → Prop
  | no {v : V} {d : PyData} : Da D H v d → isDic d = false → (∀ H', Same H H' → E (.ref BT) none H') → PtIs P w BT D H ns led Q E v
  | non {t : Addr} {u : V} : H t = some (NX P w t [(none, u)]) → (∀ H', SameBut t H H' → E (.ref BT) none H') → PtIs P w BT D H ns led Q E (.ref t)
  | bad {t : Addr} {x : Str} {u : V} {du : PyData} : H t = some (.dK [(.inr x, u)]) → Da D (HidL [t] H) u du → shortD du = true → (x ∉ ns ∨ termD du = false) → (∀ H', SameBut t H H' → E (.ref BT) none H') → PtIs P w BT D H ns led Q E (.ref t)
  | good {t : Addr} {kvs : List (Key × V)} {tm : TM} : H t = some (.dK kvs) → TermsAt H kvs tm → (∀ e ∈ kvs, GoodT D H ns e) → (kvs.map (·.1)).Nodup → (∀ H' v', Same H H' → Da D H' v' (led tm) → Q v' H') → PtIs P w BT D H ns led Q E (.ref t)
section
variable {P : Program} {w : World} {K : PySem.W.Frag} {mg : Str → Option Value} {base : Heap}
theorem sameBut_of {t : Addr} {H H' : Hp} {o : HO} (s : Same H H') : SameBut t H (upd H' t o) := fun b u n e => by
  rw [upd_ne n]
  exact s b u e
abbrev sPT : Stmt := topS 36
def nPT : List Str := ["saying", "terms", "names", "name"]
theorem scPT : FnScope nPT ["saying", "terms"] (defScope sPT) := ⟨rfl, rfl, rfl, by decide +kernel, rfl, by decide +kernel, by decide +kernel⟩
def spPT (P : Program) (w : World) (BS BT : Addr) (n : Nat) : Sp := fun vs H Q E => ∃ (D : DrA) (m : Nat) (v tv : V) (d : PyData) (k : Nat), vs = [v, tv] ∧ DrawAt D m H ∧ Da D H v d ∧ Askd k d ∧ k ≤ n ∧
  ((fitsN k [] d = false ∧ ∀ H', Same H H' → E (.ref BS) none H') ∨ (fitsN k [] d = true ∧ (namesN k d).length < 64 ∧ PtIs P w BT D H (namesN k d) (fun tm => ledN tm k d) Q E tv))
theorem termD_good {o : Option Str} {c : Int} (h : freeOrNone (oD o) = true) : termD (.tuple [oD o, .int c]) = true := by
  show (freeOrNone (oD o) && isNum (.int c)) = true
  rw [h]
  rfl
theorem ok_pt {BS BT : Addr} {f : Addr} {fd : FuncData} (F : Fun K "put_terms" "put_terms" sPT f fd) (N : Bl mg) (bdict : mg "dict" = none) (M1 : XMk K mg "BadTerms" BT) (n : Nat) (GC : Has P w K mg base (L2.CX P w) (n + 7) "check_saying" ["saying"] (spCkS BS n)) (GF : Has P w K mg base CX0 (n + 6) "free_in" ["saying"] (spFree n))
    (GT : Has P w K mg base CX0 3 "is_term" ["thing"] (spB termD)) (GW : Has P w K mg base CX0 (n + 5) "with_terms" ["saying", "terms"] (spWT n)) : FnOk P w K mg base (L2.CX P w) (n + 8) f fd ["saying", "terms"] (spPT P w BS BT n) := by
  refine F.okX scPT (fun vs H Q E h => ?_) (fun cdv A outer s H vs Q E hr h => ?_)
  · obtain ⟨D, m, v, tv, d, k, rfl, _⟩ := h
    rfl
  · obtain ⟨D, m, v, tv, d, k, rfl, dr, hd, a, hk, q⟩ := h
    have hu := hu_of hr
    have tk := takes_of (X := cxOf (L2.CX P w) P w K mg base nPT "put_terms" (defScope sPT) f cdv A outer s H E) (E := E) rfl rfl rfl rfl
    refine ⟨_, pss_cons (ps_expr (pe_h GC hr (by omega) (by rfl) (E := E) passE (pa_cons (pv 0) pa_nil)))
      (pss_cons (ps_if (pt_not (pt_val (pe_callB (call_isiN (P := P) (w := w) (K := K)) (by rfl) N.bisi (by decide +kernel) (pa_cons (pv 1) (pa_cons (pe_bltn (v := .ty "dict") (by rfl) bdict (by decide +kernel) rfl) pa_nil))))) (pss_one (ps_bad rfl M1 tk (by rfl))) pss_nil)
      (pss_cons (ps_set (i := 2) scPT.nd rfl (.inl rfl) (pe_h GF hr (by omega) (by rfl) (E := C8.E0) pass0 (pa_cons (pv 0) pa_nil)))
      (pss_cons (ps_lock (ps_for (passes_of rfl) rfl (pi_keysN (P := P) (w := w) (pv 1)) (pg_name (i := 3) scPT.nd rfl (.inl rfl))
        (pss_one (ps_if (pw_or (pt_not (pt_val (pe_callB call_isi (by rfl) N.bisi (by decide +kernel) (pa_cons (pv 3) (pa_cons (pe_bltn (v := .ty "str") (by rfl) N.bstr (by decide +kernel) rfl) pa_nil)))))
            (pw_or (pt_cmpR (show OpR _ _ (rIn K true) from op_notIn_seq) (pv 3) (pv 2) (by rfl)) (pw_or1 (pt_not (pt_val (pe_h GT hr (by omega) (by rfl) (E := C8.E0) pass0 (pa_cons (pe_dget hu (pv 1) (pv 3) (fun _ _ => rfl)) pa_nil))))))).pt
          (pss_one (ps_bad rfl M1 tk (by rfl))) pss_nil))))
      (pss_one (ps_ret (pe_h GW hr (by omega) (by rfl) (E := C8.E0) pass0 (pa_cons (pv 0) (pa_cons (pv 1) pa_nil)))))))), ?_⟩
    refine ⟨_, rfl, D, m, v, d, k, rfl, dr, hd, a, hk, ?_⟩
    rcases q with ⟨fit, q⟩ | ⟨fit, few, q⟩
    · exact .inr ⟨fit, fun H1 s1 => q H1 s1⟩
    refine .inl ⟨fit, fun H1 s1 => ?_⟩
    have fr : ∀ (ys : List Str) (x : Str), (∀ k', k' ∈ ys ↔ k' ∈ namesN k d) → decide (x ∈ ys) = decide (x ∈ namesN k d) := fun ys x h => by
      by_cases e : x ∈ namesN k d
      · rw [decide_eq_true e, decide_eq_true ((h x).mpr e)]
      · rw [decide_eq_false e, decide_eq_false fun z => e ((h x).mp z)]
    cases q with
    | @no _ dt hdt nd q =>
      refine ⟨_, rfl, tv, .ty "dict", _, _, isDic dt, rfl, .ty "dict", .inl (hdt.sm s1).ty, kit_dict K dt, isDic dt, rfl, ?_⟩
      rw [nd]
      exact iteT (q H1 s1)
    | @non t u ht q =>
      refine ⟨_, rfl, .ref t, .ty "dict", _, _, true, rfl, .ty "dict", .inr ⟨t, _, rfl, s1 _ _ ht, rfl⟩, kit_ty (show kitB "dict" "dict" = some true by decide +kernel), true, rfl, ?_⟩
      refine iteF ⟨_, rfl, D, m, v, d, [], k, rfl, dr.sm s1, hd.sm s1, fit, a.wt, hk, few, fun H2 R ys nR as hR s2 => ?_⟩
      have s12 : Same H H2 := fun b o e => s2 b o (s1 b o e)
      refine ⟨t, _, s12 _ _ ht, trivial, fun od => ?_⟩
      refine ⟨_, rfl, t, od, rfl, .inr ⟨_, upd_same, for_it walk_nx (fun i σ H' => H' = upd H2 t (.frz od (NX P w t [(none, u)])) ∧ i = 0 ∧ σ = [some v, some (.ref t), some (.ref R), none]) ⟨rfl, rfl, rfl⟩ (fun i σ H' _ h => by rw [h.1]; exact upd_same) ?_ ?_⟩⟩
      · rintro i x σ H3 H4 hi ⟨rfl, rfl, rfl⟩ ⟨rfl, k', v', hkv, rfl⟩
        obtain ⟨rfl, rfl⟩ : k' = none ∧ v' = u := by cases hkv; exact ⟨rfl, rfl⟩
        refine ⟨_, rfl, .non, .ty "str", _, _, false, rfl, .ty "str", .base .non, kit_ty (show kitB "NoneType" "str" = some false by decide +kernel), false, rfl, ?_⟩
        exact iteT (iteT (q _ (sameBut_of s12)))
      · rintro σ H' ⟨_, e, _⟩
        cases e
    | @bad t x u du ht hdu sdu wrong q =>
      refine ⟨_, rfl, .ref t, .ty "dict", _, _, true, rfl, .ty "dict", .inl (.base (.dK (s1 _ _ ht))), kit_ty (show kitB "dict" "dict" = some true by decide +kernel), true, rfl, ?_⟩
      refine iteF ⟨_, rfl, D, m, v, d, [], k, rfl, dr.sm s1, hd.sm s1, fit, a.wt, hk, few, fun H2 R ys nR as hR s2 => ?_⟩
      have s12 : Same H H2 := fun b o e => s2 b o (s1 b o e)
      have nt : R ≠ t := fun z => by rw [z, s1 _ _ ht] at nR; cases nR
      refine ⟨t, _, s12 _ _ ht, trivial, fun od => ?_⟩
      refine ⟨_, rfl, t, od, rfl, .inl ⟨_, upd_same, for_it walk_keys (fun i σ H' => H' = upd H2 t (.frz od (.dK [(.inr x, u)])) ∧ i = 0 ∧ σ = [some v, some (.ref t), some (.ref R), none]) ⟨rfl, rfl, rfl⟩ (fun i σ H' _ h => by rw [h.1]; exact upd_same) ?_ ?_⟩⟩
      · rintro i y σ H3 H4 hi ⟨rfl, rfl, rfl⟩ ⟨rfl, k', v', hkv, rfl⟩
        obtain ⟨rfl, rfl⟩ : k' = .inr x ∧ v' = u := by cases hkv; exact ⟨rfl, rfl⟩
        refine ⟨_, rfl, .str x, .ty "str", _, _, true, rfl, .ty "str", .base (.str x), kit_ty (show kitB "str" "str" = some true by decide +kernel), true, rfl, ?_⟩
        have hR2 : (upd H2 t (.frz od (.dK [(.inr x, v')]))) R = some (.lst (ys.map V.str)) := by rw [upd_ne nt]; exact hR
        refine iteF ⟨_, rfl, _, rfl, R, _, rfl, .inl (SqL.of hR2), rfl, flat_strs ys, _, rfl, ?_⟩
        rw [if_pos rfl, show inV (kV (.inr x)) (ys.map V.str) = decide (x ∈ ys) from in_strs x ys, fr ys x as.2.2]
        by_cases hm : x ∈ namesN k d
        · rw [decide_eq_true hm]
          have hdu2 : Da D (upd H2 t (.frz od (.dK [(.inr x, v')]))) v' du := hdu.fr fun b o e _ _ _ => by
            obtain ⟨h1, h2⟩ := HidL.sub e
            rw [upd_ne (fun z => h1 (by rw [z]; exact List.mem_singleton.mpr rfl))]
            exact s12 _ _ h2
          refine iteF ⟨_, rfl, _, rfl, t, v', rfl, .inl ⟨_, .inr x, .inr ⟨od, upd_same⟩, rfl, ?_⟩, D, v', du, rfl, hdu2, sdu, _, rfl, ?_⟩
          · simp [valV]
          · rw [wrong.resolve_left fun z => z hm]
            exact iteT (q _ (sameBut_of s12))
        · rw [decide_eq_false hm]
          exact iteT (iteT (q _ (sameBut_of s12)))
      · rintro σ H' ⟨_, e, _⟩
        cases e
    | @good t kvs tm ht tt good nod q =>
      refine ⟨_, rfl, .ref t, .ty "dict", _, _, true, rfl, .ty "dict", .inl (.base (.dK (s1 _ _ ht))), kit_ty (show kitB "dict" "dict" = some true by decide +kernel), true, rfl, ?_⟩
      refine iteF ⟨_, rfl, D, m, v, d, [], k, rfl, dr.sm s1, hd.sm s1, fit, a.wt, hk, few, fun H2 R ys nR as hR s2 => ?_⟩
      have s12 : Same H H2 := fun b o e => s2 b o (s1 b o e)
      have nt : R ≠ t := fun z => by rw [z, s1 _ _ ht] at nR; cases nR
      refine ⟨t, _, s12 _ _ ht, trivial, fun od => ?_⟩
      refine ⟨_, rfl, t, od, rfl, .inl ⟨_, upd_same, for_it walk_keys (fun i σ H' => H' = upd H2 t (.frz od (.dK kvs)) ∧ ∃ x3, σ = [some v, some (.ref t), some (.ref R), x3]) ⟨rfl, none, rfl⟩ (fun i σ H' _ h => by rw [h.1]; exact upd_same) ?_ ?_⟩⟩
      · rintro i y σ H3 H4 hi ⟨rfl, x3, rfl⟩ ⟨rfl, k', v', hkv, rfl⟩
        obtain ⟨x, p, o, c, e0, hm, p1, p2, hp, fo, so⟩ := good _ (List.mem_of_getElem? hkv)
        cases e0
        have pt : p ≠ t := fun z => by rw [z, ht] at hp; cases hp
        have hp2 : (upd H2 t (.frz od (.dK kvs))) p = some (.tup [oV o, .int c]) := by rw [upd_ne pt]; exact s12 _ _ hp
        have hR2 : (upd H2 t (.frz od (.dK kvs))) R = some (.lst (ys.map V.str)) := by rw [upd_ne nt]; exact hR
        refine ⟨_, rfl, .str x, .ty "str", _, _, true, rfl, .ty "str", .base (.str x), kit_ty (show kitB "str" "str" = some true by decide +kernel), true, rfl, ?_⟩
        refine iteF ⟨_, rfl, _, rfl, R, _, rfl, .inl (SqL.of hR2), rfl, flat_strs ys, _, rfl, ?_⟩
        rw [if_pos rfl, show inV (kV (.inr x)) (ys.map V.str) = decide (x ∈ ys) from in_strs x ys, fr ys x as.2.2, decide_eq_true hm]
        have there : valV kvs (.inr x) = some (.ref p) := val_of_nodup nod hkv
        refine iteF ⟨_, rfl, _, rfl, t, .ref p, rfl, .inl ⟨_, .inr x, .inr ⟨od, upd_same⟩, rfl, there.symm⟩, D, .ref p, .tuple [oD o, .int c], rfl, .tup hp2 p1 p2 (.cons (da_o o) (.cons (.int c) .nil)), ?_, _, rfl, ?_⟩
        · show (shortD (oD o) && (shortD (.int c) && true)) = true
          rw [so]
          rfl
        · rw [termD_good fo]
          exact iteF ⟨rfl, _, rfl⟩
      · rintro σ H' ⟨rfl, x3, rfl⟩
        refine ⟨upd_same, ?_⟩
        rw [upd_upd, upd_eqself (s12 _ _ ht)]
        refine ⟨_, rfl, _, rfl, D, m, v, t, d, [], k, kvs, tm, [], rfl, dr.sm s12, (fun _ z => nomatch z), ?_, fit, a.wt, hk, s12 _ _ ht, tt.sm s12, fun H5 v5 s5 g5 => q H5 v5 (fun b o e => s5 b o (s12 b o e)) ?_⟩
        · rw [hidL_nil]
          exact hd.sm s12
        · rw [hidL_nil] at g5
          exact g5
end
end Lm
/-! names_of (made by gen_p06r.py). -/
namespace Lm
open PySem PySem.Spec PyProof.Rows L2
def oK : Option Str → Option Key := Option.map Sum.inr
theorem kN_oK {o : Option Str} : kN (oK o) = oV o := by cases o <;> rfl
def keyS : Option Key → Option Str
  | some (.inr x) => some x
  | _ => none
theorem keyS_oK {o : Option Str} : keyS (oK o) = o := by cases o <;> rfl
theorem oK_inj {a b : Option Str} (h : oK a = oK b) : a = b := by rw [← keyS_oK (o := a), h, keyS_oK]
/-- the two sides of a row -/
def sidesD : PyData → List (Option Str)
  | .tuple [a, b, _] => [unO a, unO b]
  | _ => []
theorem row_shape {d : PyData} (h : rowD d = true) : ∃ a b c, d = .tuple [a, b, c] := by
  cases d with
  | tuple ds =>
    obtain ⟨a, b, c, rfl, _⟩ := row_three h
    exact ⟨a, b, c, rfl⟩
  | _ => cases h
theorem putK_keys {κ : Type} [DecidableEq κ] (kvs : List (κ × V)) (k : κ) (v : V) : (putK kvs k v).map (·.1) = if k ∈ kvs.map (·.1) then kvs.map (·.1) else kvs.map (·.1) ++ [k] := by
  unfold putK
  have e : (kvs.any fun kv => decide (kv.1 = k)) = decide (k ∈ kvs.map (·.1)) := by
    rw [Bool.eq_iff_iff, List.any_eq_true, decide_eq_true_iff, List.mem_map]
    constructor
    · rintro ⟨p, hp, h⟩
      exact ⟨p, hp, of_decide_eq_true h⟩
    · rintro ⟨p, hp, h⟩
      exact ⟨p, hp, decide_eq_true h⟩
  rw [e]
  by_cases h : k ∈ kvs.map (·.1)
  · rw [decide_eq_true h, if_pos rfl, if_pos h, List.map_map]
    congr 1
    funext p
    show (if p.1 = k then (p.1, v) else p).1 = p.1
    split <;> rfl
  · rw [decide_eq_false h, if_neg (by decide), if_neg h, List.map_append]
    rfl
/-- the keys are just these sides -/
def Kinv (kvs : List (Option Key × V)) (ns : List (Option Str)) : Prop := (kvs.map (·.1)).Nodup ∧ ∀ k, k ∈ kvs.map (·.1) ↔ k ∈ ns.map oK
theorem Kinv.nil : Kinv [] [] := ⟨.nil, fun _ => Iff.rfl⟩
theorem Kinv.put {kvs : List (Option Key × V)} {ns : List (Option Str)} (h : Kinv kvs ns) (o : Option Str) (v : V) : Kinv (putK kvs (oK o) v) (ns ++ [o]) := by
  unfold Kinv
  rw [putK_keys]
  by_cases m : oK o ∈ kvs.map (·.1)
  · rw [if_pos m]
    refine ⟨h.1, fun k => ?_⟩
    rw [h.2 k, List.map_append, List.mem_append]
    refine ⟨.inl, fun z => z.elim id fun z => ?_⟩
    rw [List.mem_singleton.mp z]
    exact (h.2 _).mp m
  · rw [if_neg m]
    refine ⟨List.nodup_append.mpr ⟨h.1, by simp, fun a ha b hb e => m ?_⟩, fun k => ?_⟩
    · rw [List.mem_singleton] at hb
      rw [← hb, ← e]
      exact ha
    · rw [List.mem_append, h.2 k, List.map_append, List.mem_append]
      rfl
theorem Kinv.mem {kvs : List (Option Key × V)} {ns : List (Option Str)} (h : Kinv kvs ns) (x : Str) : x ∈ (kvs.map (·.1)).filterMap keyS ↔ x ∈ ns.filterMap id := by
  rw [List.mem_filterMap, List.mem_filterMap]
  constructor
  · rintro ⟨k, hk, e⟩
    obtain ⟨o, ho, rfl⟩ := List.mem_map.mp ((h.2 k).mp hk)
    rw [keyS_oK] at e
    exact ⟨o, ho, e⟩
  · rintro ⟨o, ho, e⟩
    exact ⟨oK o, (h.2 _).mpr (List.mem_map.mpr ⟨o, ho, rfl⟩), by rw [keyS_oK]; exact e⟩
theorem nodup_keys : ∀ {l : List (Option Key)}, l.Nodup → (l.filterMap keyS).Nodup
  | [], _ => .nil
  | k :: r, h => by
    obtain ⟨n1, n2⟩ := List.nodup_cons.mp h
    have ih := nodup_keys n2
    match k, n1 with
    | none, _ => exact ih
    | some (.inl _), _ => exact ih
    | some (.inr x), n1 =>
      show (x :: r.filterMap keyS).Nodup
      refine List.nodup_cons.mpr ⟨fun z => ?_, ih⟩
      obtain ⟨k, hk, e⟩ := List.mem_filterMap.mp z
      match k, hk, e with
      | some (.inr y), hk, e =>
        obtain rfl : y = x := Option.some.inj e
        exact n1 hk
section
variable {P : Program} {w : World} {K : PySem.W.Frag} {mg : Str → Option Value} {base : Heap}
abbrev sNO : Stmt := topS 10
def nNO : List Str := ["rows", "found", "a", "b", "_", "name"]
theorem scNO : FnScope nNO ["rows"] (defScope sNO) := ⟨rfl, rfl, rfl, by decide +kernel, rfl, by decide +kernel, by decide +kernel⟩
theorem cr_sortedSK {X : Cx} (K : PySem.W.Frag) (hK : X.K = K := by rfl) : CallR X (.builtin "sorted") (rSortedS K) := hK ▸ cr_sortedS
def spNO : Sp := fun vs H Q _ => ∃ (D : DrA) (m : Nat) (v : V) (d : PyData) (ds : List PyData), vs = [v] ∧ DrawAt D m H ∧ Da D H v d ∧ rowsD d = some ds ∧ ds.all rowD = true ∧ ds.length ≤ 30 ∧
  ∀ (H' : Hp) (R : Addr) (ys : List Str), AscOf ((ds.flatMap sidesD).filterMap id) ys → H' R = some (.lst (ys.map V.str)) → Same H H' → Q (.ref R) H'
theorem ok_no {f : Addr} {fd : FuncData} (F : Fun K "names_of" "names_of" sNO f fd) (N : Bl mg) : FnOk P w K mg base CX0 1 f fd ["rows"] spNO := by
  refine F.ok scNO (fun vs H Q E h => ?_) (fun cdv A outer s H vs Q E hr h => ?_)
  · obtain ⟨D, m, v, d, ds, rfl, _⟩ := h
    rfl
  · obtain ⟨D, m, v, d, ds, rfl, dr, hd, er, rows, l30, q⟩ := h
    refine ⟨_, pss_cons (ps_set (i := 1) scNO.nd rfl (.inl rfl) pe_dnewK)
      (pss_cons (ps_for PassesOwn.never rfl (pi_or (pi_listK K (pv 0)) (pi_tupK K (pv 0))) (pg_tup rfl (pgs_cons (pg_name (i := 2) scNO.nd rfl (.inl rfl)) (pgs_cons (pg_name (i := 3) scNO.nd rfl (.inl rfl)) (pgs_cons (pg_name (i := 4) scNO.nd rfl (.inl rfl)) pgs_nil))))
        (pss_cons (ps_dputN (pv 1) (pv 2) pe_bl rfl) (pss_one (ps_dputN (pv 1) (pv 3) pe_bl rfl))))
      (pss_one (ps_ret (pe_callB (cr_sortedSK K) (by rfl) N.bsrt (by decide +kernel) (pa_cons (pe_lock
        (pe_lc (own := [("name", 5)]) (g := gName 5) rfl scNO.nd (pi_keysN (P := P) (w := w) (pv 1)) (blkOk_by (own := [("name", 5)]) (N := nNO) (sc := defScope sNO) (by decide +kernel)) (fun _ _ _ _ _ => pg_name (i := 5) scNO.nd rfl (Or.inl rfl))
          (fun _ _ _ _ _ => pts_one (pt_cmpR op_notN1 (pv 5) pe_non (nomark _))) (fun _ _ _ _ _ => pv 5))) pa_nil))))), ?_⟩
    obtain ⟨s0, xs, rfl, ha, n1, n2, hp⟩ := hd.rows er
    have hl := ha.length
    refine fun p np => ?_
    have s1 : Same H (upd H p (.dK [])) := same_upd np
    have hp1 : (upd H p (.dK [])) p = some (.dK []) := upd_same
    generalize upd H p (.dK []) = H1 at *
    rcases hp with hp | hp
    · refine .inl ⟨_, rfl, s0, rfl, ⟨_, SqL.of (s1 _ _ hp)⟩, for_list (K := K) (a := s0) (xs := xs) (fun i σ H' => Same H H' ∧ ∃ kvs x2 x3 x4 x5, σ = [some (.ref s0), some (.ref p), x2, x3, x4, x5] ∧ ((kvs = [] ∧ H' p = some (.dK [])) ∨ H' p = some (NX P w p kvs)) ∧ Kinv kvs ((ds.take i).flatMap sidesD) ∧ kvs.length ≤ 2 * i) ⟨s1, [], none, none, none, none, rfl, .inl ⟨rfl, hp1⟩, Kinv.nil, Nat.le_refl _⟩ (fun i σ H' _ z => SqL.of (z.1 _ _ hp)) ?_ ?_⟩
      · rintro i y σ H' hy ⟨sH, kvs, x2, x3, x4, x5, rfl, hdic, kin, kl⟩
        obtain ⟨dy, hdy, gy⟩ := ha.get hy
        have ry := List.all_eq_true.mp rows dy (List.mem_of_getElem? hdy)
        obtain ⟨a, b, c, rfl⟩ := row_shape ry
        obtain ⟨⟨ka, kb⟩, kne, z, rfl⟩ := row_z ry
        obtain ⟨r, vs, _, rfl, ed, hr1, _, _, hvs⟩ := gy.tupOf rfl
        injection ed with ed
        subst ed
        cases hvs with
        | @cons va _ _ _ g1 hvs => cases hvs with
        | @cons vb _ _ _ g2 hvs => cases hvs with
        | @cons vc _ _ _ g3 hvs =>
          cases hvs
          obtain ⟨rfl, ea⟩ := side_o g1 ka
          obtain ⟨rfl, eb⟩ := side_o g2 kb
          have li : i < ds.length := (List.getElem?_eq_some_iff.mp hdy).1
          have st : (ds.take (i + 1)).flatMap sidesD = (ds.take i).flatMap sidesD ++ [unO a] ++ [unO b] := by
            rw [List.take_add_one, hdy, List.flatMap_append, List.append_assoc]
            rfl
          refine ⟨r, _, rfl, SqT.of (sH _ _ hr1), rfl, _, _, rfl, _, _, rfl, _, _, rfl, rfl, ?_⟩
          have k1 := kin.put (unO a) (.bl true)
          have k2 := k1.put (unO b) (.bl true)
          refine ⟨_, rfl, _, rfl, p, kvs, oK (unO a), rfl, hdic.imp (fun h => ⟨[], h.2, h.1⟩) id, kN_oK.symm, small1000 (by omega), ?_⟩
          have h2 : (upd H' p (NX P w p (putK kvs (oK (unO a)) (.bl true)))) p = some (NX P w p (putK kvs (oK (unO a)) (.bl true))) := upd_same
          have l1 := length_putK kvs (oK (unO a)) (.bl true)
          have l2 := length_putK (putK kvs (oK (unO a)) (.bl true)) (oK (unO b)) (.bl true)
          refine ⟨_, rfl, _, rfl, p, _, oK (unO b), rfl, .inr h2, kN_oK.symm, small1000 (by omega), ?_⟩
          refine ⟨same_put (same_put sH np) np, _, _, _, _, _, rfl, .inr upd_same, by rw [st]; exact k2, by omega⟩
      · rintro σ H' ⟨sH, kvs, x2, x3, x4, x5, rfl, hdic, kin, kl⟩
        rw [hl, List.take_length] at kin
        have fin : ∀ (zs : List Str), zs = (kvs.map (·.1)).filterMap keyS → zs.length < 64 ∧ zs.Nodup ∧ ∀ k, k ∈ zs ↔ k ∈ (ds.flatMap sidesD).filterMap id := fun zs e => by
          subst e
          have len : ((kvs.map (·.1)).filterMap keyS).length ≤ (kvs.map (·.1)).length := List.length_filterMap_le _ _
          rw [List.length_map] at len
          exact ⟨by omega, nodup_keys kin.1, kin.mem⟩
        have done : ∀ (H3 : Hp) (L : Addr), Same H H3 → H3 L = some (.lst ((((kvs.map (·.1)).filterMap keyS)).map V.str)) → (rSortedS K) [.ref L] H3 Q := fun H3 L s3 hL => by
          obtain ⟨f1, f2, f3⟩ := fin _ rfl
          refine ⟨L, _, rfl, SqL.of hL, f1, fun ys q' pm so nq => ?_⟩
          refine q _ q' ys ⟨so, pm.nodup_iff.mpr f2, fun k => ?_⟩ upd_same fun b o e => same_upd nq _ _ (s3 b o e)
          rw [pm.mem_iff, f3 k]
        rcases hdic with ⟨e0, hd0⟩ | hd0
        · have e0 : kvs = [] := e0
          subst e0
          refine ⟨p, _, hd0, trivial, fun od => ?_⟩
          have ups : ∀ H4, H4 p = some (.frz od (.dK [])) → Same (upd H' p (.frz od (.dK []))) H4 → Same H' (upd H4 p (.dK [])) := fun H4 h4 s4 b o e => by
            by_cases eb : b = p
            · rw [eb, upd_same]
              rw [eb, hd0] at e
              exact e
            · rw [upd_ne eb]
              exact s4 b o (by rw [upd_ne eb]; exact e)
          refine ⟨_, rfl, p, od, rfl, .inl ⟨[], upd_same, fun R nR => lc_it walk_keys (fun i H4 => H4 = upd (upd H' p (.frz od (.dK []))) R (.lst []) ∧ R ≠ p) ⟨rfl, fun z => by rw [z, upd_same] at nR; cases nR⟩ (fun i H4 _ h => by rw [h.1, upd_ne h.2.symm]; exact upd_same) ?_ ?_⟩⟩
          · rintro i x H4 H5 hi
            exact absurd hi (Nat.not_lt_zero _)
          · rintro H4 ⟨rfl, nRp⟩
            have h4 : (upd (upd H' p (.frz od (.dK []))) R (.lst [])) p = some (.frz od (.dK [])) := by rw [upd_ne nRp.symm]; exact upd_same
            refine ⟨h4, done _ R (fun b o e => ups _ h4 (same_upd nR) b o (sH b o e)) ?_⟩
            rw [upd_ne nRp, upd_same]
            rfl
        · refine ⟨p, _, hd0, trivial, fun od => ?_⟩
          have ups : ∀ H4, H4 p = some (.frz od (NX P w p kvs)) → Same (upd H' p (.frz od (NX P w p kvs))) H4 → Same H' (upd H4 p (NX P w p kvs)) := fun H4 h4 s4 b o e => by
            by_cases eb : b = p
            · rw [eb, upd_same]
              rw [eb, hd0] at e
              exact e
            · rw [upd_ne eb]
              exact s4 b o (by rw [upd_ne eb]; exact e)
          refine ⟨_, rfl, p, od, rfl, .inr ⟨kvs, upd_same, fun R nR => lc_it walk_nx (fun i H4 => Same (upd H' p (.frz od (NX P w p kvs))) H4 ∧ H4 R = some (.lst ((((kvs.map (·.1)).take i).filterMap keyS).map V.str)) ∧ R ≠ p) ⟨same_upd nR, upd_same, fun z => by rw [z, upd_same] at nR; cases nR⟩ (fun i H4 _ h => h.1 _ _ upd_same) ?_ ?_⟩⟩
          · rintro i x H4 H5 hi ⟨s4, hR, nRp⟩ ⟨rfl, k, v, hkv, rfl⟩
            have hki : (kvs.map (·.1))[i]? = some k := by rw [List.getElem?_map, hkv]; rfl
            have mk := kin.2 k |>.mp (List.mem_of_getElem? hki)
            obtain ⟨o, _, rfl⟩ := List.mem_map.mp mk
            have st : (((kvs.map (·.1)).take (i + 1)).filterMap keyS) = ((kvs.map (·.1)).take i).filterMap keyS ++ [oK o].filterMap keyS := by
              rw [List.take_add_one, hki, List.filterMap_append]
              rfl
            have ln : (((kvs.map (·.1)).take i).filterMap keyS).length ≤ 500 := Nat.le_trans (List.length_filterMap_le _ _) (by rw [List.length_take, List.length_map]; omega)
            refine ⟨rfl, _, rfl, rfl, _, rfl, ?_⟩
            cases o with
            | none =>
              refine iteF ⟨s4, ?_, nRp⟩
              rw [st]
              show H5 R = some (.lst ((_ ++ []).map V.str))
              rw [List.append_nil]
              exact hR
            | some x =>
              refine iteT ⟨_, rfl, _, hR, small1000 (by rw [List.length_map]; omega), same_put s4 nR, ?_, nRp⟩
              rw [st, List.map_append]
              exact upd_same
          · rintro H4 ⟨s4, hR, nRp⟩
            rw [List.take_of_length_le (by rw [List.length_map]; exact Nat.le_refl _)] at hR
            have h4 := s4 _ _ (show (upd H' p (.frz od (NX P w p kvs))) p = _ from upd_same)
            refine ⟨h4, done _ R (fun b o e => ups _ h4 s4 b o (sH b o e)) ?_⟩
            rw [upd_ne nRp]
            exact hR
    · refine .inr ⟨_, rfl, s0, rfl, ⟨_, SqT.of (s1 _ _ hp)⟩, for_tup (K := K) (a := s0) (xs := xs) (fun i σ H' => Same H H' ∧ ∃ kvs x2 x3 x4 x5, σ = [some (.ref s0), some (.ref p), x2, x3, x4, x5] ∧ ((kvs = [] ∧ H' p = some (.dK [])) ∨ H' p = some (NX P w p kvs)) ∧ Kinv kvs ((ds.take i).flatMap sidesD) ∧ kvs.length ≤ 2 * i) ⟨s1, [], none, none, none, none, rfl, .inl ⟨rfl, hp1⟩, Kinv.nil, Nat.le_refl _⟩ (fun i σ H' _ z => SqT.of (z.1 _ _ hp)) ?_ ?_⟩
      · rintro i y σ H' hy ⟨sH, kvs, x2, x3, x4, x5, rfl, hdic, kin, kl⟩
        obtain ⟨dy, hdy, gy⟩ := ha.get hy
        have ry := List.all_eq_true.mp rows dy (List.mem_of_getElem? hdy)
        obtain ⟨a, b, c, rfl⟩ := row_shape ry
        obtain ⟨⟨ka, kb⟩, kne, z, rfl⟩ := row_z ry
        obtain ⟨r, vs, _, rfl, ed, hr1, _, _, hvs⟩ := gy.tupOf rfl
        injection ed with ed
        subst ed
        cases hvs with
        | @cons va _ _ _ g1 hvs => cases hvs with
        | @cons vb _ _ _ g2 hvs => cases hvs with
        | @cons vc _ _ _ g3 hvs =>
          cases hvs
          obtain ⟨rfl, ea⟩ := side_o g1 ka
          obtain ⟨rfl, eb⟩ := side_o g2 kb
          have li : i < ds.length := (List.getElem?_eq_some_iff.mp hdy).1
          have st : (ds.take (i + 1)).flatMap sidesD = (ds.take i).flatMap sidesD ++ [unO a] ++ [unO b] := by
            rw [List.take_add_one, hdy, List.flatMap_append, List.append_assoc]
            rfl
          refine ⟨r, _, rfl, SqT.of (sH _ _ hr1), rfl, _, _, rfl, _, _, rfl, _, _, rfl, rfl, ?_⟩
          have k1 := kin.put (unO a) (.bl true)
          have k2 := k1.put (unO b) (.bl true)
          refine ⟨_, rfl, _, rfl, p, kvs, oK (unO a), rfl, hdic.imp (fun h => ⟨[], h.2, h.1⟩) id, kN_oK.symm, small1000 (by omega), ?_⟩
          have h2 : (upd H' p (NX P w p (putK kvs (oK (unO a)) (.bl true)))) p = some (NX P w p (putK kvs (oK (unO a)) (.bl true))) := upd_same
          have l1 := length_putK kvs (oK (unO a)) (.bl true)
          have l2 := length_putK (putK kvs (oK (unO a)) (.bl true)) (oK (unO b)) (.bl true)
          refine ⟨_, rfl, _, rfl, p, _, oK (unO b), rfl, .inr h2, kN_oK.symm, small1000 (by omega), ?_⟩
          refine ⟨same_put (same_put sH np) np, _, _, _, _, _, rfl, .inr upd_same, by rw [st]; exact k2, by omega⟩
      · rintro σ H' ⟨sH, kvs, x2, x3, x4, x5, rfl, hdic, kin, kl⟩
        rw [hl, List.take_length] at kin
        have fin : ∀ (zs : List Str), zs = (kvs.map (·.1)).filterMap keyS → zs.length < 64 ∧ zs.Nodup ∧ ∀ k, k ∈ zs ↔ k ∈ (ds.flatMap sidesD).filterMap id := fun zs e => by
          subst e
          have len : ((kvs.map (·.1)).filterMap keyS).length ≤ (kvs.map (·.1)).length := List.length_filterMap_le _ _
          rw [List.length_map] at len
          exact ⟨by omega, nodup_keys kin.1, kin.mem⟩
        have done : ∀ (H3 : Hp) (L : Addr), Same H H3 → H3 L = some (.lst ((((kvs.map (·.1)).filterMap keyS)).map V.str)) → (rSortedS K) [.ref L] H3 Q := fun H3 L s3 hL => by
          obtain ⟨f1, f2, f3⟩ := fin _ rfl
          refine ⟨L, _, rfl, SqL.of hL, f1, fun ys q' pm so nq => ?_⟩
          refine q _ q' ys ⟨so, pm.nodup_iff.mpr f2, fun k => ?_⟩ upd_same fun b o e => same_upd nq _ _ (s3 b o e)
          rw [pm.mem_iff, f3 k]
        rcases hdic with ⟨e0, hd0⟩ | hd0
        · have e0 : kvs = [] := e0
          subst e0
          refine ⟨p, _, hd0, trivial, fun od => ?_⟩
          have ups : ∀ H4, H4 p = some (.frz od (.dK [])) → Same (upd H' p (.frz od (.dK []))) H4 → Same H' (upd H4 p (.dK [])) := fun H4 h4 s4 b o e => by
            by_cases eb : b = p
            · rw [eb, upd_same]
              rw [eb, hd0] at e
              exact e
            · rw [upd_ne eb]
              exact s4 b o (by rw [upd_ne eb]; exact e)
          refine ⟨_, rfl, p, od, rfl, .inl ⟨[], upd_same, fun R nR => lc_it walk_keys (fun i H4 => H4 = upd (upd H' p (.frz od (.dK []))) R (.lst []) ∧ R ≠ p) ⟨rfl, fun z => by rw [z, upd_same] at nR; cases nR⟩ (fun i H4 _ h => by rw [h.1, upd_ne h.2.symm]; exact upd_same) ?_ ?_⟩⟩
          · rintro i x H4 H5 hi
            exact absurd hi (Nat.not_lt_zero _)
          · rintro H4 ⟨rfl, nRp⟩
            have h4 : (upd (upd H' p (.frz od (.dK []))) R (.lst [])) p = some (.frz od (.dK [])) := by rw [upd_ne nRp.symm]; exact upd_same
            refine ⟨h4, done _ R (fun b o e => ups _ h4 (same_upd nR) b o (sH b o e)) ?_⟩
            rw [upd_ne nRp, upd_same]
            rfl
        · refine ⟨p, _, hd0, trivial, fun od => ?_⟩
          have ups : ∀ H4, H4 p = some (.frz od (NX P w p kvs)) → Same (upd H' p (.frz od (NX P w p kvs))) H4 → Same H' (upd H4 p (NX P w p kvs)) := fun H4 h4 s4 b o e => by
            by_cases eb : b = p
            · rw [eb, upd_same]
              rw [eb, hd0] at e
              exact e
            · rw [upd_ne eb]
              exact s4 b o (by rw [upd_ne eb]; exact e)
          refine ⟨_, rfl, p, od, rfl, .inr ⟨kvs, upd_same, fun R nR => lc_it walk_nx (fun i H4 => Same (upd H' p (.frz od (NX P w p kvs))) H4 ∧ H4 R = some (.lst ((((kvs.map (·.1)).take i).filterMap keyS).map V.str)) ∧ R ≠ p) ⟨same_upd nR, upd_same, fun z => by rw [z, upd_same] at nR; cases nR⟩ (fun i H4 _ h => h.1 _ _ upd_same) ?_ ?_⟩⟩
          · rintro i x H4 H5 hi ⟨s4, hR, nRp⟩ ⟨rfl, k, v, hkv, rfl⟩
            have hki : (kvs.map (·.1))[i]? = some k := by rw [List.getElem?_map, hkv]; rfl
            have mk := kin.2 k |>.mp (List.mem_of_getElem? hki)
            obtain ⟨o, _, rfl⟩ := List.mem_map.mp mk
            have st : (((kvs.map (·.1)).take (i + 1)).filterMap keyS) = ((kvs.map (·.1)).take i).filterMap keyS ++ [oK o].filterMap keyS := by
              rw [List.take_add_one, hki, List.filterMap_append]
              rfl
            have ln : (((kvs.map (·.1)).take i).filterMap keyS).length ≤ 500 := Nat.le_trans (List.length_filterMap_le _ _) (by rw [List.length_take, List.length_map]; omega)
            refine ⟨rfl, _, rfl, rfl, _, rfl, ?_⟩
            cases o with
            | none =>
              refine iteF ⟨s4, ?_, nRp⟩
              rw [st]
              show H5 R = some (.lst ((_ ++ []).map V.str))
              rw [List.append_nil]
              exact hR
            | some x =>
              refine iteT ⟨_, rfl, _, hR, small1000 (by rw [List.length_map]; omega), same_put s4 nR, ?_, nRp⟩
              rw [st, List.map_append]
              exact upd_same
          · rintro H4 ⟨s4, hR, nRp⟩
            rw [List.take_of_length_le (by rw [List.length_map]; exact Nat.le_refl _)] at hR
            have h4 := s4 _ _ (show (upd H' p (.frz od (NX P w p kvs))) p = _ from upd_same)
            refine ⟨h4, done _ R (fun b o e => ups _ h4 s4 b o (sH b o e)) ?_⟩
            rw [upd_ne nRp]
            exact hR
end
end Lm
/-! said, one_of (made by gen_p06s.py). -/
namespace Lm
open PySem PySem.Spec PyProof.Rows L2
theorem held0 {H : Hp} : Held [] H := fun z hz => absurd hz (by simp)
def saidD : PyData → PyData
  | .tuple [a, b, c] => .tuple [.str "row", a, b, c]
  | d => d
def andD (s : PyData) : PyData := .tuple [.str "and", .tuple (((rowsD s).getD []).map saidD)]
def oneD (ss : List PyData) : PyData := .tuple [.str "or", .tuple (ss.map andD)]
section
variable {P : Program} {w : World} {K : PySem.W.Frag} {mg : Str → Option Value} {base : Heap}
abbrev sSaid1 : Stmt := topS 29
theorem scSaid1 : FnScope ["row"] ["row"] (defScope sSaid1) := ⟨rfl, rfl, rfl, by decide +kernel, rfl, by decide +kernel, by decide +kernel⟩
def spSaid1 (K : PySem.W.Frag) : Sp := fun vs H Q _ => ∃ (p : Addr) (va vb vc : V), vs = [.ref p] ∧ H p = some (.tup [va, vb, vc]) ∧ ∀ q, H q = none → Q (.ref q) (upd H q (.tup [.str "row", va, vb, vc]))
theorem ok_said1 {f : Addr} {fd : FuncData} (F : Fun K "said" "said" sSaid1 f fd) : FnOk P w K mg base CX0 1 f fd ["row"] (spSaid1 K) := by
  refine F.ok scSaid1 (fun vs H Q E h => ?_) (fun cdv A outer s H vs Q E hr h => ?_)
  · obtain ⟨p, va, vb, vc, rfl, _⟩ := h
    rfl
  · obtain ⟨p, va, vb, vc, rfl, hp, q⟩ := h
    refine ⟨_, pss_one (ps_ret (pe_tup (pa_cons pe_str (pa_cons (pe_ix ix_tup (pv 0) pe_int (fun _ _ => rfl)) (pa_cons (pe_ix ix_tup (pv 0) pe_int (fun _ _ => rfl)) (pa_cons (pe_ix ix_tup (pv 0) pe_int (fun _ _ => rfl)) pa_nil)))))), ?_⟩
    exact ⟨_, rfl, p, _, 0, va, rfl, rfl, SqT.of hp, atI_nat (j := 0) rfl, _, rfl, p, _, 1, vb, rfl, rfl, SqT.of hp, atI_nat (j := 1) rfl, _, rfl, p, _, 2, vc, rfl, rfl, SqT.of hp, atI_nat (j := 2) rfl, (by show 4 ≤ sizeLine; decide), fun q' nq => q q' nq⟩
abbrev sOO : Stmt := topS 30
def nOO : List Str := ["systems", "rows", "row"]
theorem scOO : FnScope nOO ["systems"] (defScope sOO) := ⟨rfl, rfl, rfl, by decide +kernel, rfl, by decide +kernel, by decide +kernel⟩
theorem call_tupK {X : Cx} (K : PySem.W.Frag) (hK : X.K = K := by rfl) : CallR X (.type "tuple") (fun xs H Q => ∃ p ys, xs = [V.ref p] ∧ ((SqL K H p ys ∧ ∀ l, H l = none → Q (.ref l) (upd H l (.tup ys))) ∨ (SqT K H p ys ∧ Q (.ref p) H))) := hK ▸ call_tuple_of
def SysOk (ss : List PyData) : Prop := ∀ s ∈ ss, ∃ rs, rowsD s = some rs ∧ rs.all rowD = true ∧ rs.length ≤ 30
def spOO : Sp := fun vs H Q _ => ∃ (D : DrA) (m : Nat) (v : V) (d : PyData) (ss : List PyData), vs = [v] ∧ DrawAt D m H ∧ Da D H v d ∧ rowsD d = some ss ∧ SysOk ss ∧ ss.length ≤ 100 ∧
  ∀ H' v', Same H H' → Da D H' v' (oneD ss) → Q v' H'
theorem ok_oo {f : Addr} {fd : FuncData} (F : Fun K "one_of" "one_of" sOO f fd) (N : Bl mg) (GS : Has P w K mg base CX0 1 "said" ["row"] (spSaid1 K)) : FnOk P w K mg base CX0 2 f fd ["systems"] spOO := by
  refine F.ok scOO (fun vs H Q E h => ?_) (fun cdv A outer s H vs Q E hr h => ?_)
  · obtain ⟨D, m, v, d, ss, rfl, _⟩ := h
    rfl
  · obtain ⟨D, m, v, d, ss, rfl, dr, hd, er, sys, l1, q⟩ := h
    refine ⟨_, pss_one (ps_ret (pe_tup (pa_cons pe_str (pa_cons (pe_callTy (call_tupK K) (by rfl) N.btup (by decide +kernel) (pa_cons
        (pe_lc (own := [("rows", 1)]) (g := gName 1) (tt := tYes) rfl scOO.nd (pi_or (pi_listK K (pv 0)) (pi_tupK K (pv 0))) (blkOk_by (own := [("rows", 1)]) (N := nOO) (sc := defScope sOO) (by decide +kernel)) (fun _ _ _ _ _ => pg_name (i := 1) scOO.nd rfl (Or.inl rfl))
          (fun _ _ _ _ _ => pts_nil) (fun _ _ _ _ _ => pe_tup (pa_cons pe_str (pa_cons (pe_callTy (call_tupK K) (by rfl) N.btup (by decide +kernel) (pa_cons
            (pe_lc (own := [("row", 2)]) (g := gName 2) (tt := tYes) rfl scOO.nd (pi_or (pi_listK K (pv 1)) (pi_tupK K (pv 1))) (blkOk_by (by show blkC nOO ⟨.function, [(".0", .local), ("rows", .local), ("tuple", .globalImplicit)], false, false, []⟩ _ [("row", 2)] = true; decide +kernel)) (fun _ _ _ _ _ => pg_name (i := 2) scOO.nd rfl (Or.inl rfl))
              (fun _ _ _ _ _ => pts_nil) (fun _ _ _ _ _ => pe_h GS hr (by decide) (by rfl) pass0 (pa_cons (pv 2) pa_nil))) pa_nil)) pa_nil)))) pa_nil)) pa_nil)))), ?_⟩
    obtain ⟨s0, xs, rfl, ha, n1, n2, hp⟩ := hd.rows er
    have hl := ha.length
    rcases hp with hp | hp
    · refine .inl ⟨_, rfl, s0, rfl, ⟨_, SqL.of hp⟩, fun R nR => lc_list (K := K) (a := s0) (xs := xs) (fun i H3 => Same H H3 ∧ ∃ zs, H3 R = some (.lst zs) ∧ DaAll D (HidL [R] H3) zs ((ss.take i).map andD) ∧ zs.length = min i ss.length) ⟨same_upd nR, [], upd_same, .nil, by simp⟩ (fun i H' _ z => SqL.of (z.1 _ _ hp)) ?_ ?_⟩
      · rintro i y H3 hy ⟨s3, zs, hR, gz, lz⟩
        obtain ⟨sy, hds, gs⟩ := ha.get hy
        obtain ⟨rs, ers, hrow, lr⟩ := sys sy (List.mem_of_getElem? hds)
        have gs3 : Da D (HidL [R] H3) y sy := gs.fr (by rw [← hidL_nil H]; exact hidL_more nR s3)
        obtain ⟨b0, ws, rfl, hrs, _, _, hb0⟩ := gs3.rows ers
        have lrs := hrs.length
        have ls : ss.length ≤ 100 := l1
        rcases hb0 with hb0 | hb0
        · refine ⟨rfl, .inl ⟨_, rfl, b0, rfl, ⟨_, SqL.of (HidL.sub hb0).2⟩, fun R2 nR2 => lc_list (K := K) (a := b0) (xs := ws) (fun j H4 => Same H3 H4 ∧ ∃ us, H4 R2 = some (.lst us) ∧ DaAll D (HidL [R2, R] H4) us ((rs.take j).map saidD) ∧ us.length = min j rs.length) ⟨same_upd nR2, [], upd_same, .nil, by simp⟩ (fun j H4 _ h => SqL.of (h.1 _ _ (HidL.sub hb0).2)) ?_ ?_⟩⟩
          · rintro j y H4 hy ⟨s4, us, hR2, g, lu⟩
            obtain ⟨dy, hdy, gy⟩ := hrs.get hy
            have ry := List.all_eq_true.mp hrow dy (List.mem_of_getElem? hdy)
            obtain ⟨a, b, c, rfl⟩ := row_shape ry
            obtain ⟨r, vs, _, rfl, ed, hr1, rz, _, _, hvs⟩ := gy.tupH rfl
            injection ed with ed
            subst ed
            cases hvs with
            | @cons va _ _ _ g1 hvs => cases hvs with
            | @cons vb _ _ _ g2 hvs => cases hvs with
            | @cons vc _ _ _ g3 hvs =>
              cases hvs
              have nR2H : H3 R2 = none := nR2
              refine ⟨rfl, _, rfl, r, va, vb, vc, rfl, s4 _ _ hr1, fun q5 n5 => ?_⟩
              have s5 := same_upd (o := .tup [.str "row", va, vb, vc]) n5
              have fr := hidL_more (zs := [R]) (D := D) nR2H s4
              have g5 : Da D (HidL [R2, R] (upd H4 q5 (.tup [.str "row", va, vb, vc]))) (.ref q5) (.tuple [.str "row", a, b, c]) := tup_hid ((dr.sm s3).sm s4) (((Held.cons held0 hR).sm s4).cons hR2) n5 (.cons (.str _) (.cons (g1.fr fr) (.cons (g2.fr fr) (.cons (g3.fr fr) .nil))))
              refine ⟨_, s5 _ _ hR2, small1000 (by omega), same_put (fun b o e => s5 b o (s4 b o e)) nR2, _, upd_same, ?_, ?_⟩
              · rw [hidL_upd (List.mem_cons_self ..), List.take_add_one, hdy, List.map_append]
                exact (g.fr (hidL_sm s5)).app (.cons g5 .nil)
              · have lj : j < rs.length := (List.getElem?_eq_some_iff.mp hdy).1
                rw [List.length_append, lu]
                show min j rs.length + 1 = _
                omega
          · rintro H4 ⟨s4, us, hR2, g, lu⟩
            rw [lrs, List.take_length] at g
            have hz4 : Held [R] H4 := (Held.cons held0 hR).sm s4
            have dr4 := (dr.sm s3).sm s4
            have g' : DaAll D (HidL [R] H4) us (rs.map saidD) := g.fr hidL_cons
            refine ⟨R2, _, rfl, .inl ⟨SqL.of hR2, fun p5 n5 => ⟨(by show 2 ≤ sizeLine; decide), fun p6 n6 => ?_⟩⟩⟩
            have s5 := same_upd (o := .tup us) n5
            have a5 : Da D (HidL [R] _) (.ref p5) (.tuple (rs.map saidD)) := tup_hid dr4 hz4 n5 g'
            have s6 := same_upd (o := .tup [.str "and", .ref p5]) n6
            have a6 : Da D (HidL [R] _) (.ref p6) (.tuple [.str "and", .tuple (rs.map saidD)]) := tup_hid (dr4.sm s5) (hz4.sm s5) n6 (.cons (.str _) (.cons a5 .nil))
            have s36 : Same H3 _ := fun b o e => s6 b o (s5 b o (s4 b o e))
            refine ⟨_, s36 _ _ hR, small1000 (by omega), same_put (fun b o e => s36 b o (s3 b o e)) nR, _, upd_same, ?_, ?_⟩
            · rw [hidL_upd (List.mem_cons_self ..), List.take_add_one, hds, List.map_append]
              have en : andD sy = .tuple [.str "and", .tuple (rs.map saidD)] := by
                unfold andD
                rw [ers]
                rfl
              refine (gz.fr (hidL_sm s36)).app (.cons ?_ .nil)
              rw [en]
              exact a6
            · have lj : i < ss.length := (List.getElem?_eq_some_iff.mp hds).1
              rw [List.length_append, lz]
              show min i ss.length + 1 = _
              omega
        · refine ⟨rfl, .inr ⟨_, rfl, b0, rfl, ⟨_, SqT.of (HidL.sub hb0).2⟩, fun R2 nR2 => lc_tup (K := K) (a := b0) (xs := ws) (fun j H4 => Same H3 H4 ∧ ∃ us, H4 R2 = some (.lst us) ∧ DaAll D (HidL [R2, R] H4) us ((rs.take j).map saidD) ∧ us.length = min j rs.length) ⟨same_upd nR2, [], upd_same, .nil, by simp⟩ (fun j H4 _ h => SqT.of (h.1 _ _ (HidL.sub hb0).2)) ?_ ?_⟩⟩
          · rintro j y H4 hy ⟨s4, us, hR2, g, lu⟩
            obtain ⟨dy, hdy, gy⟩ := hrs.get hy
            have ry := List.all_eq_true.mp hrow dy (List.mem_of_getElem? hdy)
            obtain ⟨a, b, c, rfl⟩ := row_shape ry
            obtain ⟨r, vs, _, rfl, ed, hr1, rz, _, _, hvs⟩ := gy.tupH rfl
            injection ed with ed
            subst ed
            cases hvs with
            | @cons va _ _ _ g1 hvs => cases hvs with
            | @cons vb _ _ _ g2 hvs => cases hvs with
            | @cons vc _ _ _ g3 hvs =>
              cases hvs
              have nR2H : H3 R2 = none := nR2
              refine ⟨rfl, _, rfl, r, va, vb, vc, rfl, s4 _ _ hr1, fun q5 n5 => ?_⟩
              have s5 := same_upd (o := .tup [.str "row", va, vb, vc]) n5
              have fr := hidL_more (zs := [R]) (D := D) nR2H s4
              have g5 : Da D (HidL [R2, R] (upd H4 q5 (.tup [.str "row", va, vb, vc]))) (.ref q5) (.tuple [.str "row", a, b, c]) := tup_hid ((dr.sm s3).sm s4) (((Held.cons held0 hR).sm s4).cons hR2) n5 (.cons (.str _) (.cons (g1.fr fr) (.cons (g2.fr fr) (.cons (g3.fr fr) .nil))))
              refine ⟨_, s5 _ _ hR2, small1000 (by omega), same_put (fun b o e => s5 b o (s4 b o e)) nR2, _, upd_same, ?_, ?_⟩
              · rw [hidL_upd (List.mem_cons_self ..), List.take_add_one, hdy, List.map_append]
                exact (g.fr (hidL_sm s5)).app (.cons g5 .nil)
              · have lj : j < rs.length := (List.getElem?_eq_some_iff.mp hdy).1
                rw [List.length_append, lu]
                show min j rs.length + 1 = _
                omega
          · rintro H4 ⟨s4, us, hR2, g, lu⟩
            rw [lrs, List.take_length] at g
            have hz4 : Held [R] H4 := (Held.cons held0 hR).sm s4
            have dr4 := (dr.sm s3).sm s4
            have g' : DaAll D (HidL [R] H4) us (rs.map saidD) := g.fr hidL_cons
            refine ⟨R2, _, rfl, .inl ⟨SqL.of hR2, fun p5 n5 => ⟨(by show 2 ≤ sizeLine; decide), fun p6 n6 => ?_⟩⟩⟩
            have s5 := same_upd (o := .tup us) n5
            have a5 : Da D (HidL [R] _) (.ref p5) (.tuple (rs.map saidD)) := tup_hid dr4 hz4 n5 g'
            have s6 := same_upd (o := .tup [.str "and", .ref p5]) n6
            have a6 : Da D (HidL [R] _) (.ref p6) (.tuple [.str "and", .tuple (rs.map saidD)]) := tup_hid (dr4.sm s5) (hz4.sm s5) n6 (.cons (.str _) (.cons a5 .nil))
            have s36 : Same H3 _ := fun b o e => s6 b o (s5 b o (s4 b o e))
            refine ⟨_, s36 _ _ hR, small1000 (by omega), same_put (fun b o e => s36 b o (s3 b o e)) nR, _, upd_same, ?_, ?_⟩
            · rw [hidL_upd (List.mem_cons_self ..), List.take_add_one, hds, List.map_append]
              have en : andD sy = .tuple [.str "and", .tuple (rs.map saidD)] := by
                unfold andD
                rw [ers]
                rfl
              refine (gz.fr (hidL_sm s36)).app (.cons ?_ .nil)
              rw [en]
              exact a6
            · have lj : i < ss.length := (List.getElem?_eq_some_iff.mp hds).1
              rw [List.length_append, lz]
              show min i ss.length + 1 = _
              omega
      · rintro H3 ⟨s3, zs, hR, gz, lz⟩
        rw [hl, List.take_length] at gz
        have g' : DaAll D H3 zs (ss.map andD) := gz.fr hidL_sub
        refine ⟨R, _, rfl, .inl ⟨SqL.of hR, fun p5 n5 => ⟨(by show 2 ≤ sizeLine; decide), fun p6 n6 => ?_⟩⟩⟩
        have s5 := same_upd (o := .tup zs) n5
        obtain ⟨_, d5, a5⟩ := tup_da (dr.sm s3) g' n5
        have s6 := same_upd (o := .tup [.str "or", .ref p5]) n6
        obtain ⟨_, d6, a6⟩ := tup_da (ds := [.str "or", .tuple (ss.map andD)]) d5 (.cons (.str "or") (.cons a5 .nil)) n6
        exact q _ _ (fun b o e => s6 b o (s5 b o (s3 b o e))) a6
    · refine .inr ⟨_, rfl, s0, rfl, ⟨_, SqT.of hp⟩, fun R nR => lc_tup (K := K) (a := s0) (xs := xs) (fun i H3 => Same H H3 ∧ ∃ zs, H3 R = some (.lst zs) ∧ DaAll D (HidL [R] H3) zs ((ss.take i).map andD) ∧ zs.length = min i ss.length) ⟨same_upd nR, [], upd_same, .nil, by simp⟩ (fun i H' _ z => SqT.of (z.1 _ _ hp)) ?_ ?_⟩
      · rintro i y H3 hy ⟨s3, zs, hR, gz, lz⟩
        obtain ⟨sy, hds, gs⟩ := ha.get hy
        obtain ⟨rs, ers, hrow, lr⟩ := sys sy (List.mem_of_getElem? hds)
        have gs3 : Da D (HidL [R] H3) y sy := gs.fr (by rw [← hidL_nil H]; exact hidL_more nR s3)
        obtain ⟨b0, ws, rfl, hrs, _, _, hb0⟩ := gs3.rows ers
        have lrs := hrs.length
        have ls : ss.length ≤ 100 := l1
        rcases hb0 with hb0 | hb0
        · refine ⟨rfl, .inl ⟨_, rfl, b0, rfl, ⟨_, SqL.of (HidL.sub hb0).2⟩, fun R2 nR2 => lc_list (K := K) (a := b0) (xs := ws) (fun j H4 => Same H3 H4 ∧ ∃ us, H4 R2 = some (.lst us) ∧ DaAll D (HidL [R2, R] H4) us ((rs.take j).map saidD) ∧ us.length = min j rs.length) ⟨same_upd nR2, [], upd_same, .nil, by simp⟩ (fun j H4 _ h => SqL.of (h.1 _ _ (HidL.sub hb0).2)) ?_ ?_⟩⟩
          · rintro j y H4 hy ⟨s4, us, hR2, g, lu⟩
            obtain ⟨dy, hdy, gy⟩ := hrs.get hy
            have ry := List.all_eq_true.mp hrow dy (List.mem_of_getElem? hdy)
            obtain ⟨a, b, c, rfl⟩ := row_shape ry
            obtain ⟨r, vs, _, rfl, ed, hr1, rz, _, _, hvs⟩ := gy.tupH rfl
            injection ed with ed
            subst ed
            cases hvs with
            | @cons va _ _ _ g1 hvs => cases hvs with
            | @cons vb _ _ _ g2 hvs => cases hvs with
            | @cons vc _ _ _ g3 hvs =>
              cases hvs
              have nR2H : H3 R2 = none := nR2
              refine ⟨rfl, _, rfl, r, va, vb, vc, rfl, s4 _ _ hr1, fun q5 n5 => ?_⟩
              have s5 := same_upd (o := .tup [.str "row", va, vb, vc]) n5
              have fr := hidL_more (zs := [R]) (D := D) nR2H s4
              have g5 : Da D (HidL [R2, R] (upd H4 q5 (.tup [.str "row", va, vb, vc]))) (.ref q5) (.tuple [.str "row", a, b, c]) := tup_hid ((dr.sm s3).sm s4) (((Held.cons held0 hR).sm s4).cons hR2) n5 (.cons (.str _) (.cons (g1.fr fr) (.cons (g2.fr fr) (.cons (g3.fr fr) .nil))))
              refine ⟨_, s5 _ _ hR2, small1000 (by omega), same_put (fun b o e => s5 b o (s4 b o e)) nR2, _, upd_same, ?_, ?_⟩
              · rw [hidL_upd (List.mem_cons_self ..), List.take_add_one, hdy, List.map_append]
                exact (g.fr (hidL_sm s5)).app (.cons g5 .nil)
              · have lj : j < rs.length := (List.getElem?_eq_some_iff.mp hdy).1
                rw [List.length_append, lu]
                show min j rs.length + 1 = _
                omega
          · rintro H4 ⟨s4, us, hR2, g, lu⟩
            rw [lrs, List.take_length] at g
            have hz4 : Held [R] H4 := (Held.cons held0 hR).sm s4
            have dr4 := (dr.sm s3).sm s4
            have g' : DaAll D (HidL [R] H4) us (rs.map saidD) := g.fr hidL_cons
            refine ⟨R2, _, rfl, .inl ⟨SqL.of hR2, fun p5 n5 => ⟨(by show 2 ≤ sizeLine; decide), fun p6 n6 => ?_⟩⟩⟩
            have s5 := same_upd (o := .tup us) n5
            have a5 : Da D (HidL [R] _) (.ref p5) (.tuple (rs.map saidD)) := tup_hid dr4 hz4 n5 g'
            have s6 := same_upd (o := .tup [.str "and", .ref p5]) n6
            have a6 : Da D (HidL [R] _) (.ref p6) (.tuple [.str "and", .tuple (rs.map saidD)]) := tup_hid (dr4.sm s5) (hz4.sm s5) n6 (.cons (.str _) (.cons a5 .nil))
            have s36 : Same H3 _ := fun b o e => s6 b o (s5 b o (s4 b o e))
            refine ⟨_, s36 _ _ hR, small1000 (by omega), same_put (fun b o e => s36 b o (s3 b o e)) nR, _, upd_same, ?_, ?_⟩
            · rw [hidL_upd (List.mem_cons_self ..), List.take_add_one, hds, List.map_append]
              have en : andD sy = .tuple [.str "and", .tuple (rs.map saidD)] := by
                unfold andD
                rw [ers]
                rfl
              refine (gz.fr (hidL_sm s36)).app (.cons ?_ .nil)
              rw [en]
              exact a6
            · have lj : i < ss.length := (List.getElem?_eq_some_iff.mp hds).1
              rw [List.length_append, lz]
              show min i ss.length + 1 = _
              omega
        · refine ⟨rfl, .inr ⟨_, rfl, b0, rfl, ⟨_, SqT.of (HidL.sub hb0).2⟩, fun R2 nR2 => lc_tup (K := K) (a := b0) (xs := ws) (fun j H4 => Same H3 H4 ∧ ∃ us, H4 R2 = some (.lst us) ∧ DaAll D (HidL [R2, R] H4) us ((rs.take j).map saidD) ∧ us.length = min j rs.length) ⟨same_upd nR2, [], upd_same, .nil, by simp⟩ (fun j H4 _ h => SqT.of (h.1 _ _ (HidL.sub hb0).2)) ?_ ?_⟩⟩
          · rintro j y H4 hy ⟨s4, us, hR2, g, lu⟩
            obtain ⟨dy, hdy, gy⟩ := hrs.get hy
            have ry := List.all_eq_true.mp hrow dy (List.mem_of_getElem? hdy)
            obtain ⟨a, b, c, rfl⟩ := row_shape ry
            obtain ⟨r, vs, _, rfl, ed, hr1, rz, _, _, hvs⟩ := gy.tupH rfl
            injection ed with ed
            subst ed
            cases hvs with
            | @cons va _ _ _ g1 hvs => cases hvs with
            | @cons vb _ _ _ g2 hvs => cases hvs with
            | @cons vc _ _ _ g3 hvs =>
              cases hvs
              have nR2H : H3 R2 = none := nR2
              refine ⟨rfl, _, rfl, r, va, vb, vc, rfl, s4 _ _ hr1, fun q5 n5 => ?_⟩
              have s5 := same_upd (o := .tup [.str "row", va, vb, vc]) n5
              have fr := hidL_more (zs := [R]) (D := D) nR2H s4
              have g5 : Da D (HidL [R2, R] (upd H4 q5 (.tup [.str "row", va, vb, vc]))) (.ref q5) (.tuple [.str "row", a, b, c]) := tup_hid ((dr.sm s3).sm s4) (((Held.cons held0 hR).sm s4).cons hR2) n5 (.cons (.str _) (.cons (g1.fr fr) (.cons (g2.fr fr) (.cons (g3.fr fr) .nil))))
              refine ⟨_, s5 _ _ hR2, small1000 (by omega), same_put (fun b o e => s5 b o (s4 b o e)) nR2, _, upd_same, ?_, ?_⟩
              · rw [hidL_upd (List.mem_cons_self ..), List.take_add_one, hdy, List.map_append]
                exact (g.fr (hidL_sm s5)).app (.cons g5 .nil)
              · have lj : j < rs.length := (List.getElem?_eq_some_iff.mp hdy).1
                rw [List.length_append, lu]
                show min j rs.length + 1 = _
                omega
          · rintro H4 ⟨s4, us, hR2, g, lu⟩
            rw [lrs, List.take_length] at g
            have hz4 : Held [R] H4 := (Held.cons held0 hR).sm s4
            have dr4 := (dr.sm s3).sm s4
            have g' : DaAll D (HidL [R] H4) us (rs.map saidD) := g.fr hidL_cons
            refine ⟨R2, _, rfl, .inl ⟨SqL.of hR2, fun p5 n5 => ⟨(by show 2 ≤ sizeLine; decide), fun p6 n6 => ?_⟩⟩⟩
            have s5 := same_upd (o := .tup us) n5
            have a5 : Da D (HidL [R] _) (.ref p5) (.tuple (rs.map saidD)) := tup_hid dr4 hz4 n5 g'
            have s6 := same_upd (o := .tup [.str "and", .ref p5]) n6
            have a6 : Da D (HidL [R] _) (.ref p6) (.tuple [.str "and", .tuple (rs.map saidD)]) := tup_hid (dr4.sm s5) (hz4.sm s5) n6 (.cons (.str _) (.cons a5 .nil))
            have s36 : Same H3 _ := fun b o e => s6 b o (s5 b o (s4 b o e))
            refine ⟨_, s36 _ _ hR, small1000 (by omega), same_put (fun b o e => s36 b o (s3 b o e)) nR, _, upd_same, ?_, ?_⟩
            · rw [hidL_upd (List.mem_cons_self ..), List.take_add_one, hds, List.map_append]
              have en : andD sy = .tuple [.str "and", .tuple (rs.map saidD)] := by
                unfold andD
                rw [ers]
                rfl
              refine (gz.fr (hidL_sm s36)).app (.cons ?_ .nil)
              rw [en]
              exact a6
            · have lj : i < ss.length := (List.getElem?_eq_some_iff.mp hds).1
              rw [List.length_append, lz]
              show min i ss.length + 1 = _
              omega
      · rintro H3 ⟨s3, zs, hR, gz, lz⟩
        rw [hl, List.take_length] at gz
        have g' : DaAll D H3 zs (ss.map andD) := gz.fr hidL_sub
        refine ⟨R, _, rfl, .inl ⟨SqL.of hR, fun p5 n5 => ⟨(by show 2 ≤ sizeLine; decide), fun p6 n6 => ?_⟩⟩⟩
        have s5 := same_upd (o := .tup zs) n5
        obtain ⟨_, d5, a5⟩ := tup_da (dr.sm s3) g' n5
        have s6 := same_upd (o := .tup [.str "or", .ref p5]) n6
        obtain ⟨_, d6, a6⟩ := tup_da (ds := [.str "or", .tuple (ss.map andD)]) d5 (.cons (.str "or") (.cons a5 .nil)) n6
        exact q _ _ (fun b o e => s6 b o (s5 b o (s3 b o e))) a6
end
end Lm
/-! saying_of (made by gen_p06t.py). -/
namespace Lm
open PySem PySem.Spec PyProof.Rows L2
def namesR (rs : List PyData) : List Str := (rs.flatMap sidesD).filterMap id
/-- a system of free names -/
def goodS (s : PyData) : Bool := sysD s && (namesR ((rowsD s).getD [])).all fun x => freeNameD (.str x)
def BadSy (ss : List PyData) (i : Nat) : Prop := (∃ s, ss[i]? = some s ∧ goodS s = false) ∧ ∀ j s, j < i → ss[j]? = some s → goodS s = true
def GoodUp (ss : List PyData) (i : Nat) : Prop := ∀ j s, j < i → ss[j]? = some s → goodS s = true
theorem sys_rows {s : PyData} (h : sysD s = true) : ∃ rs, rowsD s = some rs ∧ rs.all rowD = true := by
  unfold sysD at h
  split at h
  · rename_i ds e
    rw [Bool.and_eq_true] at h
    exact ⟨ds, e, h.2⟩
  · cases h
theorem all_mem {l m : List Str} (h : ∀ k, k ∈ l ↔ k ∈ m) (f : Str → Bool) : l.all f = m.all f := by
  rw [Bool.eq_iff_iff, List.all_eq_true, List.all_eq_true]
  exact ⟨fun a x hx => a x ((h x).mpr hx), fun a x hx => a x ((h x).mp hx)⟩
theorem names_short {rs : List PyData} (h : rs.all rowD = true) : ∀ x ∈ namesR rs, shortD (.str x) = true := by
  intro x hx
  obtain ⟨o, ho, e⟩ := List.mem_filterMap.mp hx
  obtain ⟨d, hd, ho⟩ := List.mem_flatMap.mp ho
  have hr := List.all_eq_true.mp h d hd
  obtain ⟨a, b, c, rfl⟩ := row_shape hr
  obtain ⟨⟨ka, kb⟩, _, _⟩ := row_z hr
  have e : o = some x := e
  subst e
  have side : ∀ {a : PyData}, sideD a = true → unO a = some x → shortD (.str x) = true := fun {a} ka e => by
    cases a with
    | str y =>
      have e : some y = some x := e
      cases e
      have ka : (decide ((1 : Int) ≤ (x.length : Nat)) && decide (((x.length : Nat) : Int) ≤ 20)) = true := ka
      rw [Bool.and_eq_true] at ka
      have := of_decide_eq_true ka.2
      exact decide_eq_true (by omega)
    | _ => cases e
  have ho : some x ∈ [unO a, unO b] := ho
  rcases List.mem_cons.mp ho with e | ho
  · exact side ka e.symm
  · rw [List.mem_singleton] at ho
    exact side kb ho.symm
theorem names_few {rs : List PyData} (h : rs.length ≤ 30) : (namesR rs).length ≤ 60 := by
  have : ∀ rs : List PyData, (rs.flatMap sidesD).length ≤ 2 * rs.length := by
    intro rs
    induction rs with
    | nil => exact Nat.zero_le _
    | cons d r ih =>
      rw [List.flatMap_cons, List.length_append, List.length_cons]
      have : (sidesD d).length ≤ 2 := by unfold sidesD; split <;> first | exact Nat.le_refl 2 | exact Nat.zero_le 2
      omega
  have h1 := this rs
  have h2 : (namesR rs).length ≤ (rs.flatMap sidesD).length := List.length_filterMap_le _ _
  omega
section
variable {P : Program} {w : World} {K : PySem.W.Frag} {mg : Str → Option Value} {base : Heap}
/-! ### is_listing of anything -/
def spLis (K : PySem.W.Frag) : Sp := fun vs H Q _ => ∃ (v : V) (ty : Value) (b : Bool), vs = [v] ∧ (∀ H', Same H H' → TyX K H' v ty) ∧ PySem.W.kitAny K ty [.type "list", .type "tuple"] = some b ∧ ∀ H', Same H H' → Q (.bl b) H'
theorem ok_lis {f : Addr} {fd : FuncData} (F : Fun K "is_listing" "is_listing" sListing f fd) (N : Bl mg) : FnOk P w K mg base CX0 1 f fd ["thing"] (spLis K) := by
  refine F.ok scListing (fun vs H Q E h => ?_) (fun cdv A outer s H vs Q E hr h => ?_)
  · obtain ⟨v, ty, b, rfl, _⟩ := h
    rfl
  · obtain ⟨v, ty, b, rfl, ht, hk, q⟩ := h
    refine ⟨_, pss_one (ps_ret (pe_callB call_isiT (by rfl) N.bisi (by decide +kernel) (pa_cons (pv 0) (pa_cons (pe_tup (pa_cons (pe_bltn (v := .ty "list") (by rfl) N.blist (by decide +kernel) rfl)
      (pa_cons (pe_bltn (v := .ty "tuple") (by rfl) N.btup (by decide +kernel) rfl) pa_nil))) pa_nil)))), ?_⟩
    refine ⟨v, rfl, (by show 2 ≤ sizeLine; decide), fun p np => ?_⟩
    exact ⟨v, p, _, _, [.type "list", .type "tuple"], _, rfl, upd_same, .cons (.ty "list") (.cons (.ty "tuple") .nil), ht _ (same_upd np), hk, q _ (same_upd np)⟩
theorem lis_da {D : DrA} {vs : List V} {H : Hp} {Q : VK} {E : XK} {v : V} {d : PyData} (e : vs = [v]) (h : Da D H v d) (q : ∀ H', Same H H' → Q (.bl (isLst d || isTup d)) H') : spLis K vs H Q E :=
  ⟨v, _, _, e, fun H' s => (h.sm s).ty, kit_listing K d, q⟩
abbrev sSO : Stmt := topS 37
def nSO : List Str := ["systems", "at", "system", "name"]
theorem scSO : FnScope nSO ["systems"] (defScope sSO) := ⟨rfl, rfl, rfl, by decide +kernel, rfl, by decide +kernel, by decide +kernel⟩
def spSO (K : PySem.W.Frag) (BY : Addr) : Sp := fun vs H Q E => ∃ v, vs = [v] ∧
  (((∃ ty, (∀ H', Same H H' → TyX K H' v ty) ∧ PySem.W.kitAny K ty [.type "list", .type "tuple"] = some false) ∧ ∀ H' dx, Same H H' → H' dx = some (.xd [("at", .non)]) → E (.ref BY) (some dx) H') ∨
  ∃ (D : DrA) (m : Nat) (d : PyData) (ss : List PyData), DrawAt D m H ∧ Da D H v d ∧ shortD d = true ∧ rowsD d = some ss ∧ ss.length ≤ 100 ∧ (∀ s ∈ ss, ∀ rs, rowsD s = some rs → rs.length ≤ 30) ∧
    ((∃ i : Nat, BadSy ss i ∧ ∀ H' dx, Same H H' → H' dx = some (.xd [("at", .int (i : Nat))]) → E (.ref BY) (some dx) H') ∨ ((∀ s ∈ ss, goodS s = true) ∧ ∀ H' v', Same H H' → Da D H' v' (oneD ss) → Q v' H')))
theorem ok_so {BY : Addr} {f : Addr} {fd : FuncData} (F : Fun K "saying_of" "saying_of" sSO f fd) (N : Bl mg) (M2 : YMk P K mg base w "BadSystems" "at" BY) (GL : Has P w K mg base CX0 1 "is_listing" ["thing"] (spLis K)) (GS : Has P w K mg base CX0 3 "is_system" ["thing"] (spS sysD)) (GN : Has P w K mg base CX0 1 "names_of" ["rows"] spNO)
    (GF : Has P w K mg base CX0 2 "is_free_name" ["thing"] (spB freeNameD)) (GO : Has P w K mg base CX0 2 "one_of" ["systems"] spOO) : FnOk P w K mg base (L2.CX P w) 4 f fd ["systems"] (spSO K BY) := by
  refine F.okX scSO (fun vs H Q E h => ?_) (fun cdv A outer s H vs Q E hr h => ?_)
  · obtain ⟨v, rfl, _⟩ := h
    rfl
  · obtain ⟨v, rfl, q⟩ := h
    refine ⟨_, pss_cons (ps_if (pt_not (pt_val (pe_h GL hr (by decide) (by rfl) (E := C8.E0) pass0 (pa_cons (pv 0) pa_nil)))) (pss_one (ps_badY rfl M2 (takes_of (E := E) rfl rfl rfl rfl) hr (by decide) (by rfl) pe_non)) pss_nil)
        (pss_cons (ps_for (passes_of rfl) rfl (pi_or (pi_enum (by rfl) N.benu (pa_cons (pv 0) pa_nil)) (pi_enumT (by rfl) N.benu (pa_cons (pv 0) pa_nil))) (pg_tup rfl (pgs_cons (pg_name (i := 1) scSO.nd rfl (.inl rfl)) (pgs_cons (pg_name (i := 2) scSO.nd rfl (.inl rfl)) pgs_nil)))
          (pss_one (ps_if (pw_or (pt_not (pt_val (pe_h GS hr (by decide) (by rfl) (E := C8.E0) pass0 (pa_cons (pv 2) pa_nil))))
              (pw_or1 (pt_not (pt_val (pe_callB (cr_allK K rfl) (by rfl) N.ball (by decide +kernel) (pa_cons
                (pe_lc (own := [("name", 3)]) (g := gName 3) (tt := tYes) rfl scSO.nd (pi_listK K (pe_h GN hr (by decide) (by rfl) (E := C8.E0) pass0 (pa_cons (pv 2) pa_nil))) (blkOk_by (own := [("name", 3)]) (N := nSO) (sc := defScope sSO) (by decide +kernel)) (fun _ _ _ _ _ => pg_name (i := 3) scSO.nd rfl (Or.inl rfl))
                  (fun _ _ _ _ _ => pts_nil) (fun _ _ _ _ _ => pe_h GF hr (by decide) (by rfl) (E := C8.E0) pass0 (pa_cons (pv 3) pa_nil))) pa_nil)))))).pt
            (pss_one (ps_badY rfl M2 (takes_of (E := E) rfl rfl rfl rfl) hr (by decide) (by rfl) (pv 1))) pss_nil)))
        (pss_one (ps_ret (pe_h GO hr (by decide) (by rfl) (E := C8.E0) pass0 (pa_cons (pv 0) pa_nil))))), ?_⟩
    rcases q with ⟨⟨ty, ht, hk⟩, q⟩ | ⟨D, m, d, ss, dr, hd, sd, er, l1, l30, q⟩
    · refine ⟨v, rfl, v, ty, false, rfl, ht, hk, fun H1 s1 => ⟨_, rfl, ?_⟩⟩
      exact iteT ⟨.inl rfl, fun dx nd => q _ dx (same_put s1 (none_of s1 nd)) upd_same⟩
    · obtain ⟨s0, xs, rfl, ha, n1, n2, hp⟩ := hd.rows er
      have hl := ha.length
      have sss := short_rows sd er
      refine ⟨_, rfl, .ref s0, _, _, rfl, (fun H' s => (hd.sm s).ty), kit_listing K d, fun H1 s1 => ⟨_, rfl, ?_⟩⟩
      rw [rows_kind, er]
      refine iteF ?_
      rcases hp with hp | hp
      · refine .inl ⟨_, rfl, s0, xs, rfl, SqL.of (s1 _ _ hp), for_it (walk_enumL (xs := xs)) (fun i σ H' => Same H H' ∧ GoodUp ss i ∧ ∃ x1 x2 x3, σ = [some (.ref s0), x1, x2, x3]) ⟨s1, fun j e hj => absurd hj (Nat.not_lt_zero _), none, none, none, rfl⟩ ?_ ?_ ?_⟩
        · intro i σ H' hi hp'
          exact SqL.of (hp'.1 _ _ hp)
        · intro i x σ H' H'' hi hp hy
          obtain ⟨s2, hg, x1, x2, x3, rfl⟩ := hp
          obtain ⟨T, x, rfl, nT, rfl, hxi⟩ := hy
          obtain ⟨sy, hds, gy⟩ := ha.get hxi
          have my := List.mem_of_getElem? hds
          have s3 := same_put s2 (none_of s2 nT) (o := .tup [.int (i : Nat), x])
          have li : i < ss.length := (List.getElem?_eq_some_iff.mp hds).1
          refine ⟨T, _, rfl, SqT.of upd_same, rfl, _, _, rfl, _, _, rfl, rfl, ?_⟩
          generalize upd H' T (.tup [.int (i : Nat), x]) = Hb at *
          have bad : ∀ {H4}, Same H H4 → goodS sy = false → ((V.int (i : Nat) : V) = .non ∨ ∃ k : Int, (V.int (i : Nat) : V) = .int k ∧ k.natAbs < 1000) ∧ ∀ dx, H4 dx = none → E (.ref BY) (some dx) (upd H4 dx (.xd [("at", .int (i : Nat))])) := fun {H4} s4 hb => by
            refine ⟨.inr ⟨_, rfl, ?_⟩, fun dx nd => ?_⟩
            · show ((i : Nat) : Int).natAbs < 1000
              omega
            · rcases q with ⟨i', hi', q⟩ | ⟨hall, q⟩
              · have : i' = i := by
                  rcases Nat.lt_trichotomy i' i with h | h | h
                  · obtain ⟨d', hd', nd'⟩ := hi'.1
                    rw [hg i' d' h hd'] at nd'
                    cases nd'
                  · exact h
                  · rw [hi'.2 i sy h hds] at hb
                    cases hb
                subst this
                exact q _ dx (same_put s4 (none_of s4 nd)) upd_same
              · rw [hall sy my] at hb
                cases hb
          have good : ∀ {H4}, Same H H4 → goodS sy = true → Same H H4 ∧ GoodUp ss (i + 1) := fun {H4} s4 hb => ⟨s4, fun j e hj he => by
            rcases Nat.lt_succ_iff_lt_or_eq.mp hj with hj | rfl
            · exact hg j e hj he
            · rw [hds] at he
              cases he
              exact hb⟩
          refine ⟨_, rfl, D, x, sy, rfl, gy.sm s3, short_get sss sy my, fun H3 s4 => ⟨_, rfl, ?_⟩⟩
          have s34 : Same H H3 := fun b o e => s4 b o (s3 b o e)
          cases es : sysD sy with
          | false =>
            have g0 : goodS sy = false := by unfold goodS; rw [es]; rfl
            exact iteT (iteT ⟨_, rfl, bad s34 g0⟩)
          | true =>
            obtain ⟨rs, ers, hrow⟩ := sys_rows es
            have g1 : goodS sy = (namesR rs).all fun x => freeNameD (.str x) := by
              unfold goodS
              rw [es, ers]
              rfl
            refine iteF ⟨_, rfl, D, m, x, sy, rs, rfl, dr.sm s34, gy.sm s34, ers, hrow, l30 sy my rs ers, fun H5 L ys as hL s5 => ?_⟩
            have sh : ∀ x ∈ ys, shortD (.str x) = true := fun x hx => names_short hrow x ((as.2.2 x).mp hx)
            have lz : ys.length ≤ 60 := Nat.le_trans as.len (names_few (l30 sy my rs ers))
            have s35 : Same H H5 := fun b o e => s5 b o (s34 b o e)
            refine ⟨L, rfl, ⟨_, SqL.of hL⟩, fun R nR => lc_list (K := K) (a := L) (xs := ys.map V.str) (fun j H6 => Same H5 H6 ∧ H6 R = some (.lst (((ys.take j).map fun x => freeNameD (.str x)).map V.bl))) ⟨same_upd nR, upd_same⟩ (fun j H6 _ h => SqL.of (h.1 _ _ hL)) ?_ ?_⟩
            · rintro j y H6 hy ⟨s6, hR⟩
              rw [List.getElem?_map] at hy
              obtain ⟨z, hz, rfl⟩ : ∃ z, ys[j]? = some z ∧ y = .str z := by
                cases e : ys[j]? with
                | none => rw [e] at hy; cases hy
                | some z => rw [e] at hy; exact ⟨z, rfl, (Option.some.inj hy).symm⟩
              refine ⟨rfl, _, rfl, D, .str z, .str z, rfl, .str z, sh z (List.mem_of_getElem? hz), _, hR, ?_, same_put s6 nR, ?_⟩
              · rw [List.length_map, List.length_map, List.length_take]
                exact small1000 (by omega)
              · rw [upd_same, List.take_add_one, hz, List.map_append, List.map_append]
                rfl
            · rintro H6 ⟨s6, hR⟩
              rw [List.length_map, List.take_length] at hR
              have s36 : Same H H6 := fun b o e => s6 b o (s35 b o e)
              refine ⟨R, _, rfl, SqL.of hR, _, rfl, ?_⟩
              have e1 : (ys.map fun x => freeNameD (.str x)).all id = goodS sy := by
                rw [g1, List.all_map]
                exact all_mem as.2.2 _
              cases eg : goodS sy with
              | false =>
                rw [eg] at e1
                rw [e1]
                exact iteT ⟨_, rfl, bad s36 eg⟩
              | true =>
                rw [eg] at e1
                rw [e1]
                obtain ⟨k1, k2⟩ := good s36 eg
                exact iteF ⟨k1, k2, _, _, _, rfl⟩
        · intro σ H' hp
          obtain ⟨s2, hg, x1, x2, x3, rfl⟩ := hp
          rcases q with ⟨i', hi', q⟩ | ⟨hall, q⟩
          · obtain ⟨d', hd', nd'⟩ := hi'.1
            have := hg i' d' (by rw [hl]; exact (List.getElem?_eq_some_iff.mp hd').1) hd'
            rw [this] at nd'
            cases nd'
          · refine ⟨_, rfl, D, m, .ref s0, d, ss, rfl, dr.sm s2, hd.sm s2, er, fun s hs => ?_, l1, fun H5 v' s5 g5 => q H5 v' (fun b o e => s5 b o (s2 b o e)) g5⟩
            have hsy : sysD s = true := by
              have := hall s hs
              unfold goodS at this
              rw [Bool.and_eq_true] at this
              exact this.1
            obtain ⟨rs, ers, hrow⟩ := sys_rows hsy
            exact ⟨rs, ers, hrow, l30 s hs rs ers⟩
      · refine .inr ⟨_, rfl, s0, xs, rfl, SqT.of (s1 _ _ hp), for_it (walk_enumT (xs := xs)) (fun i σ H' => Same H H' ∧ GoodUp ss i ∧ ∃ x1 x2 x3, σ = [some (.ref s0), x1, x2, x3]) ⟨s1, fun j e hj => absurd hj (Nat.not_lt_zero _), none, none, none, rfl⟩ ?_ ?_ ?_⟩
        · intro i σ H' hi hp'
          exact SqT.of (hp'.1 _ _ hp)
        · intro i x σ H' H'' hi hp hy
          obtain ⟨s2, hg, x1, x2, x3, rfl⟩ := hp
          obtain ⟨T, x, rfl, nT, rfl, hxi⟩ := hy
          obtain ⟨sy, hds, gy⟩ := ha.get hxi
          have my := List.mem_of_getElem? hds
          have s3 := same_put s2 (none_of s2 nT) (o := .tup [.int (i : Nat), x])
          have li : i < ss.length := (List.getElem?_eq_some_iff.mp hds).1
          refine ⟨T, _, rfl, SqT.of upd_same, rfl, _, _, rfl, _, _, rfl, rfl, ?_⟩
          generalize upd H' T (.tup [.int (i : Nat), x]) = Hb at *
          have bad : ∀ {H4}, Same H H4 → goodS sy = false → ((V.int (i : Nat) : V) = .non ∨ ∃ k : Int, (V.int (i : Nat) : V) = .int k ∧ k.natAbs < 1000) ∧ ∀ dx, H4 dx = none → E (.ref BY) (some dx) (upd H4 dx (.xd [("at", .int (i : Nat))])) := fun {H4} s4 hb => by
            refine ⟨.inr ⟨_, rfl, ?_⟩, fun dx nd => ?_⟩
            · show ((i : Nat) : Int).natAbs < 1000
              omega
            · rcases q with ⟨i', hi', q⟩ | ⟨hall, q⟩
              · have : i' = i := by
                  rcases Nat.lt_trichotomy i' i with h | h | h
                  · obtain ⟨d', hd', nd'⟩ := hi'.1
                    rw [hg i' d' h hd'] at nd'
                    cases nd'
                  · exact h
                  · rw [hi'.2 i sy h hds] at hb
                    cases hb
                subst this
                exact q _ dx (same_put s4 (none_of s4 nd)) upd_same
              · rw [hall sy my] at hb
                cases hb
          have good : ∀ {H4}, Same H H4 → goodS sy = true → Same H H4 ∧ GoodUp ss (i + 1) := fun {H4} s4 hb => ⟨s4, fun j e hj he => by
            rcases Nat.lt_succ_iff_lt_or_eq.mp hj with hj | rfl
            · exact hg j e hj he
            · rw [hds] at he
              cases he
              exact hb⟩
          refine ⟨_, rfl, D, x, sy, rfl, gy.sm s3, short_get sss sy my, fun H3 s4 => ⟨_, rfl, ?_⟩⟩
          have s34 : Same H H3 := fun b o e => s4 b o (s3 b o e)
          cases es : sysD sy with
          | false =>
            have g0 : goodS sy = false := by unfold goodS; rw [es]; rfl
            exact iteT (iteT ⟨_, rfl, bad s34 g0⟩)
          | true =>
            obtain ⟨rs, ers, hrow⟩ := sys_rows es
            have g1 : goodS sy = (namesR rs).all fun x => freeNameD (.str x) := by
              unfold goodS
              rw [es, ers]
              rfl
            refine iteF ⟨_, rfl, D, m, x, sy, rs, rfl, dr.sm s34, gy.sm s34, ers, hrow, l30 sy my rs ers, fun H5 L ys as hL s5 => ?_⟩
            have sh : ∀ x ∈ ys, shortD (.str x) = true := fun x hx => names_short hrow x ((as.2.2 x).mp hx)
            have lz : ys.length ≤ 60 := Nat.le_trans as.len (names_few (l30 sy my rs ers))
            have s35 : Same H H5 := fun b o e => s5 b o (s34 b o e)
            refine ⟨L, rfl, ⟨_, SqL.of hL⟩, fun R nR => lc_list (K := K) (a := L) (xs := ys.map V.str) (fun j H6 => Same H5 H6 ∧ H6 R = some (.lst (((ys.take j).map fun x => freeNameD (.str x)).map V.bl))) ⟨same_upd nR, upd_same⟩ (fun j H6 _ h => SqL.of (h.1 _ _ hL)) ?_ ?_⟩
            · rintro j y H6 hy ⟨s6, hR⟩
              rw [List.getElem?_map] at hy
              obtain ⟨z, hz, rfl⟩ : ∃ z, ys[j]? = some z ∧ y = .str z := by
                cases e : ys[j]? with
                | none => rw [e] at hy; cases hy
                | some z => rw [e] at hy; exact ⟨z, rfl, (Option.some.inj hy).symm⟩
              refine ⟨rfl, _, rfl, D, .str z, .str z, rfl, .str z, sh z (List.mem_of_getElem? hz), _, hR, ?_, same_put s6 nR, ?_⟩
              · rw [List.length_map, List.length_map, List.length_take]
                exact small1000 (by omega)
              · rw [upd_same, List.take_add_one, hz, List.map_append, List.map_append]
                rfl
            · rintro H6 ⟨s6, hR⟩
              rw [List.length_map, List.take_length] at hR
              have s36 : Same H H6 := fun b o e => s6 b o (s35 b o e)
              refine ⟨R, _, rfl, SqL.of hR, _, rfl, ?_⟩
              have e1 : (ys.map fun x => freeNameD (.str x)).all id = goodS sy := by
                rw [g1, List.all_map]
                exact all_mem as.2.2 _
              cases eg : goodS sy with
              | false =>
                rw [eg] at e1
                rw [e1]
                exact iteT ⟨_, rfl, bad s36 eg⟩
              | true =>
                rw [eg] at e1
                rw [e1]
                obtain ⟨k1, k2⟩ := good s36 eg
                exact iteF ⟨k1, k2, _, _, _, rfl⟩
        · intro σ H' hp
          obtain ⟨s2, hg, x1, x2, x3, rfl⟩ := hp
          rcases q with ⟨i', hi', q⟩ | ⟨hall, q⟩
          · obtain ⟨d', hd', nd'⟩ := hi'.1
            have := hg i' d' (by rw [hl]; exact (List.getElem?_eq_some_iff.mp hd').1) hd'
            rw [this] at nd'
            cases nd'
          · refine ⟨_, rfl, D, m, .ref s0, d, ss, rfl, dr.sm s2, hd.sm s2, er, fun s hs => ?_, l1, fun H5 v' s5 g5 => q H5 v' (fun b o e => s5 b o (s2 b o e)) g5⟩
            have hsy : sysD s = true := by
              have := hall s hs
              unfold goodS at this
              rw [Bool.and_eq_true] at this
              exact this.1
            obtain ⟨rs, ers, hrow⟩ := sys_rows hsy
            exact ⟨rs, ers, hrow, l30 s hs rs ers⟩
end
end Lm
/-! reach. -/
namespace Lm
open PySem PySem.Spec PyProof.Rows L2
def reachN (k : Nat) (d : PyData) (ys : List Str) : Int := (ys.length : Nat) * ((1 + greatN k d) * 2 ^ (boundN k d).length)
section
variable {P : Program} {w : World} {K : PySem.W.Frag} {mg : Str → Option Value} {base : Heap}
abbrev sReach : Stmt := topS 39
theorem scReach : FnScope ["saying"] ["saying"] (defScope sReach) := ⟨rfl, rfl, rfl, by decide +kernel, rfl, by decide +kernel, by decide +kernel⟩
def spReach (BS : Addr) (n : Nat) : Sp := fun vs H Q E => ∃ (D : DrA) (m : Nat) (v : V) (d : PyData) (k : Nat), vs = [v] ∧ DrawAt D m H ∧ Da D H v d ∧ Askd k d ∧ k ≤ n ∧
  ((fitsN k [] d = true ∧ (namesN k d).length < 64 ∧ greatN k d ≤ 1000000000 ∧ ∀ (H' : Hp) (ys : List Str), AscOf (namesN k d) ys → Same H H' → Q (.int (reachN k d ys)) H') ∨ (fitsN k [] d = false ∧ ∀ H', Same H H' → E (.ref BS) none H'))
theorem ok_reach {BS : Addr} {f : Addr} {fd : FuncData} (F : Fun K "reach" "reach" sReach f fd) (N : Bl mg) (n : Nat) (GC : Has P w K mg base (L2.CX P w) (n + 7) "check_saying" ["saying"] (spCkS BS n)) (GF : Has P w K mg base CX0 (n + 6) "free_in" ["saying"] (spFree n)) (GG : Has P w K mg base CX0 (n + 5) "greatest_number" ["saying"] (spGreat n)) (GB : Has P w K mg base CX0 (n + 5) "bound_in" ["saying"] (spBoundIn n)) : FnOk P w K mg base (L2.CX P w) (n + 8) f fd ["saying"] (spReach BS n) := by
  refine F.okX scReach (fun vs H Q E h => ?_) (fun cdv A outer s H vs Q E hr h => ?_)
  · obtain ⟨D, m, v, d, k, rfl, _⟩ := h
    rfl
  · obtain ⟨D, m, v, d, k, rfl, dr, hd, a, hk, q⟩ := h
    refine ⟨_, pss_cons (ps_expr (pe_h GC hr (by omega) (by rfl) (E := E) passE (pa_cons (pv 0) pa_nil)))
      (pss_one (ps_ret (pe_op op_shl (pe_op op_mul (pe_callB call_len_seq (by rfl) N.blen PySem.boot_len (pa_cons (pe_h GF hr (by omega) (by rfl) (E := C8.E0) pass0 (pa_cons (pv 0) pa_nil)) pa_nil)) (pe_op op_add (pe_h GG hr (by omega) (by rfl) (E := C8.E0) pass0 (pa_cons (pv 0) pa_nil)) pe_int))
        (pe_callB call_len_seq (by rfl) N.blen PySem.boot_len (pa_cons (pe_h GB hr (by omega) (by rfl) (E := C8.E0) pass0 (pa_cons (pv 0) pa_nil)) pa_nil))))), ?_⟩
    refine ⟨_, rfl, D, m, v, d, k, rfl, dr, hd, a, hk, ?_⟩
    rcases q with ⟨hb, few, gr, q⟩ | ⟨hb, q⟩
    · refine .inl ⟨hb, fun H1 s1 => ?_⟩
      refine ⟨_, rfl, D, m, v, d, [], k, rfl, dr.sm s1, hd.sm s1, hb, a.wt, hk, few, fun H2 R ys nR as hR s2 => ?_⟩
      have s12 : Same H H2 := fun b o e => s2 b o (s1 b o e)
      refine ⟨R, _, rfl, .inl (SqL.of hR), ?_⟩
      refine ⟨_, rfl, D, m, v, d, [], k, rfl, dr.sm s12, hd.sm s12, hb, a.wt, hk, fun H3 s3 => ⟨_, _, rfl, rfl, _, _, rfl, rfl, .inl ⟨?_, ?_⟩, ?_⟩⟩
      · have := as.len
        have le : (ys.map V.str).length = ys.length := List.length_map _
        omega
      · have := as.len
        have le : (ys.map V.str).length = ys.length := List.length_map _
        omega
      · refine ⟨_, rfl, D, m, v, d, [], k, rfl, dr.sm fun b o e => s3 b o (s12 b o e), hd.sm fun b o e => s3 b o (s12 b o e), hb, a.wt, hk, fun H4 B nB hB s4 => ?_⟩
        have lb := bound_len k [] d hb
        have wt := a.wt
        have l6 := as.len
        have g0 := great_nn k [] d hb
        have s14 : Same H H4 := fun b o e => s4 b o (s3 b o (s12 b o e))
        have le : (ys.map V.str).length = ys.length := List.length_map _
        have lf : ((boundN k d).map V.str).length = (boundN k d).length := List.length_map _
        refine ⟨B, _, rfl, .inl (SqL.of hB), _, _, rfl, rfl, ⟨by omega, by omega, ?_⟩, ?_⟩
        · rw [le]
          have e1 : 0 ≤ ((ys.length : Nat) : Int) * (greatN k d + 1) := Int.mul_nonneg (by omega) (by omega)
          have e2 : ((ys.length : Nat) : Int) * (greatN k d + 1) ≤ 64 * 1000000001 := Int.mul_le_mul (by omega) (by omega) (by omega) (by omega)
          have e3 : (2 : Nat) ^ 64 = 18446744073709551616 := by decide
          rw [e3]
          omega
        · have q := q H4 ys as s14
          unfold reachN at q
          rw [le, lf]
          show Q (.int ((((ys.length : Nat) : Int) * (greatN k d + 1)) * 2 ^ (boundN k d).length)) H4
          rw [Int.mul_assoc, Int.add_comm (greatN k d) 1]
          exact q
    · exact .inr ⟨hb, fun H1 s1 => q H1 s1⟩
end
end Lm
/-! _law_led. -/
namespace Lm
open PySem PySem.Spec PyProof.Rows L2
theorem slA_hid {K : PySem.W.Frag} {D : DrA} {n : Nat} {H : Hp} {zs : List Addr} {Q : VK} {p : Addr} {xs us : List V} {es : List PyData} {lo hi : Option Int} (dr : DrawAt D n H) (hz : Held zs H) (hp : H p = some (.tup xs)) (pz : p ∉ zs) (pd : p ≠ D.d) (pw : p ≠ D.w) (e : cutV xs lo hi = us) (g : DaAll D (HidL zs H) us es)
    (q : ∀ (H' : Hp) (p' : Addr), Same H H' → H' p' = some (.tup us) → p' ∉ zs → p' ≠ D.d → p' ≠ D.w → DaAll D (HidL zs H') us es → Q (.ref p') H') : rSlA K (.ref p) lo hi H Q := by
  refine ⟨p, xs, rfl, SqT.of hp, fun k => ?_, fun _ p' np => ?_⟩
  · have e2 := cutV_whole k
    rw [e] at e2
    subst e2
    exact q H p (fun _ _ z => z) hp pz pd pw g
  · rw [e]
    exact q _ p' (same_upd np) upd_same (hz.new np) (dr.off np).1 (dr.off np).2 (g.fr (hidL_sm (same_upd np)))
theorem catA_hid {K : PySem.W.Frag} {D : DrA} {n : Nat} {H : Hp} {zs : List Addr} {Q : VK} {a b : Addr} {xs ys : List V} {ds es : List PyData} (dr : DrawAt D n H) (hz : Held zs H) (h1 : H a = some (.tup xs)) (h2 : H b = some (.tup ys)) (x0 : xs ≠ []) (y0 : ys ≠ []) (g1 : DaAll D (HidL zs H) xs ds) (g2 : DaAll D (HidL zs H) ys es) (hl : xs.length + ys.length ≤ 10000)
    (q : ∀ (H' : Hp) (p' : Addr), Same H H' → Da D (HidL zs H') (.ref p') (.tuple (ds ++ es)) → Q (.ref p') H') : rCatA K (.ref a) (.ref b) H Q :=
  ⟨a, b, xs, ys, rfl, rfl, SqT.of h1, SqT.of h2, small10000 hl, fun e => absurd e x0, fun _ e => absurd e y0, fun _ _ p np => q _ p (same_upd np) (tup_hid dr hz np (g1.app g2))⟩
theorem cut_all2 (a b : V) : cutV [a, b] none (some (-1)) = [a] := by simp [cutV, HT.sIx]
theorem cut_all3 (a b c : V) : cutV [a, b, c] none (some (-1)) = [a, b] := by simp [cutV, HT.sIx]
section
variable {P : Program} {w : World} {K : PySem.W.Frag} {mg : Str → Option Value} {base : Heap}
abbrev sLed : Stmt := topS 41
def nLed : List Str := ["said_v", "table", "one", "more", "two", "much", "number", "item"]
theorem scLed : FnScope nLed ["said_v", "table"] (defScope sLed) := ⟨rfl, rfl, rfl, by decide +kernel, rfl, by decide +kernel, by decide +kernel⟩
theorem ok_led_no {f : Addr} {fd : FuncData} (F : Fun K "_law_led" "_law_led" sLed f fd) (j : Nat) : FnOk P w K mg base CX0 (j + 1) f fd ["said_v", "table"] (spWTBelow 0) :=
  F.ok scLed (fun vs H Q E h => h.elim) (fun cdv A outer s H vs Q E hr h => h.elim)
theorem ok_led {f : Addr} {fd : FuncData} (F : Fun K "_law_led" "_law_led" sLed f fd) (N : Bl mg) (n : Nat) (GW : Has P w K mg base CX0 (n + 4) "_law_led" ["said_v", "table"] (spWTBelow n)) : FnOk P w K mg base CX0 (n + 5) f fd ["said_v", "table"] (spWT n) := by
  refine F.ok scLed (fun vs H Q E h => ?_) (fun cdv A outer s H vs Q E hr h => ?_)
  · obtain ⟨D, m, v, t, d, bs, k, kvs, tm, zs, rfl, _⟩ := h
    rfl
  · obtain ⟨D, m, v, t, d, bs, k, kvs, tm, zs, rfl, dr, hz, hd, fit, wt, hk, ht, tt, q⟩ := h
    have hu := hu_of hr
    refine ⟨_, pss_cons (ps_if (pt_cmpR op_eq (pe_ix ix_tup (pv 0) pe_int (fun _ _ => rfl)) pe_str (nomark _))
        (pss_cons (ps_asg (pe_getO hu (pv 1) (pe_ix ix_tup (pv 0) pe_int (fun _ _ => rfl)) (pe_tup (pa_cons (pe_ix ix_tup (pv 0) pe_int (fun _ _ => rfl)) (pa_cons pe_int pa_nil))) ⟨rfl, rfl, rfl, rfl⟩) (pg_tup rfl (pgs_cons (pg_name (i := 2) scLed.nd rfl (.inl rfl)) (pgs_cons (pg_name (i := 3) scLed.nd rfl (.inl rfl)) pgs_nil))))
        (pss_cons (ps_asg (pe_getO hu (pv 1) (pe_ix ix_tup (pv 0) pe_int (fun _ _ => rfl)) (pe_tup (pa_cons (pe_ix ix_tup (pv 0) pe_int (fun _ _ => rfl)) (pa_cons pe_int pa_nil))) ⟨rfl, rfl, rfl, rfl⟩) (pg_tup rfl (pgs_cons (pg_name (i := 4) scLed.nd rfl (.inl rfl)) (pgs_cons (pg_name (i := 5) scLed.nd rfl (.inl rfl)) pgs_nil))))
        (pss_cons (ps_set (i := 6) scLed.nd rfl (.inl rfl) (pe_op op_add (pe_op op_sub (pe_ix ix_tup (pv 0) pe_int (fun _ _ => rfl)) (pv 3)) (pv 5)))
        (pss_cons (ps_if (pt_cmpR op_eq (pv 2) (pv 4) (nomark _)) (pss_one (ps_ret (pe_ifExp (pt_cmpR op_ge (pv 6) pe_int (nomark _)) (pe_tup (pa_cons pe_str (pa_cons (pe_tup pa_nil) pa_nil))) (pe_tup (pa_cons pe_str (pa_cons (pe_tup pa_nil) pa_nil)))))) pss_nil)
        (pss_one (ps_ret (pe_tup (pa_cons pe_str (pa_cons (pv 2) (pa_cons (pv 4) (pa_cons (pv 6) pa_nil)))))))))))
        pss_nil)
      (pss_cons (ps_if (pt_cmpR (show OpR _ _ (rIn K false) from op_in_seq) (pe_ix ix_tup (pv 0) pe_int (fun _ _ => rfl)) (pe_tup (pa_cons pe_str (pa_cons pe_str pa_nil))) (by rfl)) (pss_one (ps_ret
          (pe_tup (pa_cons (pe_ix ix_tup (pv 0) pe_int (fun _ _ => rfl)) (pa_cons (pe_callTy call_tuple_of (by rfl) N.btup (by decide +kernel) (pa_cons
            (pe_lc (own := [("item", 7)]) (g := gName 7) (tt := tYes) rfl scLed.nd (pi_tupK K (pe_ix ix_tup (pv 0) pe_int (fun _ _ => rfl))) (blkOk_by (own := [("item", 7)]) (N := nLed) (sc := defScope sLed) (by decide +kernel)) (fun _ _ _ _ _ => pg_name (i := 7) scLed.nd rfl (Or.inl rfl))
              (fun _ _ _ _ _ => pts_nil) (fun _ _ _ _ _ => pe_h GW hr (by omega) (by rfl) pass0 (pa_cons (pv 7) (pa_cons (pv 1) pa_nil)))) pa_nil)) pa_nil))))) pss_nil)
      (pss_one (ps_ret (pe_op op_catA (pe_slice sl_tupA (pv 0) po_none (po_some (pe_un un_neg pe_int))) (pe_tup (pa_cons (pe_h GW hr (by omega) (by rfl) pass0 (pa_cons (pe_ix ix_tup (pv 0) (pe_un un_neg pe_int) (fun _ _ => rfl)) (pa_cons (pv 1) pa_nil))) pa_nil)))))), ?_⟩
    obtain ⟨k, rfl⟩ : ∃ k', k = k' + 1 := by
      cases k with
      | zero => cases d <;> cases fit
      | succ k => exact ⟨k, rfl⟩
    obtain ⟨n, rfl⟩ : ∃ n', n = n' + 1 := ⟨n - 1, by omega⟩
    cases said_cases fit with
    | @row a b c hrow =>
      have hr0 := saidRow_row hrow
      obtain ⟨⟨ka, kb⟩, kne, z, rfl⟩ := row_z hr0
      obtain ⟨p, xs, ds, rfl, ed, hp, pz, pd, pw, ha⟩ := hd.tupH rfl
      injection ed with ed
      subst ed
      cases ha with
      | @cons vw _ _ _ hw ha => cases ha with
      | @cons va _ _ _ h1 ha => cases ha with
      | @cons vb _ _ _ h2 ha => cases ha with
      | @cons vc _ _ _ h3 ha =>
        cases ha
        obtain rfl : vw = .str "row" := by cases hw; rfl
        obtain rfl : vc = .int z := by cases h3; rfl
        obtain ⟨rfl, ea⟩ := side_o h1 ka
        obtain ⟨rfl, eb⟩ := side_o h2 kb
        rw [led_row] at q
        have q : ∀ H' v', Same H H' → Da D (HidL zs H') v' (ledRow tm (unO a) (unO b) z) → Q v' H' := q
        generalize unO a = oa at *
        generalize unO b = ob at *
        refine ⟨_, rfl, p, _, 0, _, rfl, rfl, SqT.of hp, atI_nat (j := 0) rfl, rfl, _, rfl, ?_⟩
        rw [decide_eq_true rfl]
        refine iteT ⟨_, rfl, t, rfl, isD_of ht, _, rfl, p, _, 1, oV oa, rfl, rfl, SqT.of hp, atI_nat (j := 1) rfl, _, rfl, p, _, 1, oV oa, rfl, rfl, SqT.of hp, atI_nat (j := 1) rfl, (by show 2 ≤ sizeLine; decide), fun q1 n1 => ?_⟩
        have s1 := same_upd (o := .tup [oV oa, .int 0]) n1
        have h1 : (upd H q1 (.tup [oV oa, .int 0])) q1 = some (.tup [oV oa, .int 0]) := upd_same
        generalize upd H q1 (.tup [oV oa, .int 0]) = H1 at *
        refine ⟨kvs, tm, oa, q1, rfl, s1 _ _ ht, tt.sm s1, rfl, h1, fun p1 hp1 => ?_⟩
        refine ⟨p1, _, rfl, SqT.of hp1, rfl, _, _, rfl, _, _, rfl, rfl, ?_⟩
        refine ⟨_, rfl, t, rfl, isD_of (s1 _ _ ht), _, rfl, p, _, 2, oV ob, rfl, rfl, SqT.of (s1 _ _ hp), atI_nat (j := 2) rfl, _, rfl, p, _, 2, oV ob, rfl, rfl, SqT.of (s1 _ _ hp), atI_nat (j := 2) rfl, (by show 2 ≤ sizeLine; decide), fun q2 n2 => ?_⟩
        have s2 := same_upd (o := .tup [oV ob, .int 0]) n2
        have h2 : (upd H1 q2 (.tup [oV ob, .int 0])) q2 = some (.tup [oV ob, .int 0]) := upd_same
        have s12 : Same H (upd H1 q2 (.tup [oV ob, .int 0])) := fun b o e => s2 b o (s1 b o e)
        generalize upd H1 q2 (.tup [oV ob, .int 0]) = H2 at *
        refine ⟨kvs, tm, ob, q2, rfl, s12 _ _ ht, tt.sm s12, rfl, h2, fun p2 hp2 => ?_⟩
        refine ⟨p2, _, rfl, SqT.of hp2, rfl, _, _, rfl, _, _, rfl, rfl, ?_⟩
        have dr2 := dr.sm s12
        have hz2 := hz.sm s12
        refine ⟨_, rfl, p, _, 3, .int z, rfl, rfl, SqT.of (s12 _ _ hp), atI_nat (j := 3) rfl, _, rfl, _, _, rfl, rfl, _, rfl, _, _, rfl, rfl, ?_⟩
        refine ⟨_, rfl, _, rfl, oV_scal, _, rfl, ?_⟩
        rw [oV_eq]
        by_cases e : (getT tm oa).1 = (getT tm ob).1
        · rw [decide_eq_true e]
          refine iteT ⟨_, rfl, _, _, rfl, rfl, _, rfl, ?_⟩
          have en : ledRow tm oa ob z = .tuple [.str (if 0 ≤ z - (getT tm oa).2 + (getT tm ob).2 then "and" else "or"), .tuple []] := by
            unfold ledRow
            rw [if_pos e]
          rw [en] at q
          by_cases g : 0 ≤ z - (getT tm oa).2 + (getT tm ob).2
          · rw [if_pos g] at q
            rw [decide_eq_true g]
            refine iteT ⟨(by show 0 ≤ sizeLine; decide), fun p3 n3 => ⟨(by show 2 ≤ sizeLine; decide), fun p4 n4 => ?_⟩⟩
            have s3 := same_upd (o := .tup []) n3
            have s4 := same_upd (o := .tup [.str "and", .ref p3]) n4
            have a1 : Da D (HidL zs _) (.ref p3) (.tuple []) := tup_hid dr2 hz2 n3 .nil
            exact q _ _ (fun b o e => s4 b o (s3 b o (s12 b o e))) (tup_hid (dr2.sm s3) (hz2.sm s3) n4 (.cons (.str _) (.cons a1 .nil)))
          · rw [if_neg g] at q
            rw [decide_eq_false g]
            refine iteF ⟨(by show 0 ≤ sizeLine; decide), fun p3 n3 => ⟨(by show 2 ≤ sizeLine; decide), fun p4 n4 => ?_⟩⟩
            have s3 := same_upd (o := .tup []) n3
            have s4 := same_upd (o := .tup [.str "or", .ref p3]) n4
            have a1 : Da D (HidL zs _) (.ref p3) (.tuple []) := tup_hid dr2 hz2 n3 .nil
            exact q _ _ (fun b o e => s4 b o (s3 b o (s12 b o e))) (tup_hid (dr2.sm s3) (hz2.sm s3) n4 (.cons (.str _) (.cons a1 .nil)))
        · rw [decide_eq_false e]
          have en : ledRow tm oa ob z = .tuple [.str "row", oD (getT tm oa).1, oD (getT tm ob).1, .int (z - (getT tm oa).2 + (getT tm ob).2)] := by
            unfold ledRow
            rw [if_neg e]
          rw [en] at q
          refine iteF ⟨_, rfl, _, rfl, _, rfl, (by show 4 ≤ sizeLine; decide), fun p4 n4 => ?_⟩
          have s4 := same_upd (o := .tup [.str "row", oV (getT tm oa).1, oV (getT tm ob).1, .int (z - (getT tm oa).2 + (getT tm ob).2)]) n4
          exact q _ _ (fun b o e => s4 b o (s12 b o e)) (tup_hid dr2 hz2 n4 (.cons (.str _) (.cons (da_o _) (.cons (da_o _) (.cons (.int _) .nil)))))
    | @many w es hww hes =>
      obtain ⟨p, xs, ds, rfl, ed, hp, pz, pd, pw, ha⟩ := hd.tupH rfl
      injection ed with ed
      subst ed
      cases ha with
      | @cons vw _ _ _ hw ha => cases ha with
      | @cons vx _ _ _ h1 ha =>
        cases ha
        obtain rfl : vw = .str w := by cases hw; rfl
        obtain ⟨px, ys, _, rfl, ed, hpx, oz, o1, o2, hys⟩ := h1.tupH rfl
        injection ed with ed
        subst ed
        have n1 : w ≠ "row" := by rcases hww with rfl | rfl <;> decide
        have ew : (decide (w = "and") || decide (w = "or")) = true := by rcases hww with rfl | rfl <;> decide
        have wE : PyData.weightAll es ≤ 20000 := by
          simp only [PyData.weight, PyData.weightAll] at wt
          omega
        refine ⟨_, rfl, p, _, 0, _, rfl, rfl, SqT.of hp, atI_nat (j := 0) rfl, rfl, _, rfl, ?_⟩
        rw [dec_ne n1]
        refine iteF ⟨_, rfl, p, _, 0, _, rfl, rfl, SqT.of hp, atI_nat (j := 0) rfl, (by show 2 ≤ sizeLine; decide), fun t1 nt => ?_⟩
        have s1 := same_upd (o := .tup [.str "and", .str "or"]) nt
        have ht1 : (upd H t1 (.tup [.str "and", .str "or"])) t1 = some (.tup [.str "and", .str "or"]) := upd_same
        generalize upd H t1 (.tup [.str "and", .str "or"]) = H1 at *
        refine ⟨t1, _, rfl, .inr (SqT.of ht1), rfl, rfl, _, rfl, ?_⟩
        rw [if_neg (by decide), in_two, ew]
        have hz1 := hz.sm s1
        have dr1 := dr.sm s1
        refine iteT ⟨_, rfl, p, _, 0, _, rfl, rfl, SqT.of (s1 _ _ hp), atI_nat (j := 0) rfl, _, rfl, p, _, 1, .ref px, rfl, rfl, SqT.of (s1 _ _ hp), atI_nat (j := 1) rfl, px, rfl, ⟨_, SqT.of (s1 _ _ hpx)⟩, fun R nR => lc_tup (K := K) (a := px) (xs := ys) (fun j H' => Same H1 H' ∧ ∃ us, H' R = some (.lst us) ∧ DaAll D (HidL (R :: zs) H') us ((es.take j).map (ledN tm k)) ∧ us.length = min j es.length) ⟨same_upd nR, [], upd_same, .nil, by simp⟩ (fun j H' _ h => SqT.of (h.1 _ _ (s1 _ _ hpx))) ?_ ?_⟩
        · rintro j y H' hy ⟨s2, us, hR, g, lu⟩
          obtain ⟨dy, hdy, gy⟩ := hys.get hy
          have my := List.mem_of_getElem? hdy
          have wy := weight_mem my
          have lE := weight_len (ds := es)
          have s12 : Same H H' := fun b o e => s2 b o (s1 b o e)
          have nRH : H R = none := none_of s1 nR
          have hz' : Held (R :: zs) H' := (hz.sm s12).cons hR
          refine ⟨rfl, _, rfl, _, rfl, D, m, y, t, dy, bs, k, kvs, tm, R :: zs, rfl, dr.sm s12, hz', gy.fr (hidL_more nRH s12), hes dy my, by omega, by omega, s12 _ _ ht, tt.sm s12, fun H'' v' s3 g' => ?_⟩
          refine ⟨_, s3 _ _ hR, ?_, same_put (fun b o e => s3 b o (s2 b o e)) nR, _, upd_same, ?_, ?_⟩
          · rw [sizeLine_eq]
            omega
          · rw [hidL_upd (List.mem_cons_self ..), List.take_add_one, hdy, List.map_append]
            exact (g.fr (hidL_sm s3)).app (.cons g' .nil)
          · have lj : j < es.length := (List.getElem?_eq_some_iff.mp hdy).1
            rw [List.length_append, lu]
            show min j es.length + 1 = _
            omega
        · rintro H' ⟨s2, us, hR, g, lu⟩
          rw [hys.length, List.take_length] at g
          have s12 : Same H H' := fun b o e => s2 b o (s1 b o e)
          have g2 : DaAll D (HidL zs H') us (es.map (ledN tm k)) := g.fr hidL_cons
          refine ⟨R, _, rfl, .inl ⟨SqL.of hR, fun p3 n3 => ⟨(by show 2 ≤ sizeLine; decide), fun p4 n4 => ?_⟩⟩⟩
          have s3 := same_upd (o := .tup us) n3
          have a1 : Da D (HidL zs _) (.ref p3) (.tuple (es.map (ledN tm k))) := tup_hid (dr.sm s12) (hz.sm s12) n3 g2
          have s4 := same_upd (o := .tup [.str w, .ref p3]) n4
          refine q _ _ (fun b o e => s4 b o (s3 b o (s12 b o e))) ?_
          rw [led_many hww]
          exact tup_hid ((dr.sm s12).sm s3) ((hz.sm s12).sm s3) n4 (.cons (.str _) (.cons a1 .nil))
    | @no x hx =>
      obtain ⟨p, xs, ds, rfl, ed, hp, pz, pd, pw, ha⟩ := hd.tupH rfl
      injection ed with ed
      subst ed
      cases ha with
      | @cons vw _ _ _ hw ha => cases ha with
      | @cons vx _ _ _ h1 ha =>
        cases ha
        obtain rfl : vw = .str "not" := by cases hw; rfl
        have wx : x.weight ≤ 20000 := by
          simp only [PyData.weight, PyData.weightAll] at wt
          omega
        refine ⟨_, rfl, p, _, 0, _, rfl, rfl, SqT.of hp, atI_nat (j := 0) rfl, rfl, _, rfl, ?_⟩
        rw [dec_ne (by decide)]
        refine iteF ⟨_, rfl, p, _, 0, _, rfl, rfl, SqT.of hp, atI_nat (j := 0) rfl, (by show 2 ≤ sizeLine; decide), fun t1 nt => ?_⟩
        have s1 := same_upd (o := .tup [.str "and", .str "or"]) nt
        have ht1 : (upd H t1 (.tup [.str "and", .str "or"])) t1 = some (.tup [.str "and", .str "or"]) := upd_same
        generalize upd H t1 (.tup [.str "and", .str "or"]) = H1 at *
        refine ⟨t1, _, rfl, .inr (SqT.of ht1), rfl, rfl, _, rfl, ?_⟩
        rw [if_neg (by decide), in_two]
        refine iteF ⟨_, rfl, 1, rfl, _, rfl, ?_⟩
        try unfold tNoPart
        refine slA_hid (us := [.str "not"]) (es := [.str "not"]) (dr.sm s1) (hz.sm s1) (s1 _ _ hp) pz pd pw (cut_all2 _ _) (.cons (.str _) .nil) fun H2 p2 s2 hp2 oz o1 o2 g2 => ?_
        have s12 : Same H H2 := fun b o e => s2 b o (s1 b o e)
        refine ⟨_, rfl, 1, rfl, p, _, -1, vx, rfl, rfl, SqT.of (s12 _ _ hp), atI_last [.str "not"] vx, _, rfl, D, m, vx, t, x, bs, k, kvs, tm, zs, rfl, dr.sm s12, hz.sm s12, h1.fr (hidL_sm s12), hx, wx, by omega, s12 _ _ ht, tt.sm s12, fun H3 v' s3 g => ⟨(by show 1 ≤ sizeLine; decide), fun p4 n4 => ?_⟩⟩
        have s13 : Same H H3 := fun b o e => s3 b o (s12 b o e)
        have s4 := same_upd (o := .tup [v']) n4
        refine catA_hid ((dr.sm s13).sm s4) ((hz.sm s13).sm s4) (s4 _ _ (s3 _ _ hp2)) upd_same (fun z => nomatch z) (fun z => nomatch z) ((g2.fr (hidL_sm s3)).fr (hidL_sm s4)) (.cons (g.fr (hidL_sm s4)) .nil) (by show 1 + 1 ≤ 10000; decide) fun H5 p5 s5 g5 => ?_
        refine q _ _ (fun b o e => s5 b o (s4 b o (s13 b o e))) ?_
        rw [led_no]
        exact g5
    | @bind w ns x hww hns hx =>
      obtain ⟨p, xs, ds, rfl, ed, hp, pz, pd, pw, ha⟩ := hd.tupH rfl
      injection ed with ed
      subst ed
      cases ha with
      | @cons vw _ _ _ hw ha => cases ha with
      | @cons vn _ _ _ hn ha => cases ha with
      | @cons vx _ _ _ h1 ha =>
        cases ha
        obtain rfl : vw = .str w := by cases hw; rfl
        have n1 : w ≠ "row" := by rcases hww with rfl | rfl <;> decide
        have n2 : w ≠ "and" := by rcases hww with rfl | rfl <;> decide
        have n3 : w ≠ "or" := by rcases hww with rfl | rfl <;> decide
        have wx : x.weight ≤ 20000 := by
          simp only [PyData.weight, PyData.weightAll] at wt
          omega
        refine ⟨_, rfl, p, _, 0, _, rfl, rfl, SqT.of hp, atI_nat (j := 0) rfl, rfl, _, rfl, ?_⟩
        rw [dec_ne n1]
        refine iteF ⟨_, rfl, p, _, 0, _, rfl, rfl, SqT.of hp, atI_nat (j := 0) rfl, (by show 2 ≤ sizeLine; decide), fun t1 nt => ?_⟩
        have s1 := same_upd (o := .tup [.str "and", .str "or"]) nt
        have ht1 : (upd H t1 (.tup [.str "and", .str "or"])) t1 = some (.tup [.str "and", .str "or"]) := upd_same
        generalize upd H t1 (.tup [.str "and", .str "or"]) = H1 at *
        refine ⟨t1, _, rfl, .inr (SqT.of ht1), rfl, rfl, _, rfl, ?_⟩
        rw [if_neg (by decide), in_two, decide_eq_false n2, decide_eq_false n3]
        refine iteF ⟨_, rfl, 1, rfl, _, rfl, ?_⟩
        try unfold tNoPart
        refine slA_hid (us := [.str w, vn]) (es := [.str w, ns]) (dr.sm s1) (hz.sm s1) (s1 _ _ hp) pz pd pw (cut_all3 _ _ _) (.cons (.str _) (.cons (hn.fr (hidL_sm s1)) .nil)) fun H2 p2 s2 hp2 oz o1 o2 g2 => ?_
        have s12 : Same H H2 := fun b o e => s2 b o (s1 b o e)
        refine ⟨_, rfl, 1, rfl, p, _, -1, vx, rfl, rfl, SqT.of (s12 _ _ hp), atI_last [.str w, vn] vx, _, rfl, D, m, vx, t, x, _, k, kvs, tm, zs, rfl, dr.sm s12, hz.sm s12, h1.fr (hidL_sm s12), hx, wx, by omega, s12 _ _ ht, tt.sm s12, fun H3 v' s3 g => ⟨(by show 1 ≤ sizeLine; decide), fun p4 n4 => ?_⟩⟩
        have s13 : Same H H3 := fun b o e => s3 b o (s12 b o e)
        have s4 := same_upd (o := .tup [v']) n4
        refine catA_hid ((dr.sm s13).sm s4) ((hz.sm s13).sm s4) (s4 _ _ (s3 _ _ hp2)) upd_same (fun z => nomatch z) (fun z => nomatch z) ((g2.fr (hidL_sm s3)).fr (hidL_sm s4)) (.cons (g.fr (hidL_sm s4)) .nil) (by show 2 + 1 ≤ 10000; decide) fun H5 p5 s5 g5 => ?_
        refine q _ _ (fun b o e => s5 b o (s4 b o (s13 b o e))) ?_
        rw [led_bind]
        exact g5
end
end Lm
/-! _law_says, _law_titles_in. -/
namespace Lm
open PySem PySem.Spec PyProof.Rows L2
/-- the sides of rows that are texts -/
def txts (rs : List PyData) : List Str := (rs.flatMap sidesD).filterMap id
theorem txts_app (a b : List PyData) : txts (a ++ b) = txts a ++ txts b := by
  unfold txts
  rw [List.flatMap_append, List.filterMap_append]
theorem txts_row {a b c : PyData} : txts [.tuple [a, b, c]] = [a, b].filterMap unS := by
  show ([unO a, unO b] ++ []).filterMap id = _
  cases a <;> cases b <;> rfl
def bigS (x : Str) : Bool := bigD (.str x)
theorem bnd_big {bs : List Str} (B : Bnd bs) {x : Str} (h : x ∈ bs) : bigS x = true := by
  have : (saidNameD (.str x) && bigD (.str x)) = true := B x h
  rw [Bool.and_eq_true] at this
  exact this.2
theorem strs_bnd {bs : List Str} {ns : PyData} (h : bindsD bs ns = true) : Bnd (strsD ns) := by
  cases ns with
  | tuple ds =>
    have B := bnd_app (bs := []) (ns := .tuple ds) (fun _ z => nomatch z)
    intro x hx
    have key : ∀ (ds : List PyData) (before : List Str), bindsL bs before ds = true → ∀ x ∈ ds.filterMap unS, boundNameD (.str x) = true := by
      intro ds
      induction ds with
      | nil => exact fun _ _ x hx => nomatch hx
      | cons d r ih =>
        intro before h x hx
        cases d with
        | str y =>
          have h : (boundNameD (.str y) && !decide (y ∈ bs) && !decide (y ∈ before) && bindsL bs (before ++ [y]) r) = true := h
          rw [Bool.and_eq_true, Bool.and_eq_true, Bool.and_eq_true] at h
          have hx : x ∈ y :: r.filterMap unS := hx
          rcases List.mem_cons.mp hx with rfl | hx
          · exact h.1.1.1
          · exact ih _ h.2 x hx
        | _ => cases h
    have h : (decide ((1 : Int) ≤ (ds.length : Nat)) && decide (((ds.length : Nat) : Int) ≤ 4) && bindsL bs [] ds) = true := h
    rw [Bool.and_eq_true] at h
    exact key ds [] h.2 x hx
  | _ => cases h
/-- the free names are the texts in the rows that are no bound names -/
theorem names_rows : ∀ (n : Nat) (bs : List Str) (d : PyData), fitsN n bs d = true → ∀ x, (bigS x = false → (x ∈ namesN n d ↔ x ∈ txts (rowsN n d))) ∧ (bigS x = true → x ∈ namesN n d → x ∈ bs)
  | 0, bs, d, h => by cases d <;> cases h
  | n + 1, bs, d, h => by
    intro x
    cases said_cases h with
    | @row a b c hrow =>
      rw [names_row, rows_row, txts_row]
      refine ⟨fun _ => Iff.rfl, fun hb hx => ?_⟩
      have z : (rowD (.tuple [a, b, c]) && sideB bs a && sideB bs b) = true := hrow
      rw [Bool.and_eq_true, Bool.and_eq_true] at z
      have side : ∀ {a : PyData}, sideB bs a = true → unS a = some x → x ∈ bs := fun {a} k e => by
        cases a with
        | str y =>
          have e : some y = some x := e
          cases e
          have k : ((saidNameD (.str x) && !bigD (.str x)) || decide (x ∈ bs)) = true := k
          have hb : bigD (.str x) = true := hb
          rw [hb, Bool.not_true, Bool.and_false, Bool.false_or] at k
          exact of_decide_eq_true k
        | _ => cases e
      obtain ⟨d, hd, e⟩ := List.mem_filterMap.mp hx
      rcases List.mem_cons.mp hd with rfl | hd
      · exact side z.1.2 e
      · rw [List.mem_singleton] at hd
        subst hd
        exact side z.2 e
    | @many w es hw hs =>
      rw [names_many hw, rows_many hw]
      have key : ∀ es : List PyData, (∀ e ∈ es, fitsN n bs e = true) → (bigS x = false → (x ∈ (es.map (namesN n)).flatten ↔ x ∈ txts ((es.map (rowsN n)).flatten))) ∧ (bigS x = true → x ∈ (es.map (namesN n)).flatten → x ∈ bs) := by
        intro es
        induction es with
        | nil => exact fun _ => ⟨fun _ => Iff.rfl, fun _ z => by simp at z⟩
        | cons e r ih =>
          intro he
          obtain ⟨h1, h2⟩ := names_rows n bs e (he e (List.mem_cons_self ..)) x
          obtain ⟨i1, i2⟩ := ih fun y hy => he y (List.mem_cons_of_mem _ hy)
          rw [List.map_cons, List.flatten_cons, List.map_cons, List.flatten_cons, txts_app, List.mem_append, List.mem_append]
          exact ⟨fun hb => ⟨fun z => z.imp (h1 hb).mp (i1 hb).mp, fun z => z.imp (h1 hb).mpr (i1 hb).mpr⟩, fun hb z => z.elim (h2 hb) (i2 hb)⟩
      exact key es hs
    | @no y hy =>
      rw [names_no, rows_no]
      exact names_rows n bs _ hy x
    | @bind w ns y hw hns hy =>
      rw [names_bind, rows_bind]
      obtain ⟨h1, h2⟩ := names_rows n _ _ hy x
      rw [List.mem_filter]
      constructor
      · intro hb
        rw [← h1 hb]
        refine ⟨fun z => z.1, fun z => ⟨z, ?_⟩⟩
        have : x ∉ strsD ns := fun m => by rw [bnd_big (strs_bnd hns) m] at hb; cases hb
        rw [decide_eq_false this]
        rfl
      · rintro hb ⟨z, k⟩
        rcases List.mem_append.mp (h2 hb z) with m | m
        · exact m
        · rw [decide_eq_true m] at k
          cases k
def titlesN (k : Nat) (d : PyData) : List Str := (txts (rowsN k d)).filter fun x => !bigS x
theorem titles_names {k : Nat} {d : PyData} (h : fitsN k [] d = true) (x : Str) : x ∈ titlesN k d ↔ x ∈ namesN k d := by
  unfold titlesN
  rw [List.mem_filter, Bool.not_eq_true']
  obtain ⟨h1, h2⟩ := names_rows k [] d h x
  constructor
  · rintro ⟨a, b⟩
    exact (h1 b).mpr a
  · intro a
    cases b : bigS x with
    | false => exact ⟨(h1 b).mp a, rfl⟩
    | true => exact absurd (h2 b a) (by simp)
theorem rows_sides : ∀ (n : Nat) (bs : List Str) (d : PyData), fitsN n bs d = true → ∀ r ∈ rowsN n d, ∃ a b z, r = .tuple [a, b, .int z] ∧ sideD a = true ∧ sideD b = true
  | 0, bs, d, h => by cases d <;> cases h
  | n + 1, bs, d, h => by
    intro r hr
    cases said_cases h with
    | @row a b c hrow =>
      rw [rows_row, List.mem_singleton] at hr
      subst hr
      obtain ⟨⟨ka, kb⟩, _, z, rfl⟩ := row_z (saidRow_row hrow)
      exact ⟨a, b, z, rfl, ka, kb⟩
    | @many w es hw hs =>
      rw [rows_many hw, List.mem_flatten] at hr
      obtain ⟨l, hl, hr⟩ := hr
      obtain ⟨e, he, rfl⟩ := List.mem_map.mp hl
      exact rows_sides n bs e (hs e he) r hr
    | @no y hy =>
      rw [rows_no] at hr
      exact rows_sides n bs _ hy r hr
    | @bind w ns y hw hns hy =>
      rw [rows_bind] at hr
      exact rows_sides n _ _ hy r hr
theorem side_text {x : Str} (h : sideD (.str x) = true) : x.length ≤ sizeLine ∧ ∃ c r, x.cps.toList = c :: r := by
  have h : (decide ((1 : Int) ≤ (x.length : Nat)) && decide (((x.length : Nat) : Int) ≤ 20)) = true := h
  rw [Bool.and_eq_true] at h
  have h1 := of_decide_eq_true h.1
  have h2 := of_decide_eq_true h.2
  refine ⟨small10000 (by omega), ?_⟩
  cases e : x.cps.toList with
  | nil =>
    have l : x.length = x.cps.toList.length := by rw [Array.length_toList]; rfl
    rw [e] at l
    have l : x.length = 0 := l
    omega
  | cons c r => exact ⟨c, r, rfl⟩
theorem sameBut_new {t p : Addr} {H H' : Hp} {o : HO} (s : SameBut p H H') (n : H' t = none) : SameBut p H (upd H' t o) := fun b u nb e => by
  rw [upd_ne (ne_of_none (s b u nb e) n)]
  exact s b u nb e
theorem sameBut_put {p : Addr} {H H' : Hp} {o : HO} (s : SameBut p H H') : SameBut p H (upd H' p o) := fun b u nb e => by
  rw [upd_ne nb]
  exact s b u nb e
def notBig (l : List Str) : List Str := l.filter fun x => !bigS x
section
variable {P : Program} {w : World} {K : PySem.W.Frag} {mg : Str → Option Value} {base : Heap}
abbrev sSays : Stmt := topS 51
theorem scSays : FnScope ["found", "due"] ["found", "due"] (defScope sSays) := ⟨rfl, rfl, rfl, by decide +kernel, rfl, by decide +kernel, by decide +kernel⟩
def spSays : Sp := fun vs H Q _ => ∃ a b : Bool, vs = [.bl a, .bl b] ∧ (Q (.bl (decide (a = b))) H)
theorem ok_says {f : Addr} {fd : FuncData} (F : Fun K "_law_says" "_law_says" sSays f fd) : FnOk P w K mg base CX0 1 f fd ["found", "due"] spSays := by
  refine F.ok scSays (fun vs H Q E h => ?_) (fun cdv A outer s H vs Q E hr h => ?_)
  · obtain ⟨a, b, rfl, _⟩ := h
    rfl
  · obtain ⟨a, b, rfl, q⟩ := h
    refine ⟨_, pss_one (ps_ret (pe_ifExp (pt_val (pv 1)) (pe_cmpR op_isBl (pv 0) pe_bl (nomark _)) (pe_cmpR op_isBl (pv 0) pe_bl (nomark _)))), ?_⟩
    refine ⟨.bl b, rfl, b, rfl, ?_⟩
    cases b with
    | true => exact iteT ⟨_, rfl, a, true, rfl, rfl, q⟩
    | false => exact iteF ⟨_, rfl, a, false, rfl, rfl, q⟩
/-! ### _law_titles_in -/
abbrev sTI : Stmt := topS 57
def nTI : List Str := ["said_v", "found", "row", "side"]
theorem scTI : FnScope nTI ["said_v"] (defScope sTI) := ⟨rfl, rfl, rfl, by decide +kernel, rfl, by decide +kernel, by decide +kernel⟩
theorem call_sortedDK {X : Cx} (hcalm : X.calm = true) : CallR X (.builtin "sorted") (fun xs H Q => ∃ (a : Addr) (kvs : List (Key × V)) (ks : List Str), xs = [.ref a] ∧ Rd H a (.dK kvs) ∧ kvs.map (·.1) = ks.map Sum.inr ∧ ks.length < 64 ∧
    ∀ ys p, ys.Perm ks → sortedS ys = true → H p = none → Q (.ref p) (upd H p (.lst (ys.map V.str)))) := call_sortedD hcalm
def spTI (n : Nat) : Sp := fun vs H Q _ => ∃ (D : DrA) (m : Nat) (v : V) (d : PyData) (k : Nat), vs = [v] ∧ DrawAt D m H ∧ Da D H v d ∧ fitsN k [] d = true ∧ d.weight ≤ 20000 ∧ shortD d = true ∧ k ≤ n ∧ (txts (rowsN k d)).length < 64 ∧
  ∀ (H' : Hp) (R : Addr) (ys : List Str), AscOf (namesN k d) ys → H' R = some (.lst (ys.map V.str)) → Same H H' → Q (.ref R) H'
/-- the keys are just these texts -/
def Tinv (kvs : List (Key × V)) (ns ks : List Str) : Prop := kvs.map (·.1) = ks.map Sum.inr ∧ ks.Nodup ∧ ∀ x, x ∈ ks ↔ x ∈ ns
theorem Tinv.put {kvs : List (Key × V)} {ns ks : List Str} (h : Tinv kvs ns ks) (x : Str) (v : V) : ∃ ks', Tinv (putK kvs (.inr x) v) (ns ++ [x]) ks' := by
  obtain ⟨h1, h2, h3⟩ := h
  have inm : (Sum.inr x : Key) ∈ kvs.map (·.1) ↔ x ∈ ks := by
    rw [h1, List.mem_map]
    exact ⟨fun ⟨y, hy, e⟩ => by injection e with e; rw [← e]; exact hy, fun hx => ⟨x, hx, rfl⟩⟩
  by_cases m : x ∈ ks
  · refine ⟨ks, ?_, h2, fun y => ?_⟩
    · rw [putK_keys, if_pos (inm.mpr m), h1]
    · rw [h3 y, List.mem_append, List.mem_singleton]
      exact ⟨.inl, fun z => z.elim id fun e => by rw [e]; exact (h3 x).mp m⟩
  · refine ⟨ks ++ [x], ?_, List.nodup_append.mpr ⟨h2, by simp, fun a ha b hb e => m ?_⟩, fun y => ?_⟩
    · rw [putK_keys, if_neg fun z => m (inm.mp z), h1, List.map_append]
      rfl
    · rw [List.mem_singleton] at hb
      rw [← hb, ← e]
      exact ha
    · rw [List.mem_append, List.mem_append, h3 y]
theorem ok_ti {f : Addr} {fd : FuncData} (F : Fun K "_law_titles_in" "_law_titles_in" sTI f fd) (N : Bl mg) (n : Nat) (GR : Has P w K mg base CX0 (n + 5) "_law_rows_said" ["said_v"] (spRS n)) (GB : Has P w K mg base CX0 1 "_law_is_big" ["title"] spBig) : FnOk P w K mg base CX0 (n + 6) f fd ["said_v"] (spTI n) := by
  refine F.ok scTI (fun vs H Q E h => ?_) (fun cdv A outer s H vs Q E hr h => ?_)
  · obtain ⟨D, m, v, d, k, rfl, _⟩ := h
    rfl
  · obtain ⟨D, m, v, d, k, rfl, dr, hd, fit, wt, sd, hk, few, q⟩ := h
    have hu := hu_of hr
    refine ⟨_, pss_cons (ps_set (i := 1) scTI.nd rfl (.inl rfl) pe_dnewK)
      (pss_cons (ps_for PassesOwn.never rfl (pi_listK K (pe_h GR hr (by omega) (by rfl) pass0 (pa_cons (pv 0) pa_nil))) (pg_name (i := 2) scTI.nd rfl (.inl rfl))
        (pss_one (ps_for PassesOwn.never rfl (pi_tupK K (pe_slice sl_tupA (pv 2) po_none (po_some pe_int))) (pg_name (i := 3) scTI.nd rfl (.inl rfl))
          (pss_one (ps_if (pw_and (pt_cmpR op_notN1 (pv 3) pe_non (nomark _)) (pw_and1 (pt_not (pt_val (pe_h GB hr (by omega) (by rfl) pass0 (pa_cons (pv 3) pa_nil)))))).pt (pss_one (ps_dput hu (pv 1) (pv 3) pe_bl rfl)) pss_nil)))))
      (pss_one (ps_ret (pe_callB (call_sortedDK rfl) (by rfl) N.bsrt (by decide +kernel) (pa_cons (pv 1) pa_nil))))), ?_⟩
    refine fun p np => ?_
    have s1 : Same H (upd H p (.dK [])) := same_upd np
    have hp1 : (upd H p (.dK [])) p = some (.dK []) := upd_same
    generalize upd H p (.dK []) = H1 at *
    refine ⟨_, rfl, D, m, v, d, [], k, rfl, dr.sm s1, hd.sm s1, fit, wt, hk, fun H2 L xs hL l1 l2 hx s2 => ?_⟩
    have s12 : Same H H2 := fun b o e => s2 b o (s1 b o e)
    have dr2 := dr.sm s12
    have lx := hx.length
    have Lp : L ≠ p := fun z => by rw [z, s2 _ _ hp1] at hL; cases hL
    have sb0 : SameBut p H2 H2 := fun _ _ _ e => e
    have fits : ∀ {ks : List Str} {ns : List Str}, (∀ x, x ∈ ks ↔ x ∈ ns) → ks.Nodup → (∀ x ∈ ns, x ∈ txts (rowsN k d)) → ks.length < 64 := fun {ks ns} h1 h2 h3 => Nat.lt_of_le_of_lt (nodup_sub h2 fun x hx => h3 x ((h1 x).mp hx)) few
    refine ⟨L, rfl, ⟨_, SqL.of hL⟩, for_list (K := K) (a := L) (xs := xs) (fun i σ H' => SameBut p H2 H' ∧ ∃ kvs ks x2 x3, H' p = some (.dK kvs) ∧ Tinv kvs (notBig (txts ((rowsN k d).take i))) ks ∧ σ = [some v, some (.ref p), x2, x3]) ⟨sb0, [], [], none, none, s2 _ _ hp1, ⟨rfl, .nil, fun _ => Iff.rfl⟩, rfl⟩ (fun i σ H' _ z => SqL.of (z.1 _ _ Lp hL)) ?_ ?_⟩
    · rintro i y σ H3 hy ⟨sb, kvs, ks, x2, x3, hp3, ti, rfl⟩
      obtain ⟨dy, hdy, gy⟩ := hx.get hy
      have my := List.mem_of_getElem? hdy
      obtain ⟨a, b, z, rfl, ka, kb⟩ := rows_sides k [] d fit dy my
      obtain ⟨r, vs, _, rfl, ed, hr1, r1, r2, hvs⟩ := gy.tupOf rfl
      injection ed with ed
      subst ed
      cases hvs with
      | @cons va _ _ _ g1 hvs => cases hvs with
      | @cons vb _ _ _ g2 hvs => cases hvs with
      | @cons vc _ _ _ g3 hvs =>
        cases hvs
        obtain ⟨rfl, ea⟩ := side_o g1 ka
        obtain ⟨rfl, eb⟩ := side_o g2 kb
        have rp : r ≠ p := fun z => by rw [z, s2 _ _ hp1] at hr1; cases hr1
        have st : notBig (txts ((rowsN k d).take (i + 1))) = notBig (txts ((rowsN k d).take i)) ++ notBig ([a, b].filterMap unS) := by
          rw [List.take_add_one, hdy]
          show notBig (txts (_ ++ [.tuple [a, b, .int z]])) = _
          rw [txts_app, txts_row]
          exact List.filter_append ..
        have sub : ∀ x ∈ notBig ([a, b].filterMap unS), x ∈ txts (rowsN k d) := fun x hx => by
          have hx := (List.mem_filter.mp hx).1
          have : rowsN k d = (rowsN k d).take i ++ (.tuple [a, b, .int z] :: (rowsN k d).drop (i + 1)) := by
            have := List.take_append_drop i (rowsN k d)
            rw [← this]
            congr 1
            · rw [this]
            · rw [this]
              obtain ⟨lt, e⟩ := List.getElem?_eq_some_iff.mp hdy
              rw [List.drop_eq_getElem_cons lt, e]
          rw [this, txts_app]
          refine List.mem_append_right _ ?_
          rw [show (PyData.tuple [a, b, .int z] :: (rowsN k d).drop (i + 1)) = [PyData.tuple [a, b, .int z]] ++ (rowsN k d).drop (i + 1) from rfl, txts_app, txts_row]
          exact List.mem_append_left _ hx
        have subi : ∀ x ∈ notBig (txts ((rowsN k d).take i)), x ∈ txts (rowsN k d) := fun x hx => by
          have hx := (List.mem_filter.mp hx).1
          have := List.take_append_drop i (rowsN k d)
          rw [← this, txts_app]
          exact List.mem_append_left _ hx
        refine ⟨_, rfl, 2, rfl, ?_⟩
        refine ⟨r, _, rfl, SqT.of (sb _ _ rp hr1), fun k0 => absurd k0 ?_, fun _ t nt => ?_⟩
        · simp [HT.sIx]
        rw [show cutV [oV (unO a), oV (unO b), vc] none (some 2) = [oV (unO a), oV (unO b)] from cut_two' _ _ _]
        have ht : (upd H3 t (.tup [oV (unO a), oV (unO b)])) t = some (.tup [oV (unO a), oV (unO b)]) := upd_same
        have sb1 : SameBut p H2 (upd H3 t (.tup [oV (unO a), oV (unO b)])) := sameBut_new sb nt
        have tp : t ≠ p := fun z => by rw [z, hp3] at nt; cases nt
        have hp4 : (upd H3 t (.tup [oV (unO a), oV (unO b)])) p = some (.dK kvs) := by rw [upd_ne tp.symm]; exact hp3
        generalize upd H3 t (.tup [oV (unO a), oV (unO b)]) = H4 at *
        refine ⟨t, rfl, ⟨_, SqT.of ht⟩, for_tup (K := K) (a := t) (xs := [oV (unO a), oV (unO b)]) (fun j σ H' => SameBut p H2 H' ∧ H' t = some (.tup [oV (unO a), oV (unO b)]) ∧ ∃ kvs ks x3, H' p = some (.dK kvs) ∧ Tinv kvs (notBig (txts ((rowsN k d).take i)) ++ notBig (([a, b].take j).filterMap unS)) ks ∧ σ = [some v, some (.ref p), some (.ref r), x3]) ⟨sb1, ht, kvs, ks, x3, hp4, ?_, rfl⟩ (fun j σ H' _ z => SqT.of z.2.1) ?_ ?_⟩
        · show Tinv kvs (_ ++ []) ks
          rw [List.append_nil]
          exact ti
        · rintro j y σ H5 hy ⟨sb5, ht5, kvs5, ks5, x35, hp5, ti5, rfl⟩
          obtain ⟨dx, hdx, sdx, rfl⟩ : ∃ dx, [a, b][j]? = some dx ∧ sideD dx = true ∧ y = oV (unO dx) := by
            match j, hy with
            | 0, hy => exact ⟨a, rfl, ka, (Option.some.inj hy).symm⟩
            | 1, hy => exact ⟨b, rfl, kb, (Option.some.inj hy).symm⟩
            | n + 2, hy => simp at hy
          have st5 : notBig (([a, b].take (j + 1)).filterMap unS) = notBig (([a, b].take j).filterMap unS) ++ notBig ([dx].filterMap unS) := by
            rw [List.take_add_one, hdx, List.filterMap_append]
            exact List.filter_append ..
          have edx := side_un sdx
          refine ⟨_, rfl, rfl, _, rfl, ?_⟩
          cases eo : unO dx with
          | none =>
            rw [eo] at edx
            subst edx
            refine iteF (iteF ⟨sb5, ht5, kvs5, ks5, _, hp5, ?_, rfl⟩)
            rw [st5]
            show Tinv kvs5 (_ ++ (_ ++ [])) ks5
            rw [List.append_nil]
            exact ti5
          | some x =>
            rw [eo] at edx
            subst edx
            obtain ⟨lx5, c, rr, ecs⟩ := side_text sdx
            refine iteT ⟨_, rfl, x, c, rr, rfl, lx5, ecs, _, rfl, ?_⟩
            cases ebig : bigS x with
            | true =>
              have eb2 : bigD (.str x) = true := ebig
              rw [eb2]
              refine iteF ⟨sb5, ht5, kvs5, ks5, _, hp5, ?_, rfl⟩
              have e0 : notBig ([PyData.str x].filterMap unS) = [] := by
                show ([x] : List Str).filter _ = []
                rw [List.filter_cons, ebig]
                rfl
              rw [st5]
              show Tinv kvs5 (_ ++ (_ ++ notBig ([PyData.str x].filterMap unS))) ks5
              rw [e0, List.append_nil]
              exact ti5
            | false =>
              have eb2 : bigD (.str x) = false := ebig
              rw [eb2]
              obtain ⟨ks6, ti6⟩ := ti5.put x (.bl true)
              have e0 : notBig ([PyData.str x].filterMap unS) = [x] := by
                show ([x] : List Str).filter _ = [x]
                rw [List.filter_cons, ebig]
                rfl
              have l5 : kvs5.length < 64 := by
                have := congrArg List.length ti5.1
                rw [List.length_map, List.length_map] at this
                rw [this]
                refine fits ti5.2.2 ti5.2.1 fun z hz => ?_
                rcases List.mem_append.mp hz with hz | hz
                · exact subi z hz
                · refine sub z ?_
                  have hz := List.mem_filter.mp hz
                  refine List.mem_filter.mpr ⟨?_, hz.2⟩
                  obtain ⟨u, hu1, hu2⟩ := List.mem_filterMap.mp hz.1
                  exact List.mem_filterMap.mpr ⟨u, List.mem_of_mem_take hu1, hu2⟩
              refine iteT ⟨_, rfl, _, rfl, p, _, rfl, DPut.k (k := .inr x) hp5 (small1000 (by omega)), sameBut_put sb5, ?_, _, ks6, _, upd_same, ?_, rfl⟩
              · rw [upd_ne (fun z => tp z)]
                exact ht5
              · rw [st5]
                show Tinv _ (_ ++ (_ ++ notBig ([PyData.str x].filterMap unS))) ks6
                rw [e0, ← List.append_assoc]
                exact ti6
        · rintro σ H5 ⟨sb5, ht5, kvs5, ks5, x35, hp5, ti5, rfl⟩
          refine ⟨sb5, kvs5, ks5, _, _, hp5, ?_, rfl⟩
          rw [st]
          exact ti5
    · rintro σ H3 ⟨sb, kvs, ks, x2, x3, hp3, ti, rfl⟩
      rw [lx, List.take_length] at ti
      have lk := fits ti.2.2 ti.2.1 fun x hx => (List.mem_filter.mp hx).1
      refine ⟨_, rfl, p, kvs, ks, rfl, .inl hp3, ti.1, lk, fun ys q' pm so nq => ?_⟩
      have sH : Same H H3 := fun b o e => sb b o (fun z => by rw [z, np] at e; cases e) (s12 _ _ e)
      refine q _ q' ys ⟨so, pm.nodup_iff.mpr ti.2.1, fun x => ?_⟩ upd_same fun b o e => same_upd nq _ _ (sH b o e)
      rw [pm.mem_iff, ti.2.2 x, ← titles_names fit x]
      exact Iff.rfl
end
end Lm
/-! A text times a number. -/
namespace Lm
open PySem PySem.Spec PyProof.Rows L2
def repS (z : Str) (k : Int) : Str := ⟨(List.replicate k.toNat z.cps).foldl (· ++ ·) #[]⟩
def rRepS : R2 := fun x y H Q => ∃ (z : Str) (k : Int), x = .str z ∧ y = .int k ∧ (1 < k ∧ k ≤ 1000) ∧ (z.length = 1 ∧ (repS z k).length ≤ sizeLine) ∧ Builtin.Str.tooLong (z.length * k.toNat) = false ∧ Q (.str (repS z k)) H
theorem op_repS {X : Cx} : OpR X (binaryOp .Mult) rRepS := by
  intro pins s σ H x y v u Q I rx ry h
  obtain ⟨z, k, rfl, rfl, ⟨k1, k2⟩, ⟨z1, z2⟩, hl, q⟩ := h
  obtain ⟨t, rfl⟩ := rx
  obtain ⟨t2, rfl⟩ := ry
  have e1 : ¬ k < -(2 ^ 63 : Int) := by omega
  have e2 : ¬ k ≥ 2 ^ 63 := by omega
  have e3 : (k == 1 || z.length == 0) = false := by
    rw [z1]
    have : (k == 1) = false := by simpa using (show k ≠ 1 by omega)
    rw [this]
    rfl
  refine PySem.P.mul_str (by rw [decide_eq_false e1, decide_eq_false e2]; rfl) (fun _ _ => ?_) (fun _ _ => hl) ?_
  · rw [z1]
    intro h
    have h3 : (1 : Int) * k ≤ 2 ^ 63 - 1 := by omega
    have : (1 : Int) ≤ (2 ^ 63 - 1) / k := Int.le_ediv_of_mul_le (by omega) h3
    have h : (2 ^ 63 - 1) / k < ((1 : Nat) : Int) := h
    omega
  · rw [if_neg (by omega), e3, if_neg (by decide)]
    exact ⟨z2, .str (repS z k), H, I.tok _, ⟨_, rfl⟩, q⟩
end Lm
/-! Drawn sayings: what they are. -/
namespace Lm
open PySem PySem.Spec PyProof.Rows L2
def caps : List Str := ["X", "Y", "Turn t", "Z 0", repS "A" 20]
def lows : List Str := ["a", "b", "tiles n", "block 0 b", "~", repS "x" 20, "0", "[", repS "a" 9]
def NameOk (x : Str) : Prop := saidNameD (.str x) = true ∧ PyData.strOk x = true ∧ x.length ≤ 20
theorem caps_ok : ∀ x ∈ caps, NameOk x ∧ bigS x = true := by
  have : caps.all (fun x => saidNameD (.str x) && PyData.strOk x && decide (x.length ≤ 20) && bigS x) = true := by decide +kernel
  intro x hx
  have h := List.all_eq_true.mp this x hx
  rw [Bool.and_eq_true, Bool.and_eq_true, Bool.and_eq_true] at h
  exact ⟨⟨h.1.1.1, h.1.1.2, of_decide_eq_true h.1.2⟩, h.2⟩
theorem lows_ok : ∀ x ∈ lows, NameOk x ∧ bigS x = false := by
  have : lows.all (fun x => saidNameD (.str x) && PyData.strOk x && decide (x.length ≤ 20) && !bigS x) = true := by decide +kernel
  intro x hx
  have h := List.all_eq_true.mp this x hx
  rw [Bool.and_eq_true, Bool.and_eq_true, Bool.and_eq_true, Bool.not_eq_true'] at h
  exact ⟨⟨h.1.1.1, h.1.1.2, of_decide_eq_true h.1.2⟩, h.2⟩
theorem caps_nodup : caps.Nodup := by decide +kernel
theorem lows_nodup : lows.Nodup := by decide +kernel
/-- a saying as it is drawn: the free names in use, how deep, the bound names in sight -/
inductive Dn (ts : List Str) : Nat → List Str → PyData → Prop
  | row {e : Nat} {bs : List Str} {a b : Option Str} {c : Int} : a ≠ b → (∀ x, a = some x → x ∈ ts ++ bs) → (∀ x, b = some x → x ∈ ts ++ bs) → -9 ≤ c → c ≤ 9 → Dn ts e bs (.tuple [.str "row", oD a, oD b, .int c])
  | no {e : Nat} {bs : List Str} {x : PyData} : Dn ts e bs x → Dn ts (e + 1) bs (.tuple [.str "not", x])
  | many {e : Nat} {bs : List Str} {w : Str} {es : List PyData} : (w = "and" ∨ w = "or") → es.length ≤ 3 → (∀ x ∈ es, Dn ts e bs x) → Dn ts (e + 1) bs (.tuple [.str w, .tuple es])
  | bind {e : Nat} {bs : List Str} {w : Str} {fs : List Str} {x : PyData} : (w = "some" ∨ w = "all") → 1 ≤ fs.length → fs.length ≤ 2 → fs.Nodup → (∀ f ∈ fs, f ∈ caps ∧ f ∉ bs) → Dn ts e (bs ++ fs) x → Dn ts (e + 1) bs (.tuple [.str w, .tuple (fs.map PyData.str), x])
section
variable {ts : List Str} (T : ∀ x ∈ ts, x ∈ lows)
theorem strs_tup (fs : List Str) : strsD (.tuple (fs.map PyData.str)) = fs := by
  show (fs.map PyData.str).filterMap unS = fs
  induction fs with
  | nil => rfl
  | cons f r ih => exact congrArg (f :: ·) ih
theorem bindsL_map {bs : List Str} (C : ∀ f, f ∈ caps → boundNameD (.str f) = true) : ∀ (fs before : List Str), (before ++ fs).Nodup → (∀ f ∈ fs, f ∈ caps ∧ f ∉ bs) → bindsL bs before (fs.map PyData.str) = true
  | [], _, _, _ => rfl
  | f :: r, before, nd, h => by
    obtain ⟨h1, h2⟩ := h f (List.mem_cons_self ..)
    have nf : f ∉ before := by
      obtain ⟨_, _, n3⟩ := List.nodup_append.mp nd
      exact fun z => n3 f z f (List.mem_cons_self ..) rfl
    show (boundNameD (.str f) && !decide (f ∈ bs) && !decide (f ∈ before) && bindsL bs (before ++ [f]) (r.map PyData.str)) = true
    rw [C f h1, decide_eq_false h2, decide_eq_false nf, bindsL_map C r (before ++ [f]) (by rw [List.append_assoc]; exact nd) fun g hg => h g (List.mem_cons_of_mem _ hg)]
    rfl
theorem caps_bound {f : Str} (h : f ∈ caps) : boundNameD (.str f) = true := by
  obtain ⟨⟨h1, _⟩, h2⟩ := caps_ok f h
  show (saidNameD (.str f) && bigD (.str f)) = true
  rw [h1]
  exact h2
theorem said_rowN {x : Str} (h : NameOk x) : rowNameD (.str x) = true := said_row h.1
include T in
theorem side_ok {bs : List Str} (S : ∀ x ∈ bs, x ∈ caps) {a : Option Str} (h : ∀ x, a = some x → x ∈ ts ++ bs) : sideD (oD a) = true ∧ sideB bs (oD a) = true := by
  cases a with
  | none => exact ⟨rfl, rfl⟩
  | some x =>
    rcases List.mem_append.mp (h x rfl) with m | m
    · obtain ⟨k, hb⟩ := lows_ok x (T x m)
      refine ⟨said_rowN k, ?_⟩
      show ((saidNameD (.str x) && !bigD (.str x)) || decide (x ∈ bs)) = true
      have hb : bigD (.str x) = false := hb
      rw [k.1, hb]
      rfl
    · obtain ⟨k, hb⟩ := caps_ok x (S x m)
      refine ⟨said_rowN k, ?_⟩
      show ((saidNameD (.str x) && !bigD (.str x)) || decide (x ∈ bs)) = true
      rw [decide_eq_true m, Bool.or_true]
theorem side_neq {a b : Option Str} (h : a ≠ b) : sideEq (oD a) (oD b) = false := by
  cases a with
  | none =>
    cases b with
    | none => exact absurd rfl h
    | some y => rfl
  | some x =>
    cases b with
    | none => rfl
    | some y => exact decide_eq_false fun e => h (congrArg some e)
include T in
theorem Dn.fits {e : Nat} {bs : List Str} {d : PyData} (h : Dn ts e bs d) : (∀ x ∈ bs, x ∈ caps) → ∀ k, e + 1 ≤ k → fitsN k bs d = true := by
  induction h with
  | @row e bs a b c ne ha hb c1 c2 =>
    intro S k hk
    obtain ⟨k, rfl⟩ : ∃ k', k = k' + 1 := ⟨k - 1, by omega⟩
    obtain ⟨a1, a2⟩ := side_ok T S ha
    obtain ⟨b1, b2⟩ := side_ok T S hb
    show (sideD (oD a) && sideD (oD b) && !sideEq (oD a) (oD b) && isNum (.int c) && sideB bs (oD a) && sideB bs (oD b)) = true
    rw [a1, a2, b1, b2, side_neq ne]
    rfl
  | @no e bs x hx ih =>
    intro S k hk
    obtain ⟨k, rfl⟩ : ∃ k', k = k' + 1 := ⟨k - 1, by omega⟩
    exact ih S k (by omega)
  | @many e bs w es hw hl hes ih =>
    intro S k hk
    obtain ⟨k, rfl⟩ : ∃ k', k = k' + 1 := ⟨k - 1, by omega⟩
    have : es.all (fitsN k bs) = true := List.all_eq_true.mpr fun x hx => ih x hx S k (by omega)
    rcases hw with rfl | rfl <;> exact this
  | @bind e bs w fs x hw l1 l2 nd hf hx ih =>
    intro S k hk
    obtain ⟨k, rfl⟩ : ∃ k', k = k' + 1 := ⟨k - 1, by omega⟩
    have S' : ∀ y ∈ bs ++ fs, y ∈ caps := fun y hy => (List.mem_append.mp hy).elim (S y) fun m => (hf y m).1
    have b0 : bindsL bs [] (fs.map PyData.str) = true := bindsL_map (fun f h => caps_bound h) fs [] (by simpa using nd) hf
    have b1 : bindsD bs (.tuple (fs.map PyData.str)) = true := by
      show (decide ((1 : Int) ≤ ((fs.map PyData.str).length : Nat)) && decide ((((fs.map PyData.str).length : Nat) : Int) ≤ 4) && bindsL bs [] (fs.map PyData.str)) = true
      rw [List.length_map, b0, decide_eq_true (by omega), decide_eq_true (by omega)]
      rfl
    have f1 : fitsN k (bs ++ strsD (.tuple (fs.map PyData.str))) x = true := by
      rw [strs_tup]
      exact ih S' k (by omega)
    have : (bindsD bs (.tuple (fs.map PyData.str)) && fitsN k (bs ++ strsD (.tuple (fs.map PyData.str))) x) = true := by
      rw [b1, f1]
      rfl
    rcases hw with rfl | rfl <;> exact this
def p3 : Nat → Nat
  | 0 => 2
  | e + 1 => 3 * p3 e
def bnN : Nat → Nat
  | 0 => 0
  | e + 1 => 3 * bnN e + 2
def wN : Nat → Nat
  | 0 => 70
  | e + 1 => 3 * wN e + 70
theorem absI_le {c : Int} (h1 : -9 ≤ c) (h2 : c ≤ 9) : absI c ≤ 9 := by
  unfold absI
  split <;> omega
theorem flat_le {α : Type} {f : PyData → List α} {m : Nat} : ∀ {es : List PyData}, (∀ x ∈ es, (f x).length ≤ m) → ((es.map f).flatten).length ≤ es.length * m
  | [], _ => by simp
  | e :: r, h => by
    have h1 := h e (List.mem_cons_self ..)
    have h2 := flat_le (es := r) fun x hx => h x (List.mem_cons_of_mem _ hx)
    rw [List.map_cons, List.flatten_cons, List.length_append, List.length_cons, Nat.succ_mul]
    omega
theorem txts_len (rs : List PyData) : (txts rs).length ≤ 2 * rs.length := by
  have : ∀ rs : List PyData, (rs.flatMap sidesD).length ≤ 2 * rs.length := by
    intro rs
    induction rs with
    | nil => exact Nat.zero_le _
    | cons d r ih =>
      rw [List.flatMap_cons, List.length_append, List.length_cons]
      have : (sidesD d).length ≤ 2 := by unfold sidesD; split <;> first | exact Nat.le_refl 2 | exact Nat.zero_le 2
      omega
  exact Nat.le_trans (List.length_filterMap_le _ _) (this rs)
/-- the sizes -/
theorem Dn.sizes {e : Nat} {bs : List Str} {d : PyData} (h : Dn ts e bs d) : ∀ k, e + 1 ≤ k → (namesN k d).length ≤ p3 e ∧ 2 * (rowsN k d).length ≤ p3 e ∧ (boundN k d).length ≤ bnN e ∧ greatN k d ≤ 9 ∧ 0 ≤ greatN k d := by
  have p0 : ∀ e, 2 ≤ p3 e := by
    intro e
    induction e with
    | zero => exact Nat.le_refl _
    | succ e ih =>
      show 2 ≤ 3 * p3 e
      omega
  induction h with
  | @row e bs a b c ne ha hb c1 c2 =>
    intro k hk
    obtain ⟨k, rfl⟩ : ∃ k', k = k' + 1 := ⟨k - 1, by omega⟩
    have := p0 e
    refine ⟨?_, ?_, Nat.zero_le _, absI_le c1 c2, absI_nn c⟩
    · rw [names_row]
      exact Nat.le_trans (unS_len _) this
    · rw [rows_row]
      exact this
  | @no e bs x hx ih =>
    intro k hk
    obtain ⟨k, rfl⟩ : ∃ k', k = k' + 1 := ⟨k - 1, by omega⟩
    obtain ⟨h1, h2, h3, h4, h5⟩ := ih k (by omega)
    rw [names_no, rows_no, bound_no, great_no]
    refine ⟨?_, ?_, ?_, h4, h5⟩
    · show _ ≤ 3 * p3 e
      omega
    · show _ ≤ 3 * p3 e
      omega
    · show _ ≤ 3 * bnN e + 2
      omega
  | @many e bs w es hw hl hes ih =>
    intro k hk
    obtain ⟨k, rfl⟩ : ∃ k', k = k' + 1 := ⟨k - 1, by omega⟩
    rw [names_many hw, rows_many hw, bound_many hw, great_many hw]
    have f1 := flat_le (f := namesN k) (m := p3 e) fun x hx => (ih x hx k (by omega)).1
    have f2 := flat_le (f := rowsN k) (m := p3 e / 2) fun x hx => by
      have := (ih x hx k (by omega)).2.1
      omega
    have f3 := flat_le (f := boundN k) (m := bnN e) fun x hx => (ih x hx k (by omega)).2.2.1
    have m1 : es.length * p3 e ≤ 3 * p3 e := Nat.mul_le_mul_right _ hl
    have m2 : es.length * (p3 e / 2) ≤ 3 * (p3 e / 2) := Nat.mul_le_mul_right _ hl
    have m3 : es.length * bnN e ≤ 3 * bnN e := Nat.mul_le_mul_right _ hl
    refine ⟨?_, ?_, ?_, ?_, ?_⟩
    · show _ ≤ 3 * p3 e
      omega
    · show _ ≤ 3 * p3 e
      omega
    · show _ ≤ 3 * bnN e + 2
      omega
    · have key : ∀ l : List PyData, (∀ x ∈ l, greatN k x ≤ 9 ∧ 0 ≤ greatN k x) → maxL (l.map (greatN k)) ≤ 9 := by
        intro l
        induction l with
        | nil => exact fun _ => (show (0 : Int) ≤ 9 by decide)
        | cons x r ih2 =>
          intro hl
          obtain ⟨a1, a2⟩ := hl x (List.mem_cons_self ..)
          rw [List.map_cons, maxL_cons _ _ a2]
          have := ih2 fun y hy => hl y (List.mem_cons_of_mem _ hy)
          omega
      exact key es fun x hx => ⟨(ih x hx k (by omega)).2.2.2.1, (ih x hx k (by omega)).2.2.2.2⟩
    · exact maxL_nn _
  | @bind e bs w fs x hw l1 l2 nd hf hx ih =>
    intro k hk
    obtain ⟨k, rfl⟩ : ∃ k', k = k' + 1 := ⟨k - 1, by omega⟩
    obtain ⟨h1, h2, h3, h4, h5⟩ := ih k (by omega)
    rw [names_bind, rows_bind, bound_bind, great_bind, strs_tup]
    have := List.length_filter_le (fun t => !decide (t ∈ fs)) (namesN k x)
    refine ⟨?_, ?_, ?_, h4, h5⟩
    · show _ ≤ 3 * p3 e
      omega
    · show _ ≤ 3 * p3 e
      omega
    · rw [List.length_append]
      show _ ≤ 3 * bnN e + 2
      omega
end
end Lm
/-! Data with dicts, apart from the state of the draws; repr of it. -/
namespace Lm
open PySem PySem.Spec PyProof.Rows L2
def keyD : Key → PyData
  | .inl i => .int i
  | .inr x => .str x
/-- a dict: its keys as data, its values -/
def DicAt (P : Program) (w : World) (H : Hp) (a : Addr) (ks : List PyData) (vs : List V) : Prop :=
  ∃ kvs : List (Key × V), H a = some (.dK kvs) ∧ ks = kvs.map (fun p => keyD p.1) ∧ vs = kvs.map (·.2)
theorem DicAt.fr {P : Program} {w : World} {D : DrA} {H H' : Hp} {a : Addr} {ks : List PyData} {vs : List V} (h : DicAt P w H a ks vs) (f : FrT D H H') (n1 : a ≠ D.d) (n2 : a ≠ D.w) : DicAt P w H' a ks vs := by
  obtain ⟨kvs, e, r⟩ := h
  exact ⟨kvs, f _ _ e n1 n2 (fun _ z => by cases z), r⟩
theorem DicAt.len {P : Program} {w : World} {H : Hp} {a : Addr} {ks : List PyData} {vs : List V} (h : DicAt P w H a ks vs) : ks.length = vs.length := by
  obtain ⟨kvs, _, rfl, rfl⟩ := h
  rw [List.length_map, List.length_map]
mutual
inductive Gd (P : Program) (w : World) (D : DrA) (H : Hp) : V → PyData → Prop
  | non : Gd P w D H .non .none
  | bl (b : Bool) : Gd P w D H (.bl b) (.bool b)
  | int (i : Int) : Gd P w D H (.int i) (.int i)
  | str (x : Str) : Gd P w D H (.str x) (.str x)
  | lst {a : Addr} {xs : List V} {ds : List PyData} : H a = some (.lst xs) → a ≠ D.d → a ≠ D.w → GdAll P w D H xs ds → Gd P w D H (.ref a) (.list ds)
  | tup {a : Addr} {xs : List V} {ds : List PyData} : H a = some (.tup xs) → a ≠ D.d → a ≠ D.w → GdAll P w D H xs ds → Gd P w D H (.ref a) (.tuple ds)
  | dic {a : Addr} {ks : List PyData} {vs : List V} {ds : List PyData} : DicAt P w H a ks vs → a ≠ D.d → a ≠ D.w → GdAll P w D H vs ds → Gd P w D H (.ref a) (.dict (ks.zip ds))
inductive GdAll (P : Program) (w : World) (D : DrA) (H : Hp) : List V → List PyData → Prop
  | nil : GdAll P w D H [] []
  | cons {v : V} {vs : List V} {d : PyData} {ds : List PyData} : Gd P w D H v d → GdAll P w D H vs ds → GdAll P w D H (v :: vs) (d :: ds)
end
section
variable {P : Program} {w : World} {D : DrA} {H H' : Hp}
mutual
theorem Gd.fr (f : FrT D H H') : ∀ {d : PyData} {v : V}, Gd P w D H v d → Gd P w D H' v d
  | _, _, .non => .non
  | _, _, .bl b => .bl b
  | _, _, .int i => .int i
  | _, _, .str x => .str x
  | _, _, .lst h n1 n2 ha => .lst (f _ _ h n1 n2 (fun _ z => by cases z)) n1 n2 (GdAll.fr f ha)
  | _, _, .tup h n1 n2 ha => .tup (f _ _ h n1 n2 (fun _ z => by cases z)) n1 n2 (GdAll.fr f ha)
  | _, _, .dic h n1 n2 ha => .dic (h.fr f n1 n2) n1 n2 (GdAll.fr f ha)
theorem GdAll.fr (f : FrT D H H') : ∀ {ds : List PyData} {vs : List V}, GdAll P w D H vs ds → GdAll P w D H' vs ds
  | _, _, .nil => .nil
  | _, _, .cons h ha => .cons (Gd.fr f h) (GdAll.fr f ha)
end
theorem Gd.sm {v : V} {d : PyData} (h : Gd P w D H v d) (s : Same H H') : Gd P w D H' v d := h.fr (Fr.t (.of s))
theorem GdAll.sm {vs : List V} {ds : List PyData} (h : GdAll P w D H vs ds) (s : Same H H') : GdAll P w D H' vs ds := h.fr (Fr.t (.of s))
theorem GdAll.length : ∀ {ds : List PyData} {vs : List V}, GdAll P w D H vs ds → vs.length = ds.length
  | _, _, .nil => rfl
  | _, _, .cons _ ha => congrArg Nat.succ (GdAll.length ha)
theorem GdAll.get : ∀ {ds : List PyData} {vs : List V} {i : Nat} {v : V}, GdAll P w D H vs ds → vs[i]? = some v → ∃ d, ds[i]? = some d ∧ Gd P w D H v d
  | _, _, _, _, .nil, e => by simp at e
  | _, _, 0, _, .cons h _, e => by
    simp at e
    subst e
    exact ⟨_, rfl, h⟩
  | _, _, i + 1, _, .cons _ ha, e => by
    obtain ⟨d, h1, h2⟩ := GdAll.get (i := i) ha (by simpa using e)
    exact ⟨d, by simpa using h1, h2⟩
theorem GdAll.app : ∀ {ds es : List PyData} {vs ws : List V}, GdAll P w D H vs ds → GdAll P w D H ws es → GdAll P w D H (vs ++ ws) (ds ++ es)
  | _, _, _, _, .nil, h => h
  | _, _, _, _, .cons a b, h => .cons a (GdAll.app b h)
mutual
theorem Da.gd : ∀ {d : PyData} {v : V}, Da D H v d → Gd P w D H v d
  | _, _, .non => .non
  | _, _, .bl b => .bl b
  | _, _, .int i => .int i
  | _, _, .str x => .str x
  | _, _, .lst h n1 n2 ha => .lst h n1 n2 (DaAll.gd ha)
  | _, _, .tup h n1 n2 ha => .tup h n1 n2 (DaAll.gd ha)
  | _, _, .emp h n1 n2 => .dic (ks := []) (vs := []) (ds := []) ⟨[], h, rfl, rfl⟩ n1 n2 .nil
theorem DaAll.gd : ∀ {ds : List PyData} {vs : List V}, DaAll D H vs ds → GdAll P w D H vs ds
  | _, _, .nil => .nil
  | _, _, .cons h ha => .cons (Da.gd h) (DaAll.gd ha)
end
end
/-! ### reads -/
section
variable {X : Cx} {pins : List (Addr × Obj)} {σ : L2.St} {H : Hp} {s : Shared} {D : DrA}
/-- what is tracked is not the table of the modules -/
theorem not_mods (hm : ∃ o, X.base.get? sysModules = some o) (I : Inv X pins σ H s) {a : Addr} {o : HO} (h : H a = some o) : a ≠ sysModules := by
  rintro rfl
  obtain ⟨u, hu⟩ := hm
  have := (I.bs _ _ hu).2
  rw [h] at this
  cases this
theorem zip_fst {ks ds : List PyData} (h : ks.length = ds.length) : (ks.zip ds).map (·.1) = ks := by
  induction ks generalizing ds with
  | nil => cases ds <;> rfl
  | cons k r ih =>
    cases ds with
    | nil => cases h
    | cons d t => rw [List.zip_cons_cons, List.map_cons, ih (Nat.succ.inj h)]
theorem zip_snd {ks ds : List PyData} (h : ks.length = ds.length) : (ks.zip ds).map (·.2) = ds := by
  induction ks generalizing ds with
  | nil =>
    cases ds with
    | nil => rfl
    | cons d t => cases h
  | cons k r ih =>
    cases ds with
    | nil => cases h
    | cons d t => rw [List.zip_cons_cons, List.map_cons, ih (Nat.succ.inj h)]
theorem reads_key {h : Heap} {k : Key} {u : Value} (e : keyIs k u = true) : Reads h u (keyD k) [] := by
  rcases keyIs_shape e with ⟨i, t, rfl, rfl⟩ | ⟨x, t, rfl, rfl⟩
  · exact .int i t
  · exact .str x t
theorem reads_keys {κ : Type} [DecidableEq κ] {prog : Program} {w : World} {knd : KeyKind prog w κ} {h : Heap} {kD : κ → PyData} (hk : ∀ k u, knd.is k u = true → Reads h u (kD k) []) : ∀ {es : List DictEntry} {vs : List (κ × Value)}, Pairs knd es vs → ∀ {kvs : List (κ × V)}, KV kvs vs →
    ReadsAll h (es.map (·.key)) (kvs.map fun p => kD p.1) [] ∧ Vals (kvs.map (·.2)) (es.map (·.val)) := by
  intro es vs p
  induction p with
  | nil =>
    intro kvs r
    cases r
    exact ⟨.nil, .nil⟩
  | cons h1 h2 h3 ih =>
    intro kvs r
    cases r with
    | cons r1 r2 =>
      obtain ⟨a, b⟩ := ih r2
      refine ⟨?_, ?_⟩
      · have := ReadsAll.cons (hk _ _ h1) a
        rw [← r1.1] at this
        exact this
      · refine .cons ?_ b
        have r := r1.2
        rw [← h2] at r
        exact r
theorem DicAt.reads (I : Inv X pins σ H s) {a : Addr} {ks : List PyData} {vs : List V} (h : DicAt X.prog X.w H a ks vs) :
    ∃ (o : Obj) (es : Array DictEntry) (n : Nat), s.heap.get? a = some o ∧ o.cls = .type "dict" ∧ o.data = .dict es n ∧ ReadsAll s.heap (es.toList.map (·.key)) ks [] ∧ Vals vs (es.toList.map (·.val)) := by
  obtain ⟨kvs, ha, rfl, rfl⟩ := h
  obtain ⟨z, hd, us, rel, o, es, ep, h1, h2, h3, _, h5, _⟩ := dk_of I.hok ha
  obtain ⟨r1, r2⟩ := reads_keys (h := s.heap) (kD := keyD) (fun k u e => reads_key e) h5 rel
  exact ⟨o, es, ep, h1, h2.1, h3, r1, r2⟩
theorem DicAt.not_mods (I : Inv X pins σ H s) {a : Addr} {ks : List PyData} {vs : List V} (h : DicAt X.prog X.w H a ks vs) : a ≠ sysModules := by
  obtain ⟨kvs, ha, rfl, rfl⟩ := h
  exact beq_eq_false_iff_ne.mp (dk_of I.hok ha).2.1
mutual
theorem Gd.reads (hm : ∃ o, X.base.get? sysModules = some o) (I : Inv X pins σ H s) : ∀ {d : PyData} {v : V} {u : Value}, Gd X.prog X.w D H v d → RelV v u → ∃ as, Reads s.heap u d as ∧ sysModules ∉ as
  | _, _, _, .non, r => by
    cases r
    exact ⟨_, .none, by simp⟩
  | _, _, _, .bl b, r => by
    cases r
    exact ⟨_, .bool b, by simp⟩
  | _, _, _, .int i, r => by
    obtain ⟨t, rfl⟩ := r
    exact ⟨_, .int i t, by simp⟩
  | _, _, _, .str x, r => by
    obtain ⟨t, rfl⟩ := r
    exact ⟨_, .str x t, by simp⟩
  | _, _, _, .lst h _ _ ha, r => by
    cases r
    obtain ⟨its, rv, ⟨o, n, ho, hc, _, hd⟩, _⟩ := I.list (SqL.of h)
    obtain ⟨as, hr, hn⟩ := GdAll.reads hm I ha rv
    refine ⟨_, .list ho hc hd hr, fun z => ?_⟩
    rcases List.mem_cons.mp z with z | z
    · exact not_mods hm I h z.symm
    · exact hn z
  | _, _, _, .tup h _ _ ha, r => by
    cases r
    obtain ⟨its, rv, ⟨o, ho, hc, n, hd⟩, _⟩ := I.tuple (SqT.of h)
    obtain ⟨as, hr, hn⟩ := GdAll.reads hm I ha rv
    exact ⟨_, .tuple ho hc hd hr, hn⟩
  | _, _, _, .dic h _ _ ha, r => by
    cases r
    obtain ⟨o, es, n, h1, h2, h3, h4, h5⟩ := h.reads I
    obtain ⟨as, hr, hn⟩ := GdAll.reads hm I ha h5
    have hl : _ = _ := h.len.trans ha.length
    have n0 := h.not_mods I
    refine ⟨_, .dict h1 h2 h3 (by rw [zip_fst hl]; exact h4) (by rw [zip_snd hl]; exact hr), fun z => ?_⟩
    have z : sysModules ∈ _ :: _ := z
    rcases List.mem_cons.mp z with z | z
    · exact n0 z.symm
    · exact hn z
theorem GdAll.reads (hm : ∃ o, X.base.get? sysModules = some o) (I : Inv X pins σ H s) : ∀ {ds : List PyData} {vs : List V} {us : List Value}, GdAll X.prog X.w D H vs ds → Vals vs us → ∃ as, ReadsAll s.heap us ds as ∧ sysModules ∉ as
  | _, _, _, .nil, r => by
    cases r
    exact ⟨_, .nil, by simp⟩
  | _, _, _, .cons h ha, r => by
    cases r with
    | cons r1 r2 =>
      obtain ⟨as, q1, n1⟩ := Gd.reads hm I h r1
      obtain ⟨bs, q2, n2⟩ := GdAll.reads hm I ha r2
      refine ⟨_, .cons q1 q2, fun z => ?_⟩
      rcases List.mem_append.mp z with z | z
      · exact n1 z
      · exact n2 z
end
end
/-! ### what repr can tell -/
structure Sz (N m : Nat) (d : PyData) : Prop where
  w : d.weight ≤ N
  p : d.depth ≤ m
  l : d.leavesShort 13 = true
  s : d.showable = true
  sh : shortD d = true
  la : d.canLay0 = true
structure SzA (N m : Nat) (ds : List PyData) : Prop where
  w : PyData.weightAll ds ≤ N
  p : PyData.depthAll ds ≤ m
  l : PyData.leavesShortAll 13 ds = true
  s : PyData.showableAll ds = true
  sh : shortAll ds = true
  la : PyData.canLayAll0 ds = true
theorem Sz.mono {N m N' m' : Nat} {d : PyData} (h : Sz N m d) (a : N ≤ N') (b : m ≤ m') : Sz N' m' d := ⟨Nat.le_trans h.w a, Nat.le_trans h.p b, h.l, h.s, h.sh, h.la⟩
theorem SzA.mono {N m N' m' : Nat} {d : List PyData} (h : SzA N m d) (a : N ≤ N') (b : m ≤ m') : SzA N' m' d := ⟨Nat.le_trans h.w a, Nat.le_trans h.p b, h.l, h.s, h.sh, h.la⟩
theorem szA_nil {m : Nat} : SzA 0 m [] := ⟨Nat.le_refl _, Nat.zero_le _, rfl, rfl, rfl, by simp [PyData.canLayAll0]⟩
theorem szA_cons {N M m : Nat} {d : PyData} {ds : List PyData} (h : Sz N m d) (t : SzA M m ds) : SzA (N + 1 + M) m (d :: ds) := by
  refine ⟨?_, ?_, ?_, ?_, ?_, ?_⟩
  · show d.weight + 1 + PyData.weightAll ds ≤ _
    have := h.w
    have := t.w
    omega
  · show max d.depth (PyData.depthAll ds) ≤ _
    have := h.p
    have := t.p
    omega
  · show (d.leavesShort 13 && PyData.leavesShortAll 13 ds) = true
    rw [h.l, t.l]
    rfl
  · show (d.showable && PyData.showableAll ds) = true
    rw [h.s, t.s]
    rfl
  · show (shortD d && shortAll ds) = true
    rw [h.sh, t.sh]
    rfl
  · simp only [PyData.canLayAll0, h.la, t.la, Bool.and_self]
theorem sz_tup {N m : Nat} {ds : List PyData} (h : SzA N m ds) : Sz N (m + 1) (.tuple ds) := by
  refine ⟨h.w, ?_, h.l, h.s, h.sh, by simpa only [PyData.canLay0] using h.la⟩
  show PyData.depthAll ds + 1 ≤ m + 1
  have := h.p
  omega
theorem sz_lst {N m : Nat} {ds : List PyData} (h : SzA N m ds) : Sz N (m + 1) (.list ds) := by
  refine ⟨h.w, ?_, h.l, h.s, h.sh, by simpa only [PyData.canLay0] using h.la⟩
  show PyData.depthAll ds + 1 ≤ m + 1
  have := h.p
  omega
theorem szA_all {N m : Nat} : ∀ {ds : List PyData}, (∀ d ∈ ds, Sz N m d) → SzA (ds.length * (N + 1)) m ds
  | [], _ => by rw [List.length_nil, Nat.zero_mul]; exact szA_nil
  | d :: r, h => by
    have := szA_cons (h d (List.mem_cons_self ..)) (szA_all fun x hx => h x (List.mem_cons_of_mem _ hx))
    rw [List.length_cons, Nat.succ_mul, Nat.add_comm]
    exact this
theorem sz_non : Sz 0 0 .none := ⟨Nat.le_refl _, Nat.le_refl _, rfl, rfl, rfl, by simp [PyData.canLay0]⟩
theorem sz_bool (b : Bool) : Sz 0 0 (.bool b) := ⟨Nat.le_refl _, Nat.le_refl _, rfl, rfl, rfl, by simp [PyData.canLay0]⟩
theorem sz_str {x : Str} {L : Nat} (ok : PyData.strOk x = true) (hl : x.length ≤ L) (h1 : L ≤ 1000) : Sz L 0 (.str x) := by
  refine ⟨hl, Nat.le_refl _, ?_, rfl, decide_eq_true (by omega), by simpa only [PyData.canLay0] using ok⟩
  show (x.cps.toList.all fun c => decide (c < 16 ^ 8)) = true
  have ok : (x.cps.all fun c => decide (c < 1114112)) = true := ok
  rw [← Array.all_toList, List.all_eq_true] at ok
  rw [List.all_eq_true]
  intro c hc
  have h := of_decide_eq_true (ok c hc)
  have : (16 : Nat) ^ 8 = 4294967296 := by decide
  exact decide_eq_true (by omega)
theorem sz_int {i : Int} (h : i.natAbs < 10 ^ 12) : Sz 40 0 (.int i) := by
  have e : (10 : Nat) ^ 12 = 1000000000000 := by decide
  have h40 : i.natAbs < 2 ^ 40 := Nat.lt_of_lt_of_le h (by decide)
  have lg : i.natAbs ≠ 0 → i.natAbs.log2 < 40 := fun z => (Nat.log2_lt z).mpr h40
  refine ⟨?_, Nat.le_refl _, ?_, ?_, rfl, by simp [PyData.canLay0]⟩
  · show (if i == 0 then 0 else i.natAbs.log2 + 1) ≤ 40
    split
    · exact Nat.zero_le _
    · rename_i z
      have : i.natAbs ≠ 0 := fun q => z (by simpa using Int.natAbs_eq_zero.mp q)
      have := lg this
      omega
  · refine decide_eq_true ?_
    have := int_text_length_le10 (a := i) (k := 12) (by decide) h
    show (Str.ofString (toString i)).length ≤ 13
    rw [PySem.ofString_length]
    exact this
  · refine decide_eq_true ?_
    by_cases z : i.natAbs = 0
    · rw [z]
      decide
    · have := lg z
      omega
theorem sz_dic {A B m : Nat} : ∀ {kvs : List (PyData × PyData)}, (∀ p ∈ kvs, Sz A m p.1 ∧ Sz B m p.2) → PyData.weightKv kvs ≤ kvs.length * (A + B + 2) ∧ PyData.depthKv kvs ≤ m ∧ PyData.leavesShortKv 13 kvs = true ∧ PyData.showableKv kvs = true
  | [], _ => ⟨by simp [PyData.weightKv], Nat.zero_le _, rfl, rfl⟩
  | (k, v) :: r, h => by
    obtain ⟨hk, hv⟩ := h (k, v) (List.mem_cons_self ..)
    obtain ⟨a, b, c, d⟩ := sz_dic (A := A) (B := B) (m := m) fun p hp => h p (List.mem_cons_of_mem _ hp)
    refine ⟨?_, ?_, ?_, ?_⟩
    · show k.weight + v.weight + 2 + PyData.weightKv r ≤ (r.length + 1) * (A + B + 2)
      have := hk.w
      have := hv.w
      rw [Nat.succ_mul]
      dsimp only at *
      omega
    · show max (max k.depth v.depth) (PyData.depthKv r) ≤ m
      have := hk.p
      have := hv.p
      dsimp only at *
      omega
    · show (k.leavesShort 13 && v.leavesShort 13 && PyData.leavesShortKv 13 r) = true
      rw [hk.l, hv.l, c]
      rfl
    · show (k.showable && v.showable && PyData.showableKv r) = true
      rw [hk.s, hv.s, d]
      rfl
structure Sh (N m : Nat) (d : PyData) : Prop where
  w : d.weight ≤ N
  p : d.depth ≤ m
  l : d.leavesShort 13 = true
  s : d.showable = true
theorem Sz.to {N m : Nat} {d : PyData} (h : Sz N m d) (a : N ≤ 2 ^ 20) (b : m ≤ 60) : Sh (2 ^ 20) 60 d := ⟨Nat.le_trans h.w a, Nat.le_trans h.p b, h.l, h.s⟩
theorem sh_dict {A B m : Nat} {kvs : List (PyData × PyData)} (h : ∀ p ∈ kvs, Sz A m p.1 ∧ Sz B m p.2) (hl : kvs.length * (A + B + 2) ≤ 2 ^ 20) (hm : m + 1 ≤ 60) : Sh (2 ^ 20) 60 (.dict kvs) := by
  obtain ⟨a, b, c, d⟩ := sz_dic h
  refine ⟨Nat.le_trans a hl, ?_, c, d⟩
  show PyData.depthKv kvs + 1 ≤ 60
  omega
theorem Sh.fits {N m : Nat} {d : PyData} (h : Sh N m d) (hN : N ≤ 2 ^ 20) : d.shown.length ≤ sizeLine := PyData.shown_fits (B := 13) (by decide) (by decide) h.l (Nat.le_trans h.w hN)
theorem call_reprG {X : Cx} {P : Program} {w : World} (hg : X.A.guards = some []) (hu : X.A.units + 64 < cLine) (hm : ∃ o, X.base.get? sysModules = some o) (hP : X.prog = P := by rfl) (hw : X.w = w := by rfl) :
    CallR X (.builtin "repr") (fun xs H Q => ∃ (v : V) (D : DrA) (d : PyData), xs = [v] ∧ Gd P w D H v d ∧ Sh (2 ^ 20) 60 d ∧ Q (.str d.shown) H) := by
  subst hP hw
  intro pins s σ H xs us Q I r h
  obtain ⟨v, D, d, rfl, hd, sh, q⟩ := h
  obtain ⟨u, rfl, rx⟩ := vals1 r
  obtain ⟨as, rd, hn⟩ := hd.reads hm I rx
  have hp := sh.p
  cases v with
  | ref a =>
    cases rx
    exact repr_of_reads' rd sh.s (fun _ => hn) hg (by omega) (fun _ _ e => e) (fun h' u tk hk => ⟨.str d.shown, H, I.kept (t' := tk) hk, ⟨_, rfl⟩, q⟩) (sh.fits (Nat.le_refl _))
  | non =>
    cases hd
    obtain rfl : u = Value.none := rx
    exact PySem.P.repr_of_none ⟨.str "None", H, I.tok _, ⟨_, rfl⟩, q⟩
  | int i =>
    cases hd
    obtain ⟨t, rfl⟩ := rx
    have hs := sh.s
    have hi : i.natAbs.log2 < 1920 := of_decide_eq_true hs
    exact PySem.P.repr_of_int hi ⟨.str (toString i), H, I.tok _, ⟨_, rfl⟩, q⟩
  | bl b =>
    cases hd
    obtain rfl : u = Value.bool b := rx
    refine PySem.P.repr_of_bool ⟨.str (if b then "True" else "False"), H, I.tok _, ⟨_, rfl⟩, ?_⟩
    cases b <;> exact q
  | str x =>
    cases hd
    obtain ⟨t, rfl⟩ := rx
    exact PySem.P.repr_of_str ⟨.str (reprText x), H, I.tok _, ⟨_, rfl⟩, q⟩ (sh.fits (Nat.le_refl _))
  | byt _ => cases hd
  | flt _ => cases hd
  | ty _ => cases hd
/-! ### drawn sayings -/
theorem sz_name {x : Str} (h : NameOk x) : Sz 20 0 (.str x) := sz_str h.2.1 h.2.2 (by decide)
def wM : Nat → Nat
  | 0 => 110
  | e + 1 => 3 * wM e + 70
theorem sz_word {w : Str} (h : PyData.strOk w = true ∧ w.length ≤ 4) : Sz 4 0 (.str w) := sz_str h.1 h.2 (by decide)
theorem sz_side {a : Option Str} (h : ∀ x, a = some x → NameOk x) : Sz 20 0 (oD a) := by
  cases a with
  | none => exact sz_non.mono (by decide) (Nat.le_refl _)
  | some x => exact sz_name (h x rfl)
theorem sz_small {c : Int} (h1 : -1000000 ≤ c) (h2 : c ≤ 1000000) : Sz 40 0 (.int c) := by
  refine sz_int ?_
  have e : (10 : Nat) ^ 12 = 1000000000000 := by decide
  omega
theorem Dn.sz {ts : List Str} (T : ∀ x ∈ ts, NameOk x) {e : Nat} {bs : List Str} {d : PyData} (h : Dn ts e bs d) : (∀ x ∈ bs, x ∈ caps) → Sz (wM e) (2 * e + 1) d := by
  induction h with
  | @row e bs a b c ne ha hb c1 c2 =>
    intro S
    have nm : ∀ {x}, x ∈ ts ++ bs → NameOk x := fun {x} m => (List.mem_append.mp m).elim (T x) fun m => (caps_ok x (S x m)).1
    have w0 : ∀ e, 110 ≤ wM e := by
      intro e
      induction e with
      | zero => exact Nat.le_refl _
      | succ e ih =>
        show 110 ≤ 3 * wM e + 70
        omega
    have := w0 e
    exact (sz_tup (szA_cons (sz_word (by decide +kernel)) (szA_cons (sz_side fun x e => nm (ha x e)) (szA_cons (sz_side fun x e => nm (hb x e)) (szA_cons (sz_small (c := c) (by omega) (by omega)) (szA_nil (m := 0))))))).mono (by omega) (by omega)
  | @no e bs x hx ih =>
    intro S
    refine (sz_tup (m := 2 * e + 1) (szA_cons ((sz_word (w := "not") (by decide +kernel)).mono (Nat.le_refl _) (Nat.zero_le _)) (szA_cons (ih S) szA_nil))).mono ?_ (by omega)
    show _ ≤ 3 * wM e + 70
    omega
  | @many e bs w es hw hl hes ih =>
    intro S
    have sw : Sz 4 0 (.str w) := sz_word (by rcases hw with rfl | rfl <;> decide +kernel)
    have sA := szA_all fun x hx => ih x hx S
    have m1 : es.length * (wM e + 1) ≤ 3 * (wM e + 1) := Nat.mul_le_mul_right _ hl
    refine (sz_tup (m := 2 * e + 2) (szA_cons (sw.mono (Nat.le_refl _) (Nat.zero_le _)) (szA_cons (sz_tup sA) szA_nil))).mono ?_ (by omega)
    show _ ≤ 3 * wM e + 70
    omega
  | @bind e bs w fs x hw l1 l2 nd hf hx ih =>
    intro S
    have S' : ∀ y ∈ bs ++ fs, y ∈ caps := fun y hy => (List.mem_append.mp hy).elim (S y) fun m => (hf y m).1
    have sw : Sz 4 0 (.str w) := sz_word (by rcases hw with rfl | rfl <;> decide +kernel)
    have sF : SzA ((fs.map PyData.str).length * (20 + 1)) (2 * e) (fs.map PyData.str) := szA_all fun d hd => by
      obtain ⟨f, hf', rfl⟩ := List.mem_map.mp hd
      exact (sz_name (caps_ok f (hf f hf').1).1).mono (Nat.le_refl _) (Nat.zero_le _)
    rw [List.length_map] at sF
    have m1 : fs.length * (20 + 1) ≤ 2 * (20 + 1) := Nat.mul_le_mul_right _ l2
    refine (sz_tup (m := 2 * e + 1) (szA_cons (sw.mono (Nat.le_refl _) (Nat.zero_le _)) (szA_cons (sz_tup sF) (szA_cons (ih S') szA_nil)))).mono ?_ (by omega)
    show _ ≤ 3 * wM e + 70
    omega
end Lm
/-! _law_said. -/
namespace Lm
open PySem PySem.Spec PyProof.Rows L2
/-- all but the state and what stands at y stands -/
def FrY (D : DrA) (y : Addr) (H H' : Hp) : Prop := ∀ b o, H b = some o → b ≠ D.d → b ≠ D.w → b ≠ y → H' b = some o
theorem FrY.refl {D : DrA} {y : Addr} {H : Hp} : FrY D y H H := fun _ _ e _ _ _ => e
theorem FrY.of {D : DrA} {y : Addr} {H H' : Hp} (f : Fr D H H') : FrY D y H H' := fun b o e n1 n2 _ => f b o e n1 n2
theorem FrY.trans {D : DrA} {y : Addr} {H H1 H2 : Hp} (a : FrY D y H H1) (b : FrY D y H1 H2) : FrY D y H H2 := fun c o e n1 n2 n3 => b c o (a c o e n1 n2 n3) n1 n2 n3
theorem FrY.put {D : DrA} {y : Addr} {H H' : Hp} {o : HO} (f : FrY D y H H') : FrY D y H (upd H' y o) := fun b u e n1 n2 n3 => by
  rw [upd_ne n3]
  exact f b u e n1 n2 n3
theorem hidL_fy {D : DrA} {y : Addr} {zs : List Addr} {H H' : Hp} (m : y ∈ zs) (f : FrY D y H H') : FrT D (HidL zs H) (HidL zs H') := fun b o e n1 n2 _ => by
  obtain ⟨h1, h2⟩ := HidL.sub e
  exact HidL.of h1 (f b o h2 n1 n2 fun z => h1 (by rw [z]; exact m))
theorem Held.fy {D : DrA} {n : Nat} {y : Addr} {zs : List Addr} {H H' : Hp} (h : Held zs H) (f : FrY D y H H') (d : DrawAt D n H') (hy : ∃ o, H' y = some o) : Held zs H' := fun z hz => by
  obtain ⟨o, e⟩ := h z hz
  by_cases e1 : z = D.d
  · obtain ⟨_, _, _, _, h1, _⟩ := d
    exact ⟨_, by rw [e1]; exact h1⟩
  · by_cases e2 : z = D.w
    · obtain ⟨_, _, _, _, _, h2, _⟩ := d
      exact ⟨_, by rw [e2]; exact h2⟩
    · by_cases e3 : z = y
      · rw [e3]
        exact hy
      · exact ⟨o, f _ _ e e1 e2 e3⟩
theorem none_fy {D : DrA} {m : Nat} {y : Addr} {H H' : Hp} {p : Addr} (d : DrawAt D m H') (f : FrY D y H H') (hy : ∃ o, H' y = some o) (np : H' p = none) : H p = none := by
  cases e : H p with
  | none => rfl
  | some o =>
    obtain ⟨o1, o2⟩ := d.off np
    by_cases e3 : p = y
    · obtain ⟨o, hy⟩ := hy
      rw [e3, hy] at np
      cases np
    · rw [f _ _ e o1 o2 e3] at np
      cases np
theorem cut_to' {xs : List V} {i : Nat} : cutV xs none (some ((i : Nat) : Int)) = xs.take i := by
  have e : HT.sIx xs.length xs.length (some ((i : Nat) : Int)) = min i xs.length := by
    rw [HT.sIx_nat]
  unfold cutV
  rw [e]
  simp [HT.sIx]
theorem perm_some {ys : List (Option Str)} {l : List Str} (h : ys.Perm (l.map some)) : ∃ zs : List Str, ys = zs.map some ∧ zs.Perm l := by
  refine ⟨ys.filterMap id, ?_, ?_⟩
  · have all : ∀ y ∈ ys, ∃ x, y = some x := fun y hy => by
      obtain ⟨x, _, e⟩ := List.mem_map.mp (h.mem_iff.mp hy)
      exact ⟨x, e.symm⟩
    clear h
    induction ys with
    | nil => rfl
    | cons y r ih =>
      obtain ⟨x, rfl⟩ := all y (List.mem_cons_self ..)
      show some x :: r = (x :: r.filterMap id).map some
      rw [List.map_cons, ← ih fun z hz => all z (List.mem_cons_of_mem _ hz)]
  · have := h.filterMap id
    have e : (l.map some).filterMap id = l := by
      induction l with
      | nil => rfl
      | cons a r ih2 =>
        show a :: (r.map some).filterMap id = a :: r
        congr 1
        have : ∀ l : List Str, (l.map some).filterMap id = l := by
          intro l
          induction l with
          | nil => rfl
          | cons a r ih => exact congrArg (a :: ·) ih
        exact this r
    rw [e] at this
    exact this
theorem spare_len {bs : List Str} (h : bs.length ≤ 3) : 2 ≤ (caps.filter fun x => !decide (x ∈ bs)).length := by
  have : caps.length ≤ (caps.filter (fun x => !decide (x ∈ bs)) ++ bs).length := nodup_sub caps_nodup fun x hx => by
    by_cases m : x ∈ bs
    · exact List.mem_append_right _ m
    · exact List.mem_append_left _ (List.mem_filter.mpr ⟨hx, by rw [decide_eq_false m]; rfl⟩)
  rw [List.length_append] at this
  have e : caps.length = 5 := rfl
  omega
theorem DrawAt.putY {D : DrA} {n : Nat} {H : Hp} {y : Addr} {o : HO} (h : DrawAt D n H) (h1 : y ≠ D.d ∧ y ≠ D.w) (h2 : y ≠ D.c) : DrawAt D n (upd H y o) := by
  obtain ⟨ws, cs, r, t, k1, k2, k3, k4⟩ := h
  exact ⟨ws, cs, r, t, by rw [upd_ne h1.1.symm]; exact k1, by rw [upd_ne h1.2.symm]; exact k2, by rw [upd_ne h2.symm]; exact k3, k4⟩
theorem da_strs {D : DrA} {H : Hp} : ∀ fs : List Str, DaAll D H (fs.map V.str) (fs.map PyData.str)
  | [] => .nil
  | f :: r => .cons (.str f) (da_strs r)
/-- how many numbers are drawn at most -/
def cD : Nat → Nat
  | 0 => 20
  | e + 1 => 30 + 3 * cD e
theorem cD_ge : ∀ e, 20 ≤ cD e
  | 0 => Nat.le_refl _
  | e + 1 => by
    have := cD_ge e
    show 20 ≤ 30 + 3 * cD e
    omega
section
variable {P : Program} {w : World} {K : PySem.W.Frag} {mg : Str → Option Value} {base : Heap}
abbrev sSd : Stmt := topS 53
def nSd : List Str := ["draw", "titles", "inner", "deep", "top", "ties", "way", "title", "spare", "fresh", "word", "many_here", "lap", "found"]
def pSd : List Str := ["draw", "titles", "inner", "deep", "top", "ties"]
theorem scSd : FnScope nSd pSd (defScope sSd) := ⟨rfl, rfl, rfl, by decide +kernel, rfl, by decide +kernel, by decide +kernel⟩
/-- what _law_said is given -/
structure SdIn (D : DrA) (n : Nat) (lt li ly : Addr) (ts bs : List Str) (c : Nat) (zs : List Addr) (H : Hp) : Prop where
  dr : DrawAt D n H
  hz : Held zs H
  my : ly ∈ zs
  yd : ly ≠ D.d ∧ ly ≠ D.w
  yc : ly ≠ D.c
  ht : H lt = some (.lst (ts.map V.str))
  hi : H li = some (.lst (bs.map V.str))
  tw : lt ≠ D.w ∧ li ≠ D.w
  ty : lt ≠ ly ∧ li ≠ ly
  hy : H ly = some (.lst [.int (c : Nat)])
  c3 : bs.length + c ≤ 3
  t1 : ts ≠ [] ∧ ts.length ≤ 2
  tn : ts.Nodup ∧ ∀ x ∈ ts, x ∈ lows
  bn : bs.Nodup ∧ ∀ x ∈ bs, x ∈ caps
theorem SdIn.td {D : DrA} {n : Nat} {lt li ly : Addr} {ts bs : List Str} {c : Nat} {zs : List Addr} {H : Hp} (h : SdIn D n lt li ly ts bs c zs H) : lt ≠ D.d ∧ li ≠ D.d := by
  obtain ⟨_, _, _, _, h1, _⟩ := h.dr
  exact ⟨ne_of h.ht h1 (fun z => by cases z), ne_of h.hi h1 (fun z => by cases z)⟩
/-- later -/
theorem SdIn.fy {D : DrA} {n n' : Nat} {lt li ly : Addr} {ts bs : List Str} {c c' : Nat} {zs : List Addr} {H H' : Hp} (h : SdIn D n lt li ly ts bs c zs H) (f : FrY D ly H H') (d : DrawAt D n' H') (hy : H' ly = some (.lst [.int (c' : Nat)])) (le : c' ≤ c) : SdIn D n' lt li ly ts bs c' zs H' :=
  ⟨d, h.hz.fy f d ⟨_, hy⟩, h.my, h.yd, h.yc, f _ _ h.ht h.td.1 h.tw.1 h.ty.1, f _ _ h.hi h.td.2 h.tw.2 h.ty.2, h.tw, h.ty, hy, by have := h.c3; omega, h.t1, h.tn, h.bn⟩
theorem SdIn.fr {D : DrA} {n n' : Nat} {lt li ly : Addr} {ts bs : List Str} {c : Nat} {zs : List Addr} {H H' : Hp} (h : SdIn D n lt li ly ts bs c zs H) (f : Fr D H H') (d : DrawAt D n' H') : SdIn D n' lt li ly ts bs c zs H' :=
  h.fy (.of f) d (f _ _ h.hy h.yd.1 h.yd.2) (Nat.le_refl _)
theorem SdIn.sm {D : DrA} {n : Nat} {lt li ly : Addr} {ts bs : List Str} {c : Nat} {zs : List Addr} {H H' : Hp} (h : SdIn D n lt li ly ts bs c zs H) (s : Same H H') : SdIn D n lt li ly ts bs c zs H' := h.fr (.of s) (h.dr.sm s)
theorem SdIn.more {D : DrA} {n : Nat} {lt li ly : Addr} {ts bs : List Str} {c : Nat} {zs : List Addr} {H : Hp} {R : Addr} {o : HO} (h : SdIn D n lt li ly ts bs c zs H) (e : H R = some o) : SdIn D n lt li ly ts bs c (R :: zs) H :=
  ⟨h.dr, h.hz.cons e, List.mem_cons_of_mem _ h.my, h.yd, h.yc, h.ht, h.hi, h.tw, h.ty, h.hy, h.c3, h.t1, h.tn, h.bn⟩
theorem FrY.new {D : DrA} {y : Addr} {H H' : Hp} {R : Addr} {o : HO} (f : FrY D y H H') (n : H R = none) : FrY D y H (upd H' R o) := fun b u e n1 n2 n3 => by
  rw [upd_ne (ne_of_none e n)]
  exact f b u e n1 n2 n3
def spSd (e : Nat) : Sp := fun vs H Q _ => ∃ (D : DrA) (n : Nat) (lt li ly : Addr) (ts bs : List Str) (c : Nat) (zs : List Addr), vs = [.ref D.d, .ref lt, .ref li, .int (e : Nat), .int 9, .ref ly] ∧ SdIn D n lt li ly ts bs c zs H ∧ n + cD e ≤ B ∧
  ∀ (H' : Hp) (v : V) (d : PyData) (c' : Nat), DrawAt D (n + cD e) H' → FrY D ly H H' → H' ly = some (.lst [.int (c' : Nat)]) → c' ≤ c → Dn ts e bs d → Da D (HidL zs H') v d → Q v H'
def spSdBelow : Nat → Sp
  | 0 => fun _ _ _ _ => False
  | e + 1 => spSd e
theorem ok_sd_no {f : Addr} {fd : FuncData} (F : Fun K "_law_said" "_law_said" sSd f fd) (j : Nat) : FnOk P w K mg base CX0 (j + 1) f fd pSd (spSdBelow 0) :=
  F.ok scSd (fun vs H Q E h => h.elim) (fun cdv A outer s H vs Q E hr h => h.elim)
theorem ok_sd {f : Addr} {fd : FuncData} (F : Fun K "_law_said" "_law_said" sSd f fd) (N : Bl mg) (e : Nat) (GT : Has P w K mg base CX0 2 "_law_take" ["draw", "size"] spTake) (GP : Has P w K mg base CX0 3 "_law_pick" ["draw", "some"] spPick) (GH : Has P w K mg base CX0 3 "_law_shuffled" ["draw", "some"] spShuf) (GR : Has P w K mg base CX0 4 "_law_said_row" ["draw", "several", "top"] spSR)
    (GS : Has P w K mg base CX0 (e + 5) "_law_said" pSd (spSdBelow e)) : FnOk P w K mg base CX0 (e + 6) f fd pSd (spSd e) := by
  refine F.ok scSd (fun vs H Q E h => ?_) (fun cdv A outer s H vs Q E hr h => ?_)
  · obtain ⟨D, n, lt, li, ly, ts, bs, c, zs, rfl, _⟩ := h
    rfl
  · obtain ⟨D, n, lt, li, ly, ts, bs, c, zs, rfl, I, hn, q⟩ := h
    have rec1 : ∀ {X : Cx}, True := fun {_} => trivial
    refine ⟨_, pss_cons (ps_set (i := 6) scSd.nd rfl (.inl rfl) (pe_h GT hr (by omega) (by rfl) pass0 (pa_cons (pv 0) (pa_cons pe_int pa_nil))))
      (pss_cons (ps_if (pw_or (pt_cmpR op_eq (pv 3) pe_int (nomark _)) (pw_or1 (pt_cmpR op_lt (pv 6) pe_int (nomark _)))).pt (pss_one (ps_ret (pe_h GR hr (by omega) (by rfl) pass0 (pa_cons (pv 0) (pa_cons (pe_op op_cat (pv 1) (pv 2)) (pa_cons (pv 4) pa_nil)))))) pss_nil)
      (pss_cons (ps_if (pt_cmpR op_eq (pv 6) pe_int (nomark _)) (pss_one (ps_ret (pe_tup (pa_cons pe_str (pa_cons (pe_h GS hr (by omega) (by rfl) pass0 (pa_cons (pv 0) (pa_cons (pv 1) (pa_cons (pv 2) (pa_cons (pe_op op_sub (pv 3) pe_int) (pa_cons (pv 4) (pa_cons (pv 5) pa_nil))))))) pa_nil))))) pss_nil)
      (C8.pss_cut (ps_if (pw_and (pt_cmpR op_lt (pv 6) pe_int (nomark _)) (pw_and1 (pt_cmpR op_gt (pe_ix ix_list (pv 5) pe_int (fun _ _ => rfl)) pe_int (nomark _)))).pt
        (pss_cons (ps_setLc (i := 8) (own := [("title", 7)]) (g := gName 7) (by rfl) scSd.nd rfl rfl (sw_true rfl rfl rfl (by decide +kernel)) (pi_listK K (pe_lst (pa_cons pe_str (pa_cons pe_str (pa_cons pe_str (pa_cons pe_str (pa_cons (pe_op op_repS pe_str pe_int) pa_nil)))))))
            (blkOk_by (own := [("title", 7)]) (N := nSd) (sc := defScope sSd) (by decide +kernel)) (fun _ _ _ _ _ => pg_name (i := 7) scSd.nd rfl (Or.inl rfl))
            (fun _ _ _ _ _ => pts_one (pt_cmpR (show OpR _ _ (rIn K true) from op_notIn_seq) (pv 7) (pv 2) (by rfl))) (fun _ _ _ _ _ => pv 7))
        (pss_cons (ps_set (i := 9) scSd.nd rfl (.inl rfl) (pe_slice sl_list (pe_slice sl_list (pe_h GH hr (by omega) (by rfl) pass0 (pa_cons (pv 0) (pa_cons (pv 8) pa_nil))) po_none (po_some (pe_op op_add pe_int (pe_h GT hr (by omega) (by rfl) pass0 (pa_cons (pv 0) (pa_cons pe_int pa_nil)))))) po_none (po_some (pe_ix ix_list (pv 5) pe_int (fun _ _ => rfl)))))
        (pss_cons (ps_asg (pe_op op_sub (pe_ix ix_list (pv 5) pe_int (fun _ _ => rfl)) (pe_callB call_len_seq (by rfl) N.blen PySem.boot_len (pa_cons (pv 9) pa_nil))) (pg_sub (pv 5) pe_int set_list))
        (pss_cons (ps_set (i := 10) scSd.nd rfl (.inl rfl) (pe_h GP hr (by omega) (by rfl) pass0 (pa_cons (pv 0) (pa_cons (pe_lst (pa_cons pe_str (pa_cons pe_str pa_nil))) pa_nil))))
        (pss_one (ps_ret (pe_tup (pa_cons (pv 10) (pa_cons (pe_callTy call_tuple_of (by rfl) N.btup (by decide +kernel) (pa_cons (pv 9) pa_nil)) (pa_cons
          (pe_h GS hr (by omega) (by rfl) pass0 (pa_cons (pv 0) (pa_cons (pv 1) (pa_cons (pe_op op_cat (pv 2) (pv 9)) (pa_cons (pe_op op_sub (pv 3) pe_int) (pa_cons (pv 4) (pa_cons (pv 5) pa_nil))))))) pa_nil)))))))))) pss_nil)
      (pss_cons (ps_set (i := 11) scSd.nd rfl (.inl rfl) (pe_h GP hr (by omega) (by rfl) pass0 (pa_cons (pv 0) (pa_cons (pe_lst (pa_cons pe_int (pa_cons pe_int (pa_cons pe_int (pa_cons pe_int (pa_cons pe_int (pa_cons pe_int pa_nil))))))) pa_nil))))
      (pss_cons (ps_setLc (i := 13) (own := [("lap", 12)]) (g := gName 12) (tt := tYes) (by rfl) scSd.nd rfl rfl (sw_true rfl rfl rfl (by decide +kernel)) (pi_range1 (by rfl) N.brng (pa_cons (pv 11) pa_nil))
          (blkOk_by (own := [("lap", 12)]) (N := nSd) (sc := defScope sSd) (by decide +kernel)) (fun _ _ _ _ _ => pg_name (i := 12) scSd.nd rfl (Or.inl rfl))
          (fun _ _ _ _ _ => pts_nil) (fun _ _ _ _ _ => pe_h GS (hr.mono (Nat.le_refl (e + 5))) (by omega) (by rfl) pass0 (pa_cons (pv 0) (pa_cons (pv 1) (pa_cons (pv 2) (pa_cons (pe_op op_sub (pv 3) pe_int) (pa_cons (pv 4) (pa_cons (pv 5) pa_nil))))))))
      (pss_one (ps_ret (pe_tup (pa_cons (pe_h GP hr (by omega) (by rfl) pass0 (pa_cons (pv 0) (pa_cons (pe_lst (pa_cons pe_str (pa_cons pe_str pa_nil))) pa_nil))) (pa_cons (pe_callTy call_tuple_of (by rfl) N.btup (by decide +kernel) (pa_cons (pv 13) pa_nil)) pa_nil)))))))))), ?_⟩
    have cD0 := cD_ge e
    have c3 := I.c3
    obtain ⟨t1, t2⟩ := I.t1
    obtain ⟨tn, tl⟩ := I.tn
    obtain ⟨bn, bc⟩ := I.bn
    have nodAll : (ts ++ bs).Nodup := List.nodup_append.mpr ⟨tn, bn, fun a ha b hb ab => by
      have h1 := (lows_ok a (tl a ha)).2
      have h2 := (caps_ok b (bc b hb)).2
      rw [ab, h2] at h1
      cases h1⟩
    have strAll : ∀ x ∈ ts ++ bs, PyData.strOk x = true := fun x hx => (List.mem_append.mp hx).elim (fun m => (lows_ok x (tl x m)).1.2.1) fun m => (caps_ok x (bc x m)).1.2.1
    refine ⟨_, rfl, D, n, 9, rfl, I.dr, by omega, by decide, by decide, fun H1 way d1 f1 w0 w9 => ?_⟩
    have I1 := I.fr f1 d1
    refine ⟨_, rfl, rfl, _, rfl, ?_⟩
    rw [dec_int]
    by_cases e0 : e = 0
    · subst e0
      refine iteT ⟨_, rfl, _, rfl, _, rfl, lt, li, _, _, rfl, rfl, I1.ht, I1.hi, small10000 (by rw [List.length_map, List.length_map]; omega), fun p np => ⟨_, rfl, ?_⟩⟩
      have s2 := same_upd (o := .lst (ts.map V.str ++ bs.map V.str)) np
      have hp : (upd H1 p (.lst (ts.map V.str ++ bs.map V.str))) p = some (.lst ((ts ++ bs).map V.str)) := by rw [upd_same, List.map_append]
      have I2 := I1.sm s2
      generalize upd H1 p (.lst (ts.map V.str ++ bs.map V.str)) = H2 at *
      refine ⟨D, n + 1, p, ts ++ bs, 9, rfl, I2.dr, by rw [List.length_append]; omega, hp, fun z => t1 (List.append_eq_nil_iff.mp z).1, nodAll, by rw [List.length_append]; omega, strAll, by decide, by decide, fun H5 q5 a b cc nq hq o1 o2 ne ha hb k1 k2 d5 f5 => ?_⟩
      refine q H5 (.ref q5) _ c (d5.mono (by rw [List.length_append]; omega)) (FrY.of ((f1.trans (.of s2)).trans f5)) (f5 _ _ I2.hy I2.yd.1 I2.yd.2) (Nat.le_refl _) (.row ne ha hb k1 k2) ?_
      exact .tup (HidL.of (I2.hz.new nq) hq) o1 o2 (.cons (.str _) (.cons (da_o a) (.cons (da_o b) (.cons (.int cc) .nil))))
    have z0 : (((e : Nat) : Int) == 0) = false := beq_eq_false_iff_ne.mpr (by omega)
    rw [z0]
    refine iteF ⟨_, rfl, _, _, rfl, rfl, _, rfl, ?_⟩
    by_cases w2 : way < 2
    · rw [decide_eq_true w2]
      refine iteT ⟨_, rfl, _, rfl, _, rfl, lt, li, _, _, rfl, rfl, I1.ht, I1.hi, small10000 (by rw [List.length_map, List.length_map]; omega), fun p np => ⟨_, rfl, ?_⟩⟩
      have s2 := same_upd (o := .lst (ts.map V.str ++ bs.map V.str)) np
      have hp : (upd H1 p (.lst (ts.map V.str ++ bs.map V.str))) p = some (.lst ((ts ++ bs).map V.str)) := by rw [upd_same, List.map_append]
      have I2 := I1.sm s2
      generalize upd H1 p (.lst (ts.map V.str ++ bs.map V.str)) = H2 at *
      refine ⟨D, n + 1, p, ts ++ bs, 9, rfl, I2.dr, by rw [List.length_append]; omega, hp, fun z => t1 (List.append_eq_nil_iff.mp z).1, nodAll, by rw [List.length_append]; omega, strAll, by decide, by decide, fun H5 q5 a b cc nq hq o1 o2 ne ha hb k1 k2 d5 f5 => ?_⟩
      refine q H5 (.ref q5) _ c (d5.mono (by rw [List.length_append]; omega)) (FrY.of ((f1.trans (.of s2)).trans f5)) (f5 _ _ I2.hy I2.yd.1 I2.yd.2) (Nat.le_refl _) (.row ne ha hb k1 k2) ?_
      exact .tup (HidL.of (I2.hz.new nq) hq) o1 o2 (.cons (.str _) (.cons (da_o a) (.cons (da_o b) (.cons (.int cc) .nil))))
    rw [decide_eq_false w2]
    obtain ⟨e, rfl⟩ : ∃ e', e = e' + 1 := ⟨e - 1, by omega⟩
    have em : (((e + 1 : Nat) : Int)) - 1 = ((e : Nat) : Int) := by omega
    have cDe : cD (e + 1) = 30 + 3 * cD e := rfl
    have cDg := cD_ge e
    have evs : ∀ {z : Int} {l : Addr}, z = (e : Nat) → [V.ref D.d, V.ref lt, V.ref l, V.int z, V.int 9, V.ref ly] = [V.ref D.d, V.ref lt, V.ref l, V.int (e : Nat), V.int 9, V.ref ly] := fun h => by rw [h]
    refine iteF ⟨_, rfl, rfl, _, rfl, ?_⟩
    rw [dec_int]
    by_cases w3 : way = 2
    · rw [show (way == 2) = true by rw [w3]; rfl]
      refine iteT ⟨_, rfl, _, rfl, _, rfl, _, rfl, _, _, rfl, rfl, _, rfl, _, rfl, D, n + 1, lt, li, ly, ts, bs, c, zs, evs em, I1, by omega, fun H2 v d c' d2 f2 hy2 le dn g => ⟨(by show 2 ≤ sizeLine; decide), fun p4 n4 => ?_⟩⟩
      have s4 := same_upd (o := .tup [.str "not", v]) n4
      have f12 : FrY D ly H H2 := (FrY.of f1).trans f2
      have hz2 : Held zs H2 := I1.hz.fy f2 d2 ⟨_, hy2⟩
      exact q _ _ _ c' ((d2.sm s4).mono (by omega)) (f12.trans (.of (.of s4))) (s4 _ _ hy2) le (.no dn) (tup_hid d2 hz2 n4 (.cons (.str _) (.cons g .nil)))
    rw [show (way == 2) = false from beq_eq_false_iff_ne.mpr w3]
    refine iteF ⟨fun σ H' => H' = H1 ∧ σ = [some (.ref D.d), some (.ref lt), some (.ref li), some (.int ((e + 1 : Nat) : Int)), some (.int 9), some (.ref ly), some (.int way), none, none, none, none, none, none, none], ?_, ?_⟩
    · refine ⟨_, rfl, _, _, rfl, rfl, _, rfl, ?_⟩
      by_cases w5 : way < 5
      · rw [decide_eq_true w5]
        refine iteT ⟨_, rfl, ly, _, 0, .int (c : Nat), rfl, rfl, SqL.of I1.hy, atI_nat (j := 0) rfl, _, _, rfl, rfl, _, rfl, ?_⟩
        by_cases c0 : c = 0
        · rw [decide_eq_false (by omega)]
          exact iteF ⟨rfl, rfl⟩
        · rw [decide_eq_true (by omega)]
          refine iteT ?_
          -- the names that may be bound
          refine ⟨_, _, rfl, rfl, ⟨by decide, by decide⟩, ⟨rfl, by decide +kernel⟩, by decide +kernel, ?_⟩
          refine ⟨(by show 5 ≤ sizeLine; decide), fun pc nc => ?_⟩
          have s2 := same_upd (o := .lst [.str "X", .str "Y", .str "Turn t", .str "Z 0", .str (repS "A" 20)]) nc
          have hc : (upd H1 pc (.lst [.str "X", .str "Y", .str "Turn t", .str "Z 0", .str (repS "A" 20)])) pc = some (.lst (caps.map V.str)) := upd_same
          have I2 := I1.sm s2
          generalize upd H1 pc (.lst [.str "X", .str "Y", .str "Turn t", .str "Z 0", .str (repS "A" 20)]) = H2 at *
          refine ⟨pc, rfl, ⟨_, SqL.of hc⟩, fun R nR => lc_list (K := K) (a := pc) (xs := caps.map V.str) (fun j H' => Same H2 H' ∧ H' R = some (.lst (((caps.take j).filter fun x => !decide (x ∈ bs)).map V.str))) ⟨same_upd nR, upd_same⟩ (fun j H' _ h => SqL.of (h.1 _ _ hc)) ?_ ?_⟩
          · rintro j y H' hy ⟨s3, hR⟩
            rw [List.getElem?_map] at hy
            obtain ⟨z, hz, rfl⟩ : ∃ z, caps[j]? = some z ∧ y = .str z := by
              cases e : caps[j]? with
              | none => rw [e] at hy; cases hy
              | some z => rw [e] at hy; exact ⟨z, rfl, (Option.some.inj hy).symm⟩
            have st := filter_take_succ (p := fun x => !decide (x ∈ bs)) hz
            have ln : ((caps.take j).filter fun x => !decide (x ∈ bs)).length ≤ 5 := Nat.le_trans (List.length_filter_le _ _) (by rw [List.length_take]; exact Nat.min_le_right _ _)
            refine ⟨rfl, _, rfl, _, rfl, li, _, rfl, .inl (SqL.of (s3 _ _ I2.hi)), rfl, flat_strs bs, _, rfl, ?_⟩
            rw [if_pos rfl, in_strs]
            by_cases hm : z ∈ bs
            · rw [decide_eq_true hm]
              refine iteF ⟨s3, ?_⟩
              rw [if_neg (by simpa using hm), List.append_nil] at st
              rw [st]
              exact hR
            · rw [decide_eq_false hm]
              refine iteT ⟨_, rfl, _, hR, small1000 (by rw [List.length_map]; omega), same_put s3 nR, ?_⟩
              rw [if_pos (by simpa using hm)] at st
              rw [st, List.map_append]
              exact upd_same
          rintro H3 ⟨s3, hR⟩
          rw [List.length_map, List.take_length] at hR
          have I3 := I2.sm s3
          have f3 : Fr D H H3 := (f1.trans (.of s2)).trans (.of s3)
          have sp := spare_len (bs := bs) (by omega)
          have sp5 : (caps.filter fun x => !decide (x ∈ bs)).length ≤ 5 := List.length_filter_le _ _
          have spn : (caps.filter fun x => !decide (x ∈ bs)).Nodup := caps_nodup.sublist List.filter_sublist
          have spm : ∀ x ∈ caps.filter fun x => !decide (x ∈ bs), x ∈ caps ∧ x ∉ bs := fun x hx => by
            obtain ⟨a, b⟩ := List.mem_filter.mp hx
            refine ⟨a, fun m => ?_⟩
            rw [decide_eq_true m] at b
            cases b
          generalize (caps.filter fun x => !decide (x ∈ bs)) = spare at *
          have oR : spare.map V.str = (spare.map some).map oV := by rw [List.map_map]; rfl
          rw [oR] at hR
          refine ⟨_, rfl, _, rfl, D, n + 1, R, spare.map some, rfl, I3.dr, by rw [List.length_map]; omega, hR, by rw [List.length_map]; omega, fun o ho x ex => ?_, fun H4 p4 ys n4 hp4 pm d4 f4 => ?_⟩
          · obtain ⟨y, hy, e'⟩ := List.mem_map.mp ho
            rw [ex] at e'
            obtain rfl := Option.some.inj e'
            exact (caps_ok y (spm y hy).1).1.2.1
          rw [List.length_map] at d4
          obtain ⟨us, rfl, pu⟩ := perm_some pm
          have I4 := I3.fr f4 d4
          have o4 := I3.dr
          refine ⟨_, rfl, D, n + 1 + spare.length, 2, rfl, d4, by omega, by decide, by decide, fun H5 t d5 f5 t0 t2 => ?_⟩
          obtain ⟨k, rfl⟩ : ∃ k : Nat, t = (k : Int) := ⟨t.toNat, by omega⟩
          have I5 := I4.fr f5 d5
          have op4 := I3.dr.off n4
          have n4' : p4 ≠ D.d ∧ p4 ≠ D.w := op4
          have hp5 := f5 _ _ hp4 op4.1 op4.2
          have lu : us.length = spare.length := pu.length_eq
          have ec : cutV ((us.map some).map oV) none (some ((1 : Int) + (k : Int))) = (us.take (1 + k)).map V.str := by
            rw [show ((1 : Int) + (k : Int)) = ((1 + k : Nat) : Int) by omega, cut_to', List.map_map, List.map_take]
            rfl
          refine ⟨_, _, rfl, rfl, _, rfl, p4, _, rfl, SqL.of hp5, fun p6 n6 => ?_⟩
          have s6 := same_upd (o := .lst (cutV ((us.map some).map oV) none (some ((1 : Int) + (k : Int))))) n6
          have hp6 : (upd H5 p6 (.lst (cutV ((us.map some).map oV) none (some ((1 : Int) + (k : Int)))))) p6 = some (.lst ((us.take (1 + k)).map V.str)) := by rw [upd_same, ec]
          have I6 := I5.sm s6
          have op6 := I5.dr.off n6
          have f6 : Fr D H3 (upd H5 p6 (.lst (cutV ((us.map some).map oV) none (some ((1 : Int) + (k : Int)))))) := (f4.trans f5).trans (.of s6)
          try unfold tNoPart
          generalize upd H5 p6 (.lst (cutV ((us.map some).map oV) none (some ((1 : Int) + (k : Int))))) = H6 at *
          refine ⟨_, rfl, ly, _, 0, .int (c : Nat), rfl, rfl, SqL.of I6.hy, atI_nat (j := 0) rfl, _, rfl, p6, _, rfl, SqL.of hp6, fun p7 n7 => ?_⟩
          have ec7 : cutV ((us.take (1 + k)).map V.str) none (some ((c : Nat) : Int)) = ((us.take (1 + k)).take c).map V.str := by rw [cut_to']; exact List.map_take.symm
          rw [ec7]
          have fsub : ∀ x ∈ (us.take (1 + k)).take c, x ∈ caps ∧ x ∉ bs := fun x hx => spm x (pu.mem_iff.mp (List.mem_of_mem_take (List.mem_of_mem_take hx)))
          have fnod : ((us.take (1 + k)).take c).Nodup := (pu.nodup_iff.mpr spn).sublist ((List.take_sublist _ _).trans (List.take_sublist _ _))
          have flen : ((us.take (1 + k)).take c).length = min c (min (1 + k) us.length) := by rw [List.length_take, List.length_take]
          generalize (us.take (1 + k)).take c = fs at *
          have fl1 : 1 ≤ fs.length := by omega
          have fl2 : fs.length ≤ 2 := by omega
          have flc : fs.length ≤ c := by omega
          have s7 := same_upd (o := .lst (fs.map V.str)) n7
          have hp7 : (upd H6 p7 (.lst (fs.map V.str))) p7 = some (.lst (fs.map V.str)) := upd_same
          have I7 := I6.sm s7
          have op7 := I6.dr.off n7
          have yp7 : p7 ≠ ly := fun z => by rw [z, I6.hy] at n7; cases n7
          have f7 : Fr D H (upd H6 p7 (.lst (fs.map V.str))) := (f3.trans f6).trans (.of s7)
          generalize upd H6 p7 (.lst (fs.map V.str)) = H7 at *
          refine ⟨_, rfl, ly, _, 0, .int (c : Nat), rfl, rfl, SqL.of I7.hy, atI_nat (j := 0) rfl, _, rfl, p7, _, rfl, .inl (SqL.of hp7), _, _, rfl, rfl, _, rfl, ly, _, _, 0, rfl, rfl, I7.hy, rfl, ?_⟩
          have ecc : ((c : Nat) : Int) - (((fs.map V.str).length : Nat) : Int) = ((c - fs.length : Nat) : Int) := by
            rw [List.length_map]
            omega
          have hy8 : (upd H7 ly (.lst ([V.int ((c : Nat) : Int)].set 0 (.int (((c : Nat) : Int) - (((fs.map V.str).length : Nat) : Int)))))) ly = some (.lst [.int ((c - fs.length : Nat) : Int)]) := by
            rw [upd_same, ecc]
            rfl
          have I8 := I7.fy (FrY.put (o := .lst ([V.int ((c : Nat) : Int)].set 0 (.int (((c : Nat) : Int) - (((fs.map V.str).length : Nat) : Int))))) FrY.refl) (I7.dr.putY I7.yd I7.yc) hy8 (Nat.sub_le _ _)
          have f8 : FrY D ly H (upd H7 ly (.lst ([V.int ((c : Nat) : Int)].set 0 (.int (((c : Nat) : Int) - (((fs.map V.str).length : Nat) : Int)))))) := (FrY.of f7).put
          have hp8 : (upd H7 ly (.lst ([V.int ((c : Nat) : Int)].set 0 (.int (((c : Nat) : Int) - (((fs.map V.str).length : Nat) : Int)))))) p7 = some (.lst (fs.map V.str)) := by rw [upd_ne yp7]; exact hp7
          generalize upd H7 ly (.lst ([V.int ((c : Nat) : Int)].set 0 (.int (((c : Nat) : Int) - (((fs.map V.str).length : Nat) : Int))))) = H8 at *
          refine ⟨_, rfl, (by show 2 ≤ sizeLine; decide), fun pl nl => ?_⟩
          have s9 := same_upd (o := .lst [.str "some", .str "all"]) nl
          have hpl : (upd H8 pl (.lst [.str "some", .str "all"])) pl = some (.lst [.str "some", .str "all"]) := upd_same
          have I9 := I8.sm s9
          have opl := I8.dr.off nl
          have hp9 := s9 _ _ hp8
          have f9 := f8.trans (.of (.of s9))
          generalize upd H8 pl (.lst [.str "some", .str "all"]) = H9 at *
          refine ⟨D, _, pl, _, rfl, I9.dr, by omega, hpl, opl.2, (fun z => nomatch z), by decide, fun H10 i v hv d10 f10 => ?_⟩
          obtain ⟨w0, rfl, hw0⟩ : ∃ w0 : Str, v = .str w0 ∧ (w0 = "some" ∨ w0 = "all") := by
            match i, hv with
            | 0, hv => exact ⟨_, (Option.some.inj hv).symm, .inl rfl⟩
            | 1, hv => exact ⟨_, (Option.some.inj hv).symm, .inr rfl⟩
            | i + 2, hv => simp at hv
          have I10 := I9.fr f10 d10
          have hp10 := f10 _ _ hp9 op7.1 op7.2
          have f10' := f9.trans (.of f10)
          refine ⟨_, rfl, _, rfl, p7, _, rfl, .inl ⟨SqL.of hp10, fun pt nt => ?_⟩⟩
          have s11 := same_upd (o := .tup (fs.map V.str)) nt
          have hpt : (upd H10 pt (.tup (fs.map V.str))) pt = some (.tup (fs.map V.str)) := upd_same
          have I11 := I10.sm s11
          have opt := I10.dr.off nt
          have ptz := I10.hz.new nt
          have hp11 := s11 _ _ hp10
          have f11 := f10'.trans (.of (.of s11))
          generalize upd H10 pt (.tup (fs.map V.str)) = H11 at *
          refine ⟨_, rfl, _, rfl, _, rfl, _, rfl, li, p7, _, _, rfl, rfl, I11.hi, hp11, small10000 (by rw [List.length_map, List.length_map]; omega), fun pi ni => ?_⟩
          have s12 := same_upd (o := .lst (bs.map V.str ++ fs.map V.str)) ni
          have hpi : (upd H11 pi (.lst (bs.map V.str ++ fs.map V.str))) pi = some (.lst ((bs ++ fs).map V.str)) := by rw [upd_same, List.map_append]
          have I12 := I11.sm s12
          have opi := I11.dr.off ni
          have piy : pi ≠ ly := fun z => by rw [z, I11.hy] at ni; cases ni
          have hpt12 := s12 _ _ hpt
          have f12 := f11.trans (.of (.of s12))
          generalize upd H11 pi (.lst (bs.map V.str ++ fs.map V.str)) = H12 at *
          have J : SdIn D (n + 1 + spare.length + 1 + 1) lt pi ly ts (bs ++ fs) (c - fs.length) zs H12 :=
            ⟨I12.dr, I12.hz, I12.my, I12.yd, I12.yc, I12.ht, hpi, ⟨I12.tw.1, opi.2⟩, ⟨I12.ty.1, piy⟩, I12.hy, by rw [List.length_append]; omega, I12.t1, I12.tn, List.nodup_append.mpr ⟨bn, fnod, fun a ha b hb ab => (fsub b hb).2 (by rw [← ab]; exact ha)⟩, fun x hx => (List.mem_append.mp hx).elim (bc x) fun m => (fsub x m).1⟩
          refine ⟨_, rfl, _, _, rfl, rfl, _, rfl, _, rfl, D, _, lt, pi, ly, ts, bs ++ fs, c - fs.length, zs, evs em, J, by omega, fun H13 v d c' d13 f13 hy13 le dn g => ⟨(by show 3 ≤ sizeLine; decide), fun p4 n4 => ?_⟩⟩
          have s14 := same_upd (o := .tup [.str w0, .ref pt, v]) n4
          have hz13 : Held zs H13 := J.hz.fy f13 d13 ⟨_, hy13⟩
          have pty : pt ≠ ly := fun z => ptz (by rw [z]; exact I.my)
          have hpt13 := f13 _ _ hpt12 opt.1 opt.2 pty
          refine q _ _ _ c' ((d13.sm s14).mono (by omega)) ((f12.trans f13).trans (.of (.of s14))) (s14 _ _ hy13) (by omega) (.bind hw0 fl1 fl2 fnod fsub dn) (tup_hid d13 hz13 n4 (.cons (.str _) (.cons (.tup (HidL.of ptz hpt13) opt.1 opt.2 (da_strs fs)) (.cons g .nil))))
      · rw [decide_eq_false w5]
        exact iteF ⟨rfl, rfl⟩
    · rintro σ H0 ⟨rfl, rfl⟩
      refine ⟨_, rfl, (by show 6 ≤ sizeLine; decide), fun pl nl => ?_⟩
      have s2 := same_upd (o := .lst [.int 0, .int 1, .int 2, .int 2, .int 2, .int 3]) nl
      have hpl : (upd H0 pl (.lst [.int 0, .int 1, .int 2, .int 2, .int 2, .int 3])) pl = some (.lst [.int 0, .int 1, .int 2, .int 2, .int 2, .int 3]) := upd_same
      have I2 := I1.sm s2
      have opl := I1.dr.off nl
      generalize upd H0 pl (.lst [.int 0, .int 1, .int 2, .int 2, .int 2, .int 3]) = H2 at *
      refine ⟨D, n + 1, pl, _, rfl, I2.dr, by omega, hpl, opl.2, (fun z => nomatch z), by decide, fun H3 i v hv d3 f3 => ?_⟩
      obtain ⟨m, rfl, m3⟩ : ∃ m : Nat, v = .int (m : Nat) ∧ m ≤ 3 := by
        match i, hv with
        | 0, hv => exact ⟨0, (Option.some.inj hv).symm, by decide⟩
        | 1, hv => exact ⟨1, (Option.some.inj hv).symm, by decide⟩
        | 2, hv => exact ⟨2, (Option.some.inj hv).symm, by decide⟩
        | 3, hv => exact ⟨2, (Option.some.inj hv).symm, by decide⟩
        | 4, hv => exact ⟨2, (Option.some.inj hv).symm, by decide⟩
        | 5, hv => exact ⟨3, (Option.some.inj hv).symm, by decide⟩
        | i + 6, hv => simp at hv
      have I3 := I2.fr f3 d3
      have f03 : FrY D ly H H3 := .of ((f1.trans (.of s2)).trans f3)
      refine ⟨_, rfl, m, rfl, by omega, by omega, fun R nR => lc_range (fun j H' => FrY D ly H3 H' ∧ DrawAt D (n + 2 + j * cD e) H' ∧ ∃ (us : List V) (ds : List PyData) (c' : Nat), H' ly = some (.lst [.int (c' : Nat)]) ∧ c' ≤ c ∧ H' R = some (.lst us) ∧ DaAll D (HidL (R :: zs) H') us ds ∧ ds.length = j ∧ ∀ x ∈ ds, Dn ts e bs x) ⟨.of (.of (same_upd nR)), (I3.dr.new nR).mono (by omega), [], [], c, same_upd nR _ _ I3.hy, Nat.le_refl _, upd_same, .nil, rfl, (fun _ z => nomatch z)⟩ ?_ ?_⟩
      · rintro j H' hj ⟨fy, dj, us, ds, c', hy', le', hR, g, ld, dns⟩
        have oR := I3.dr.off nR
        have Ry : R ≠ ly := fun z => by rw [z, I3.hy] at nR; cases nR
        have J := (I3.fy fy dj hy' le').more hR
        have bj : j * cD e ≤ 2 * cD e := Nat.mul_le_mul_right _ (by omega)
        have bj1 : (j + 1) * cD e = j * cD e + cD e := Nat.succ_mul _ _
        refine ⟨rfl, _, rfl, _, rfl, _, rfl, _, rfl, _, _, rfl, rfl, _, rfl, _, rfl, D, _, lt, li, ly, ts, bs, c', R :: zs, evs em, J, by omega, fun H'' v d c'' d'' f'' hy'' le'' dn g' => ?_⟩
        have hR'' := f'' _ _ hR oR.1 oR.2 Ry
        have lu := g.length
        refine ⟨us, hR'', small1000 (by omega), (fy.trans f'').new nR, draw_put I3.dr nR (d''.mono (by omega)), us ++ [v], ds ++ [d], c'', by rw [upd_ne (fun z => Ry z.symm)]; exact hy'', by omega, upd_same, ?_, by rw [List.length_append, ld]; rfl, fun x hx => ?_⟩
        · rw [hidL_upd (List.mem_cons_self ..)]
          exact (g.fr (hidL_fy J.my f'')).app (.cons g' .nil)
        · rcases List.mem_append.mp hx with hx | hx
          · exact dns x hx
          · rw [List.mem_singleton.mp hx]
            exact dn
      · rintro H' ⟨fy, dj, us, ds, c', hy', le', hR, g, ld, dns⟩
        rw [show ((m : Nat) : Int).toNat = m from rfl] at dj ld
        have oR := I3.dr.off nR
        have J := I3.fy fy dj hy' le'
        have bj : m * cD e ≤ 3 * cD e := Nat.mul_le_mul_right _ m3
        have g0 : DaAll D (HidL zs H') us ds := g.fr hidL_cons
        refine ⟨_, rfl, (by show 2 ≤ sizeLine; decide), fun pk nk => ?_⟩
        have s5 := same_upd (o := .lst [.str "and", .str "or"]) nk
        have hpk : (upd H' pk (.lst [.str "and", .str "or"])) pk = some (.lst [.str "and", .str "or"]) := upd_same
        have J5 := J.sm s5
        have opk := J.dr.off nk
        have hR5 := s5 _ _ hR
        have g5 := g0.fr (hidL_sm s5)
        have f05 := (f03.trans fy).trans (.of (.of s5))
        generalize upd H' pk (.lst [.str "and", .str "or"]) = H5 at *
        refine ⟨D, _, pk, _, rfl, J5.dr, by omega, hpk, opk.2, (fun z => nomatch z), by decide, fun H6 i v hv d6 f6 => ?_⟩
        obtain ⟨w0, rfl, hw0⟩ : ∃ w0 : Str, v = .str w0 ∧ (w0 = "and" ∨ w0 = "or") := by
          match i, hv with
          | 0, hv => exact ⟨_, (Option.some.inj hv).symm, .inl rfl⟩
          | 1, hv => exact ⟨_, (Option.some.inj hv).symm, .inr rfl⟩
          | i + 2, hv => simp at hv
        have J6 := J5.fr f6 d6
        have hR6 := f6 _ _ hR5 oR.1 oR.2
        have g6 : DaAll D (HidL zs H6) us ds := g5.fr (hidL_fr f6)
        refine ⟨_, rfl, R, _, rfl, .inl ⟨SqL.of hR6, fun p7 n7 => ⟨(by show 2 ≤ sizeLine; decide), fun p8 n8 => ?_⟩⟩⟩
        have s7 := same_upd (o := .tup us) n7
        have a7 : Da D (HidL zs _) (.ref p7) (.tuple ds) := tup_hid J6.dr J6.hz n7 g6
        have J7 := J6.sm s7
        have s8 := same_upd (o := .tup [.str w0, .ref p7]) n8
        refine q _ _ _ c' ((J7.dr.sm s8).mono (by omega)) ((f05.trans (.of f6)).trans (.of (.of fun b o e => s8 b o (s7 b o e)))) ((J7.sm s8).hy) le' (.many hw0 (by omega) dns) (tup_hid J7.dr J7.hz n8 (.cons (.str _) (.cons a7 .nil)))
end
end Lm
/-! A tuple turned about. -/
namespace Lm
open PySem PySem.Spec PyProof.Rows L2
theorem turned_places (n : Nat) : Builtin.Slice.slicePlaces ((n : Int) - 1) (-1) (-1) = n := by
  unfold Builtin.Slice.slicePlaces
  rw [if_neg (by decide)]
  by_cases c : (n : Int) - 1 > -1
  · rw [if_pos c, show -(-1 : Int) = 1 from rfl, Int.ediv_one]
    omega
  · rw [if_neg c]
    omega
theorem turned_items (l : List Value) : (List.range l.length).filterMap (fun (k : Nat) => l.toArray[(((l.length : Nat) : Int) - 1 + (k : Int) * (-1)).toNat]?) = l.reverse := by
  have key : ∀ m, m ≤ l.length → (List.range m).filterMap (fun (k : Nat) => l.toArray[(((l.length : Nat) : Int) - 1 + (k : Int) * (-1)).toNat]?) = l.reverse.take m := by
    intro m
    induction m with
    | zero => intro _; rfl
    | succ m ih =>
      intro hm
      rw [List.range_succ, List.filterMap_append, ih (by omega), List.take_add_one]
      congr 1
      have e : (((l.length : Nat) : Int) - 1 + (m : Int) * (-1)).toNat = l.length - 1 - m := by omega
      rw [List.getElem?_reverse (by omega)]
      simp only [List.filterMap_cons, List.filterMap_nil, List.getElem?_toArray]
      rw [e]
      cases l[l.length - 1 - m]? <;> rfl
  have := key l.length (Nat.le_refl _)
  rw [this, List.take_of_length_le (by rw [List.length_reverse]; exact Nat.le_refl _)]
section
variable {prog : Program} {w : World} {A : Around} {E : Value → Shared → Prop} {s : Shared}
theorem turned_parts {b : Addr} {x y z : Value} {n : Nat} {Q : Int × Int × Nat → Shared → Prop} (hs : s.heap.IsSliceOf b x y z) (px : IsPart x none) (py : IsPart y none) (pz : IsPart z (some (-1))) (h : Q ((n : Int) - 1, -1, n) s) :
    wpAny (model prog w) A (Builtin.Slice.sliceApplied (.ref b) (pure (n : Int))) Q E s := by
  obtain ⟨o, ho, ho1, hf⟩ := id hs
  unfold Builtin.Slice.sliceApplied Builtin.Slice.sliceFields
  refine wpAny_bind (wpAny_bind (wpAny_field ho hf (x := x) rfl (wpAny_bind (wpAny_field ho hf (x := y) rfl (wpAny_bind (wpAny_field ho hf (x := z) rfl (wpAny_pure ?_)))))))
  refine wpAny_bind (HT.slicePart_ pz ?_)
  show wpAny _ _ (if ((-1 : Int) == 0) = true then _ else _) _ _ s
  rw [if_neg (show ¬ ((-1 : Int) == 0) = true by decide)]
  refine wpAny_bind (HT.slicePart_ px (wpAny_bind (HT.slicePart_ py (wpAny_bind (wpAny_pure ?_)))))
  show wpAny _ _ (pure (((n : Int) - 1), (-1 : Int), Builtin.Slice.slicePlaces ((n : Int) - 1) (-1) (-1))) _ _ s
  rw [turned_places]
  exact wpAny_pure h
theorem turned_get {t b : Addr} {l : List Value} {x y z : Value} {Q : Value → Shared → Prop} (ht : IsTup s.heap t l.toArray) (hs : s.heap.IsSliceOf b x y z) (px : IsPart x none) (py : IsPart y none) (pz : IsPart z (some (-1))) (hz : l.length ≤ sizeLine)
    (h : Q (.ref s.heap.objs.size) { s with heap := s.heap.push { cls := .type "tuple", data := .seq l.reverse.toArray } }) : wpAny (model prog w) A (getItem (.ref t) (.ref b)) Q E s := by
  have fits : sizeOk (.seq l.reverse.toArray) := by
    show l.reverse.toArray.size ≤ sizeLine
    rw [List.size_toArray, List.length_reverse]
    exact hz
  obtain ⟨o, ho, ho1, hf⟩ := id hs
  have kind : s.TypeIs (.ref b) "slice" := ⟨o, ho, ho1⟩
  unfold getItem
  try with_reducible refine wpAny_holding ?_
  first | refine wpAny_bind (wpAny_pure ?_) | skip
  refine wpAny_bind (wpAny_sequenceKey ht.typeIs (by decide) (wpAny_bind (wpAny_callSpecial?_slot (name := Str.ofString "__getitem__") ht.typeIs slot_tuple_getitem (wpAny_call_entry slot_tuple_getitem ht.typeIs entry_tuple_getitem ?_ (args_tuple_getitem _ _)))))
  show wpAny _ _ (Builtin.Tuple.tupleItemsOf (.ref t) >>= _) _ _ s
  refine wpAny_bind (tupleItemsOf_ ht (wpAny_bind (wpAny_typeOf kind ?_)))
  rw [if_pos (by decide)]
  refine wpAny_bind (turned_parts (n := l.toArray.size) hs px py pz ?_)
  have other : ¬ ((((l.toArray.size : Int) - 1) == 0 && (-1 : Int) == 1 && l.toArray.size == l.toArray.size) = true) := by
    rw [show ((-1 : Int) == 1) = false from rfl, Bool.and_false, Bool.false_and]
    exact Bool.false_ne_true
  show wpAny _ _ (if (((l.toArray.size : Int) - 1) == 0 && (-1 : Int) == 1 && l.toArray.size == l.toArray.size) = true then _ else _) _ _ s
  rw [if_neg other, List.size_toArray, turned_items]
  first
    | exact wpAny_bind (m := Builtin.Tuple.tupleExact _) (wpAny_newObj_type (wpAny_pure ⟨_, rfl, wpAny_pure h⟩) fits)
    | exact wpAny_bind (wpAny_bind (m := Builtin.Tuple.tupleExact _) (wpAny_newObj_type (wpAny_pure (wpAny_pure ⟨_, rfl, wpAny_pure h⟩)) fits))
    | exact wpAny_bind (m := Builtin.Tuple.tupleExact _) (wpAny_newObj_type (wpAny_bind (wpAny_pure (wpAny_pure ⟨_, rfl, wpAny_pure h⟩))) fits)
end
def tRevT (K : PySem.W.Frag) (te : TE) : TE := fun σ H Q => te σ H fun x H1 => ∃ a xs, x = .ref a ∧ SqT K H1 a xs ∧ ∀ p, H1 p = none → Q (.ref p) (upd H1 p (.tup xs.reverse))
section
variable {X : Cx}
/-- t[::-1] of a tuple -/
theorem pe_revT {e : Expr} {te : TE} {j : Nat} {q1 q2 q3 pos : Pos} (he : PE X e te) : PE X (.Subscript e (.Slice none none (some (.UnaryOp .USub (.Constant (.int 1) j q1) q2)) q3) pos) (tRevT X.K te) := by
  constructor
  intro pins s σ H Q I h
  refine Subscript_ (thn (he.run pins s σ H _ I h) ?_)
  rintro v s1 ⟨_, H1, I1, r1, a, xs, rfl, hx, q⟩
  cases r1
  have minus : PO X (some (.UnaryOp .USub (.Constant (.int 1) j q1) q2)) (tPart (tUn (rU fun i => .int (-i)) (tC (.int 1)))) := po_some (pe_un un_neg pe_int)
  have left : ∀ {t : Shared}, Inv X pins σ H1 t → wpAny (model X.prog X.w) X.A (evalPart none X.env) (fun u s' => ∃ o H', Inv X pins σ H' s' ∧ IsPart u o ∧ o = none ∧ H' = H1) X.xe t :=
    fun J => po_none.run pins _ σ H1 (fun o H' => o = none ∧ H' = H1) J ⟨rfl, rfl⟩
  refine wpAny_Slice (thn (left I1) ?_)
  rintro ux s2 ⟨_, K2, I2, px, rfl, k2⟩
  rw [k2] at I2
  refine thn (left I2) ?_
  rintro uy s3 ⟨_, K3, I3, py, rfl, k3⟩
  rw [k3] at I3
  refine thn (minus.run pins s3 σ H1 (fun o H' => o = some (-1) ∧ H' = H1) I3 ⟨1, rfl, -1, rfl, rfl, rfl⟩) ?_
  rintro uz s4 ⟨_, K4, I4, pz, rfl, k4⟩
  rw [k4] at I4
  obtain ⟨s5, e5⟩ : ∃ s5 : Shared, s5 = { s4 with heap := s4.heap.push { cls := .type "slice", data := .fields #[ux, uy, uz] } } := ⟨_, rfl⟩
  have I5 : Inv X pins σ H1 s5 := e5 ▸ I4.kept (t' := s4.toks) fun _ _ k => Heap.get?_push_of_some _ k
  have sl5 : s5.heap.IsSliceOf s4.heap.objs.size ux uy uz := e5 ▸ Heap.IsSliceOf.new _ ux uy uz
  obtain ⟨its, rv, ht, hz⟩ := I5.tuple hx
  have hl := rv.length
  have fin : wpAny (model X.prog X.w) X.A (getItem (.ref a) (.ref s4.heap.objs.size)) (EP X pins σ Q) X.xe s5 := by
    refine turned_get ht sl5 px py pz (by omega) ⟨.ref _, _, I5.laid (t' := s5.toks) (o := .tup xs.reverse) (fun _ _ k => Heap.get?_push_of_some _ k) (Nat.le_refl _) ?_, rfl, q _ (I5.hok.fresh (Nat.le_refl _))⟩
    exact ⟨by rw [List.length_reverse]; exact hz, _, rv.reverse, _, Heap.get?_push_size _ rfl, rfl, _, rfl⟩
  rw [← e5]
  exact tail_any (ops := [.ref a, .ref s4.heap.objs.size]) ht.typeIs slot_tuple_getitem.lookup fin (by with_unfolding_all rfl)
end
end Lm
/-! _law_bent. -/
namespace Lm
open PySem PySem.Spec PyProof.Rows L2
mutual
/-- small leaves, no dict -/
def lf (L J : Nat) : PyData → Bool
  | .str x => PyData.strOk x && decide (x.length ≤ L)
  | .int i => decide (i.natAbs ≤ J)
  | .none => true
  | .bool _ => true
  | .list ds => lfA L J ds
  | .tuple ds => lfA L J ds
  | .dict _ => false
def lfA (L J : Nat) : List PyData → Bool
  | [] => true
  | d :: r => lf L J d && lfA L J r
end
theorem lfA_iff {L J : Nat} : ∀ {ds : List PyData}, lfA L J ds = true ↔ ∀ d ∈ ds, lf L J d = true
  | [] => ⟨fun _ _ z => absurd z (by simp), fun _ => (by simp [lfA])⟩
  | d :: r => by
    simp only [lfA, Bool.and_eq_true]
    rw [lfA_iff (ds := r)]
    constructor
    · rintro ⟨a, b⟩ x hx
      rcases List.mem_cons.mp hx with rfl | hx
      · exact a
      · exact b x hx
    · intro h
      exact ⟨h d (List.mem_cons_self ..), fun x hx => h x (List.mem_cons_of_mem _ hx)⟩
mutual
theorem lf_mono {L J L' J' : Nat} (a : L ≤ L') (b : J ≤ J') : ∀ d : PyData, lf L J d = true → lf L' J' d = true
  | .str x, h => by
    simp only [lf, Bool.and_eq_true, decide_eq_true_eq] at h ⊢
    exact ⟨h.1, by omega⟩
  | .int i, h => by
    simp only [lf, decide_eq_true_eq] at h ⊢
    omega
  | .none, _ => by simp [lf]
  | .bool _, _ => by simp [lf]
  | .list ds, h => by
    simp only [lf] at h ⊢
    exact lfA_mono a b ds h
  | .tuple ds, h => by
    simp only [lf] at h ⊢
    exact lfA_mono a b ds h
  | .dict _, h => by simp [lf] at h
theorem lfA_mono {L J L' J' : Nat} (a : L ≤ L') (b : J ≤ J') : ∀ ds : List PyData, lfA L J ds = true → lfA L' J' ds = true
  | [], _ => by simp [lfA]
  | d :: r, h => by
    simp only [lfA, Bool.and_eq_true] at h ⊢
    exact ⟨lf_mono a b d h.1, lfA_mono a b r h.2⟩
end
mutual
theorem lf_facts {L J : Nat} (hL : L ≤ 1000) : ∀ d : PyData, lf L J d = true → shortD d = true ∧ d.canLay0 = true
  | .str x, h => by
    simp only [lf, Bool.and_eq_true, decide_eq_true_eq] at h
    exact ⟨decide_eq_true (by omega), by simpa only [PyData.canLay0] using h.1⟩
  | .int i, _ => ⟨rfl, by simp [PyData.canLay0]⟩
  | .none, _ => ⟨rfl, by simp [PyData.canLay0]⟩
  | .bool _, _ => ⟨rfl, by simp [PyData.canLay0]⟩
  | .list ds, h => by
    simp only [lf] at h
    obtain ⟨a, b⟩ := lfA_facts hL ds h
    exact ⟨a, by simpa only [PyData.canLay0] using b⟩
  | .tuple ds, h => by
    simp only [lf] at h
    obtain ⟨a, b⟩ := lfA_facts hL ds h
    exact ⟨a, by simpa only [PyData.canLay0] using b⟩
  | .dict _, h => by simp [lf] at h
theorem lfA_facts {L J : Nat} (hL : L ≤ 1000) : ∀ ds : List PyData, lfA L J ds = true → shortAll ds = true ∧ PyData.canLayAll0 ds = true
  | [], _ => ⟨rfl, by simp [PyData.canLayAll0]⟩
  | d :: r, h => by
    simp only [lfA, Bool.and_eq_true] at h
    obtain ⟨a, b⟩ := lf_facts hL d h.1
    obtain ⟨c, e⟩ := lfA_facts hL r h.2
    refine ⟨?_, by simp only [PyData.canLayAll0, b, e, Bool.and_self]⟩
    show (shortD d && shortAll r) = true
    rw [a, c]
    rfl
end
structure Bz (L J N m : Nat) (d : PyData) : Prop where
  l : lf L J d = true
  w : d.weight ≤ N
  p : d.depth ≤ m
structure BzA (L J N m : Nat) (ds : List PyData) : Prop where
  l : ∀ d ∈ ds, lf L J d = true
  w : PyData.weightAll ds ≤ N
  p : ∀ d ∈ ds, d.depth ≤ m
theorem depthAll_le {m : Nat} : ∀ {ds : List PyData}, (∀ d ∈ ds, d.depth ≤ m) → PyData.depthAll ds ≤ m
  | [], _ => Nat.zero_le _
  | d :: r, h => by
    have h1 := h d (List.mem_cons_self ..)
    have h2 := depthAll_le (ds := r) fun x hx => h x (List.mem_cons_of_mem _ hx)
    show max d.depth (PyData.depthAll r) ≤ m
    omega
theorem weight_app : ∀ a b : List PyData, PyData.weightAll (a ++ b) = PyData.weightAll a + PyData.weightAll b
  | [], b => by show _ = 0 + _; rw [Nat.zero_add]; rfl
  | d :: r, b => by
    show d.weight + 1 + PyData.weightAll (r ++ b) = d.weight + 1 + PyData.weightAll r + PyData.weightAll b
    rw [weight_app r b]
    omega
theorem weight_sub {a b : List PyData} (h : a.Sublist b) : PyData.weightAll a ≤ PyData.weightAll b := by
  induction h with
  | slnil => exact Nat.le_refl _
  | cons d _ ih =>
    show _ ≤ d.weight + 1 + PyData.weightAll _
    omega
  | cons_cons d _ ih =>
    show d.weight + 1 + PyData.weightAll _ ≤ d.weight + 1 + PyData.weightAll _
    omega
theorem weight_rev : ∀ a : List PyData, PyData.weightAll a.reverse = PyData.weightAll a
  | [] => rfl
  | d :: r => by
    rw [List.reverse_cons, weight_app, weight_rev r]
    show _ + (d.weight + 1 + 0) = d.weight + 1 + _
    omega
section
variable {L J N M m : Nat} {d : PyData} {ds es : List PyData}
theorem Bz.mono {L' J' N' m' : Nat} (h : Bz L J N m d) (a : L ≤ L') (b : J ≤ J') (c : N ≤ N') (e : m ≤ m') : Bz L' J' N' m' d := ⟨lf_mono a b d h.l, Nat.le_trans h.w c, Nat.le_trans h.p e⟩
theorem BzA.mono {L' J' N' m' : Nat} (h : BzA L J N m ds) (a : L ≤ L') (b : J ≤ J') (c : N ≤ N') (e : m ≤ m') : BzA L' J' N' m' ds := ⟨fun d hd => lf_mono a b d (h.l d hd), Nat.le_trans h.w c, fun d hd => Nat.le_trans (h.p d hd) e⟩
theorem Bz.items (h : Bz L J N (m + 1) (.tuple ds)) : BzA L J N m ds := by
  have hl : lfA L J ds = true := by simpa only [lf] using h.l
  refine ⟨lfA_iff.mp hl, h.w, fun d hd => ?_⟩
  have h1 := depth_mem hd
  have : PyData.depthAll ds + 1 ≤ m + 1 := h.p
  omega
theorem BzA.tup (h : BzA L J N m ds) : Bz L J N (m + 1) (.tuple ds) := by
  refine ⟨by simp only [lf]; exact lfA_iff.mpr h.l, h.w, ?_⟩
  have := depthAll_le h.p
  show PyData.depthAll ds + 1 ≤ m + 1
  omega
theorem BzA.lst (h : BzA L J N m ds) : Bz L J N (m + 1) (.list ds) := by
  refine ⟨by simp only [lf]; exact lfA_iff.mpr h.l, h.w, ?_⟩
  have := depthAll_le h.p
  show PyData.depthAll ds + 1 ≤ m + 1
  omega
theorem BzA.nil : BzA L J 0 m [] := ⟨fun _ z => (by simp at z), Nat.le_refl _, fun _ z => (by simp at z)⟩
theorem BzA.cons (h : Bz L J N m d) (t : BzA L J M m ds) : BzA L J (N + 1 + M) m (d :: ds) := by
  refine ⟨fun x hx => ?_, ?_, fun x hx => ?_⟩
  · rcases List.mem_cons.mp hx with rfl | hx
    · exact h.l
    · exact t.l x hx
  · show d.weight + 1 + PyData.weightAll ds ≤ _
    have := h.w
    have := t.w
    omega
  · rcases List.mem_cons.mp hx with rfl | hx
    · exact h.p
    · exact t.p x hx
theorem BzA.app (h : BzA L J N m ds) (t : BzA L J M m es) : BzA L J (N + M) m (ds ++ es) := by
  refine ⟨fun x hx => (List.mem_append.mp hx).elim (h.l x) (t.l x), ?_, fun x hx => (List.mem_append.mp hx).elim (h.p x) (t.p x)⟩
  rw [weight_app]
  have := h.w
  have := t.w
  omega
theorem BzA.sub (h : BzA L J N m ds) (s : es.Sublist ds) : BzA L J N m es := ⟨fun x hx => h.l x (s.mem hx), Nat.le_trans (weight_sub s) h.w, fun x hx => h.p x (s.mem hx)⟩
theorem BzA.rev (h : BzA L J N m ds) : BzA L J N m ds.reverse := ⟨fun x hx => h.l x (List.mem_reverse.mp hx), by rw [weight_rev]; exact h.w, fun x hx => h.p x (List.mem_reverse.mp hx)⟩
theorem BzA.mem (h : BzA L J N m ds) (hd : d ∈ ds) : Bz L J N m d := ⟨h.l d hd, by have := weight_mem hd; have := h.w; omega, h.p d hd⟩
theorem bz_non : Bz L J 0 m .none := ⟨by simp [lf], Nat.le_refl _, Nat.zero_le _⟩
theorem bz_bool {b : Bool} : Bz L J 0 m (.bool b) := ⟨by simp [lf], Nat.le_refl _, Nat.zero_le _⟩
theorem bz_str {x : Str} (h : PyData.strOk x = true) (a : x.length ≤ L) (b : x.length ≤ N) : Bz L J N m (.str x) := ⟨by simp only [lf, Bool.and_eq_true, decide_eq_true_eq]; exact ⟨h, a⟩, b, Nat.zero_le _⟩
theorem bz_int {i : Int} (h : i.natAbs ≤ J) (a : J ≤ 1020) (b : 10 ≤ N) : Bz L J N m (.int i) := by
  refine ⟨by simp only [lf, decide_eq_true_eq]; exact h, ?_, Nat.zero_le _⟩
  show (if i == 0 then 0 else i.natAbs.log2 + 1) ≤ N
  split
  · exact Nat.zero_le _
  · rename_i z
    have z : i.natAbs ≠ 0 := fun q => z (by simpa using Int.natAbs_eq_zero.mp q)
    have : i.natAbs.log2 < 10 := (Nat.log2_lt z).mpr (by omega)
    omega
end
theorem slA_sb {K : PySem.W.Frag} {D : DrA} {n : Nat} {H : Hp} {Q : VK} {a : Addr} {ds : List PyData} {lo hi : Option Int} (dr : DrawAt D n H) (h : Da D H (.ref a) (.tuple ds)) (q : ∀ (H' : Hp) (p : Addr) (es : List PyData), Same H H' → DrawAt D n H' → es.Sublist ds → Da D H' (.ref p) (.tuple es) → Q (.ref p) H') : rSlA K (.ref a) lo hi H Q := by
  cases h with
  | tup h n1 n2 ha =>
    rename_i xs
    refine ⟨a, xs, rfl, SqT.of h, fun _ => q H a ds (fun _ _ z => z) dr (List.Sublist.refl _) (.tup h n1 n2 ha), fun _ p np => ?_⟩
    exact q _ p _ (same_upd np) (dr.new np) ((List.take_sublist _ _).trans (List.drop_sublist _ _)) (.tup upd_same (dr.off np).1 (dr.off np).2 (((ha.drop _).take _).sm (same_upd np)))
theorem pick_da {D : DrA} {n : Nat} {H : Hp} {Q : VK} {l : Addr} {xs : List V} {ds : List PyData} {E : XK} (dr : DrawAt D n H) (hn : n + 1 ≤ B) (hl : H l = some (.lst xs)) (lw : l ≠ D.w) (h : DaAll D H xs ds) (h0 : xs ≠ []) (h1 : xs.length < 1073741824)
    (q : ∀ (H' : Hp) (v : V) (d : PyData), DrawAt D (n + 1) H' → Fr D H H' → d ∈ ds → Da D H' v d → Q v H') : spPick [.ref D.d, .ref l] H Q E := by
  refine ⟨D, n, l, xs, rfl, dr, hn, hl, lw, h0, h1, fun H' i v e d' f' => ?_⟩
  obtain ⟨d, h2, h3⟩ := (h.fr f'.t).get e
  exact q H' v d d' f' (List.mem_of_getElem? h2) h3
theorem cut_from' {xs : List V} {i : Nat} : cutV xs (some (((i : Nat) : Int) + 1)) none = xs.drop (i + 1) := by
  have e : HT.sIx xs.length 0 (some (((i : Nat) : Int) + 1)) = min (i + 1) xs.length := by
    rw [show ((i : Nat) : Int) + 1 = ((i + 1 : Nat) : Int) by omega, HT.sIx_nat]
  unfold cutV
  rw [e]
  by_cases h : i + 1 ≤ xs.length
  · rw [Nat.min_eq_left h]
    simp only [HT.sIx]
    exact List.take_of_length_le (by rw [List.length_drop]; exact Nat.le_refl _)
  · rw [Nat.min_eq_right (by omega)]
    simp [HT.sIx]
    omega
end Lm
/-! _law_bent. -/
namespace Lm
open PySem PySem.Spec PyProof.Rows L2
theorem catM {K : PySem.W.Frag} {D : DrA} {n : Nat} {H : Hp} {Q : VK} {a b : Addr} {ds es : List PyData} (dr : DrawAt D n H) (h : Da D H (.ref a) (.tuple ds)) (h' : Da D H (.ref b) (.tuple es)) (hl : ds.length + es.length ≤ 1000000) (q : ∀ (H' : Hp) (p : Addr), Same H H' → DrawAt D n H' → Da D H' (.ref p) (.tuple (ds ++ es)) → Q (.ref p) H') : rCatA K (.ref a) (.ref b) H Q := by
  have h0 := h
  have h1 := h'
  cases h with
  | tup h n1 n2 ha =>
    cases h' with
    | tup h' m1 m2 ha' =>
      rename_i xs ys
      refine ⟨a, b, xs, ys, rfl, rfl, SqT.of h, SqT.of h', smallM (by rw [ha.length, ha'.length]; exact hl), fun e => ?_, fun _ e => ?_, fun _ _ p np => ?_⟩
      · subst e
        cases ha
        exact q H b (fun _ _ z => z) dr h1
      · subst e
        cases ha'
        rw [List.append_nil] at q
        exact q H a (fun _ _ z => z) dr h0
      · exact q _ p (same_upd np) (dr.new np) (.tup upd_same (dr.off np).1 (dr.off np).2 ((ha.app ha').sm (same_upd np)))
theorem int_str_ok (i : Int) : PyData.strOk (Str.ofString (toString i)) = true := by
  show ((Str.ofString (toString i)).cps.all fun c => decide (c < 1114112)) = true
  rw [← Array.all_toList, List.all_eq_true]
  intro c hc
  refine decide_eq_true (Classical.byContradiction fun h => ?_)
  exact int_text_free' c ⟨by omega, .inr (by omega)⟩ i hc
theorem int_str_len {i : Int} (h : i.natAbs ≤ 1000) : (Str.ofString (toString i)).length ≤ 5 := by
  have := int_text_length_le10 (a := i) (k := 4) (by decide) (by have : (10 : Nat) ^ 4 = 10000 := by decide
                                                                 omega)
  rw [PySem.ofString_length]
  exact this
theorem str_ok_iff {x : Str} : PyData.strOk x = true ↔ ∀ c ∈ x.cps.toList, c < 1114112 := by
  show (x.cps.all fun c => decide (c < 1114112)) = true ↔ _
  rw [← Array.all_toList, List.all_eq_true]
  exact ⟨fun h c hc => of_decide_eq_true (h c hc), fun h c hc => decide_eq_true (h c hc)⟩
theorem str_ok_app {x y : Str} (h1 : PyData.strOk x = true) (h2 : PyData.strOk y = true) : PyData.strOk (x ++ y) = true := by
  rw [str_ok_iff] at h1 h2 ⊢
  intro c hc
  rw [PySem.Str.cps_append, Array.toList_append] at hc
  exact (List.mem_append.mp hc).elim (h1 c) (h2 c)
theorem str_ok_cut {x : Str} {lo hi : Option Int} (h : PyData.strOk x = true) : PyData.strOk (cutS x lo hi) = true := by
  rw [str_ok_iff] at h ⊢
  intro c hc
  refine h c ?_
  unfold cutS at hc
  exact List.mem_of_mem_drop (List.mem_of_mem_take hc)
section
variable {P : Program} {w : World} {K : PySem.W.Frag} {mg : Str → Option Value} {base : Heap}
abbrev sBt : Stmt := topS 59
theorem scBt : FnScope ["draw", "item", "spot", "some"] ["draw", "item"] (defScope sBt) := ⟨rfl, rfl, rfl, by decide +kernel, rfl, by decide +kernel, by decide +kernel⟩
def spBt (k : Nat) : Sp := fun vs H Q _ => ∃ (D : DrA) (n : Nat) (v : V) (d : PyData) (L J N : Nat), vs = [.ref D.d, v] ∧ Da D H v d ∧ Bz L J N k d ∧ (20 ≤ L ∧ L ≤ 500) ∧ J ≤ 900 ∧ N ≤ 9000 ∧ DrawAt D n H ∧ n + 3 * (k + 1) ≤ B ∧
  ∀ (H' : Hp) (v' : V) (d' : PyData), Da D H' v' d' → Bz (L + 1) (J + 7) (2 * N + 20) (k + 1) d' → DrawAt D (n + 3 * (k + 1)) H' → Fr D H H' → Q v' H'
def spBtBelow : Nat → Sp
  | 0 => fun _ _ _ _ => False
  | k + 1 => spBt k
theorem ok_bt_no {f : Addr} {fd : FuncData} (F : Fun K "_law_bent" "_law_bent" sBt f fd) (j : Nat) : FnOk P w K mg base CX0 (j + 1) f fd ["draw", "item"] (spBtBelow 0) :=
  F.ok scBt (fun vs H Q E h => h.elim) (fun cdv A outer s H vs Q E hr h => h.elim)
theorem ok_bt {f : Addr} {fd : FuncData} (F : Fun K "_law_bent" "_law_bent" sBt f fd) (N : Bl mg) (k : Nat) (k10 : k ≤ 20) (GT : Has P w K mg base CX0 2 "_law_take" ["draw", "size"] spTake) (GP : Has P w K mg base CX0 3 "_law_pick" ["draw", "some"] spPick)
    (GW : Has P w K mg base CX0 1 "_law_is_whole" ["item"] spNum) (GB : Has P w K mg base CX0 (k + 3) "_law_bent" ["draw", "item"] (spBtBelow k)) :
    FnOk P w K mg base CX0 (k + 4) f fd ["draw", "item"] (spBt k) := by
  refine F.ok scBt (fun vs H Q E h => ?_) (fun cdv A outer s H vs Q E hr h => ?_)
  · obtain ⟨D, n, v, d, L, J, W, rfl, _⟩ := h
    rfl
  · obtain ⟨D, n, v, d, L, J, W, rfl, hd, bz, ⟨L1, L2⟩, J9, W9, dr, hn, q⟩ := h
    have hu64 : (A.deeper (envOfC "_law_bent" (defScope sBt) s.heap.objs.size f cdv)).units + 64 < cLine := by
      have := hr.un
      omega
    refine ⟨_, C8.pss_cut (ps_if (pw_and (pt_val (pe_callB call_isi (by rfl) N.bisi (by decide +kernel) (pa_cons (pv 1) (pa_cons (pe_bltn (v := .ty "tuple") (by rfl) N.btup (by decide +kernel) rfl) pa_nil))))
          (pw_and (pt_cmpR (op_neD hu64) (pv 1) (pe_tup pa_nil) (nomark _)) (pw_and1 (pt_cmpR op_gt (pe_h GT hr (by omega) (by rfl) pass0 (pa_cons (pv 0) (pa_cons pe_int pa_nil))) pe_int (nomark _))))).pt
        (pss_cons (ps_set (i := 2) scBt.nd rfl (.inl rfl) (pe_h GT hr (by omega) (by rfl) pass0 (pa_cons (pv 0) (pa_cons (pe_callB call_len_seq (by rfl) N.blen PySem.boot_len (pa_cons (pv 1) pa_nil)) pa_nil))))
        (pss_one (ps_ret (pe_op op_catA (pe_op op_catA (pe_slice sl_tupA (pv 1) po_none (po_some (pv 2))) (pe_tup (pa_cons (pe_h GB hr (by omega) (by rfl) pass0 (pa_cons (pv 0) (pa_cons (pe_ix ix_tup (pv 1) (pv 2) (fun _ _ => rfl)) pa_nil))) pa_nil)))
          (pe_slice sl_tupA (pv 1) (po_some (pe_op op_add (pv 2) pe_int)) po_none))))) pss_nil)
      (pss_cons (ps_if (pt_val (pe_callB call_isi (by rfl) N.bisi (by decide +kernel) (pa_cons (pv 1) (pa_cons (pe_bltn (v := .ty "tuple") (by rfl) N.btup (by decide +kernel) rfl) pa_nil))))
        (pss_cons (ps_set (i := 3) scBt.nd rfl (.inl rfl) (pe_lst (pa_cons (pe_tup pa_nil) (pa_cons pe_non (pa_cons (pe_callTy call_list_of (by rfl) N.blist (by decide +kernel) (pa_cons (pv 1) pa_nil))
          (pa_cons (pe_op op_catA (pv 1) (pe_slice sl_tupA (pv 1) (po_some (pe_un un_neg pe_int)) po_none)) (pa_cons (pe_slice sl_tupA (pv 1) po_none (po_some (pe_un un_neg pe_int))) (pa_cons (pe_revT (pv 1)) (pa_cons (pe_tup (pa_cons (pv 1) pa_nil)) (pa_cons (pe_op op_catA (pv 1) (pe_tup (pa_cons pe_non pa_nil))) pa_nil))))))))))
        (pss_one (ps_ret (pe_h GP hr (by omega) (by rfl) pass0 (pa_cons (pv 0) (pa_cons (pv 3) pa_nil)))))) pss_nil)
      (pss_cons (ps_if (pt_val (pe_callB call_isi (by rfl) N.bisi (by decide +kernel) (pa_cons (pv 1) (pa_cons (pe_bltn (v := .ty "str") (by rfl) N.bstr (by decide +kernel) rfl) pa_nil))))
        (pss_cons (ps_set (i := 3) scBt.nd rfl (.inl rfl) (pe_lst (pa_cons pe_str (pa_cons pe_str (pa_cons pe_str (pa_cons pe_str (pa_cons pe_str (pa_cons pe_str (pa_cons pe_str (pa_cons pe_str (pa_cons pe_str (pa_cons pe_str (pa_cons pe_str (pa_cons pe_str (pa_cons pe_str (pa_cons pe_str (pa_cons pe_str (pa_cons (pv 1) pa_nil))))))))))))))))))
        (pss_one (ps_ret (pe_h GP hr (by omega) (by rfl) pass0 (pa_cons (pv 0) (pa_cons (pe_op op_cat (pv 3) (pe_lst (pa_cons pe_non (pa_cons (pe_op op_add_str (pv 1) pe_str) (pa_cons (pe_slice sl_str (pv 1) (po_some pe_int) po_none) (pa_cons pe_int pa_nil)))))) pa_nil)))))) pss_nil)
      (pss_cons (ps_if (pt_val (pe_h GW hr (by omega) (by rfl) pass0 (pa_cons (pv 1) pa_nil)))
        (pss_one (ps_ret (pe_h GP hr (by omega) (by rfl) pass0 (pa_cons (pv 0) (pa_cons (pe_lst (pa_cons (pe_op op_add (pv 1) pe_int) (pa_cons (pe_op op_sub (pv 1) pe_int) (pa_cons (pe_op op_sub pe_int (pv 1)) (pa_cons pe_bl (pa_cons pe_non
          (pa_cons (pe_callTy call_str_int (by rfl) N.bstr (by decide +kernel) (pa_cons (pv 1) pa_nil)) (pa_cons (pe_op op_add (pv 1) pe_int) (pa_cons (pe_tup (pa_cons (pv 1) pa_nil)) pa_nil))))))))) pa_nil))))) pss_nil)
      (pss_one (ps_ret (pe_h GP hr (by omega) (by rfl) pass0 (pa_cons (pv 0) (pa_cons (pe_lst (pa_cons pe_int (pa_cons pe_str (pa_cons pe_bl (pa_cons pe_bl (pa_cons (pe_tup pa_nil) (pa_cons pe_non (pa_cons pe_str (pa_cons pe_int pa_nil))))))))) pa_nil)))))))), ?_⟩
    have fin : ∀ {H1 : Hp} {m : Nat} {l : Addr} {xs : List V} {ds : List PyData}, m ≤ n + 1 → Fr D H H1 → DrawAt D m H1 → H1 l = some (.lst xs) → l ≠ D.d → l ≠ D.w → DaAll D H1 xs ds → xs ≠ [] → xs.length < 1073741824 → (∀ e ∈ ds, Bz (L + 1) (J + 7) (2 * W + 20) (k + 1) e) → spPick [.ref D.d, .ref l] H1 Q E :=
      fun hm f1 d1 hl ld lw hda x0 x1 all => pick_da d1 (by omega) hl lw hda x0 x1 fun H' v d d2 f2 md hv => q H' v d hv (all d md) (d2.mono (by omega)) (f1.trans f2)
    have cst : ∀ {x : Str}, (PyData.strOk x = true ∧ x.length ≤ 20) → Bz (L + 1) (J + 7) (2 * W + 20) (k + 1) (.str x) := fun h => bz_str h.1 (by omega) (by omega)
    have up : ∀ {e : PyData}, Bz L J W k e → Bz (L + 1) (J + 7) (2 * W + 20) (k + 1) e := fun h => h.mono (by omega) (by omega) (by omega) (by omega)
    have emp : Bz (L + 1) (J + 7) (2 * W + 20) (k + 1) (.tuple []) := Bz.mono (L := L + 1) (J := J + 7) (N := 0) (m := 0 + 1) BzA.nil.tup (Nat.le_refl _) (Nat.le_refl _) (Nat.zero_le _) (by omega)
    refine ⟨fun σ H1 => ∃ m, m ≤ n + 1 ∧ σ = [some (.ref D.d), some v, none, none] ∧ DrawAt D m H1 ∧ Fr D H H1, ?_, ?_⟩
    · refine ⟨v, rfl, v, .ty "tuple", _, _, isTup d, rfl, .ty "tuple", hd.ty, kit_tup K d, isTup d, rfl, ?_⟩
      have stay : ∃ m, m ≤ n + 1 ∧ [some (V.ref D.d), some v, none, none] = [some (.ref D.d), some v, none, none] ∧ DrawAt D m H ∧ Fr D H H := ⟨n, by omega, rfl, dr, Fr.refl _ _⟩
      have hd0 := hd
      cases hd with
      | non => exact iteF (iteF stay)
      | bl b => exact iteF (iteF stay)
      | lst _ _ _ _ => exact iteF (iteF stay)
      | int i => exact iteF (iteF stay)
      | str x => exact iteF (iteF stay)
      | emp _ _ _ => exact iteF (iteF stay)
      | tup h1 n1 n2 ha =>
        rename_i a xs ds
        obtain ⟨k, rfl⟩ : ∃ k', k = k' + 1 := ⟨k - 1, by
          have : PyData.depthAll ds + 1 ≤ k := bz.p
          omega⟩
        have its := bz.items
        have la : (PyData.tuple ds).canLay0 = true := (lf_facts (by omega) _ bz.l).2
        refine iteT ⟨_, rfl, Nat.zero_le _, fun p np => ?_⟩
        obtain ⟨s1, d1, hp⟩ := tup_da dr .nil np
        generalize upd H p (.tup []) = H1 at *
        refine ⟨.tuple ds, .tuple [], (hd0.sm s1).dp la, .tup (SqT.of (by cases hp with | tup h _ _ ha => cases ha; exact h)) .nil, shape_of la (Nat.le_trans bz.p (by omega)), by decide +kernel, _, rfl, ?_⟩
        cases ds with
        | nil => exact iteF (iteF ⟨n, by omega, rfl, d1, .of s1⟩)
        | cons e r =>
          refine iteT ⟨_, rfl, D, n, 12, rfl, d1, by omega, by decide, by decide, fun H2 u d2 f2 u0 u1 => ⟨_, _, rfl, rfl, _, rfl, ite2 (fun _ => ?_) (fun _ => ?_)⟩⟩
          · have f12 : Fr D H H2 := (Fr.of s1).trans f2
            have hd2 := hd0.fr f12.t
            have hl := ha.length
            have lw := weight_len (ds := e :: r)
            have lW : (e :: r).length ≤ W := Nat.le_trans lw its.w
            refine ⟨_, rfl, .ref a, rfl, a, xs, rfl, .inr (SqT.of (f12 _ _ h1 n1 n2)), D, n + 1, _, rfl, d2, by omega, ?_, ?_, fun H3 z d3 f3 z0 z1 => ?_⟩
            · rw [hl, List.length_cons]
              omega
            · rw [hl]
              omega
            · have f13 := f12.trans f3
              obtain ⟨j, rfl⟩ : ∃ j : Nat, z = (j : Int) := ⟨z.toNat, by omega⟩
              have hj : j < xs.length := by omega
              refine ⟨_, rfl, _, rfl, (j : Int), rfl, slA_td (us := xs.take j) (es := (e :: r).take j) d3 (f13 _ _ h1 n1 n2) n1 n2 cut_to' ((ha.fr f13.t).take j) fun H4 p4 s4 d4 hp4 o1 o2 g4 => ?_⟩
              have f14 := f13.trans (.of s4)
              obtain ⟨dj, e1, e2⟩ := (ha.fr f14.t).get (List.getElem?_eq_getElem hj)
              refine ⟨_, rfl, _, rfl, _, rfl, a, xs, _, xs[j], rfl, rfl, SqT.of (f14 _ _ h1 n1 n2), atI_nat (List.getElem?_eq_getElem hj), ?_⟩
              have mj := List.mem_of_getElem? e1
              have bj : Bz L J dj.weight k dj := ⟨(its.mem mj).l, Nat.le_refl _, (its.mem mj).p⟩
              have wj := weight_mem mj
              refine ⟨D, n + 2, _, dj, L, J, dj.weight, rfl, e2, bj, ⟨L1, L2⟩, J9, by have := its.w; omega, d4, by omega, fun H5 v5 d5' hv5 b5 d5 f5 => ?_⟩
              refine ⟨by show 1 ≤ sizeLine; decide, fun p6 np6 => ?_⟩
              obtain ⟨s6, d6, hp6⟩ := tup_da d5 (.cons hv5 .nil) np6
              generalize upd H5 p6 (.tup [v5]) = H6 at *
              have f16 := (f14.trans f5).trans (.of s6)
              have lt4 : ((e :: r).take j).length ≤ (e :: r).length := by rw [List.length_take]; exact Nat.min_le_right _ _
              have hp4' : Da D H4 (.ref p4) (.tuple ((e :: r).take j)) := .tup hp4 o1 o2 g4
              refine catA_da d6 (hp4'.fr (f5.trans (.of s6)).t) hp6 (by show ((e :: r).take j).length + 1 ≤ 10000; omega) fun H7 p7 s7 d7 hp7 => ?_
              have f17 := f16.trans (.of s7)
              refine ⟨_, rfl, _, rfl, _, _, rfl, rfl, _, rfl, ?_⟩
              try simp only [tNoPart]
              refine slA_td (us := xs.drop (j + 1)) (es := (e :: r).drop (j + 1)) d7 (f17 _ _ h1 n1 n2) n1 n2 cut_from' ((ha.fr f17.t).drop (j + 1)) fun H8 p8 s8 d8 hp8 o3 o4 g8 => ?_
              have hp8' : Da D H8 (.ref p8) (.tuple ((e :: r).drop (j + 1))) := .tup hp8 o3 o4 g8
              have ld8 : ((e :: r).drop (j + 1)).length ≤ (e :: r).length := by rw [List.length_drop]; exact Nat.sub_le _ _
              refine catA_da d8 (hp7.sm s8) hp8' ?_ fun H9 p9 s9 d9 hp9 => ?_
              · rw [List.length_append]
                show ((e :: r).take j).length + 1 + ((e :: r).drop (j + 1)).length ≤ 10000
                have : ((e :: r).take j).length + ((e :: r).drop (j + 1)).length ≤ (e :: r).length := by
                  rw [List.length_take, List.length_drop]
                  omega
                omega
              · refine q H9 _ _ hp9 ?_ (d9.mono (by omega)) ((f17.trans (.of s8)).trans (.of s9))
                have tot : PyData.weightAll ((e :: r).take j) + (dj.weight + 1 + PyData.weightAll ((e :: r).drop (j + 1))) = PyData.weightAll (e :: r) := by
                  have h0 : (e :: r) = (e :: r).take j ++ dj :: (e :: r).drop (j + 1) := by
                    obtain ⟨lt, ee⟩ := List.getElem?_eq_some_iff.mp e1
                    have := List.take_append_drop j (e :: r)
                    rw [List.drop_eq_getElem_cons lt, ee] at this
                    exact this.symm
                  conv => rhs; rw [h0, weight_app]
                  rfl
                have b1 : BzA (L + 1) (J + 7) (PyData.weightAll ((e :: r).take j)) (k + 1) ((e :: r).take j) :=
                  BzA.mono (N := PyData.weightAll ((e :: r).take j)) ⟨(its.sub (List.take_sublist _ _)).l, Nat.le_refl _, (its.sub (List.take_sublist _ _)).p⟩ (by omega) (by omega) (Nat.le_refl _) (by omega)
                have b3 : BzA (L + 1) (J + 7) (PyData.weightAll ((e :: r).drop (j + 1))) (k + 1) ((e :: r).drop (j + 1)) :=
                  BzA.mono (N := PyData.weightAll ((e :: r).drop (j + 1))) ⟨(its.sub (List.drop_sublist _ _)).l, Nat.le_refl _, (its.sub (List.drop_sublist _ _)).p⟩ (by omega) (by omega) (Nat.le_refl _) (by omega)
                have bb := ((b1.app (BzA.cons b5 BzA.nil)).app b3).tup
                have iw := its.w
                exact bb.mono (Nat.le_refl _) (Nat.le_refl _) (by omega) (Nat.le_refl _)
          · exact ⟨n + 1, by omega, rfl, d2, (Fr.of s1).trans f2⟩
    · rintro σ H1 ⟨m, hm, rfl, d1, f1⟩
      have hd1 := hd.fr f1.t
      refine ⟨v, rfl, v, .ty "tuple", _, _, isTup d, rfl, .ty "tuple", hd1.ty, kit_tup K d, isTup d, rfl, ?_⟩
      have hd0 := hd1
      have last : (isTup d = false) → (isStr d = false) → (isNum d = false) → ∀ {p2 : Addr}, H1 p2 = none → ∀ {p3 : Addr}, (upd H1 p2 (.tup [])) p3 = none → spPick [.ref D.d, .ref p3] (upd (upd H1 p2 (.tup [])) p3 (.lst [.int 0, .str "a", .bl true, .bl false, .ref p2, .non, .str "tiles n", .int 5])) Q E := by
        intro _ _ _ p2 np2 p3 np3
        obtain ⟨s2, d2, hp2⟩ := tup_da d1 .nil np2
        obtain ⟨s3, d3, hp3, m1, m2, hall⟩ := lst_da d2 (.cons (.int 0) (.cons (.str "a") (.cons (.bl true) (.cons (.bl false) (.cons hp2 (.cons .non (.cons (.str "tiles n") (.cons (.int 5) .nil)))))))) np3
        refine fin hm ((f1.trans (.of s2)).trans (.of s3)) d3 hp3 m1 m2 hall (fun z => by cases z) (by show 8 < 1073741824; decide) fun e he => ?_
        have c0 : Bz (L + 1) (J + 7) (2 * W + 20) (k + 1) (.int 0) := bz_int (by show (0 : Nat) ≤ _; omega) (by omega) (by omega)
        have c5 : Bz (L + 1) (J + 7) (2 * W + 20) (k + 1) (.int 5) := bz_int (by show (5 : Nat) ≤ _; omega) (by omega) (by omega)
        simp only [List.mem_cons, List.not_mem_nil, or_false] at he
        rcases he with rfl | rfl | rfl | rfl | rfl | rfl | rfl | rfl
        · exact c0
        · exact cst (by decide +kernel)
        · exact bz_bool.mono (Nat.le_refl _) (Nat.le_refl _) (Nat.zero_le _) (Nat.le_refl _)
        · exact bz_bool.mono (Nat.le_refl _) (Nat.le_refl _) (Nat.zero_le _) (Nat.le_refl _)
        · exact emp
        · exact bz_non.mono (Nat.le_refl _) (Nat.le_refl _) (Nat.zero_le _) (Nat.le_refl _)
        · exact cst (by decide +kernel)
        · exact c5
      cases hd1 with
      | non => exact iteF ⟨_, rfl, _, .ty "str", _, _, false, rfl, .ty "str", hd0.ty, kit_str K .none, false, rfl, iteF ⟨_, rfl, D, _, .none, rfl, .non, false, rfl, iteF ⟨_, rfl, Nat.zero_le _, fun p2 np2 => ⟨by show 8 ≤ sizeLine; decide, fun p3 np3 => last rfl rfl rfl np2 np3⟩⟩⟩⟩
      | bl b => exact iteF ⟨_, rfl, _, .ty "str", _, _, false, rfl, .ty "str", hd0.ty, kit_str K (.bool b), false, rfl, iteF ⟨_, rfl, D, _, .bool b, rfl, .bl b, false, rfl, iteF ⟨_, rfl, Nat.zero_le _, fun p2 np2 => ⟨by show 8 ≤ sizeLine; decide, fun p3 np3 => last rfl rfl rfl np2 np3⟩⟩⟩⟩
      | lst h1 n1 n2 ha => exact iteF ⟨_, rfl, _, .ty "str", _, _, false, rfl, .ty "str", hd0.ty, kit_str K (.list _), false, rfl, iteF ⟨_, rfl, D, _, .list _, rfl, hd0, false, rfl, iteF ⟨_, rfl, Nat.zero_le _, fun p2 np2 => ⟨by show 8 ≤ sizeLine; decide, fun p3 np3 => last rfl rfl rfl np2 np3⟩⟩⟩⟩
      | emp h1 n1 n2 => exact absurd bz.l (by simp [lf])
      | int i =>
        have oi : i.natAbs ≤ J := by simpa only [lf, decide_eq_true_eq] using bz.l
        refine iteF ⟨_, rfl, _, .ty "str", _, _, false, rfl, .ty "str", hd0.ty, kit_str K (.int i), false, rfl, iteF ⟨_, rfl, D, _, .int i, rfl, .int i, true, rfl, iteT ?_⟩⟩
        refine ⟨_, rfl, _, rfl, _, _, rfl, rfl, _, rfl, _, _, rfl, rfl, _, rfl, _, _, rfl, rfl, _, rfl, i, rfl, ?_, _, rfl, _, _, rfl, rfl, _, rfl, by show 1 ≤ sizeLine; decide, fun p2 np2 => ?_⟩
        · exact Nat.lt_of_le_of_lt (Nat.log2_le_self _) (by omega)
        · obtain ⟨s2, d2, hp2⟩ := tup_da d1 (.cons (.int i) .nil) np2
          refine ⟨by show 8 ≤ sizeLine; decide, fun p3 np3 => ?_⟩
          obtain ⟨s3, d3, hp3, m1, m2, hall⟩ := lst_da d2 (.cons (.int _) (.cons (.int _) (.cons (.int _) (.cons (.bl _) (.cons .non (.cons (.str _) (.cons (.int _) (.cons hp2 .nil)))))))) np3
          refine fin hm ((f1.trans (.of s2)).trans (.of s3)) d3 hp3 m1 m2 hall (fun z => by cases z) (by show 8 < 1073741824; decide) fun e he => ?_
          have ci : ∀ z : Int, z.natAbs ≤ J + 7 → Bz (L + 1) (J + 7) (2 * W + 20) (k + 1) (.int z) := fun z h => bz_int h (by omega) (by omega)
          have is := int_str_len (i := i) (by omega)
          simp only [List.mem_cons, List.not_mem_nil, or_false] at he
          rcases he with rfl | rfl | rfl | rfl | rfl | rfl | rfl | rfl
          · exact ci _ (by omega)
          · exact ci _ (by omega)
          · exact ci _ (by omega)
          · exact bz_bool.mono (Nat.le_refl _) (Nat.le_refl _) (Nat.zero_le _) (Nat.le_refl _)
          · exact bz_non.mono (Nat.le_refl _) (Nat.le_refl _) (Nat.zero_le _) (Nat.le_refl _)
          · exact cst ⟨int_str_ok i, Nat.le_trans is (by decide)⟩
          · exact ci _ (by omega)
          · have b0 : Bz (L + 1) (J + 7) 10 0 (.int i) := bz_int (by omega) (by omega) (Nat.le_refl _)
            exact ((BzA.cons b0 BzA.nil).tup).mono (Nat.le_refl _) (Nat.le_refl _) (by omega) (by omega)
      | str x =>
        have ox : PyData.strOk x = true ∧ x.length ≤ L := by simpa only [lf, Bool.and_eq_true, decide_eq_true_eq] using bz.l
        refine iteF ⟨_, rfl, _, .ty "str", _, _, true, rfl, .ty "str", hd0.ty, kit_str K (.str x), true, rfl, iteT ?_⟩
        refine ⟨_, rfl, by show 16 ≤ sizeLine; decide, fun p2 np2 => ?_⟩
        obtain ⟨s2, d2, hp2, m1, m2, hall⟩ := lst_da d1 (.cons (.str "open") (.cons (.str "part") (.cons (.str "at") (.cons (.str "split") (.cons (.str "ring") (.cons (.str "row") (.cons (.str "and") (.cons (.str "or") (.cons (.str "some") (.cons (.str "all") (.cons (.str "not") (.cons (.str "X") (.cons (.str "a") (.cons (.str "!0.0") (.cons (.str "") (.cons (.str x) .nil)))))))))))))))) np2
        refine ⟨_, rfl, _, rfl, _, rfl, _, _, rfl, rfl, ?_, _, rfl, 1, rfl, ?_⟩
        · show x.length + 1 ≤ sizeLine
          exact small10000 (by omega)
        · try simp only [tNoPart]
          refine ⟨x, rfl, small10000 (by omega), by show 4 ≤ sizeLine; decide, fun p3 np3 => ?_⟩
          obtain ⟨s3, d3, hp3, l1, l2, hall2⟩ := lst_da d2 (.cons .non (.cons (.str _) (.cons (.str _) (.cons (.int 0) .nil)))) np3
          refine ⟨_, _, _, _, rfl, rfl, s3 _ _ hp2, hp3, by show 16 + 4 ≤ sizeLine; decide, fun p4 np4 => ?_⟩
          obtain ⟨s4, d4, hp4, k1, k2, hall3⟩ := lst_da d3 ((hall.sm s3).app hall2) np4
          refine fin hm (((f1.trans (.of s2)).trans (.of s3)).trans (.of s4)) d4 hp4 k1 k2 hall3 (fun z => by cases z) (by show 20 < 1073741824; decide) fun e he => ?_
          have wx : x.length ≤ W := bz.w
          rcases List.mem_append.mp he with he | he
          · simp only [List.mem_cons, List.not_mem_nil, or_false] at he
            rcases he with rfl | rfl | rfl | rfl | rfl | rfl | rfl | rfl | rfl | rfl | rfl | rfl | rfl | rfl | rfl | rfl
            · exact cst (by decide +kernel)
            · exact cst (by decide +kernel)
            · exact cst (by decide +kernel)
            · exact cst (by decide +kernel)
            · exact cst (by decide +kernel)
            · exact cst (by decide +kernel)
            · exact cst (by decide +kernel)
            · exact cst (by decide +kernel)
            · exact cst (by decide +kernel)
            · exact cst (by decide +kernel)
            · exact cst (by decide +kernel)
            · exact cst (by decide +kernel)
            · exact cst (by decide +kernel)
            · exact cst (by decide +kernel)
            · exact cst (by decide +kernel)
            · exact bz_str ox.1 (by omega) (by omega)
          · simp only [List.mem_cons, List.not_mem_nil, or_false] at he
            rcases he with rfl | rfl | rfl | rfl
            · exact bz_non.mono (Nat.le_refl _) (Nat.le_refl _) (Nat.zero_le _) (Nat.le_refl _)
            · have l1 : (x ++ Str.ofString "a").length = x.length + 1 := PySem.strLen_append x _
              exact bz_str (str_ok_app ox.1 (by decide +kernel)) (by omega) (by omega)
            · have l1 : (cutS x (some 1) none).length ≤ x.length := cutS_length x _ _
              exact bz_str (str_ok_cut ox.1) (by omega) (by omega)
            · exact bz_int (by show (0 : Nat) ≤ _; omega) (by omega) (by omega)
      | tup h1 n1 n2 ha =>
        rename_i a xs ds
        obtain ⟨k, rfl⟩ : ∃ k', k = k' + 1 := ⟨k - 1, by
          have : PyData.depthAll ds + 1 ≤ k := bz.p
          omega⟩
        have its := bz.items
        have hl := ha.length
        have lw := weight_len (ds := ds)
        have l300 : ds.length ≤ W := Nat.le_trans lw its.w
        refine iteT ?_
        have sq : ∀ {H2 : Hp}, Fr D H1 H2 → SqT K H2 a xs := fun f => SqT.of (f _ _ h1 n1 n2)
        refine ⟨Nat.zero_le _, fun p2 np2 => ?_⟩
        obtain ⟨s2, d2, hp2⟩ := tup_da d1 .nil np2
        generalize upd H1 p2 (.tup []) = H2 at *
        have f2 : Fr D H1 H2 := .of s2
        refine ⟨_, rfl, a, xs, rfl, .inr (sq f2), fun p3 np3 => ?_⟩
        obtain ⟨s3, d3, hp3, a1, a2, hall3⟩ := lst_da d2 (ha.fr f2.t) np3
        have hq3 : Da D (upd H2 p3 (.lst xs)) (.ref p3) (.list ds) := .lst hp3 a1 a2 hall3
        generalize upd H2 p3 (.lst xs) = H3 at *
        have f3 : Fr D H1 H3 := f2.trans (.of s3)
        refine ⟨_, rfl, _, rfl, 1, rfl, -1, rfl, ?_⟩
        try simp only [tNoPart]
        refine slA_sb d3 (hd0.fr f3.t) fun H4 p4 es4 s4 d4 l4 hp4 => ?_
        have f4 : Fr D H1 H4 := f3.trans (.of s4)
        have ll4 := l4.length_le
        refine catM d4 (hd0.fr f4.t) hp4 (by omega) fun H5 p5 s5 d5 hp5 => ?_
        have f5 : Fr D H1 H5 := f4.trans (.of s5)
        refine ⟨_, rfl, 1, rfl, -1, rfl, slA_sb d5 (hd0.fr f5.t) fun H6 p6 es6 s6 d6 l6 hp6 => ?_⟩
        have f6 : Fr D H1 H6 := f5.trans (.of s6)
        refine ⟨_, rfl, a, xs, rfl, sq f6, fun p7 np7 => ?_⟩
        obtain ⟨s7, d7, hp7⟩ := tup_da d6 (ha.fr f6.t).rev np7
        generalize upd H6 p7 (.tup xs.reverse) = H7 at *
        have f7 : Fr D H1 H7 := f6.trans (.of s7)
        refine ⟨_, rfl, by show 1 ≤ sizeLine; decide, fun p8 np8 => ?_⟩
        obtain ⟨s8, d8, hp8⟩ := tup_da d7 (.cons (hd0.fr f7.t) .nil) np8
        generalize upd H7 p8 (.tup [.ref a]) = H8 at *
        have f8 : Fr D H1 H8 := f7.trans (.of s8)
        refine ⟨_, rfl, by show 1 ≤ sizeLine; decide, fun p9 np9 => ?_⟩
        obtain ⟨s9, d9, hp9⟩ := tup_da d8 (.cons .non .nil) np9
        generalize upd H8 p9 (.tup [.non]) = H9 at *
        have f9 : Fr D H1 H9 := f8.trans (.of s9)
        refine catA_da d9 (hd0.fr f9.t) hp9 (by show ds.length + 1 ≤ 10000; omega) fun H10 p10 s10 d10 hp10 => ?_
        have t9 : Same H8 H10 := s9.trans s10
        have t8 : Same H7 H10 := s8.trans t9
        have t7 : Same H6 H10 := s7.trans t8
        have t6 : Same H5 H10 := s6.trans t7
        have t5 : Same H4 H10 := s5.trans t6
        have t3 : Same H3 H10 := s4.trans t5
        have t2 : Same H2 H10 := s3.trans t3
        refine ⟨by show 8 ≤ sizeLine; decide, fun q1 nq => ?_⟩
        obtain ⟨s11, d11, hq1, b1, b2, hall⟩ := lst_da d10 (.cons (hp2.sm t2) (.cons .non (.cons (hq3.sm t3) (.cons (hp5.sm t6) (.cons (hp6.sm t7) (.cons (hp7.sm t8) (.cons (hp8.sm t9) (.cons hp10 .nil)))))))) nq
        refine ⟨_, rfl, _, rfl, fin hm (f1.trans ((f9.trans (.of s10)).trans (.of s11))) d11 hq1 b1 b2 hall (fun z => by cases z) (by show 8 < 1073741824; decide) fun e he => ?_⟩
        have b0 : Bz L J W (k + 1) (.tuple ds) := bz
        simp only [List.mem_cons, List.not_mem_nil, or_false] at he
        rcases he with rfl | rfl | rfl | rfl | rfl | rfl | rfl | rfl
        · exact emp
        · exact bz_non.mono (Nat.le_refl _) (Nat.le_refl _) (Nat.zero_le _) (Nat.le_refl _)
        · exact up its.lst
        · exact ((its.app (its.sub l4)).tup).mono (by omega) (by omega) (by omega) (by omega)
        · exact up (its.sub l6).tup
        · exact up its.rev.tup
        · exact ((BzA.cons b0 BzA.nil).tup).mono (by omega) (by omega) (by omega) (by omega)
        · exact ((its.app (BzA.cons (bz_non (m := k)) BzA.nil)).tup).mono (by omega) (by omega) (by omega) (by omega)
end
end Lm
/-! _law_odd, _law_terms. -/
namespace Lm
open PySem PySem.Spec PyProof.Rows L2
/-- the terms of a dict, in its order -/
abbrev Tms := List (Str × Option Str × Int)
inductive TsAt (D : DrA) (H : Hp) : List (Key × V) → Tms → Prop
  | nil : TsAt D H [] []
  | cons {x : Str} {o : Option Str} {c : Int} {p : Addr} {kvs : List (Key × V)} {ts : Tms} : H p = some (.tup [oV o, .int c]) → p ≠ D.d → p ≠ D.w → TsAt D H kvs ts → TsAt D H ((.inr x, .ref p) :: kvs) ((x, o, c) :: ts)
theorem TsAt.fr {D : DrA} {H H' : Hp} {kvs : List (Key × V)} {ts : Tms} (h : TsAt D H kvs ts) (f : Fr D H H') : TsAt D H' kvs ts := by
  induction h with
  | nil => exact .nil
  | cons a b c _ ih => exact .cons (f _ _ a b c) b c ih
theorem TsAt.snoc {D : DrA} {H : Hp} {kvs : List (Key × V)} {ts : Tms} {x : Str} {o : Option Str} {c : Int} {p : Addr} (h : TsAt D H kvs ts) (a : H p = some (.tup [oV o, .int c])) (b : p ≠ D.d) (d : p ≠ D.w) : TsAt D H (kvs ++ [(.inr x, .ref p)]) (ts ++ [(x, o, c)]) := by
  induction h with
  | nil => exact .cons a b d .nil
  | cons a' b' c' _ ih => exact .cons a' b' c' ih
theorem TsAt.keys {D : DrA} {H : Hp} {kvs : List (Key × V)} {ts : Tms} (h : TsAt D H kvs ts) : kvs.map (·.1) = ts.map fun t => (Sum.inr t.1 : Key) := by
  induction h with
  | nil => rfl
  | cons _ _ _ _ ih => rw [List.map_cons, ih]; rfl
def tmOf (ts : Tms) : TM := fun x => (ts.find? fun t => decide (t.1 = x)).map (·.2)
theorem TsAt.terms {D : DrA} {H : Hp} {kvs : List (Key × V)} {ts : Tms} (h : TsAt D H kvs ts) : TermsAt H kvs (tmOf ts) := by
  intro x
  induction h with
  | nil => exact .inl ⟨rfl, rfl⟩
  | @cons y o c p kvs ts a b d _ ih =>
    by_cases e : y = x
    · subst e
      refine .inr ⟨(o, c), p, ?_, ?_, a⟩
      · simp [tmOf]
      · simp [valV]
    · have e1 : tmOf ((y, o, c) :: ts) x = tmOf ts x := by simp [tmOf, e]
      have e2 : valV ((Sum.inr y, V.ref p) :: kvs) (Sum.inr x : Key) = valV kvs (.inr x) := by
        have : ¬ (Sum.inr y : Key) = .inr x := fun z => e (by injection z)
        simp [valV, this]
      rw [e1, e2]
      exact ih
/-- such a term may stand for a free name -/
def TmOk (t : Option Str × Int) : Prop := freeOrNone (oD t.1) = true ∧ (∀ x, t.1 = some x → NameOk x) ∧ -9 ≤ t.2 ∧ t.2 ≤ 9
theorem TsAt.good {D : DrA} {H : Hp} {kvs : List (Key × V)} {ts : Tms} {ns : List Str} (h : TsAt D H kvs ts) (ok : ∀ t ∈ ts, t.1 ∈ ns ∧ TmOk t.2) : ∀ e ∈ kvs, GoodT D H ns e := by
  induction h with
  | nil => exact fun _ z => absurd z (by simp)
  | @cons y o c p kvs ts a b d _ ih =>
    intro e he
    rcases List.mem_cons.mp he with rfl | he
    · obtain ⟨m, k⟩ := ok (y, o, c) (List.mem_cons_self ..)
      refine ⟨y, p, o, c, rfl, m, b, d, a, k.1, ?_⟩
      cases o with
      | none => rfl
      | some z =>
        have := (k.2.1 z rfl).2.2
        exact decide_eq_true (by omega)
    · exact ih (fun t ht => ok t (List.mem_cons_of_mem _ ht)) e he
def tmD (t : Option Str × Int) : PyData := .tuple [oD t.1, .int t.2]
theorem TsAt.vals {P : Program} {w : World} {D : DrA} {H : Hp} {kvs : List (Key × V)} {ts : Tms} (h : TsAt D H kvs ts) : GdAll P w D H (kvs.map (·.2)) (ts.map fun t => tmD t.2) := by
  induction h with
  | nil => exact .nil
  | cons a b c _ ih => exact .cons (Da.gd (.tup a b c (.cons (da_o _) (.cons (.int _) .nil)))) ih
def tsD (ts : Tms) : PyData := .dict ((ts.map fun t => PyData.str t.1).zip (ts.map fun t => tmD t.2))
theorem TsAt.gd {P : Program} {w : World} {D : DrA} {H : Hp} {kvs : List (Key × V)} {ts : Tms} {t : Addr} (h : TsAt D H kvs ts) (ht : H t = some (.dK kvs)) (n1 : t ≠ D.d) (n2 : t ≠ D.w) : Gd P w D H (.ref t) (tsD ts) := by
  refine .dic (ks := ts.map fun t => PyData.str t.1) (vs := kvs.map (·.2)) ⟨kvs, ht, ?_, rfl⟩ n1 n2 h.vals
  have e : kvs.map (fun p => keyD p.1) = (kvs.map (·.1)).map keyD := by rw [List.map_map]; rfl
  rw [e, h.keys, List.map_map]
  rfl
theorem ts_sh {ts : Tms} (h : ∀ t ∈ ts, NameOk t.1 ∧ TmOk t.2) (l : ts.length ≤ 60) : Sh (2 ^ 20) 60 (tsD ts) := by
  have e : (2 : Nat) ^ 20 = 1048576 := by decide
  refine sh_dict (A := 20) (B := 62) (m := 1) (fun p hp => ?_) ?_ (by decide)
  · have hz : (ts.map fun t => PyData.str t.1).zip (ts.map fun t => tmD t.2) = ts.map fun t => (PyData.str t.1, tmD t.2) := by
      clear h l hp
      induction ts with
      | nil => rfl
      | cons t r ih => rw [List.map_cons, List.map_cons, List.zip_cons_cons, ih]; rfl
    rw [hz] at hp
    obtain ⟨t, ht, rfl⟩ := List.mem_map.mp hp
    obtain ⟨h1, h2⟩ := h t ht
    refine ⟨(sz_name h1).mono (Nat.le_refl _) (Nat.zero_le _), ?_⟩
    exact (sz_tup (szA_cons (sz_side h2.2.1) (szA_cons (sz_small (c := t.2.2) (by have := h2.2.2.1; omega) (by have := h2.2.2.2; omega)) (szA_nil (m := 0))))).mono (by decide) (Nat.le_refl _)
  · rw [List.length_zip, List.length_map, List.length_map, Nat.min_self]
    have : ts.length * (20 + 62 + 2) ≤ 60 * (20 + 62 + 2) := Nat.mul_le_mul_right _ l
    omega
section
variable {P : Program} {w : World} {K : PySem.W.Frag} {mg : Str → Option Value} {base : Heap}
/-! ### _law_odd -/
abbrev sOd : Stmt := topS 46
theorem scOd : FnScope ["draw"] ["draw"] (defScope sOd) := ⟨rfl, rfl, rfl, by decide +kernel, rfl, by decide +kernel, by decide +kernel⟩
def spOd : Sp := fun vs H Q _ => ∃ (D : DrA) (n : Nat), vs = [.ref D.d] ∧ DrawAt D n H ∧ n + 1 ≤ B ∧ ∀ (H' : Hp) (v : V) (d : PyData), DrawAt D (n + 1) H' → Fr D H H' → Da D H' v d → Askd 12 d → Q v H'
theorem ok_od {f : Addr} {fd : FuncData} (F : Fun K "_law_odd" "_law_odd" sOd f fd) (GP : Has P w K mg base CX0 3 "_law_pick" ["draw", "some"] spPick) : FnOk P w K mg base CX0 4 f fd ["draw"] spOd := by
  refine F.ok scOd (fun vs H Q E h => ?_) (fun cdv A outer s H vs Q E hr h => ?_)
  · obtain ⟨D, n, rfl, _⟩ := h
    rfl
  · obtain ⟨D, n, rfl, dr, hn, q⟩ := h
    refine ⟨_, pss_one (ps_ret (pe_h GP hr (by decide) (by rfl) pass0 (pa_cons (pv 0) (pa_cons (pe_lst (pa_cons pe_non (pa_cons pe_bl (pa_cons pe_int (pa_cons pe_str (pa_cons (pe_tup pa_nil) (pa_cons (pe_lst pa_nil) (pa_cons pe_dnewK (pa_cons (pe_tup (pa_cons pe_str pa_nil)) (pa_cons (pe_tup (pa_cons pe_str pa_nil))
      (pa_cons (pe_lst (pa_cons pe_str (pa_cons (pe_tup pa_nil) pa_nil))) (pa_cons (pe_tup (pa_cons (pe_tup (pa_cons pe_str (pa_cons pe_str (pa_cons pe_non (pa_cons pe_int pa_nil))))) pa_nil)) pa_nil)))))))))))) pa_nil)))), ?_⟩
    refine ⟨_, rfl, (by show 0 ≤ sizeLine; decide), fun p1 n1 => ⟨(by show 0 ≤ sizeLine; decide), fun p2 n2 => fun p3 n3 => ⟨(by show 1 ≤ sizeLine; decide), fun p4 n4 => ⟨(by show 1 ≤ sizeLine; decide), fun p5 n5 => ⟨(by show 0 ≤ sizeLine; decide), fun p6 n6 => ⟨(by show 2 ≤ sizeLine; decide), fun p7 n7 => ⟨(by show 4 ≤ sizeLine; decide), fun p8 n8 => ⟨(by show 1 ≤ sizeLine; decide), fun p9 n9 => ⟨(by show 11 ≤ sizeLine; decide), fun p10 n10 => ?_⟩⟩⟩⟩⟩⟩⟩⟩⟩
    obtain ⟨s1, d1, h1⟩ := tup_da dr .nil n1
    have s2 := same_upd (o := .lst []) n2
    have d2 := d1.new (o := .lst []) n2
    have h2 : Da D (upd (upd H p1 (.tup [])) p2 (.lst [])) (.ref p2) (.list []) := .lst upd_same (d1.off n2).1 (d1.off n2).2 .nil
    generalize upd (upd H p1 (.tup [])) p2 (.lst []) = H2 at *
    generalize upd H p1 (.tup []) = H1 at *
    have s3 := same_upd (o := .dK []) n3
    have d3 := d2.new (o := .dK []) n3
    have h3 : Da D (upd H2 p3 (.dK [])) (.ref p3) (.dict []) := .emp upd_same (d2.off n3).1 (d2.off n3).2
    generalize upd H2 p3 (.dK []) = H3 at *
    obtain ⟨s4, d4, h4⟩ := tup_da d3 (.cons (.str "row") .nil) n4
    generalize upd H3 p4 _ = H4 at *
    obtain ⟨s5, d5, h5⟩ := tup_da d4 (.cons (.str "and") .nil) n5
    generalize upd H4 p5 _ = H5 at *
    obtain ⟨s6, d6, h6⟩ := tup_da d5 .nil n6
    generalize upd H5 p6 _ = H6 at *
    have s7 := same_upd (o := .lst [.str "and", .ref p6]) n7
    have d7 := d6.new (o := .lst [.str "and", .ref p6]) n7
    have h7 : Da D (upd H6 p7 (.lst [.str "and", .ref p6])) (.ref p7) (.list [.str "and", .tuple []]) := .lst upd_same (d6.off n7).1 (d6.off n7).2 (.cons (.str _) (.cons (h6.sm s7) .nil))
    generalize upd H6 p7 _ = H7 at *
    obtain ⟨s8, d8, h8⟩ := tup_da d7 (.cons (.str "row") (.cons (.str "a") (.cons .non (.cons (.int 0) .nil)))) n8
    generalize upd H7 p8 _ = H8 at *
    obtain ⟨s9, d9, h9⟩ := tup_da d8 (.cons h8 .nil) n9
    generalize upd H8 p9 _ = H9 at *
    have t7 : Same H7 H9 := s8.trans s9
    have t5 : Same H5 H9 := s6.trans (s7.trans t7)
    have t4 : Same H4 H9 := s5.trans t5
    have t3 : Same H3 H9 := s4.trans t4
    have t2 : Same H2 H9 := s3.trans t3
    obtain ⟨s10, d10, h10, o1, o2, hall⟩ := lst_da d9 (.cons .non (.cons (.bl true) (.cons (.int 0) (.cons (.str "row") (.cons (h1.sm (s2.trans t2)) (.cons (h2.sm t2) (.cons (h3.sm t3) (.cons (h4.sm t4) (.cons (h5.sm t5) (.cons (h7.sm t7) (.cons h9 .nil))))))))))) n10
    refine pick_da (E := C8.E0) d10 hn h10 o2 hall (fun z => by cases z) (by show 11 < 1073741824; decide) fun H' v d dr' f' hd hv => ?_
    refine q H' v d dr' (.trans (.of (s1.trans (s2.trans (t2.trans s10)))) f') hv ?_
    simp only [List.mem_cons, List.not_mem_nil, or_false] at hd
    rcases hd with rfl | rfl | rfl | rfl | rfl | rfl | rfl | rfl | rfl | rfl | rfl
    all_goals exact ⟨by decide +kernel, (fun z => by first | (exact absurd z (by decide +kernel)) | decide +kernel), by decide +kernel, by decide +kernel⟩
/-! ### _law_terms -/
abbrev sTm : Stmt := topS 63
def nTm : List Str := ["draw", "titles", "found", "title"]
theorem scTm : FnScope nTm ["draw", "titles"] (defScope sTm) := ⟨rfl, rfl, rfl, by decide +kernel, rfl, by decide +kernel, by decide +kernel⟩
def spTm : Sp := fun vs H Q _ => ∃ (D : DrA) (n : Nat) (l : Addr) (ys : List Str), vs = [.ref D.d, .ref l] ∧ DrawAt D n H ∧ n + 3 * ys.length ≤ B ∧ H l = some (.lst (ys.map V.str)) ∧ l ≠ D.d ∧ l ≠ D.w ∧ ys.length ≤ 60 ∧ ys.Nodup ∧ (∀ x ∈ ys, x ∈ lows) ∧
  ∀ (H' : Hp) (t : Addr) (kvs : List (Key × V)) (ts : Tms), H' t = some (.dK kvs) → t ≠ D.d → t ≠ D.w → TsAt D H' kvs ts → (∀ e ∈ ts, e.1 ∈ ys ∧ TmOk e.2) → (ts.map (·.1)).Nodup → ts.length ≤ ys.length → DrawAt D (n + 3 * ys.length) H' → Fr D H H' → Q (.ref t) H'
theorem TsAt.fy {D : DrA} {y : Addr} {H H' : Hp} {kvs : List (Key × V)} {ts : Tms} {xs : List (Key × V)} (h : TsAt D H kvs ts) (hy : H y = some (.dK xs)) (f : FrY D y H H') : TsAt D H' kvs ts := by
  induction h with
  | nil => exact .nil
  | cons a b c _ ih => exact .cons (f _ _ a b c (fun z => by rw [z, hy] at a; cases a)) b c ih
theorem tail_ok : ∀ x : Str, x = "q" ∨ x = "tiles n" → NameOk x ∧ bigS x = false := by
  rintro x (rfl | rfl)
  · exact ⟨⟨by decide +kernel, by decide +kernel, by decide +kernel⟩, by decide +kernel⟩
  · exact ⟨⟨by decide +kernel, by decide +kernel, by decide +kernel⟩, by decide +kernel⟩
theorem free_of {o : Option Str} (h : ∀ x, o = some x → NameOk x ∧ bigS x = false) : freeOrNone (oD o) = true := by
  cases o with
  | none => rfl
  | some x =>
    obtain ⟨a, b⟩ := h x rfl
    show (saidNameD (.str x) && !bigD (.str x)) = true
    have b : bigD (.str x) = false := b
    rw [a.1, b]
    rfl
theorem ok_tm {f : Addr} {fd : FuncData} (F : Fun K "_law_terms" "_law_terms" sTm f fd) (GT : Has P w K mg base CX0 2 "_law_take" ["draw", "size"] spTake) (GP : Has P w K mg base CX0 3 "_law_pick" ["draw", "some"] spPick) (GF : Has P w K mg base CX0 4 "_law_few_of" ["draw", "some", "size"] spFew) : FnOk P w K mg base CX0 5 f fd ["draw", "titles"] spTm := by
  refine F.ok scTm (fun vs H Q E h => ?_) (fun cdv A outer s H vs Q E hr h => ?_)
  · obtain ⟨D, n, l, ys, rfl, _⟩ := h
    rfl
  · obtain ⟨D, n, l, ys, rfl, dr, hn, hl, ld, lw, ly, nd, low, q⟩ := h
    have hu := hu_of hr
    refine ⟨_, pss_cons (ps_set (i := 2) scTm.nd rfl (.inl rfl) pe_dnewK)
      (pss_cons (ps_for PassesOwn.never rfl (pi_listK K (pe_h GF hr (by decide) (by rfl) pass0 (pa_cons (pv 0) (pa_cons (pv 1) (pa_cons pe_int pa_nil))))) (pg_name (i := 3) scTm.nd rfl (.inl rfl))
        (pss_one (ps_dput hu (pv 2) (pv 3) (pe_tup (pa_cons (pe_h GP hr (by decide) (by rfl) pass0 (pa_cons (pv 0) (pa_cons (pe_op op_cat (pv 1) (pe_lst (pa_cons pe_str (pa_cons pe_str (pa_cons pe_non (pa_cons pe_non pa_nil)))))) pa_nil)))
          (pa_cons (pe_op op_sub (pe_h GT hr (by decide) (by rfl) pass0 (pa_cons (pv 0) (pa_cons pe_int pa_nil))) pe_int) pa_nil))) rfl)))
      (pss_one (ps_ret (pv 2)))), ?_⟩
    refine fun p np => ?_
    have s1 := same_upd (o := .dK []) np
    have o1 := dr.off np
    have d1 := dr.new (o := .dK []) np
    have hp1 : (upd H p (.dK [])) p = some (.dK []) := upd_same
    generalize upd H p (.dK []) = H1 at *
    have pc : p ≠ D.c := fun z => by
      obtain ⟨_, _, _, _, _, _, k3, _⟩ := dr
      rw [z, k3] at np
      cases np
    have pl : p ≠ l := fun z => by rw [z, hl] at np; cases np
    refine ⟨_, rfl, _, rfl, D, n, l, ys.map V.str, 2, rfl, d1, by rw [List.length_map]; omega, s1 _ _ hl, lw, by rw [List.length_map]; omega, by decide, by decide, fun H2 R vs Rd Rw sub hR d2 f2 => ?_⟩
    rw [List.length_map] at d2
    obtain ⟨zs, zsub, rfl⟩ := List.sublist_map_iff.mp sub
    have lz := zsub.length_le
    have ndz := zsub.nodup nd
    have pR : R ≠ p := fun z => by rw [z, f2 _ _ hp1 o1.1 o1.2] at hR; cases hR
    refine ⟨R, rfl, ⟨_, SqL.of hR⟩, for_list (K := K) (a := R) (xs := zs.map V.str) (fun i σ H' => FrY D p H2 H' ∧ DrawAt D (n + ys.length + 2 * i) H' ∧ ∃ kvs ts x3, H' p = some (.dK kvs) ∧ TsAt D H' kvs ts ∧ ts.map (·.1) = zs.take i ∧ (∀ e ∈ ts, e.1 ∈ ys ∧ TmOk e.2) ∧ σ = [some (.ref D.d), some (.ref l), some (.ref p), x3])
      ⟨.refl, d2, [], [], none, f2 _ _ hp1 o1.1 o1.2, .nil, rfl, fun _ z => absurd z (by simp), rfl⟩ (fun i σ H' _ z => SqL.of (z.1 _ _ hR Rd Rw pR)) ?_ ?_⟩
    · rintro i y σ H3 hy ⟨f3, d3, kvs, ts, x3, hp3, ta, ek, ok, rfl⟩
      rw [List.getElem?_map] at hy
      cases ey : zs[i]? with
      | none => rw [ey] at hy; cases hy
      | some x =>
      rw [ey] at hy
      obtain rfl := Option.some.inj hy
      have hi : i < zs.length := (List.getElem?_eq_some_iff.mp ey).1
      have hl3 := f3 _ _ (f2 _ _ (s1 _ _ hl) ld lw) ld lw pl.symm
      refine ⟨_, rfl, _, rfl, (by show 4 ≤ sizeLine; decide), fun p4 n4 => ?_⟩
      have s4 := same_upd (o := .lst [.str "q", .str "tiles n", .non, .non]) n4
      have d4 := d3.new (o := .lst [.str "q", .str "tiles n", .non, .non]) n4
      have h4 : (upd H3 p4 (.lst [.str "q", .str "tiles n", .non, .non])) p4 = some (.lst [.str "q", .str "tiles n", .non, .non]) := upd_same
      generalize upd H3 p4 (.lst [.str "q", .str "tiles n", .non, .non]) = H4 at *
      refine ⟨l, p4, _, _, rfl, rfl, s4 _ _ hl3, h4, small10000 (by rw [List.length_map]; show ys.length + 4 ≤ 10000; omega), fun p5 n5 => ?_⟩
      have s5 := same_upd (o := .lst (ys.map V.str ++ [.str "q", .str "tiles n", .non, .non])) n5
      have d5 := d4.new (o := .lst (ys.map V.str ++ [.str "q", .str "tiles n", .non, .non])) n5
      have o5 := d4.off n5
      have h5 : (upd H4 p5 (.lst (ys.map V.str ++ [.str "q", .str "tiles n", .non, .non]))) p5 = some (.lst (ys.map V.str ++ [.str "q", .str "tiles n", .non, .non])) := upd_same
      generalize upd H4 p5 (.lst (ys.map V.str ++ [.str "q", .str "tiles n", .non, .non])) = H5 at *
      refine ⟨D, n + ys.length + 2 * i, p5, _, rfl, d5, by omega, h5, o5.2, by simp, by rw [List.length_append, List.length_map]; show ys.length + 4 < 1073741824; omega, fun H6 j v ev d6 f6 => ?_⟩
      obtain ⟨o, rfl, ho⟩ : ∃ o : Option Str, v = oV o ∧ ∀ z, o = some z → NameOk z ∧ bigS z = false := by
        rcases List.mem_append.mp (List.mem_of_getElem? ev) with m | m
        · obtain ⟨z, hz, rfl⟩ := List.mem_map.mp m
          exact ⟨some z, rfl, fun u e => by rw [← Option.some.inj e]; exact lows_ok z (low z hz)⟩
        · simp only [List.mem_cons, List.not_mem_nil, or_false] at m
          rcases m with rfl | rfl | rfl | rfl
          · exact ⟨some "q", rfl, fun u e => tail_ok u (.inl (Option.some.inj e).symm)⟩
          · exact ⟨some "tiles n", rfl, fun u e => tail_ok u (.inr (Option.some.inj e).symm)⟩
          · exact ⟨none, rfl, fun u e => by cases e⟩
          · exact ⟨none, rfl, fun u e => by cases e⟩
      refine ⟨_, rfl, D, _, 19, rfl, d6, by omega, by decide, by decide, fun H7 c d7 f7 c0 c1 => ?_⟩
      refine ⟨_, _, rfl, rfl, (by show 2 ≤ sizeLine; decide), fun p8 n8 => ?_⟩
      have s8 := same_upd (o := .tup [oV o, .int (c - 9)]) n8
      have d8 := d7.new (o := .tup [oV o, .int (c - 9)]) n8
      have o8 := d7.off n8
      have h8 : (upd H7 p8 (.tup [oV o, .int (c - 9)])) p8 = some (.tup [oV o, .int (c - 9)]) := upd_same
      generalize upd H7 p8 (.tup [oV o, .int (c - 9)]) = H8 at *
      have f38 : Fr D H3 H8 := (Fr.of (s4.trans s5)).trans ((f6.trans f7).trans (.of s8))
      have hp8 := f38 _ _ hp3 o1.1 o1.2
      have ta8 := (ta.fr f38).snoc (x := x) h8 o8.1 o8.2
      have lts : ts.length ≤ i := by
        have := congrArg List.length ek
        rw [List.length_map, List.length_take] at this
        omega
      have lkv : kvs.length = ts.length := by
        have := congrArg List.length ta.keys
        rwa [List.length_map, List.length_map] at this
      have fresh : valV kvs (.inr x : Key) = none := by
        simp only [valV, Option.map_eq_none_iff, List.find?_eq_none]
        intro e he z
        have m : e.1 ∈ kvs.map (·.1) := List.mem_map.mpr ⟨e, he, rfl⟩
        rw [of_decide_eq_true z, ta.keys] at m
        obtain ⟨u, hu, eu⟩ := List.mem_map.mp m
        have m2 : u.1 ∈ zs.take i := by rw [← ek]; exact List.mem_map.mpr ⟨u, hu, rfl⟩
        have eu : u.1 = x := by injection eu
        rw [eu] at m2
        have : zs = zs.take i ++ x :: zs.drop (i + 1) := by
          obtain ⟨lt, e⟩ := List.getElem?_eq_some_iff.mp ey
          have := List.take_append_drop i zs
          rw [List.drop_eq_getElem_cons lt, e] at this
          exact this.symm
        rw [this] at ndz
        exact (List.nodup_append.mp ndz).2.2 x m2 x (List.mem_cons_self ..) rfl
      refine ⟨_, rfl, _, rfl, p, _, rfl, DPut.k (k := .inr x) hp8 (small1000 (by omega)), ?_⟩
      rw [putK_new _ fresh]
      refine ⟨(f3.trans (.of f38)).put, (d8.putY o1 pc).mono (by omega), _, _, _, upd_same, ta8.fy hp8 (FrY.refl.put), ?_, ?_, rfl⟩
      · rw [List.map_append, ek, List.take_add_one, ey]
        rfl
      · intro e he
        rcases List.mem_append.mp he with he | he
        · exact ok e he
        · rw [List.mem_singleton] at he
          subst he
          exact ⟨zsub.mem (List.mem_of_getElem? ey), free_of ho, fun z e => (ho z e).1, (by show -9 ≤ c - 9; omega), (by show c - 9 ≤ 9; omega)⟩
    · rintro σ H3 ⟨f3, d3, kvs, ts, x3, hp3, ta, ek, ok, rfl⟩
      rw [List.length_map] at d3 ek
      rw [List.take_length] at ek
      have lts : ts.length = zs.length := by
        have := congrArg List.length ek
        rwa [List.length_map] at this
      refine ⟨_, rfl, q _ _ _ _ hp3 o1.1 o1.2 ta ok (by rw [ek]; exact ndz) (by omega) (d3.mono (by omega)) fun b o e n1 n2 => ?_⟩
      have bp : b ≠ p := fun z => by rw [z, np] at e; cases e
      exact f3 _ _ (f2 _ _ (s1 _ _ e) n1 n2) n1 n2 bp
end
end Lm
/-! _law_bad_terms. -/
namespace Lm
open PySem PySem.Spec PyProof.Rows L2
/-- no terms for just some of these names -/
inductive BadT (P : Program) (w : World) (D : DrA) (H0 H : Hp) (ns : List Str) : V → Prop
  | no {v : V} {d : PyData} : Da D H v d → isDic d = false → BadT P w D H0 H ns v
  | non {t : Addr} {u : V} : H t = some (NX P w t [(none, u)]) → H0 t = none → t ≠ D.d → t ≠ D.w → BadT P w D H0 H ns (.ref t)
  | bad {t : Addr} {x : Str} {u : V} {du : PyData} : H t = some (.dK [(.inr x, u)]) → H0 t = none → t ≠ D.d → t ≠ D.w → Da D (HidL [t] H) u du → shortD du = true → (x ∉ ns ∨ termD du = false) → BadT P w D H0 H ns (.ref t)
theorem BadT.fr {P : Program} {w : World} {D : DrA} {H0 H H' : Hp} {ns : List Str} {v : V} (h : BadT P w D H0 H ns v) (f : Fr D H H') : BadT P w D H0 H' ns v := by
  cases h with
  | no a b => exact .no (a.fr f.t) b
  | non a z b c => exact .non (f _ _ a b c) z b c
  | bad a z b c d e k => exact .bad (f _ _ a b c) z b c (d.fr (hidL_fr f)) e k
theorem BadT.frT {P : Program} {w : World} {D : DrA} {H0 H H' : Hp} {ns : List Str} {v : V} (h : BadT P w D H0 H ns v) (f : FrT D H H') : BadT P w D H0 H' ns v := by
  cases h with
  | no a b => exact .no (a.fr f) b
  | non a z b c => exact .non (f _ _ a b c (fun _ z => by unfold NX at z; cases z)) z b c
  | bad a z b c d e k => exact .bad (f _ _ a b c (fun _ z => by cases z)) z b c (d.fr fun b' o e' n1 n2 n3 => by
      obtain ⟨h1, h2⟩ := HidL.sub e'
      exact HidL.of h1 (f _ _ h2 n1 n2 n3)) e k
/-- a reading that makes a new value, these data -/
def TV (D : DrA) (n : Nat) (σ : L2.St) (te : TE) (d : PyData) : Prop := ∀ (zs : List Addr) (H : Hp) (Q : VK), DrawAt D n H → Held zs H → (∀ H' u, Same H H' → DrawAt D n H' → Da D (HidL zs H') u d → Q u H') → te σ H Q
def TVA (D : DrA) (n : Nat) (σ : L2.St) (ta : TA) (ds : List PyData) : Prop := ∀ (zs : List Addr) (H : Hp) (Q : List V → Hp → Prop), DrawAt D n H → Held zs H → (∀ H' us, Same H H' → DrawAt D n H' → DaAll D (HidL zs H') us ds → Q us H') → ta σ H Q
/-- a reading that makes what is bad -/
def TB (P : Program) (w : World) (D : DrA) (n : Nat) (ns : List Str) (H0 : Hp) (σ : L2.St) (te : TE) : Prop := ∀ (H : Hp) (Q : VK), Same H0 H → DrawAt D n H → (∀ H' v, Same H H' → DrawAt D n H' → BadT P w D H0 H' ns v → Q v H') → te σ H Q
def TBA (P : Program) (w : World) (D : DrA) (n : Nat) (ns : List Str) (H0 : Hp) (σ : L2.St) (k : Nat) (ta : TA) : Prop := ∀ (H : Hp) (Q : List V → Hp → Prop), Same H0 H → DrawAt D n H → (∀ H' us, Same H H' → DrawAt D n H' → us.length = k → (∀ v ∈ us, BadT P w D H0 H' ns v) → Q us H') → ta σ H Q
section
variable {P : Program} {w : World} {D : DrA} {n : Nat} {ns : List Str} {H0 : Hp} {σ : L2.St}
theorem same_refl (H : Hp) : Same H H := fun _ _ z => z
theorem sameT {H H1 H2 : Hp} (a : Same H H1) (b : Same H1 H2) : Same H H2 := fun c o e => b c o (a c o e)
theorem tv_str (x : Str) : TV D n σ (tC (.str x)) (.str x) := fun _ H Q d _ q => q H _ (same_refl H) d (.str x)
theorem tv_int (i : Int) : TV D n σ (tC (.int i)) (.int i) := fun _ H Q d _ q => q H _ (same_refl H) d (.int i)
theorem tv_bl (b : Bool) : TV D n σ (tC (.bl b)) (.bool b) := fun _ H Q d _ q => q H _ (same_refl H) d (.bl b)
theorem tv_non : TV D n σ (tC .non) .none := fun _ H Q d _ q => q H _ (same_refl H) d .non
theorem tva_nil : TVA D n σ tNil [] := fun _ H Q d _ q => q H _ (same_refl H) d .nil
theorem tva_cons {te : TE} {ta : TA} {d : PyData} {ds : List PyData} (h : TV D n σ te d) (t : TVA D n σ ta ds) : TVA D n σ (tCons te ta) (d :: ds) := fun zs H Q dr hz q =>
  h zs H _ dr hz fun H1 u s1 d1 a1 => t zs H1 _ d1 (hz.sm s1) fun H2 us s2 d2 a2 => q H2 _ ((sameT s1 s2)) d2 (.cons (a1.fr (hidL_sm s2)) a2)
theorem tv_tup {ta : TA} {ds : List PyData} (h : TVA D n σ ta ds) (l : ds.length ≤ 1000) : TV D n σ (tTup ta) (.tuple ds) := fun zs H Q dr hz q =>
  h zs H _ dr hz fun H1 us s1 d1 a1 => ⟨small10000 (by rw [a1.length]; omega), fun p np => q _ _ ((sameT s1 (same_upd np))) (d1.new np) (tup_hid d1 (hz.sm s1) np a1)⟩
theorem tv_lst {ta : TA} {ds : List PyData} (h : TVA D n σ ta ds) (l : ds.length ≤ 1000) : TV D n σ (tLst ta) (.list ds) := fun zs H Q dr hz q =>
  h zs H _ dr hz fun H1 us s1 d1 a1 => ⟨small10000 (by rw [a1.length]; omega), fun p np => q _ _ ((sameT s1 (same_upd np))) (d1.new np) (lst_hid d1 (hz.sm s1) np a1)⟩
theorem tb_v {te : TE} {d : PyData} (h : TV D n σ te d) (nd : isDic d = false) : TB P w D n ns H0 σ te := fun H Q s0 dr q =>
  h [] H Q dr held0 fun H1 u s1 d1 a1 => q H1 u s1 d1 (.no (by rw [hidL_nil] at a1; exact a1) nd)
/-- {x: value} -/
theorem tb_dict {tk tv : TE} {x : Str} {du : PyData} (hk : ∀ H (Q : VK), Q (.str x) H → tk σ H Q) (h : TV D n σ tv du) (sh : shortD du = true) (bad : x ∉ ns ∨ termD du = false) : TB P w D n ns H0 σ (tDisp [(tk, tv)]) := fun H Q s0 dr q => by
  intro p np
  have o := dr.off np
  have hp : (upd H p (.dK [])) p = some (.dK []) := upd_same
  refine hk _ _ (h [p] _ _ (dr.new np) (Held.cons held0 hp) fun H1 u s1 d1 a1 => ?_)
  have hp1 := s1 _ _ hp
  have pc : p ≠ D.c := fun z => by
    obtain ⟨_, _, _, _, _, _, k3, _⟩ := dr
    rw [z, k3] at np
    cases np
  refine ⟨hp1, [(.inr x, u)], rfl, (by show 1 ≤ 15; decide), ?_⟩
  have e : mergeK [] [((.inr x : Key), u)] = [(.inr x, u)] := rfl
  rw [e]
  refine q _ _ (same_put (fun b o e => s1 b o (same_upd np b o e)) np) (d1.putY o pc) ?_
  exact .bad upd_same (none_of s0 np) o.1 o.2 (by rw [hidL_upd (List.mem_cons_self ..)]; exact a1) sh bad
/-- {None: value} -/
theorem tb_dictN {tv : TE} {du : PyData} (h : TV D n σ tv du) : TB P w D n ns H0 σ (tDisN P w (tC .non) tv) := fun H Q s0 dr q => by
  intro p np
  have o := dr.off np
  have hp : (upd H p (.dK [])) p = some (.dK []) := upd_same
  refine h [] _ _ (dr.new np) held0 fun H1 u s1 d1 a1 => ?_
  have hp1 := s1 _ _ hp
  have pc : p ≠ D.c := fun z => by
    obtain ⟨_, _, _, _, _, _, k3, _⟩ := dr
    rw [z, k3] at np
    cases np
  exact ⟨rfl, hp1, q _ _ (same_put (fun b o e => s1 b o (same_upd np b o e)) np) (d1.putY o pc) (.non upd_same (none_of s0 np) o.1 o.2)⟩
theorem tba_nil : TBA P w D n ns H0 σ 0 tNil := fun H Q s0 d q => q H _ (same_refl H) d rfl fun _ z => absurd z (by simp)
theorem tba_cons {te : TE} {ta : TA} {k : Nat} (h : TB P w D n ns H0 σ te) (t : TBA P w D n ns H0 σ k ta) : TBA P w D n ns H0 σ (k + 1) (tCons te ta) := fun H Q s0 dr q =>
  h H _ s0 dr fun H1 u s1 d1 a1 => t H1 _ (sameT s0 s1) d1 fun H2 us s2 d2 l2 a2 => q H2 _ ((sameT s1 s2)) d2 (by rw [List.length_cons, l2]) fun v hv => by
    rcases List.mem_cons.mp hv with rfl | hv
    · exact a1.fr (.of s2)
    · exact a2 v hv
theorem tb_set {ta : TA} {k : Nat} {rest : TS} {E : Ends} {H : Hp} {i : Nat} (h : TBA P w D n ns H0 σ k ta) (hk : k ≤ 1000) (s0 : Same H0 H) (dr : DrawAt D n H) (q : ∀ (H' : Hp) (p : Addr) (us : List V), Same H H' → DrawAt D n H' → H' p = some (.lst us) → p ≠ D.w → us.length = k → (∀ v ∈ us, BadT P w D H0 H' ns v) → rest E (σ.set i (some (.ref p))) H') : tSeq (tAsg (tLst ta) (gName i)) rest E σ H := by
  refine h H _ s0 dr fun H1 us s1 d1 l1 b1 => ?_
  refine ⟨small10000 (by omega), fun p np => ?_⟩
  have s2 := same_upd (o := .lst us) np
  exact q _ p us (sameT s1 s2) (d1.new np) upd_same (d1.off np).2 l1 fun v hv => (b1 v hv).fr (.of s2)
theorem tb_more {ta : TA} {k : Nat} {E : Ends} {H : Hp} {L : Addr} {xs : List V} (h : TBA P w D n ns H0 σ k ta) (s0 : Same H0 H) (dr : DrawAt D n H) (e : σ[2]? = some (some (.ref L))) (hL : H L = some (.lst xs)) (lx : xs.length + k ≤ 10000) (bx : ∀ v ∈ xs, BadT P w D H0 H ns v)
    (q : ∀ (H' : Hp) (p : Addr) (us : List V), Same H H' → DrawAt D n H' → H' p = some (.lst (xs ++ us)) → p ≠ D.w → us.length = k → (∀ v ∈ xs ++ us, BadT P w D H0 H' ns v) → E.nx (σ.set 2 (some (.ref p))) H') : tAsg (tOp rCat (tVar 2) (tLst ta)) (gName 2) E σ H := by
  refine ⟨_, e, h H _ s0 dr fun H4 us4 s4 d4 l4 b4 => ⟨small10000 (by omega), fun p5 n5 => ?_⟩⟩
  have s5 := same_upd (o := .lst us4) n5
  have h5 : (upd H4 p5 (.lst us4)) p5 = some (.lst us4) := upd_same
  have d5 := d4.new (o := .lst us4) n5
  have b5 : ∀ v ∈ us4, BadT P w D H0 (upd H4 p5 (.lst us4)) ns v := fun v hv => (b4 v hv).fr (.of s5)
  generalize upd H4 p5 (.lst us4) = H5 at *
  have s35 := sameT s4 s5
  refine ⟨L, p5, xs, us4, rfl, rfl, s35 _ _ hL, h5, small10000 (by omega), fun p6 n6 => ?_⟩
  have s6 := same_upd (o := .lst (xs ++ us4)) n6
  exact q _ p6 us4 (sameT s35 s6) (d5.new n6) upd_same (d5.off n6).2 l4 fun v hv => (List.mem_append.mp hv).elim (fun h => (bx v h).fr (.of (sameT s35 s6))) fun h => (b5 v h).fr (.of s6)
end
section
variable {P : Program} {w : World} {K : PySem.W.Frag} {mg : Str → Option Value} {base : Heap}
abbrev sBT : Stmt := topS 64
def nBT : List Str := ["draw", "titles", "some", "title"]
theorem scBT : FnScope nBT ["draw", "titles"] (defScope sBT) := ⟨rfl, rfl, rfl, by decide +kernel, rfl, by decide +kernel, by decide +kernel⟩
def spBT (P : Program) (w : World) : Sp := fun vs H Q _ => ∃ (D : DrA) (n : Nat) (l : Addr) (ys ns : List Str), vs = [.ref D.d, .ref l] ∧ DrawAt D n H ∧ n + 1 ≤ B ∧ H l = some (.lst (ys.map V.str)) ∧ ys.length ≤ 60 ∧ ("nobody" : Str) ∉ ns ∧ ("X" : Str) ∉ ns ∧
  ∀ (H' : Hp) (v : V), BadT P w D H H' ns v → DrawAt D (n + 1) H' → Fr D H H' → Q v H'
theorem ok_bterms {f : Addr} {fd : FuncData} (F : Fun K "_law_bad_terms" "_law_bad_terms" sBT f fd) (GP : Has P w K mg base CX0 3 "_law_pick" ["draw", "some"] spPick) : FnOk P w K mg base CX0 4 f fd ["draw", "titles"] (spBT P w) := by
  refine F.ok scBT (fun vs H Q E h => ?_) (fun cdv A outer s H vs Q E hr h => ?_)
  · obtain ⟨D, n, l, ys, ns, rfl, _⟩ := h
    rfl
  · obtain ⟨D, n, l, ys, ns, rfl, dr, hn, hl, ly, no1, no2, q⟩ := h
    refine ⟨_, pss_cons (ps_set (i := 2) scBT.nd rfl (.inl rfl) (pe_lst (pa_cons pe_non (pa_cons (pe_lst pa_nil) (pa_cons (pe_disp (pps_cons pe_str (pe_tup (pa_cons pe_str (pa_cons pe_int pa_nil))) pps_nil) (by rfl) (by rfl) (fun z => by cases z) (by decide))
          (pa_cons (pe_disp (pps_cons pe_str (pe_tup (pa_cons pe_str (pa_cons pe_int pa_nil))) pps_nil) (by rfl) (by rfl) (fun z => by cases z) (by decide)) (pa_cons (pe_disN pe_non (pe_tup (pa_cons pe_str (pa_cons pe_int pa_nil)))) (pa_cons (pe_tup (pa_cons (pe_tup (pa_cons pe_str (pa_cons (pe_tup (pa_cons pe_str (pa_cons pe_int pa_nil))) pa_nil))) pa_nil)) pa_nil))))))))
      (pss_cons (ps_for PassesOwn.never rfl (pi_listK K (pv 1)) (pg_name (i := 3) scBT.nd rfl (.inl rfl))
        (pss_cons (ps_set (i := 2) scBT.nd rfl (.inl rfl) (pe_op op_cat (pv 2) (pe_lst
          (pa_cons (pe_disp (pps_cons (pv 3) pe_str pps_nil) (by rfl) (by rfl) (fun z => by cases z) (by decide))
          (pa_cons (pe_disp (pps_cons (pv 3) (pe_tup (pa_cons pe_str (pa_cons pe_bl pa_nil))) pps_nil) (by rfl) (by rfl) (fun z => by cases z) (by decide))
          (pa_cons (pe_disp (pps_cons (pv 3) (pe_lst (pa_cons pe_str (pa_cons pe_int pa_nil))) pps_nil) (by rfl) (by rfl) (fun z => by cases z) (by decide))
          (pa_cons (pe_disp (pps_cons (pv 3) (pe_tup (pa_cons pe_str (pa_cons pe_int pa_nil))) pps_nil) (by rfl) (by rfl) (fun z => by cases z) (by decide))
          (pa_cons (pe_disp (pps_cons (pv 3) (pe_tup (pa_cons pe_str (pa_cons pe_int (pa_cons pe_int pa_nil)))) pps_nil) (by rfl) (by rfl) (fun z => by cases z) (by decide)) pa_nil))))))))
        (pss_one (ps_set (i := 2) scBT.nd rfl (.inl rfl) (pe_op op_cat (pv 2) (pe_lst
          (pa_cons (pe_disp (pps_cons (pv 3) (pe_tup (pa_cons pe_str (pa_cons pe_int pa_nil))) pps_nil) (by rfl) (by rfl) (fun z => by cases z) (by decide))
          (pa_cons (pe_disp (pps_cons (pv 3) (pe_tup (pa_cons pe_int (pa_cons pe_int pa_nil))) pps_nil) (by rfl) (by rfl) (fun z => by cases z) (by decide))
          (pa_cons (pe_disp (pps_cons (pv 3) (pe_tup (pa_cons pe_str (pa_cons pe_int pa_nil))) pps_nil) (by rfl) (by rfl) (fun z => by cases z) (by decide))
          (pa_cons (pe_disp (pps_cons (pv 3) pe_non pps_nil) (by rfl) (by rfl) (fun z => by cases z) (by decide)) pa_nil))))))))))
      (pss_one (ps_ret (pe_h GP hr (by decide) (by rfl) pass0 (pa_cons (pv 0) (pa_cons (pv 2) pa_nil)))))), ?_⟩
    have tt : ∀ {σ : L2.St} (x : Str) (i : Int), TV D n σ (tTup (tCons (tC (.str x)) (tCons (tC (.int i)) tNil))) (.tuple [.str x, .int i]) := fun x i => tv_tup (tva_cons (tv_str x) (tva_cons (tv_int i) tva_nil)) (by show 2 ≤ 1000; decide)
    have kc : ∀ {σ : L2.St} (x : Str) (H : Hp) (Q : VK), Q (.str x) H → tC (.str x) σ H Q := fun _ _ _ q => q
    refine tb_set (P := P) (w := w) (D := D) (n := n) (ns := ns) (k := 6) (H0 := H) ?_ (by decide) (same_refl H) dr fun H2 p us s12 d2 hp o2 l1 b2 => ?_
    · exact tba_cons (tb_v tv_non rfl) (tba_cons (tb_v (tv_lst tva_nil (by show 0 ≤ 1000; decide)) rfl) (tba_cons (tb_dict (kc "nobody") (tt "a" 0) (by decide +kernel) (.inl no1)) (tba_cons (tb_dict (kc "X") (tt "a" 0) (by decide +kernel) (.inl no2))
        (tba_cons (tb_dictN (tt "a" 0)) (tba_cons (tb_v (tv_tup (tva_cons (tv_tup (tva_cons (tv_str "a") (tva_cons (tt "a" 0) tva_nil)) (by show 2 ≤ 1000; decide)) tva_nil) (by show 1 ≤ 1000; decide)) rfl) tba_nil)))))
    refine ⟨_, rfl, l, rfl, ⟨_, .inl (.inl (s12 _ _ hl))⟩, for_list (K := K) (a := l) (xs := ys.map V.str) (fun i σ H' => Same H2 H' ∧ DrawAt D n H' ∧ ∃ (L : Addr) (xs : List V) (x3 : Option V), H' L = some (.lst xs) ∧ L ≠ D.w ∧ xs.length = 6 + 9 * i ∧ (∀ v ∈ xs, BadT P w D H H' ns v) ∧ σ = [some (.ref D.d), some (.ref l), some (.ref L), x3])
      ⟨same_refl _, d2, p, us, none, hp, o2, l1, b2, rfl⟩ (fun i σ H' _ z => .inl (.inl (z.1 _ _ (s12 _ _ hl)))) ?_ ?_⟩
    · rintro i y σ H3 hy ⟨s3, d3, L, xs, x3, hL, Lw, lx, bx, rfl⟩
      rw [List.getElem?_map] at hy
      cases ey : ys[i]? with
      | none => rw [ey] at hy; cases hy
      | some x =>
      rw [ey] at hy
      obtain rfl := Option.some.inj hy
      have hi : i < ys.length := (List.getElem?_eq_some_iff.mp ey).1
      have kv : ∀ {a b c : Option V} (H : Hp) (Q : VK), Q (.str x) H → tVar 3 [a, b, c, some (.str x)] H Q := fun _ _ q => ⟨_, rfl, q⟩
      refine tb_more (P := P) (w := w) (D := D) (n := n) (ns := ns) (k := 5) (L := L) (xs := xs) (H0 := H) ?_ (sameT s12 s3) d3 rfl hL (by omega) bx fun H6 p6 us4 s36 d6 h6 o6 l4 b6 => ?_
      · exact tba_cons (tb_dict kv (tv_str "a") (by decide +kernel) (.inr (by decide +kernel))) (tba_cons (tb_dict kv (tv_tup (tva_cons (tv_str "a") (tva_cons (tv_bl true) tva_nil)) (by show 2 ≤ 1000; decide)) (by decide +kernel) (.inr (by decide +kernel)))
          (tba_cons (tb_dict kv (tv_lst (tva_cons (tv_str "a") (tva_cons (tv_int 0) tva_nil)) (by show 2 ≤ 1000; decide)) (by decide +kernel) (.inr (by decide +kernel))) (tba_cons (tb_dict kv (tt "X" 0) (by decide +kernel) (.inr (by decide +kernel)))
          (tba_cons (tb_dict kv (tv_tup (tva_cons (tv_str "a") (tva_cons (tv_int 0) (tva_cons (tv_int 0) tva_nil))) (by show 3 ≤ 1000; decide)) (by decide +kernel) (.inr (by decide +kernel))) tba_nil))))
      refine tb_more (P := P) (w := w) (D := D) (n := n) (ns := ns) (k := 4) (L := p6) (xs := xs ++ us4) (H0 := H) ?_ (sameT s12 (sameT s3 s36)) d6 rfl h6 (by rw [List.length_append]; omega) b6 fun H9 p9 us7 s69 d9 h9 o9 l7 b9 => ?_
      · exact tba_cons (tb_dict kv (tt "a!" 0) (by decide +kernel) (.inr (by decide +kernel))) (tba_cons (tb_dict kv (tv_tup (tva_cons (tv_int 1) (tva_cons (tv_int 0) tva_nil)) (by show 2 ≤ 1000; decide)) (by decide +kernel) (.inr (by decide +kernel)))
          (tba_cons (tb_dict kv (tt "" 0) (by decide +kernel) (.inr (by decide +kernel))) (tba_cons (tb_dict kv tv_non (by decide +kernel) (.inr (by decide +kernel))) tba_nil)))
      exact ⟨sameT s3 (sameT s36 s69), d9, p9, _, _, h9, o9, by rw [List.length_append, List.length_append]; omega, b9, rfl⟩
    · rintro σ H3 ⟨s3, d3, L, xs, x3, hL, Lw, lx, bx, rfl⟩
      rw [List.length_map] at lx
      refine ⟨_, rfl, _, rfl, D, n, L, xs, rfl, d3, hn, hL, Lw, (fun z => by rw [z] at lx; simp at lx; omega), by omega, fun H4 i v ev d4 f4 => ?_⟩
      exact q H4 v ((bx v (List.mem_of_getElem? ev)).fr f4) d4 (.trans (.of (sameT s12 s3)) f4)
end
end Lm
/-! _law_lists. -/
namespace Lm
open PySem PySem.Spec PyProof.Rows L2
theorem tv_emp {D : DrA} {n : Nat} {σ : L2.St} : TV D n σ tDNewK (.dict []) := fun zs H Q dr hz q => fun p np => q _ _ (same_upd np) (dr.new np) (.emp (HidL.of (hz.new np) upd_same) (dr.off np).1 (dr.off np).2)
def RowG (d : PyData) : Prop := ∃ (a b : Option Str) (c : Int), d = .tuple [oD a, oD b, .int c] ∧ a ≠ b ∧ (∀ x, a = some x → x ∈ lows) ∧ (∀ x, b = some x → x ∈ lows) ∧ -9 ≤ c ∧ c ≤ 9
def SysG (d : PyData) : Prop := ∃ rs, d = .list rs ∧ rs.length ≤ 3 ∧ ∀ r ∈ rs, RowG r
def oddS : List PyData := [.none, .int 5, .list [.tuple [.str "a", .str "a", .int 0]], .list [.tuple [.str "X", .str "a", .int 0]], .list [.tuple [.str "a!", .none, .int 0]], .list [.list [.str "a", .none, .int 0]], .dict [], .list [.none]]
theorem oD_side {a : Option Str} (h : ∀ x, a = some x → x ∈ lows) : sideD (oD a) = true := by
  cases a with
  | none => rfl
  | some x => exact said_rowN (lows_ok x (h x rfl)).1
theorem rowG_row {d : PyData} (h : RowG d) : rowD d = true := by
  obtain ⟨a, b, c, rfl, ne, ha, hb, _⟩ := h
  show (sideD (oD a) && sideD (oD b) && !sideEq (oD a) (oD b) && isNum (.int c)) = true
  rw [oD_side ha, oD_side hb, side_neq ne]
  rfl
theorem unO_oD (a : Option Str) : unO (oD a) = a := by cases a <;> rfl
theorem sysG_good {d : PyData} (h : SysG d) : goodS d = true := by
  obtain ⟨rs, rfl, l, g⟩ := h
  show (sysD (.list rs) && (namesR rs).all fun x => freeNameD (.str x)) = true
  rw [Bool.and_eq_true]
  constructor
  · show (decide (rs.length ≤ 400) && rs.all rowD) = true
    rw [decide_eq_true (by omega), Bool.true_and, List.all_eq_true]
    exact fun r hr => rowG_row (g r hr)
  · rw [List.all_eq_true]
    intro x hx
    obtain ⟨o, ho, e⟩ := List.mem_filterMap.mp hx
    have e : o = some x := e
    obtain ⟨r, hr, ho⟩ := List.mem_flatMap.mp ho
    obtain ⟨a, b, c, rfl, ne, ha, hb, _⟩ := g r hr
    have ho : o ∈ [unO (oD a), unO (oD b)] := ho
    rw [unO_oD, unO_oD, e] at ho
    have m : x ∈ lows := by
      rcases List.mem_cons.mp ho with e | ho
      · exact ha x e.symm
      · rw [List.mem_singleton] at ho
        exact hb x ho.symm
    obtain ⟨k, bg⟩ := lows_ok x m
    show (saidNameD (.str x) && !bigD (.str x)) = true
    have bg : bigD (.str x) = false := bg
    rw [k.1, bg]
    rfl
theorem oddS_bad : ∀ d ∈ oddS, goodS d = false ∧ shortD d = true ∧ ∀ rs, rowsD d = some rs → rs.length ≤ 30 := by
  intro d hd
  simp only [oddS, List.mem_cons, List.not_mem_nil, or_false] at hd
  rcases hd with rfl | rfl | rfl | rfl | rfl | rfl | rfl | rfl
  all_goals refine ⟨by decide +kernel, by decide +kernel, fun rs e => ?_⟩
  all_goals (cases e; try decide)
theorem rowG_short {d : PyData} (h : RowG d) : shortD d = true := by
  obtain ⟨a, b, c, rfl, ne, ha, hb, _⟩ := h
  have s : ∀ {a : Option Str}, (∀ x, a = some x → x ∈ lows) → shortD (oD a) = true := fun {a} h => by
    cases a with
    | none => rfl
    | some x =>
      have := (lows_ok x (h x rfl)).1.2.2
      exact decide_eq_true (by omega)
  show (shortD (oD a) && (shortD (oD b) && (shortD (.int c) && true))) = true
  rw [s ha, s hb]
  rfl
theorem shortAll_of : ∀ {ds : List PyData}, (∀ d ∈ ds, shortD d = true) → shortAll ds = true
  | [], _ => rfl
  | d :: r, h => by
    show (shortD d && shortAll r) = true
    rw [h d (List.mem_cons_self ..), shortAll_of fun x hx => h x (List.mem_cons_of_mem _ hx)]
    rfl
/-- what is drawn: just systems, or a first one that is none -/
def LisOk (ds : List PyData) : Option Nat → Prop
  | none => ∀ d ∈ ds, SysG d
  | some i => BadSy ds i ∧ ∀ d ∈ ds, SysG d ∨ d ∈ oddS
theorem LisOk.parts {ds : List PyData} {o : Option Nat} (h : LisOk ds o) : ∀ d ∈ ds, SysG d ∨ d ∈ oddS := by
  cases o with
  | none => exact fun d hd => .inl (h d hd)
  | some i => exact h.2
theorem LisOk.short {ds : List PyData} {o : Option Nat} (h : LisOk ds o) : shortD (.list ds) = true ∧ ∀ s ∈ ds, ∀ rs, rowsD s = some rs → rs.length ≤ 30 := by
  refine ⟨shortAll_of fun d hd => ?_, fun d hd rs e => ?_⟩
  · rcases h.parts d hd with g | g
    · obtain ⟨rs, rfl, l, g⟩ := g
      exact shortAll_of fun r hr => rowG_short (g r hr)
    · exact (oddS_bad d g).2.1
  · rcases h.parts d hd with g | g
    · obtain ⟨rs', rfl, l, g⟩ := g
      cases e
      omega
    · exact (oddS_bad d g).2.2 rs e
theorem LisOk.good {ds : List PyData} {d : PyData} {o : Option Nat} (h : LisOk ds o) (g : SysG d) : LisOk (ds ++ [d]) o := by
  have m : ∀ e ∈ ds ++ [d], SysG e ∨ e ∈ oddS := fun e he => (List.mem_append.mp he).elim (h.parts e) fun z => .inl (by rw [List.mem_singleton.mp z]; exact g)
  cases o with
  | none => exact fun e he => (List.mem_append.mp he).elim (h e) fun z => by rw [List.mem_singleton.mp z]; exact g
  | some i =>
    obtain ⟨⟨⟨s, h1, h2⟩, h3⟩, _⟩ := h
    have hi : i < ds.length := (List.getElem?_eq_some_iff.mp h1).1
    exact ⟨⟨⟨s, by rw [List.getElem?_append_left hi]; exact h1, h2⟩, fun j s hj e => h3 j s hj (by rwa [List.getElem?_append_left (by omega)] at e)⟩, m⟩
theorem LisOk.odd {ds : List PyData} {d : PyData} {o : Option Nat} (h : LisOk ds o) (g : d ∈ oddS) : LisOk (ds ++ [d]) (some (o.getD ds.length)) := by
  have m : ∀ e ∈ ds ++ [d], SysG e ∨ e ∈ oddS := fun e he => (List.mem_append.mp he).elim (h.parts e) fun z => .inr (by rw [List.mem_singleton.mp z]; exact g)
  refine ⟨?_, m⟩
  cases o with
  | none =>
    refine ⟨⟨d, ?_, (oddS_bad d g).1⟩, fun j s hj e => ?_⟩
    · show (ds ++ [d])[ds.length]? = some d
      rw [List.getElem?_append_right (Nat.le_refl _), Nat.sub_self]
      rfl
    · have hj : j < ds.length := hj
      rw [List.getElem?_append_left hj] at e
      exact sysG_good (h s (List.mem_of_getElem? e))
  | some i =>
    obtain ⟨⟨⟨s, h1, h2⟩, h3⟩, _⟩ := h
    have hi : i < ds.length := (List.getElem?_eq_some_iff.mp h1).1
    have ei : (some i).getD ds.length = i := rfl
    rw [ei]
    exact ⟨⟨s, by rw [List.getElem?_append_left hi]; exact h1, h2⟩, fun j s hj e => h3 j s hj (by rwa [List.getElem?_append_left (by omega)] at e)⟩
def wOf : Option Nat → V
  | none => .non
  | some i => .int (i : Nat)
theorem pick_tva {D : DrA} {n : Nat} {σ : L2.St} {H : Hp} {ta : TA} {ds : List PyData} {zs : List Addr} {Q : VK} (h : TVA D n σ ta ds) (e : σ[0]? = some (some (.ref D.d))) (dr : DrawAt D n H) (hz : Held zs H) (hn : n + 1 ≤ B) (h0 : ds ≠ []) (h1 : ds.length ≤ 1000)
    (q : ∀ (H' : Hp) (v : V) (d : PyData), d ∈ ds → Da D (HidL zs H') v d → DrawAt D (n + 1) H' → Fr D H H' → Q v H') : tH spPick C8.E0 (tCons (tVar 0) (tCons (tLst ta) tNil)) σ H Q := by
  refine ⟨_, e, h zs H _ dr hz fun H1 us s1 d1 a1 => ⟨small10000 (by rw [a1.length]; omega), fun p np => ?_⟩⟩
  have s2 := same_upd (o := .lst us) np
  have d2 := d1.new (o := .lst us) np
  have o2 := d1.off np
  refine ⟨D, n, p, us, rfl, d2, hn, upd_same, o2.2, (fun z => h0 ?_), by rw [a1.length]; omega, fun H' i v ev d' f' => ?_⟩
  · have := a1.length
    rw [z] at this
    exact List.length_eq_zero_iff.mp this.symm
  · obtain ⟨d, e1, g⟩ := a1.get ev
    exact q H' v d (List.mem_of_getElem? e1) (g.fr ((hidL_sm s2).trans (hidL_fr f'))) d' (.trans (.of (sameT s1 s2)) f')
theorem sl_tupAK {X : Cx} (K : PySem.W.Frag) (hK : X.K = K := by rfl) : SlR X (rSlA K) := hK ▸ sl_tupA
section
variable {P : Program} {w : World} {K : PySem.W.Frag} {mg : Str → Option Value} {base : Heap}
abbrev sLL : Stmt := topS 65
def nLL : List Str := ["draw", "titles", "found", "wrong", "spot", "odd", "lap"]
theorem scLL : FnScope nLL ["draw", "titles"] (defScope sLL) := ⟨rfl, rfl, rfl, by decide +kernel, rfl, by decide +kernel, by decide +kernel⟩
def spLL : Sp := fun vs H Q _ => ∃ (D : DrA) (n : Nat) (l : Addr) (ts : List Str), vs = [.ref D.d, .ref l] ∧ DrawAt D n H ∧ n + 50 ≤ B ∧ H l = some (.lst (ts.map V.str)) ∧ l ≠ D.d ∧ l ≠ D.w ∧ ts ≠ [] ∧ ts.length ≤ 2 ∧ ts.Nodup ∧ (∀ x ∈ ts, x ∈ lows) ∧
  ∀ (H' : Hp) (p : Addr) (v : V) (ds : List PyData) (o : Option Nat), H' p = some (.tup [v, wOf o]) → Da D H' v (.list ds) → LisOk ds o → ds.length ≤ 3 → DrawAt D (n + 50) H' → Fr D H H' → Q (.ref p) H'
theorem ok_ll {f : Addr} {fd : FuncData} (F : Fun K "_law_lists" "_law_lists" sLL f fd) (N : Bl mg) (GT : Has P w K mg base CX0 2 "_law_take" ["draw", "size"] spTake) (GP : Has P w K mg base CX0 3 "_law_pick" ["draw", "some"] spPick) (GR : Has P w K mg base CX0 4 "_law_said_row" ["draw", "several", "top"] spSR) : FnOk P w K mg base CX0 5 f fd ["draw", "titles"] spLL := by
  refine F.ok scLL (fun vs H Q E h => ?_) (fun cdv A outer s H vs Q E hr h => ?_)
  · obtain ⟨D, n, l, ts, rfl, _⟩ := h
    rfl
  · obtain ⟨D, n, l, ts, rfl, dr, hn, hl, ld, lw, t0, t2, tn, tl, q⟩ := h
    refine ⟨_, pss_cons (ps_par (i := 2) (j := 3) rfl scLL.nd rfl rfl (by decide) rfl rfl (pa_cons (pe_lst pa_nil) (pa_cons pe_non pa_nil)) rfl)
      (pss_cons (ps_for PassesOwn.never rfl (pi_range1 (by rfl) N.brng (pa_cons (pe_h GT hr (by decide) (by rfl) pass0 (pa_cons (pv 0) (pa_cons pe_int pa_nil))) pa_nil)) (pg_name (i := 4) scLL.nd rfl (.inl rfl))
        (pss_one (ps_if (pt_cmpR op_eq (pe_h GT hr (by decide) (by rfl) pass0 (pa_cons (pv 0) (pa_cons pe_int pa_nil))) pe_int (nomark _))
          (pss_cons (ps_set (i := 5) scLL.nd rfl (.inl rfl) (pe_h GP hr (by decide) (by rfl) pass0 (pa_cons (pv 0) (pa_cons (pe_lst (pa_cons pe_non (pa_cons pe_int (pa_cons (pe_lst (pa_cons (pe_tup (pa_cons pe_str (pa_cons pe_str (pa_cons pe_int pa_nil)))) pa_nil)) (pa_cons (pe_lst (pa_cons (pe_tup (pa_cons pe_str (pa_cons pe_str (pa_cons pe_int pa_nil)))) pa_nil))
              (pa_cons (pe_lst (pa_cons (pe_tup (pa_cons pe_str (pa_cons pe_non (pa_cons pe_int pa_nil)))) pa_nil)) (pa_cons (pe_lst (pa_cons (pe_lst (pa_cons pe_str (pa_cons pe_non (pa_cons pe_int pa_nil)))) pa_nil)) (pa_cons pe_dnewK (pa_cons (pe_lst (pa_cons pe_non pa_nil)) pa_nil))))))))) pa_nil))))
          (pss_one (ps_par (i := 2) (j := 3) rfl scLL.nd rfl rfl (by decide) rfl rfl (pa_cons (pe_op op_cat (pv 2) (pe_lst (pa_cons (pv 5) pa_nil))) (pa_cons (pe_ifExp (pt_cmpR op_isN1 (pv 3) pe_non (nomark _)) (pv 4) (pv 3)) pa_nil)) rfl)))
          (pss_one (ps_expr (pe_bm PySem.F.plainAttrs_list PySem.F.slot_list_append PySem.F.type_list_append mt_append (pv 2) (pa_cons
            (pe_lc (own := [("lap", 6)]) (g := gName 6) (tt := tYes) rfl scLL.nd (pi_range1 (by rfl) N.brng (pa_cons (pe_h GT hr (by decide) (by rfl) pass0 (pa_cons (pv 0) (pa_cons pe_int pa_nil))) pa_nil)) (blkOk_by (own := [("lap", 6)]) (N := nLL) (sc := defScope sLL) (by decide +kernel)) (fun _ _ _ _ _ => pg_name (i := 6) scLL.nd rfl (Or.inl rfl))
              (fun _ _ _ _ _ => pts_nil) (fun _ _ _ _ _ => pe_slice (sl_tupAK K) (pe_h GR (hr.mono (Nat.le_refl 4)) (by decide) (by rfl) pass0 (pa_cons (pv 0) (pa_cons (pv 1) (pa_cons pe_int pa_nil)))) (po_some pe_int) po_none)) pa_nil)))))))
      (pss_one (ps_ret (pe_tup (pa_cons (pv 2) (pa_cons (pv 3) pa_nil)))))), ?_⟩
    have D2 : (2 : Nat) ≤ 1000 := by decide
    have row3 : ∀ {n : Nat} {σ : L2.St} {t1 t2 : TE} {d1 d2 : PyData}, TV D n σ t1 d1 → TV D n σ t2 d2 → TVA D n σ (tCons t1 (tCons t2 (tCons (tC (.int 0)) tNil))) [d1, d2, .int 0] := fun a b => tva_cons a (tva_cons b (tva_cons (tv_int 0) tva_nil))
    have one : ∀ {n : Nat} {σ : L2.St} {t1 : TE} {d1 : PyData}, TV D n σ t1 d1 → TV D n σ (tLst (tCons t1 tNil)) (.list [d1]) := fun a => tv_lst (tva_cons a tva_nil) (by show 1 ≤ 1000; decide)
    have odds : ∀ {n : Nat} {σ : L2.St}, TVA D n σ _ oddS := fun {n σ} => tva_cons tv_non (tva_cons (tv_int 5) (tva_cons (one (tv_tup (row3 (tv_str "a") (tv_str "a")) (by show 3 ≤ 1000; decide))) (tva_cons (one (tv_tup (row3 (tv_str "X") (tv_str "a")) (by show 3 ≤ 1000; decide)))
      (tva_cons (one (tv_tup (row3 (tv_str "a!") tv_non) (by show 3 ≤ 1000; decide))) (tva_cons (one (tv_lst (row3 (tv_str "a") tv_non) (by show 3 ≤ 1000; decide))) (tva_cons tv_emp (tva_cons (one tv_non) tva_nil)))))))
    refine ⟨Nat.zero_le _, fun p np => ?_⟩
    have s1 := same_upd (o := .lst []) np
    have hp1 : (upd H p (.lst [])) p = some (.lst []) := upd_same
    have d1 := dr.new (o := .lst []) np
    generalize upd H p (.lst []) = H1 at *
    refine ⟨_, _, rfl, ?_⟩
    refine ⟨_, rfl, D, n, 4, rfl, d1, by omega, by decide, by decide, fun H2 v d2 f2 v0 v4 => ?_⟩
    obtain ⟨k, rfl⟩ : ∃ k : Nat, v = (k : Int) := ⟨v.toNat, by omega⟩
    have f02 : Fr D H H2 := .trans (.of s1) f2
    have op := dr.off np
    refine ⟨k, rfl, by omega, by omega, for_range (fun i σ H' => Fr D H H' ∧ DrawAt D (n + 1 + 16 * i) H' ∧ ∃ (L : Addr) (vs : List V) (ds : List PyData) (o : Option Nat) (x4 x5 x6 : Option V), H L = none ∧ H' L = some (.lst vs) ∧ DaAll D (HidL [L] H') vs ds ∧ LisOk ds o ∧ ds.length = i ∧ σ = [some (.ref D.d), some (.ref l), some (.ref L), some (wOf o), x4, x5, x6])
      ⟨f02, d2, p, [], [], none, none, none, none, np, f2 _ _ hp1 op.1 op.2, .nil, fun d z => absurd z (by simp), rfl, rfl⟩ ?_ ?_⟩
    · rintro i σ H3 hi ⟨f3, d3, L, vs, ds, o, x4, x5, x6, nL, hL, ga, lo, lds, rfl⟩
      have oL := dr.off nL
      have hl3 := f3 _ _ hl ld lw
      have lvs := ga.length
      have Ll : L ≠ l := fun z => by rw [z, hl] at nL; cases nL
      refine ⟨_, rfl, D, _, 8, rfl, d3, by omega, by decide, by decide, fun H4 v d4 f4 v0 v8 => ?_⟩
      have hL4 := f4 _ _ hL oL.1 oL.2
      have ga4 := ga.fr (hidL_fr f4)
      have f04 := f3.trans f4
      refine ⟨rfl, _, rfl, ite2 (fun _ => ?_) (fun _ => ?_)⟩
      · refine pick_tva (zs := [L]) odds rfl d4 (Held.cons held0 hL4) (by omega) (fun z => by cases z) (by show 8 ≤ 1000; decide) fun H5 u d hd gu d5 f5 => ?_
        have hL5 := f5 _ _ hL4 oL.1 oL.2
        have ga5 := ga4.fr (hidL_fr f5)
        refine ⟨_, rfl, _, rfl, (by show 1 ≤ sizeLine; decide), fun p6 n6 => ?_⟩
        have s6 := same_upd (o := .lst [u]) n6
        have h6 : (upd H5 p6 (.lst [u])) p6 = some (.lst [u]) := upd_same
        have d6 := d5.new (o := .lst [u]) n6
        generalize upd H5 p6 (.lst [u]) = H6 at *
        refine ⟨L, p6, vs, [u], rfl, rfl, s6 _ _ hL5, h6, small10000 (by show vs.length + 1 ≤ 10000; omega), fun p7 n7 => ?_⟩
        have s7 := same_upd (o := .lst (vs ++ [u])) n7
        have h7 : (upd H6 p7 (.lst (vs ++ [u]))) p7 = some (.lst (vs ++ [u])) := upd_same
        have d7 := d6.new (o := .lst (vs ++ [u])) n7
        have f07 : Fr D H5 (upd H6 p7 (.lst (vs ++ [u]))) := .of (sameT s6 s7)
        have ga7 : DaAll D (HidL [p7] (upd H6 p7 (.lst (vs ++ [u])))) (vs ++ [u]) (ds ++ [d]) := by
          refine DaAll.fr ?_ ((ga5.app (.cons gu .nil)).fr (hidL_sm s6))
          exact (hidL_more n7 s7).trans (hidL_less fun z hz => by rw [List.mem_singleton.mp hz]; exact List.mem_cons_self ..)
        have n7H : H p7 = none := none_fr d6 (((f04.trans f5)).trans (.of s6)) n7
        generalize upd H6 p7 (.lst (vs ++ [u])) = H7 at *
        have fin : ∀ o', LisOk (ds ++ [d]) o' → Fr D H H7 ∧ DrawAt D (n + 1 + 16 * (i + 1)) H7 ∧ ∃ (L' : Addr) (vs' : List V) (ds' : List PyData) (o : Option Nat) (y4 y5 y6 : Option V), H L' = none ∧ H7 L' = some (.lst vs') ∧ DaAll D (HidL [L'] H7) vs' ds' ∧ LisOk ds' o ∧ ds'.length = i + 1 ∧ [some (.ref D.d), some (.ref l), some (.ref p7), some (wOf o'), some (.int (0 + (i : Int))), some u, x6] = [some (.ref D.d), some (.ref l), some (.ref L'), some (wOf o), y4, y5, y6] := fun o' ho =>
          ⟨(f04.trans f5).trans f07, d7.mono (by omega), p7, _, _, o', _, _, _, n7H, h7, ga7, ho, by rw [List.length_append, lds]; rfl, rfl⟩
        have lo' := lo.odd hd
        refine ⟨_, rfl, rfl, _, rfl, ?_⟩
        cases o with
        | none =>
          refine iteT ⟨_, rfl, _, _, rfl, ?_⟩
          have e : (0 : Int) + (i : Int) = ((ds.length : Nat) : Int) := by omega
          have := fin (some ds.length) lo'
          rw [e]
          rw [e] at this
          exact this
        | some j =>
          refine iteF ⟨_, rfl, _, _, rfl, ?_⟩
          exact fin (some j) lo'
      · refine ⟨_, rfl, .inl ⟨rfl, _, SqL.of hL4⟩, ?_⟩
        refine ⟨_, rfl, D, _, 4, rfl, d4, by omega, by decide, by decide, fun H5 v d5 f5 v0 v4 => ?_⟩
        obtain ⟨k2, rfl⟩ : ∃ k2 : Nat, v = (k2 : Int) := ⟨v.toNat, by omega⟩
        have hL5 := f5 _ _ hL4 oL.1 oL.2
        have ga5 := ga4.fr (hidL_fr f5)
        have f05 := f04.trans f5
        refine ⟨k2, rfl, by omega, by omega, fun R nR => lc_range (fun j H' => Fr D H5 H' ∧ DrawAt D (n + 1 + 16 * i + 2 + 4 * j) H' ∧ ∃ (us : List V) (es : List PyData), H' R = some (.lst us) ∧ DaAll D (HidL [R, L] H') us es ∧ es.length = j ∧ ∀ e ∈ es, RowG e)
          ⟨.of (same_upd nR), (d5.new nR).mono (by omega), [], [], upd_same, .nil, rfl, fun e z => absurd z (by simp)⟩ ?_ ?_⟩
        · rintro j H' hj ⟨f6, d6, us, es, hR, g6, le, ge⟩
          have oR := d5.off nR
          have lus := g6.length
          refine ⟨rfl, _, rfl, _, rfl, D, _, l, ts, 9, rfl, d6, by omega, f6 _ _ (f5 _ _ (f4 _ _ hl3 ld lw) ld lw) ld lw, t0, tn, by omega, (fun x hx => (lows_ok x (tl x hx)).1.2.1), by decide, by decide, fun H7 p7 a b c np7 hp7 o1 o2 ne ha hb c1 c2 d7 f7 => ?_⟩
          have hR7 := f7 _ _ hR oR.1 oR.2
          have hL7 := f7 _ _ (f6 _ _ hL5 oL.1 oL.2) oL.1 oL.2
          refine ⟨1, rfl, ?_⟩
          try unfold tNoPart
          refine slA_td (es := [oD a, oD b, .int c]) d7 hp7 o1 o2 (cut_from1 _ _) (.cons (da_o a) (.cons (da_o b) (.cons (.int c) .nil))) fun H8 p8 s8 d8 h8 o8 o9 g8 => ?_
          have pR : p8 ≠ R := fun z => by rw [z, s8 _ _ hR7] at h8; cases h8
          have pL : p8 ≠ L := fun z => by rw [z, s8 _ _ hL7] at h8; cases h8
          refine ⟨us, s8 _ _ hR7, small1000 (by omega), fr_put ((f6.trans f7).trans (.of s8)) nR, draw_put d5 nR (d8.mono (by omega)), us ++ [.ref p8], es ++ [.tuple [oD a, oD b, .int c]], upd_same, ?_, by rw [List.length_append, le]; rfl, fun e he => ?_⟩
          · rw [hidL_upd (List.mem_cons_self ..)]
            refine (g6.fr ((hidL_fr f7).trans (hidL_sm s8))).app (.cons (.tup (HidL.of (fun z => ?_) h8) o8 o9 (.cons (da_o a) (.cons (da_o b) (.cons (.int c) .nil)))) .nil)
            rcases List.mem_cons.mp z with z | z
            · exact pR z
            · exact pL (List.mem_singleton.mp z)
          · rcases List.mem_append.mp he with he | he
            · exact ge e he
            · rw [List.mem_singleton.mp he]
              exact ⟨a, b, c, rfl, ne, fun x e => tl x (ha x e), fun x e => tl x (hb x e), c1, c2⟩
        · rintro H6 ⟨f6, d6, us, es, hR, g6, le, ge⟩
          rw [show ((k2 : Nat) : Int).toNat = k2 from rfl] at d6 le
          have oR := d5.off nR
          have hL6 := f6 _ _ hL5 oL.1 oL.2
          have RL : R ≠ L := fun z => by rw [z, hL5] at nR; cases nR
          refine ⟨L, vs, .ref R, rfl, rfl, hL6, small1000 (by omega), fr_put (f05.trans f6) nL, draw_put dr nL (d6.mono (by omega)), L, _, ds ++ [.list es], o, _, _, _, nL, upd_same, ?_, lo.good ⟨es, rfl, by omega, ge⟩, by rw [List.length_append, lds]; rfl, rfl⟩
          rw [hidL_upd (List.mem_cons_self ..)]
          exact (ga5.fr (hidL_fr f6)).app (.cons (.lst (HidL.of (fun z => RL (List.mem_singleton.mp z)) hR) oR.1 oR.2 (g6.fr hidL_cons)) .nil)
    · rintro σ H3 ⟨f3, d3, L, vs, ds, o, x4, x5, x6, nL, hL, ga, lo, lds, rfl⟩
      rw [show ((k : Nat) : Int).toNat = k from rfl] at d3 lds
      have oL := dr.off nL
      refine ⟨_, rfl, _, rfl, (by show 2 ≤ sizeLine; decide), fun p4 n4 => ?_⟩
      have s4 := same_upd (o := .tup [.ref L, wOf o]) n4
      exact q _ p4 (.ref L) ds o upd_same (.lst (s4 _ _ hL) oL.1 oL.2 (ga.fr ((hidL_sm s4).trans hidL_sub))) lo (by omega) ((d3.mono (by omega)).new n4) (f3.trans (.of s4))
end
end Lm
/-! What is known of a drawn saying, and of it with terms put in. -/
namespace Lm
open PySem PySem.Spec PyProof.Rows L2
theorem Dn.inn {ts : List Str} {e : Nat} {bs : List Str} {d : PyData} (h : Dn ts e bs d) : ∀ k, e + 1 ≤ k → ∀ y ∈ namesN k d, y ∈ ts ++ bs := by
  induction h with
  | @row e bs a b c ne ha hb c1 c2 =>
    intro k hk y hy
    obtain ⟨k, rfl⟩ : ∃ k', k = k' + 1 := ⟨k - 1, by omega⟩
    rw [names_row] at hy
    obtain ⟨z, hz, e⟩ := List.mem_filterMap.mp hy
    rcases List.mem_cons.mp hz with rfl | hz
    · cases a with
      | none => cases e
      | some x => cases e; exact ha _ rfl
    · obtain rfl := List.mem_singleton.mp hz
      cases b with
      | none => cases e
      | some x => cases e; exact hb _ rfl
  | @no e bs x hx ih =>
    intro k hk y hy
    obtain ⟨k, rfl⟩ : ∃ k', k = k' + 1 := ⟨k - 1, by omega⟩
    rw [names_no] at hy
    exact ih k (by omega) y hy
  | @many e bs w es hw hl hes ih =>
    intro k hk y hy
    obtain ⟨k, rfl⟩ : ∃ k', k = k' + 1 := ⟨k - 1, by omega⟩
    rw [names_many hw] at hy
    obtain ⟨l, hl, hy⟩ := List.mem_flatten.mp hy
    obtain ⟨x, hx, rfl⟩ := List.mem_map.mp hl
    exact ih x hx k (by omega) y hy
  | @bind e bs w fs x hw l1 l2 nd hf hx ih =>
    intro k hk y hy
    obtain ⟨k, rfl⟩ : ∃ k', k = k' + 1 := ⟨k - 1, by omega⟩
    rw [names_bind, strs_tup] at hy
    obtain ⟨h1, h2⟩ := List.mem_filter.mp hy
    have h3 := ih k (by omega) y h1
    rw [← List.append_assoc] at h3
    rcases List.mem_append.mp h3 with h3 | h3
    · exact h3
    · rw [decide_eq_true h3] at h2
      cases h2
theorem wM_ge : ∀ e, 110 ≤ wM e
  | 0 => Nat.le_refl _
  | e + 1 => by
    have := wM_ge e
    show 110 ≤ 3 * wM e + 70
    omega
theorem get_ok {tm : TM} (G : ∀ x t, tm x = some t → TmOk t) {o : Option Str} (h : ∀ x, o = some x → NameOk x) : (∀ x, (getT tm o).1 = some x → NameOk x) ∧ -9 ≤ (getT tm o).2 ∧ (getT tm o).2 ≤ 9 := by
  cases o with
  | none =>
    show (∀ x, (none : Option Str) = some x → NameOk x) ∧ -9 ≤ (0 : Int) ∧ (0 : Int) ≤ 9
    exact ⟨(fun x e => nomatch e), by decide, by decide⟩
  | some y =>
    show (∀ x, ((tm y).getD (some y, 0)).1 = some x → NameOk x) ∧ -9 ≤ ((tm y).getD (some y, 0)).2 ∧ ((tm y).getD (some y, 0)).2 ≤ 9
    cases e : tm y with
    | none => exact ⟨fun x e' => h x e', by show (-9 : Int) ≤ 0; decide, by show (0 : Int) ≤ 9; decide⟩
    | some t => exact ⟨(G y t e).2.1, (G y t e).2.2.1, (G y t e).2.2.2⟩
theorem Dn.led {ts : List Str} (T : ∀ x ∈ ts, NameOk x) {tm : TM} (G : ∀ x t, tm x = some t → TmOk t) {e : Nat} {bs : List Str} {d : PyData} (h : Dn ts e bs d) : (∀ x ∈ bs, x ∈ caps) → ∀ k, e + 1 ≤ k → Sz (wM e) (2 * e + 2) (ledN tm k d) := by
  induction h with
  | @row e bs a b c ne ha hb c1 c2 =>
    intro S k hk
    obtain ⟨k, rfl⟩ : ∃ k', k = k' + 1 := ⟨k - 1, by omega⟩
    have nm : ∀ {x}, x ∈ ts ++ bs → NameOk x := fun {x} m => (List.mem_append.mp m).elim (T x) fun m => (caps_ok x (S x m)).1
    have := wM_ge e
    rw [led_row, unO_oD, unO_oD]
    obtain ⟨n1, l1, u1⟩ := get_ok G (o := a) fun x e => nm (ha x e)
    obtain ⟨n2, l2, u2⟩ := get_ok G (o := b) fun x e => nm (hb x e)
    have ec : unI (.int c) = c := rfl
    rw [ec]
    unfold ledRow
    split
    · have sw : Sz 4 0 (.str (if 0 ≤ c - (getT tm a).2 + (getT tm b).2 then "and" else "or")) := sz_word (by split <;> decide +kernel)
      exact (sz_tup (m := 1) (szA_cons (sw.mono (Nat.le_refl _) (Nat.zero_le _)) (szA_cons (sz_tup (szA_nil (m := 0))) szA_nil))).mono (by omega) (by omega)
    · exact (sz_tup (szA_cons (sz_word (by decide +kernel)) (szA_cons (sz_side n1) (szA_cons (sz_side n2) (szA_cons (sz_small (c := c - (getT tm a).2 + (getT tm b).2) (by omega) (by omega)) (szA_nil (m := 0))))))).mono (by omega) (by omega)
  | @no e bs x hx ih =>
    intro S k hk
    obtain ⟨k, rfl⟩ : ∃ k', k = k' + 1 := ⟨k - 1, by omega⟩
    rw [led_no]
    refine (sz_tup (m := 2 * e + 2) (szA_cons ((sz_word (w := "not") (by decide +kernel)).mono (Nat.le_refl _) (Nat.zero_le _)) (szA_cons (ih S k (by omega)) szA_nil))).mono ?_ (by omega)
    show _ ≤ 3 * wM e + 70
    omega
  | @many e bs w es hw hl hes ih =>
    intro S k hk
    obtain ⟨k, rfl⟩ : ∃ k', k = k' + 1 := ⟨k - 1, by omega⟩
    rw [led_many hw]
    have sw : Sz 4 0 (.str w) := sz_word (by rcases hw with rfl | rfl <;> decide +kernel)
    have sA : SzA ((es.map (ledN tm k)).length * (wM e + 1)) (2 * e + 2) (es.map (ledN tm k)) := szA_all fun y hy => by
      obtain ⟨x, hx, rfl⟩ := List.mem_map.mp hy
      exact ih x hx S k (by omega)
    rw [List.length_map] at sA
    have m1 : es.length * (wM e + 1) ≤ 3 * (wM e + 1) := Nat.mul_le_mul_right _ hl
    refine (sz_tup (m := 2 * e + 3) (szA_cons (sw.mono (Nat.le_refl _) (Nat.zero_le _)) (szA_cons (sz_tup sA) szA_nil))).mono ?_ (by omega)
    show _ ≤ 3 * wM e + 70
    omega
  | @bind e bs w fs x hw l1 l2 nd hf hx ih =>
    intro S k hk
    obtain ⟨k, rfl⟩ : ∃ k', k = k' + 1 := ⟨k - 1, by omega⟩
    rw [led_bind]
    have S' : ∀ y ∈ bs ++ fs, y ∈ caps := fun y hy => (List.mem_append.mp hy).elim (S y) fun m => (hf y m).1
    have sw : Sz 4 0 (.str w) := sz_word (by rcases hw with rfl | rfl <;> decide +kernel)
    have sF : SzA ((fs.map PyData.str).length * (20 + 1)) (2 * e + 1) (fs.map PyData.str) := szA_all fun d hd => by
      obtain ⟨f, hf', rfl⟩ := List.mem_map.mp hd
      exact (sz_name (caps_ok f (hf f hf').1).1).mono (Nat.le_refl _) (Nat.zero_le _)
    rw [List.length_map] at sF
    have m1 : fs.length * (20 + 1) ≤ 2 * (20 + 1) := Nat.mul_le_mul_right _ l2
    refine (sz_tup (m := 2 * e + 2) (szA_cons (sw.mono (Nat.le_refl _) (Nat.zero_le _)) (szA_cons (sz_tup sF) (szA_cons (ih S' k (by omega)) szA_nil)))).mono ?_ (by omega)
    show _ ≤ 3 * wM e + 70
    omega
theorem tm_of {ts : Tms} (h : ∀ e ∈ ts, TmOk e.2) : ∀ x t, tmOf ts x = some t → TmOk t := fun x t e => by
  unfold tmOf at e
  cases f : ts.find? fun t => decide (t.1 = x) with
  | none => rw [f] at e; cases e
  | some u =>
    rw [f] at e
    have e : u.2 = t := Option.some.inj e
    rw [← e]
    exact h u (List.mem_of_find?_eq_some f)
/-- a drawn saying -/
structure SdF (ts : List Str) (d : PyData) : Prop where
  dn : Dn ts 3 [] d
  low : ∀ x ∈ ts, x ∈ lows
section
variable {ts : List Str} {d : PyData} (h : SdF ts d)
include h
theorem SdF.ok : ∀ x ∈ ts, NameOk x := fun x m => (lows_ok x (h.low x m)).1
theorem SdF.sz : Sz 3880 7 d := (h.dn.sz h.ok (fun _ z => absurd z (by simp))).mono (by decide) (by decide)
theorem SdF.fit : fitsN 12 [] d = true := h.dn.fits (fun x m => h.low x m) (fun _ z => absurd z (by simp)) 12 (by decide)
theorem SdF.asked : Askd 12 d := ⟨by
  have := h.sz.sh
  exact this, fun _ => h.sz.la, Nat.le_trans h.sz.p (by decide), Nat.le_trans h.sz.w (by decide)⟩
theorem SdF.few : (namesN 12 d).length ≤ 54 ∧ 2 * (rowsN 12 d).length ≤ 54 ∧ (boundN 12 d).length ≤ 26 ∧ greatN 12 d ≤ 9 ∧ 0 ≤ greatN 12 d := h.dn.sizes 12 (by decide)
theorem SdF.inn : ∀ y ∈ namesN 12 d, y ∈ ts := fun y m => by
  have := h.dn.inn 12 (by decide) y m
  rwa [List.append_nil] at this
theorem SdF.led {tm : TM} (G : ∀ x t, tm x = some t → TmOk t) : Sz 3880 8 (ledN tm 12 d) := (h.dn.led h.ok G (fun _ z => absurd z (by simp)) 12 (by decide)).mono (by decide) (by decide)
end
end Lm
/-! _law_caught; a def that is called where no repr is under way; _law_told_right. -/
namespace Lm
open PySem PySem.Spec PyProof.Rows L2 LamX
/-! ### a def that is called where no guard stands -/
def FnG (P : Program) (w : World) (K : PySem.W.Frag) (mg : Str → Option Value) (base : Heap) (CX : CXT) (k : Nat) (f : Addr) (fd : FuncData) (ps : List Str) (sp : Sp) : Prop :=
  (∀ vs H Q E, sp vs H Q E → vs.length = ps.length) ∧ ∀ (A : Around) (outer : List Env) (s : Shared) (H : Hp) (args : Args) (us : List Value) (vs : List V) (Q : VK) (E : XK), A.guards = some [] → Room k A → Env0 P w K mg base A outer s H → BindsTo s fd args (ps.zip us) → Vals vs us → sp vs H Q E →
    codeAny (model P w) A (.call (.ref f) args) (CR CX outer P w H s Q E) s
def HasG (P : Program) (w : World) (K : PySem.W.Frag) (mg : Str → Option Value) (base : Heap) (CX : CXT) (k : Nat) (x : Str) (ps : List Str) (sp : Sp) : Prop :=
  ∃ (f : Addr) (fd : FuncData), mg x = some (.ref f) ∧ PySem.W.keepIn K (.ref f) = true ∧ L2.Binds K fd ps [] ∧ FnG P w K mg base CX k f fd ps sp
theorem fn_ofG {CX : CXT} {P : Program} {w : World} {K : PySem.W.Frag} {mg : Str → Option Value} {base : Heap} {k : Nat} {f : Addr} {name qual : Str} {params : Arguments} {body : List Stmt} {scope : Scope} {dV kV doc pm cdv ct oc : Value} {an od : Option Addr} {osl : Array (Option Value)} {N ps : List Str} {sp : Sp}
    (lk : K.lookup f = some ⟨oc, od, .func (PySem.W.fnOf name qual params body scope dV kV doc pm an cdv ct), osl⟩) (hcd : PySem.W.codeIn K cdv qual = true) (S : FnScope N ps scope) (len : ∀ vs H Q E, sp vs H Q E → vs.length = ps.length)
    (hbody : ∀ (A : Around) (outer : List Env) (s : Shared) (H : Hp) (vs : List V) (Q : VK) (E : XK), A.guards = some [] → Room k (A.deeper (envOfC qual scope s.heap.objs.size f cdv)) → sp vs H Q E →
      ∃ t, PSs (cxOf CX P w K mg base N qual scope f cdv A outer s H E) body t ∧ t { nx := fun _ H' => Q .non H', rt := Q } (L2.start N vs) H) :
    FnG P w K mg base CX (k + 1) f (PySem.W.fnOf name qual params body scope dV kV doc pm an cdv ct) ps sp :=
  ⟨len, fun A outer s H _ _ vs Q E hg hr e0 hb r hsp => run_ofS lk hcd S hr e0 hb r (len vs H Q E hsp) fun hr' => hbody A outer s H vs Q E hg hr' hsp⟩
theorem pe_hG {X : Cx} {CX : CXT} {x : Str} {ps : List Str} {sp : Sp} {E : XK} {j k : Nat} {p pos : Pos} {e : Expr} {es : List Expr} {t : TA} (c : HasG X.prog X.w X.K X.mg X.base CX k x ps sp) (hgd : X.A.guards = some []) (hr : Room j X.A) (hk : k ≤ j) (hg : Gl X x) (hx : Passes CX X E) (ha : PA X (e :: es) t) (hdb : (x == ("__debug__" : Str)) = false := by decide)
    (he : starEach (e :: es) X.env = (false, eval e X.env) :: starEach es X.env := by rfl) (hpl : (backTo pos (starEach es X.env)).any (·.1) = false := by rfl) : PE X (.Call (.Name x p) (e :: es) [] pos) (tH sp E t) := by
  obtain ⟨f, fd, hm, kp, b, len, run⟩ := c
  constructor
  intro pins s σ H Q I h
  refine wpAny_Call_Name_kw (ld_glob I hg hm ?_ hdb)
  refine PySem.W.callWith_K (h₀ := X.base) I.ok.mod.kin kp (thn (ha.run pos pins s σ H _ I h) ?_) he hpl
  rintro us s1 ⟨vs, H1, I1, r, q⟩
  refine ⟨I1.kIn, ?_⟩
  have nv : us.length = ps.length := r.length.symm.trans (len _ _ _ _ q)
  have hb := b s1 us I1.kIn (by rw [List.append_nil]; exact nv)
  rw [List.append_nil] at hb
  have R := run X.A X.stack s1 H1 ⟨us, []⟩ us vs Q E hgd (hr.mono hk) I1.env0 hb r q
  refine wpAny_call (codeAny_mono R ?_)
  intro r' s' hq
  match r', hq with
  | .error e', hq => exact hx pins σ H1 s1 e' s' I1 hq
  | .ok (.ret u), hq => exact I1.after hq
  | .ok .next, hq => exact hq.elim
  | .ok .brk, hq => exact hq.elim
  | .ok .cont, hq => exact hq.elim
/-! ### _law_caught: what is raised, or None -/
abbrev sCaught : Stmt := topS 44
def nCaught : List Str := ["task", "caught", "error"]
theorem scCaught : FnScope nCaught ["task"] (defScope sCaught) := ⟨rfl, rfl, rfl, by decide +kernel, rfl, by decide +kernel, by decide +kernel⟩
def TCaught (K : PySem.W.Frag) (CS : Addr) : (XK → Hp → VK → Prop) → Hp → VK → Prop := fun tl H Q =>
  tl (fun cls d H' => PySem.W.exmOne K cls (.ref CS) = some true ∧ ∀ a, H' a = none → Q (.ref a) (upd H' a (ExI a cls d))) H (fun _ H' => Q .non H')
theorem caught_gives {X : Cx} {g CS : Addr} {cdg : Value} {q : Str} (hme : X.mg "LaneError" = some (.ref CS)) :
    GivesTo X nCaught "_law_caught" (defScope sCaught) g cdg (defBody sCaught) "task" q (TCaught X.K CS) := by
  intro f c' s H Q tl act hc h
  refine ⟨_, pss_cons (ps_set (X := (cxOf C8.CX0 X.prog X.w X.K X.mg X.base nCaught "_law_caught" (defScope sCaught) g cdg X.A X.stack s H C8.E0).nox) (i := 1) scCaught.nd rfl (.inl rfl) pe_non)
    (pss_cons (ps_tryT (X := (cxOf C8.CX0 X.prog X.w X.K X.mg X.base nCaught "_law_caught" (defScope sCaught) g cdg X.A X.stack s H C8.E0).nox) (c := .ref CS) (i := 2)
      (tb := fun W D σ H => ∃ Ech : XK, (∀ cls d σ' H', Ech cls d H' → W cls d σ' H') ∧ σ[0]? = some (some (.ref f)) ∧ H c' = some (CodeO c' q) ∧ tl Ech H fun _ H' => D.nx σ H')
      rfl rfl scCaught.nd rfl rfl ⟨rfl, by decide, .inl hme⟩ (fun W pn xe tk _ => ?_) (fun a pn => pss_one (ps_set (i := 1) scCaught.nd rfl (.inl rfl) (pv 2))))
    (pss_one (ps_ret (pv 1)))), ?_⟩
  · refine ⟨fun pins s' σ H' D I h' => ?_⟩
    obtain ⟨Ech, hW, h1, h2, h3⟩ := h'
    exact (pss_one (ps_expr (act W pn xe Ech _ _ tk hW))).run pins s' σ H' D I ⟨h1, h2, h3⟩
  · refine ⟨fun cls d H' => PySem.W.exmOne X.K cls (.ref CS) = some true ∧ ∀ a, H' a = none → Q (.ref a) (upd H' a (ExI a cls d)), ?_, rfl, hc, ?_⟩
    · rintro cls d σ' H' ⟨e, k⟩
      refine ⟨e, fun a hl na => ?_⟩
      have hl : σ'.length = 3 := hl
      match σ', hl with
      | [x0, x1, x2], _ => exact ⟨_, rfl, _, rfl, k a na⟩
    · refine cast (congrArg (tl _ H) (funext fun _ => funext fun H' => propext ⟨fun q => ⟨_, rfl, q⟩, ?_⟩)) h
      rintro ⟨v, e, q⟩
      cases e
      exact q
def CaughtAt (K : PySem.W.Frag) (mg : Str → Option Value) : Prop := ∃ (g : Addr) (fd : FuncData), mg "_law_caught" = some (.ref g) ∧ PySem.W.keepIn K (.ref g) = true ∧ L2.Binds K fd ["task"] [] ∧ Fun K "_law_caught" "_law_caught" sCaught g fd
theorem pe_caught {CS : Addr} {X : Cx} {T : List (Addr × Str)} {c Pt : Addr} {k : Nat} {params : Arguments} {body : Expr} {scope : Scope} {t : XK → TE} {p lpos pos : Pos} (hca : CaughtAt X.K X.mg)
    (hme : X.mg "LaneError" = some (.ref CS)) (TB : LamX.TabB X.base X.mg c Pt) (hcode : X.env.code = .ref c) (hmT : (Pt, X.env.qual ++ "<lambda>") ∈ T) (hu : ∀ p ∈ T, p.1 = Pt → p.2 = X.env.qual ++ "<lambda>") (hr : Room (k + 2) X.A) (hg : Gl X "_law_caught") (L : LamS X.env.scope scope) (hdef : defaultsOf params X.env = ([], []))
    (hbind : ∀ (q : Str) (cl : List (Str × Addr)) (pm cv ctv : Value), bindArgs (PySem.W.kla_fn "<lambda>" q params body scope cl pm cv ctv) ⟨[], []⟩ = pure [])
    (hbody : ∀ (A : Around) (outer : List Env) (s : Shared) (H : Hp) (E : XK) (f c' : Addr), Room k (A.deeper (lamEnv X scope s.heap.objs.size f c')) → PE (lamCx X A outer s H E scope f c') body (t E)) :
    PE X (.Call (.Name "_law_caught" p) [.Lambda params body scope lpos] [] pos) (tLam T (TCaught X.K CS) t) := by
  obtain ⟨g, fd, hm, hk, hb, F⟩ := hca
  obtain ⟨oc, od, kV, doc, pm, an, cdv, ct, osl, rfl, lk, hcd⟩ := F.ex
  exact pe_lamcall (Ng := nCaught) hg hm hk lk hcd hb scCaught rfl (.inl rfl) (caught_gives hme) TB hcode hmT hu hr L hdef hbind hbody
theorem passLam {X : Cx} {A : Around} {outer : List Env} {s : Shared} {H : Hp} {E : XK} {scope : Scope} {f c' : Addr} : Passes (L2.CX X.prog X.w) (lamCx X A outer s H E scope f c') E := by
  have tk : Takes (lamCx X A outer s H E scope f c') (fun cls d _ H => E cls d H) := takes_of (E := E) rfl rfl rfl rfl
  exact passes_call tk (fun _ _ _ _ h => h)
theorem Tabs.fr {T : List (Addr × Str)} {D : DrA} {n : Nat} {H H' : Hp} (t : Tabs T H) (dr : DrawAt D n H) (f : Fr D H H') : Tabs T H' := by
  obtain ⟨ws, cs, r, tt, h1, h2, _⟩ := id dr
  intro p hp
  obtain ⟨ps, e1, e2, e3⟩ := t p hp
  refine ⟨ps, f _ _ e1 (ne_of e1 h1 (fun z => by cases z)) (ne_of e1 h2 (fun z => by cases z)), e2, fun pos cv hc => ?_⟩
  obtain ⟨c, a, b⟩ := e3 pos cv hc
  exact ⟨c, a, f _ _ b (ne_of b h1 (fun z => by unfold CodeO at z; cases z)) (ne_of b h2 (fun z => by unfold CodeO at z; cases z))⟩
theorem DrawAt.ext {D : DrA} {n : Nat} {H H' : Hp} (h : DrawAt D n H) (e : ExtN H H') : DrawAt D n H' := h.same e
theorem extN_frT {D : DrA} {H H' : Hp} (e : ExtN H H') : FrT D H H' := fun b o h _ _ n => e b o h n
def rIsX (K : PySem.W.Frag) (D : Addr) : List V → Hp → VK → Prop := fun xs H Q => ∃ (a : Addr) (c : V) (cv : Value) (b : Bool), xs = [.ref a, c] ∧ H a = some (ExI a (.ref D) none) ∧ (∀ u, RelV c u → u = cv) ∧ PySem.W.kitOne K (.ref D) cv = some b ∧ Q (.bl b) H
theorem call_isXK {X : Cx} (K : PySem.W.Frag) {D : Addr} (C : ExcC K D) (hK : X.K = K := by rfl) : CallR X (.builtin "isinstance") (rIsX K D) := by
  subst hK
  exact call_isX C
theorem no_ne {X Y : Prop} {v : V} (h : Y) : (if (!decide (v = v)) = true then X else Y) := by
  rw [decide_eq_true rfl]
  exact iteF h
/-- an own exception class: where it stands, what isinstance and except tell of it -/
structure XCls (K : PySem.W.Frag) (mg : Str → Option Value) (CS : Addr) (x : Str) (C : Addr) : Prop where
  at_ : mg x = some (.ref C)
  ex : ExcC K C
  kit : PySem.W.kitOne K (.ref C) (.ref C) = some true
  exm : PySem.W.exmOne K (.ref C) (.ref CS) = some true
end Lm
namespace Lm
open PySem PySem.Spec PyProof.Rows L2 LamX
/-! ### _law_told_right -/
structure CalT (P : Program) (w : World) (K : PySem.W.Frag) (mg : Str → Option Value) (base : Heap) (CS BS BT : Addr) : Prop where
  N : Bl mg
  ti : Has P w K mg base CX0 18 "_law_titles_in" ["said_v"] (spTI 12)
  fn : Has P w K mg base (L2.CX P w) 20 "free_names" ["saying"] (spFN BS 12)
  fnk : HasK P w K mg base (L2.CX P w) 20 "free_names" ["saying"] ["saying"] List.reverse (spFN BS 12)
  tm : Has P w K mg base CX0 5 "_law_terms" ["draw", "titles"] spTm
  pt : Has P w K mg base (L2.CX P w) 20 "put_terms" ["saying", "terms"] (spPT P w BS BT 12)
  ptk : HasK P w K mg base (L2.CX P w) 20 "put_terms" ["saying", "terms"] ["terms", "saying"] List.reverse (spPT P w BS BT 12)
  led : Has P w K mg base CX0 17 "_law_led" ["said_v", "table"] (spWT 12)
  step : Has P w K mg base CX0 18 "_law_step_of" ["said_v"] (spStep 12)
  re : Has P w K mg base (L2.CX P w) 20 "reach" ["saying"] (spReach BS 12)
  rek : HasK P w K mg base (L2.CX P w) 20 "reach" ["saying"] ["saying"] List.reverse (spReach BS 12)
  bt : Has P w K mg base CX0 4 "_law_bad_terms" ["draw", "titles"] (spBT P w)
  lane : mg "LaneError" = some (.ref CS)
  bad : XCls K mg CS "BadTerms" BT
  mods : ∃ o, base.get? sysModules = some o
  caught : CaughtAt K mg
abbrev sTR : Stmt := topS 66
def nTR : List Str := ["draw", "said_v", "titles", "due", "table", "shown", "told", "number", "bad"]
theorem scTR : FnScope nTR ["draw", "said_v", "titles"] (defScope sTR) := ⟨rfl, rfl, rfl, by decide +kernel, rfl, by decide +kernel, by decide +kernel⟩
def spTR (T : List (Addr × Str)) : Sp := fun vs H Q _ => ∃ (D : DrA) (n : Nat) (v u : V) (d : PyData) (ts : List Str), vs = [.ref D.d, v, u] ∧ DrawAt D n H ∧ n + 200 ≤ B ∧ Da D H v d ∧ SdF ts d ∧ Tabs T H ∧
  ∀ H', DrawAt D (n + 200) H' → FrT D H H' → Tabs T H' → Q (.bl true) H'
def TOkR (T : List (Addr × Str)) (Pt : Addr) : Prop := (Pt, (envOfC "_law_told_right" (defScope sTR) 0 0 .none).qual ++ "<lambda>") ∈ T ∧ ∀ p ∈ T, p.1 = Pt → p.2 = (envOfC "_law_told_right" (defScope sTR) 0 0 .none).qual ++ "<lambda>"
theorem nx_ne_code {P : Program} {w : World} {t c : Addr} {kvs : List (Option Key × V)} {q : Str} : NX P w t kvs ≠ CodeO c q := by
  intro z
  unfold NX CodeO at z
  injection z with z
  have e := congrFun z { objs := Array.replicate (c + 1) { cls := .none, data := .fields #[.none, .str q 0] } }
  have r : ∃ (oc : Obj) (vs : Array Value) (t : Tok), (Heap.get? { objs := Array.replicate (c + 1) { cls := .none, data := .fields #[.none, .str q 0] } } c) = some oc ∧ oc.data = .fields vs ∧ vs[1]? = some (.str q t) := by
    refine ⟨{ cls := .none, data := .fields #[.none, .str q 0] }, _, 0, ?_, rfl, rfl⟩
    unfold Heap.get?
    have h : (Array.replicate (c + 1) ({ cls := .none, data := .fields #[.none, .str q 0] } : Obj))[c]? = some { cls := .none, data := .fields #[.none, .str q 0] } := by simp
    simp only [h]
  rw [← e] at r
  obtain ⟨_, _, vs, _, o, es, ep, hg, _, hd, _⟩ := r
  unfold Heap.get? at hg
  by_cases lt : t < c + 1
  · have h : (Array.replicate (c + 1) ({ cls := .none, data := .fields #[.none, .str q 0] } : Obj))[t]? = some { cls := .none, data := .fields #[.none, .str q 0] } := by simp [lt]
    simp only [h] at hg
    cases hg
    cases hd
  · have h : (Array.replicate (c + 1) ({ cls := .none, data := .fields #[.none, .str q 0] } : Obj))[t]? = none := Array.getElem?_eq_none (by rw [Array.size_replicate]; exact Nat.le_of_not_lt lt)
    simp only [h] at hg
    cases hg
theorem DrawAt.but {D : DrA} {n : Nat} {H H' : Hp} {t : Addr} {o : HO} (h : DrawAt D n H) (ht : H t = some o) (h0 : ∀ xs, o ≠ .lst xs) (s : SameBut t H H') (h1 : t ≠ D.d) (h2 : t ≠ D.w) : DrawAt D n H' := by
  obtain ⟨ws, cs, r, u, k1, k2, k3, k4⟩ := h
  exact ⟨ws, cs, r, u, s _ _ h1.symm k1, s _ _ h2.symm k2, s _ _ (ne_of k3 ht (fun z => h0 _ z.symm)) k3, k4⟩
theorem Tabs.but {T : List (Addr × Str)} {H H' : Hp} {t : Addr} {o : HO} (tb : Tabs T H) (ht : H t = some o) (h1 : ∀ ps, o ≠ .tbl ps) (h2 : ∀ c q, o ≠ CodeO c q) (s : SameBut t H H') : Tabs T H' := by
  intro p hp
  obtain ⟨ps, e1, e2, e3⟩ := tb p hp
  refine ⟨ps, s _ _ (ne_of e1 ht (fun z => h1 _ z.symm)) e1, e2, fun pos cv hc => ?_⟩
  obtain ⟨c, a, b⟩ := e3 pos cv hc
  exact ⟨c, a, s _ _ (ne_of b ht (fun z => h2 _ _ z.symm)) b⟩
theorem names_sz {ys : List Str} (h : ∀ y ∈ ys, NameOk y) (l : ys.length ≤ 54) : Sz 1134 1 (.tuple (ys.map PyData.str)) := by
  have sA : SzA ((ys.map PyData.str).length * (20 + 1)) 0 (ys.map PyData.str) := szA_all fun d hd => by
    obtain ⟨y, hy, rfl⟩ := List.mem_map.mp hd
    exact sz_name (h y hy)
  rw [List.length_map] at sA
  exact (sz_tup sA).mono (by omega) (Nat.le_refl _)
theorem two_sz {d : PyData} {N m : Nat} (h : Sz N m d) (a : N ≤ 100000) (b : m ≤ 50) : Sh (2 ^ 20) 60 (.list [d, d]) := by
  have e : (2 : Nat) ^ 20 = 1048576 := by decide
  exact (sz_lst (szA_cons h (szA_cons h szA_nil))).to (by omega) (by omega)
theorem pow_le26 {k : Nat} (h : k ≤ 26) : (2 : Int) ^ k ≤ 67108864 ∧ (0 : Int) ≤ 2 ^ k := by
  have e : (2 : Int) ^ k = ((2 ^ k : Nat) : Int) := by rw [Int.natCast_pow]; rfl
  have h1 : 2 ^ k ≤ 2 ^ 26 := Nat.pow_le_pow_right (by decide) h
  have h2 : (2 : Nat) ^ 26 = 67108864 := by decide
  rw [e]
  generalize (2 : Nat) ^ k = m at *
  constructor <;> omega
theorem reach_small {g : Int} {k l : Nat} (g0 : 0 ≤ g) (g9 : g ≤ 9) (hk : k ≤ 26) (hl : l ≤ 54) : (((l : Nat) : Int) * ((1 + g) * 2 ^ k)).natAbs < 10 ^ 12 := by
  obtain ⟨p1, p0⟩ := pow_le26 hk
  have e : (10 : Nat) ^ 12 = 1000000000000 := by decide
  generalize (2 : Int) ^ k = p at *
  have a1 : (1 + g) * p ≤ 10 * 67108864 := Int.mul_le_mul (by omega) p1 p0 (by decide)
  have a0 : 0 ≤ (1 + g) * p := Int.mul_nonneg (by omega) p0
  generalize (1 + g) * p = z at *
  have b1 : (l : Int) * z ≤ 54 * (10 * 67108864) := Int.mul_le_mul (by omega) a1 a0 (by decide)
  have b0 : 0 ≤ (l : Int) * z := Int.mul_nonneg (by omega) a0
  generalize (l : Int) * z = y at *
  omega
section
variable {P : Program} {w : World} {K : PySem.W.Frag} {mg : Str → Option Value} {base : Heap} {CS BS BT : Addr}
theorem ok_tr {f c Pt : Addr} {oc kV doc pm ct : Value} {od an : Option Addr} {osl : Array (Option Value)} {T : List (Addr × Str)} (lk : K.lookup f = some ⟨oc, od, .func (PySem.W.fnOf "_law_told_right" "_law_told_right" (defArgs sTR) (defBody sTR) (defScope sTR) .none kV doc pm an (.ref c) ct), osl⟩) (hcd : PySem.W.codeIn K (.ref c) "_law_told_right" = true)
    (C : CalT P w K mg base CS BS BT) (TB : LamX.TabB base mg c Pt) (hT : TOkR T Pt) :
    FnG P w K mg base CX0 23 f (PySem.W.fnOf "_law_told_right" "_law_told_right" (defArgs sTR) (defBody sTR) (defScope sTR) .none kV doc pm an (.ref c) ct) ["draw", "said_v", "titles"] (spTR T) := by
  refine fn_ofG lk hcd scTR (fun vs H Q E h => ?_) fun A outer s H vs Q E hg hr h => ?_
  · obtain ⟨D, n, v, u, d, ts, rfl, _⟩ := h
    rfl
  · obtain ⟨D, n, v, u, d, ts, rfl, dr, hn, hd, sd, hT0, q⟩ := h
    have hgg : (A.deeper (envOfC "_law_told_right" (defScope sTR) s.heap.objs.size f (.ref c))).guards = some [] := hg
    have hu64 : (A.deeper (envOfC "_law_told_right" (defScope sTR) s.heap.objs.size f (.ref c))).units + 64 < cLine := by
      have := hr.un
      omega
    suffices hh : ∃ t, PSs (cxOf CX0 P w K mg base nTR "_law_told_right" (defScope sTR) f (.ref c) A outer s H E).nox (defBody sTR) t ∧ t { nx := fun _ H' => Q .non H', rt := Q } (L2.start nTR [.ref D.d, v, u]) H by
      obtain ⟨t, h1, h2⟩ := hh
      exact ⟨t, h1.nox, h2⟩
    refine ⟨_, pss_cons (ps_set (i := 3) scTR.nd rfl (.inl rfl) (pe_callTy (call_tupK K) (by rfl) C.N.btup (by decide +kernel) (pa_cons (pe_h C.ti hr (by decide) (by rfl) (E := C8.E0) pass0 (pa_cons (pv 1) pa_nil)) pa_nil)))
      (pss_cons (ps_if (pt_cmpR op_ne (pe_callB (call_reprG (P := P) (w := w) hgg hu64 C.mods) (by rfl) C.N.brep (by decide +kernel) (pa_cons (pe_lst (pa_cons (pe_h C.fn hr (by decide) (by rfl) passL (pa_cons (pv 1) pa_nil)) (pa_cons (pe_hK C.fnk hr (by decide) (by rfl) passL (pk_cons (pv 1) pk_nil)) pa_nil))) pa_nil))
          (pe_callB (call_reprG (P := P) (w := w) hgg hu64 C.mods) (by rfl) C.N.brep (by decide +kernel) (pa_cons (pe_lst (pa_cons (pv 3) (pa_cons (pv 3) pa_nil))) pa_nil)) (nomark _)) (pss_one (ps_ret pe_bl)) pss_nil)
      (pss_cons (ps_set (i := 4) scTR.nd rfl (.inl rfl) (pe_h C.tm hr (by decide) (by rfl) (E := C8.E0) pass0 (pa_cons (pv 0) (pa_cons (pe_callTy call_list_of (by rfl) C.N.blist (by decide +kernel) (pa_cons (pv 3) pa_nil)) pa_nil))))
      (pss_cons (ps_set (i := 5) scTR.nd rfl (.inl rfl) (pe_callB (call_reprG (P := P) (w := w) hgg hu64 C.mods) (by rfl) C.N.brep (by decide +kernel) (pa_cons (pv 4) pa_nil)))
      (pss_cons (ps_set (i := 6) scTR.nd rfl (.inl rfl) (pe_lst (pa_cons (pe_h C.pt hr (by decide) (by rfl) passL (pa_cons (pv 1) (pa_cons (pv 4) pa_nil))) (pa_cons (pe_hK C.ptk hr (by decide) (by rfl) passL (pk_cons (pv 4) (pk_cons (pv 1) pk_nil))) pa_nil))))
      (pss_cons (ps_if (pw_or (pt_cmpR op_ne (pe_callB (call_reprG (P := P) (w := w) hgg hu64 C.mods) (by rfl) C.N.brep (by decide +kernel) (pa_cons (pv 6) pa_nil))
          (pe_callB (call_reprG (P := P) (w := w) hgg hu64 C.mods) (by rfl) C.N.brep (by decide +kernel) (pa_cons (pe_op op_rep (pe_lst (pa_cons (pe_h C.led hr (by decide) (by rfl) (E := C8.E0) pass0 (pa_cons (pv 1) (pa_cons (pv 4) pa_nil))) pa_nil)) pe_int) pa_nil)) (nomark _))
          (pw_or1 (pt_cmpR op_ne (pe_callB (call_reprG (P := P) (w := w) hgg hu64 C.mods) (by rfl) C.N.brep (by decide +kernel) (pa_cons (pv 4) pa_nil)) (pv 5) (nomark _)))).pt (pss_one (ps_ret pe_bl)) pss_nil)
      (pss_cons (ps_set (i := 7) scTR.nd rfl (.inl rfl) (pe_op op_mul (pe_callB call_len_seq (by rfl) C.N.blen PySem.boot_len (pa_cons (pv 3) pa_nil)) (pe_h C.step hr (by decide) (by rfl) (E := C8.E0) pass0 (pa_cons (pv 1) pa_nil))))
      (pss_cons (ps_if (pt_cmpR op_ne (pe_callB (call_reprG (P := P) (w := w) hgg hu64 C.mods) (by rfl) C.N.brep (by decide +kernel) (pa_cons (pe_lst (pa_cons (pe_h C.re hr (by decide) (by rfl) passL (pa_cons (pv 1) pa_nil)) (pa_cons (pe_hK C.rek hr (by decide) (by rfl) passL (pk_cons (pv 1) pk_nil)) pa_nil))) pa_nil))
          (pe_callB (call_reprG (P := P) (w := w) hgg hu64 C.mods) (by rfl) C.N.brep (by decide +kernel) (pa_cons (pe_lst (pa_cons (pv 7) (pa_cons (pv 7) pa_nil))) pa_nil)) (nomark _)) (pss_one (ps_ret pe_bl)) pss_nil)
      (pss_cons (ps_set (i := 8) scTR.nd rfl (.inr rfl) (pe_h C.bt hr (by decide) (by rfl) (E := C8.E0) pass0 (pa_cons (pv 0) (pa_cons (pe_callTy call_list_of (by rfl) C.N.blist (by decide +kernel) (pa_cons (pv 3) pa_nil)) pa_nil))))
      (pss_one (ps_ret (pe_callB (call_isXK K C.bad.ex) (by rfl) C.N.bisi (by decide +kernel) (pa_cons
        (pe_caught (T := T) C.caught C.lane TB rfl (by exact hT.1) (by exact hT.2) (hr.mono (by decide : 22 ≤ 22)) (by rfl) (show LamS (defScope sTR) _ from lamS_by (by decide +kernel)) rfl (fun _ _ _ _ _ => rfl)
          (fun A outer s H E f c' hr => pe_h C.pt hr (by decide) (by rfl) passLam (pa_cons (pv 1) (pa_cons (pv 8) pa_nil))))
        (pa_cons (pe_glob (v := V.ref BT) (by rfl) C.bad.at_ rfl) pa_nil))))))))))))), ?_⟩
    obtain ⟨f1, f2, f3, f4, f5⟩ := sd.few
    have sz := sd.sz
    have fit := sd.fit
    refine ⟨_, rfl, D, n, v, d, 12, rfl, dr, hd, fit, Nat.le_trans sz.w (by decide), sz.sh, Nat.le_refl _, ?_, fun H1 R ys as hR s1 => ⟨R, _, rfl, .inl ⟨SqL.of hR, fun p np => ?_⟩⟩⟩
    · have : (txts (rowsN 12 d)).length ≤ 2 * (rowsN 12 d).length := txts_len _
      omega
    have yin : ∀ y ∈ ys, y ∈ ts := fun y m => sd.inn y ((as.2.2 y).mp m)
    have yok : ∀ y ∈ ys, NameOk y := fun y m => sd.ok y (yin y m)
    have ylen : ys.length ≤ 54 := Nat.le_trans as.len f1
    have s2 := same_upd (o := .tup (ys.map V.str)) np
    have hp : (upd H1 p (.tup (ys.map V.str))) p = some (.tup (ys.map V.str)) := upd_same
    have dr2 := (dr.sm s1).sm s2
    have op := (dr.sm s1).off np
    have s02 := sameT s1 s2
    generalize upd H1 p (.tup (ys.map V.str)) = H2 at *
    have hd2 := hd.sm s02
    -- free_names
    refine ⟨_, rfl, D, n, v, d, 12, rfl, dr2, hd2, sd.asked, Nat.le_refl _, .inl ⟨fit, by omega, fun H3 R3 ys3 n3 as3 hR3 s3 => ?_⟩⟩
    obtain rfl := as3.uniq as (fun _ => Iff.rfl)
    have dr3 := dr2.sm s3
    have o3 : R3 ≠ D.d ∧ R3 ≠ D.w := dr2.off n3
    refine ⟨_, rfl, rfl, D, n, v, d, 12, rfl, dr3, hd2.sm s3, sd.asked, Nat.le_refl _, .inl ⟨fit, by omega, fun H4 R4 ys4 n4 as4 hR4 s4 => ?_⟩⟩
    obtain rfl := as4.uniq as (fun _ => Iff.rfl)
    have dr4 := dr3.sm s4
    have o4 : R4 ≠ D.d ∧ R4 ≠ D.w := dr3.off n4
    refine ⟨(by show 2 ≤ sizeLine; decide), fun p5 n5 => ?_⟩
    have s5 := same_upd (o := .lst [.ref R3, .ref R4]) n5
    have h5 : (upd H4 p5 (.lst [.ref R3, .ref R4])) p5 = some (.lst [.ref R3, .ref R4]) := upd_same
    have o5 := dr4.off n5
    have dr5 := dr4.sm s5
    have hR3 := s5 _ _ (s4 _ _ hR3)
    have hR4 := s5 _ _ hR4
    have s25 := sameT s3 (sameT s4 s5)
    generalize upd H4 p5 (.lst [.ref R3, .ref R4]) = H5 at *
    have gs : ∀ {H : Hp} {q : Addr}, H q = some (.tup (ys4.map V.str)) → q ≠ D.d → q ≠ D.w → Gd P w D H (.ref q) (.tuple (ys4.map PyData.str)) := fun h a b => Da.gd (.tup h a b (da_strs ys4))
    have shN := two_sz (names_sz yok ylen) (by decide) (by decide)
    refine ⟨.ref p5, D, .list [.tuple (ys4.map PyData.str), .tuple (ys4.map PyData.str)], rfl, .lst h5 o5.1 o5.2 (.cons (gs hR3 o3.1 o3.2) (.cons (gs hR4 o4.1 o4.2) .nil)), shN, ?_⟩
    have hp5 := s25 _ _ hp
    refine ⟨_, rfl, _, rfl, (by show 2 ≤ sizeLine; decide), fun p6 n6 => ?_⟩
    have s6 := same_upd (o := .lst [.ref p, .ref p]) n6
    have h6 : (upd H5 p6 (.lst [.ref p, .ref p])) p6 = some (.lst [.ref p, .ref p]) := upd_same
    have o6 := dr5.off n6
    have dr6 := dr5.sm s6
    have hp6 := s6 _ _ hp5
    have s06 := sameT s02 (sameT s25 s6)
    generalize upd H5 p6 (.lst [.ref p, .ref p]) = H6 at *
    refine ⟨.ref p6, D, .list [.tuple (ys4.map PyData.str), .tuple (ys4.map PyData.str)], rfl, .lst h6 o6.1 o6.2 (.cons (gs hp6 op.1 op.2) (.cons (gs hp6 op.1 op.2) .nil)), shN, rfl, _, rfl, no_ne ?_⟩
    -- the terms
    refine ⟨_, rfl, _, rfl, p, _, rfl, .inr (SqT.of hp6), fun p7 n7 => ?_⟩
    have s7 := same_upd (o := .lst (ys4.map V.str)) n7
    have h7 : (upd H6 p7 (.lst (ys4.map V.str))) p7 = some (.lst (ys4.map V.str)) := upd_same
    have o7 := dr6.off n7
    have dr7 := dr6.sm s7
    have hp7 := s7 _ _ hp6
    have s07 := sameT s06 s7
    generalize upd H6 p7 (.lst (ys4.map V.str)) = H7 at *
    refine ⟨D, n, p7, ys4, rfl, dr7, by omega, h7, o7.1, o7.2, by omega, as.2.1, (fun x m => sd.low x (yin x m)), fun H8 t kvs tt ht t1 t2 ta tk tn tl d8 f8 => ?_⟩
    have f08 : Fr D H H8 := .trans (.of s07) f8
    have hp8 := f8 _ _ hp7 op.1 op.2
    have gt := ta.gd (P := P) (w := w) ht t1 t2
    have shT := ts_sh (fun e m => ⟨yok _ (tk e m).1, (tk e m).2⟩) (by omega : tt.length ≤ 60)
    refine ⟨_, rfl, .ref t, D, _, rfl, gt, shT, ?_⟩
    -- put_terms
    have hd8 := hd.fr f08.t
    have terms := ta.terms
    have goodT := ta.good (ns := namesN 12 d) fun e m => ⟨(as.2.2 _).mp (tk e m).1, (tk e m).2⟩
    have ndk : (kvs.map (·.1)).Nodup := by
      rw [ta.keys, show tt.map (fun t => (Sum.inr t.1 : Key)) = (tt.map (·.1)).map Sum.inr from (List.map_map ..).symm]
      exact List.Pairwise.map _ (fun a b hab e => hab (Sum.inr.inj e)) tn
    have szL := sd.led (tm_of fun e m => (tk e m).2)
    have shL := two_sz szL (by decide) (by decide)
    refine ⟨_, rfl, _, rfl, D, _, v, .ref t, d, 12, rfl, d8, hd8, sd.asked, Nat.le_refl _, .inr ⟨fit, by omega, .good ht terms goodT ndk fun H9 v9 s9 g9 => ?_⟩⟩
    have d9 := d8.sm s9
    refine ⟨_, rfl, _, rfl, rfl, D, _, v, .ref t, d, 12, rfl, d9, hd8.sm s9, sd.asked, Nat.le_refl _, .inr ⟨fit, by omega, .good (s9 _ _ ht) (terms.sm s9) (ta.fr (.of s9) |>.good fun e m => ⟨(as.2.2 _).mp (tk e m).1, (tk e m).2⟩) ndk fun H10 v10 s10 g10 => ?_⟩⟩
    have d10 := d9.sm s10
    refine ⟨(by show 2 ≤ sizeLine; decide), fun p11 n11 => ?_⟩
    have s11 := same_upd (o := .lst [v9, v10]) n11
    have h11 : (upd H10 p11 (.lst [v9, v10])) p11 = some (.lst [v9, v10]) := upd_same
    have o11 := d10.off n11
    have d11 := d10.sm s11
    have g9' := g9.sm (sameT s10 s11)
    have g10' := g10.sm s11
    have s8b := sameT s9 (sameT s10 s11)
    generalize upd H10 p11 (.lst [v9, v10]) = H11 at *
    refine ⟨_, rfl, .ref p11, D, _, rfl, .lst h11 o11.1 o11.2 (.cons (Da.gd g9') (.cons (Da.gd g10') .nil)), shL, ?_⟩
    refine ⟨_, rfl, _, rfl, D, _, v, t, d, [], 12, kvs, tmOf tt, [], rfl, d11, held0, (by rw [hidL_nil]; exact hd8.sm s8b), fit, Nat.le_trans sz.w (by decide), Nat.le_refl _, s8b _ _ ht, terms.sm s8b, fun H12 v12 s12 g12 => ⟨(by show 1 ≤ sizeLine; decide), fun p13 n13 => ?_⟩⟩
    rw [hidL_nil] at g12
    have s13 := same_upd (o := .lst [v12]) n13
    have h13 : (upd H12 p13 (.lst [v12])) p13 = some (.lst [v12]) := upd_same
    have d13 := (d11.sm s12).sm s13
    have g13 := g12.sm s13
    have s8d := sameT s8b (sameT s12 s13)
    generalize upd H12 p13 (.lst [v12]) = H13 at *
    refine ⟨p13, 2, [v12], rfl, rfl, h13, by decide, by decide, (by show 2 ≤ sizeLine; decide), fun p14 n14 => ?_⟩
    rw [show (List.replicate (Int.toNat 2) [v12]).flatten = [v12, v12] from rfl]
    have s14 := same_upd (o := .lst [v12, v12]) n14
    have h14 : (upd H13 p14 (.lst [v12, v12])) p14 = some (.lst [v12, v12]) := upd_same
    have o14 := d13.off n14
    have d14 := d13.sm s14
    have g14 := g13.sm s14
    have s8e := sameT s8d s14
    generalize upd H13 p14 (.lst [v12, v12]) = H14 at *
    refine ⟨.ref p14, D, _, rfl, .lst h14 o14.1 o14.2 (.cons (Da.gd g14) (.cons (Da.gd g14) .nil)), shL, rfl, _, rfl, no_ne ?_⟩
    refine ⟨_, rfl, .ref t, D, _, rfl, gt.sm s8e, shT, _, rfl, rfl, _, rfl, no_ne ?_⟩
    -- reach
    have hp14 := s8e _ _ hp8
    have hd14 := hd8.sm s8e
    refine ⟨_, rfl, p, _, rfl, .inr (SqT.of hp14), _, rfl, D, _, v, d, [], 12, rfl, d14, hd14, fit, Nat.le_trans sz.w (by decide), Nat.le_refl _, fun H15 s15 => ⟨_, _, rfl, rfl, .inl ⟨by omega, by rw [List.length_map]; omega⟩, ?_⟩⟩
    have d15 := d14.sm s15
    refine ⟨_, rfl, D, _, v, d, 12, rfl, d15, hd14.sm s15, sd.asked, Nat.le_refl _, .inl ⟨fit, by omega, by omega, fun H16 ys16 as16 s16 => ?_⟩⟩
    obtain rfl := as16.uniq as (fun _ => Iff.rfl)
    have d16 := d15.sm s16
    refine ⟨_, rfl, rfl, D, _, v, d, 12, rfl, d16, (hd14.sm s15).sm s16, sd.asked, Nat.le_refl _, .inl ⟨fit, by omega, by omega, fun H17 ys17 as17 s17 => ?_⟩⟩
    obtain rfl := as17.uniq as (fun _ => Iff.rfl)
    have d17 := d16.sm s17
    refine ⟨(by show 2 ≤ sizeLine; decide), fun p18 n18 => ?_⟩
    have s18 := same_upd (o := .lst [.int (reachN 12 d ys17), .int (reachN 12 d ys17)]) n18
    have h18 : (upd H17 p18 (.lst [.int (reachN 12 d ys17), .int (reachN 12 d ys17)])) p18 = some (.lst [.int (reachN 12 d ys17), .int (reachN 12 d ys17)]) := upd_same
    have o18 := d17.off n18
    have d18 := d17.sm s18
    have s8f := sameT s8e (sameT s15 (sameT s16 (sameT s17 s18)))
    generalize upd H17 p18 (.lst [.int (reachN 12 d ys17), .int (reachN 12 d ys17)]) = H18 at *
    have shR : Sh (2 ^ 20) 60 (.list [.int (reachN 12 d ys17), .int (reachN 12 d ys17)]) := two_sz (sz_int (reach_small f5 f4 f3 ylen)) (by decide) (by decide)
    refine ⟨.ref p18, D, _, rfl, .lst h18 o18.1 o18.2 (.cons (.int _) (.cons (.int _) .nil)), shR, ?_⟩
    refine ⟨_, rfl, _, rfl, (by show 2 ≤ sizeLine; decide), fun p19 n19 => ?_⟩
    have ez : ((ys17.map V.str).length : Int) * stepN 12 d = reachN 12 d ys17 := by rw [List.length_map]; rfl
    have s19 := same_upd (o := .lst [.int (((ys17.map V.str).length : Int) * stepN 12 d), .int (((ys17.map V.str).length : Int) * stepN 12 d)]) n19
    have h19 : (upd H18 p19 (.lst [.int (((ys17.map V.str).length : Int) * stepN 12 d), .int (((ys17.map V.str).length : Int) * stepN 12 d)])) p19 = some (.lst [.int (((ys17.map V.str).length : Int) * stepN 12 d), .int (((ys17.map V.str).length : Int) * stepN 12 d)]) := upd_same
    have o19 := d18.off n19
    have d19 : DrawAt D _ (upd H18 p19 (.lst [.int (((ys17.map V.str).length : Int) * stepN 12 d), .int (((ys17.map V.str).length : Int) * stepN 12 d)])) := d18.sm s19
    have s8g : Same H8 (upd H18 p19 (.lst [.int (((ys17.map V.str).length : Int) * stepN 12 d), .int (((ys17.map V.str).length : Int) * stepN 12 d)])) := sameT s8f s19
    have gz : Gd P w D (upd H18 p19 (.lst [.int (((ys17.map V.str).length : Int) * stepN 12 d), .int (((ys17.map V.str).length : Int) * stepN 12 d)])) (.int (((ys17.map V.str).length : Int) * stepN 12 d)) (.int (reachN 12 d ys17)) := by rw [← ez]; exact .int _
    refine ⟨.ref p19, D, _, rfl, .lst h19 o19.1 o19.2 (.cons gz (.cons gz .nil)), shR, rfl, _, rfl, no_ne ?_⟩
    -- what are no terms
    have hp19 := s8g _ _ hp8
    refine ⟨_, rfl, _, rfl, p, _, rfl, .inr (SqT.of hp19), fun p20 n20 => ?_⟩
    have s20 : Same (upd H18 p19 (.lst [.int (((ys17.map V.str).length : Int) * stepN 12 d), .int (((ys17.map V.str).length : Int) * stepN 12 d)])) (upd (upd H18 p19 (.lst [.int (((ys17.map V.str).length : Int) * stepN 12 d), .int (((ys17.map V.str).length : Int) * stepN 12 d)])) p20 (.lst (ys17.map V.str))) := same_upd (o := .lst (ys17.map V.str)) n20
    have h20 : (upd (upd H18 p19 (.lst [.int (((ys17.map V.str).length : Int) * stepN 12 d), .int (((ys17.map V.str).length : Int) * stepN 12 d)])) p20 (.lst (ys17.map V.str))) p20 = some (.lst (ys17.map V.str)) := upd_same
    have d20 : DrawAt D _ (upd (upd H18 p19 (.lst [.int (((ys17.map V.str).length : Int) * stepN 12 d), .int (((ys17.map V.str).length : Int) * stepN 12 d)])) p20 (.lst (ys17.map V.str))) := d19.sm s20
    have f020 : Fr D H (upd (upd H18 p19 (.lst [.int (((ys17.map V.str).length : Int) * stepN 12 d), .int (((ys17.map V.str).length : Int) * stepN 12 d)])) p20 (.lst (ys17.map V.str))) := f08.trans (.of (sameT s8g s20))
    have notIn : ∀ x : Str, x ∉ lows → x ∉ namesN 12 d := fun x h m => h (sd.low _ (sd.inn _ m))
    refine ⟨D, _, p20, ys17, namesN 12 d, rfl, d20, by omega, h20, by omega, notIn _ (by decide +kernel), notIn _ (by decide +kernel), fun H21 v21 b21 d21 f21 => ?_⟩
    have f021 : Fr D H H21 := f020.trans f21
    refine ⟨Tabs.fr hT0 dr f021, fun H22 e22 T22 => ?_⟩
    have f022 : FrT D H H22 := f021.t.trans (extN_frT e22)
    have d22 := d21.ext e22
    have b22 := b21.frT (extN_frT e22)
    have fin : ∀ H', FrT D H H' → DrawAt D (n + 200) H' → Tabs T H' → PySem.W.exmOne K (.ref BT) (.ref CS) = some true ∧ ∀ a, H' a = none → rIsX K BT [.ref a, .ref BT] (upd H' a (ExI a (.ref BT) none)) Q := fun H' f' d' t' => ⟨C.bad.exm, fun a na => by
      have sa := same_upd (o := ExI a (.ref BT) none) na
      refine ⟨a, .ref BT, .ref BT, true, rfl, upd_same, fun _ r => r, C.bad.kit, q _ (d'.sm sa) (f'.trans (Fr.t (.of sa))) (t'.ext sa)⟩⟩
    have freshT : ∀ {t : Addr}, (upd (upd H18 p19 (.lst [.int (((ys17.map V.str).length : Int) * stepN 12 d), .int (((ys17.map V.str).length : Int) * stepN 12 d)])) p20 (.lst (ys17.map V.str))) t = none → ∀ b o, H b = some o → b ≠ D.d → b ≠ D.w → b ≠ t := fun h b o e n1 n2 z => by
      have := f020 _ _ e n1 n2
      rw [z, h] at this
      cases this
    refine ⟨_, rfl, _, rfl, D, _, v, v21, d, 12, rfl, d22, hd.fr f022, sd.asked, Nat.le_refl _, .inr ⟨fit, by omega, ?_⟩⟩
    cases b22 with
    | no a b => exact .no a b fun H' s' => fin H' (f022.trans (Fr.t (.of s'))) ((d22.sm s').mono (by omega)) (T22.ext s')
    | non a z b c =>
      exact .non a fun H' s' => fin H' (fun b' o e n1 n2 n3 => s' _ _ (freshT z _ _ e n1 n2) (f022 _ _ e n1 n2 n3)) ((d22.but a (fun xs e => by unfold NX at e; cases e) s' b c).mono (by omega)) (Tabs.but T22 a (fun _ e => by unfold NX at e; cases e) (fun _ _ => nx_ne_code) s')
    | bad a z b c g k1 k2 =>
      exact .bad a g k1 k2 fun H' s' => fin H' (fun b' o e n1 n2 n3 => s' _ _ (freshT z _ _ e n1 n2) (f022 _ _ e n1 n2 n3)) ((d22.but a (fun xs e => by cases e) s' b c).mono (by omega)) (Tabs.but T22 a (fun _ e => by cases e) (fun _ _ e => by unfold CodeO at e; cases e) s')
end
end Lm
/-! The law of k06: what it calls; the titles, the saying. -/
namespace Lm
open PySem PySem.Spec PyProof.Rows L2 LamX
abbrev sLaw : Stmt := topS 67
def nLaw : List Str := ["script", "turn", "titles", "said_v", "lap", "several", "error", "wrong", "shown", "some", "row", "due", "bent", "draw", "rows"]
theorem scLaw : FnScope nLaw ["script"] (defScope sLaw) := ⟨rfl, rfl, rfl, by decide +kernel, rfl, by decide +kernel, by decide +kernel⟩
def forBody : Stmt → List Stmt
  | .For (body := b) .. => b
  | _ => []
def lawSt (i : Nat) : Stmt := (forBody ((defBody sLaw).getD 1 (.Pass ⟨0, 0, 0, 0⟩))).getD i (.Pass ⟨0, 0, 0, 0⟩)
def S (x : Nat → Option V) : L2.St := [x 0, x 1, x 2, x 3, x 4, x 5, x 6, x 7, x 8, x 9, x 10, x 11, x 12, x 13, x 14]
def sx (x : Nat → Option V) (i : Nat) (v : Option V) : Nat → Option V := fun j => if j = i then v else x j
structure Callees (P : Program) (w : World) (K : PySem.W.Frag) (mg : Str → Option Value) (base : Heap) (CS BS BT BY : Addr) (T : List (Addr × Str)) : Prop where
  N : Bl mg
  t : CalT P w K mg base CS BS BT
  GB : Has P w K mg base CX0 1 "_law_begun" ["script"] (spBegun K)
  GT : Has P w K mg base CX0 2 "_law_take" ["draw", "size"] spTake
  GP : Has P w K mg base CX0 3 "_law_pick" ["draw", "some"] spPick
  GH : Has P w K mg base CX0 3 "_law_shuffled" ["draw", "some"] spShuf
  GS : Has P w K mg base CX0 9 "_law_said" pSd (spSd 3)
  tr : HasG P w K mg base CX0 23 "_law_told_right" ["draw", "said_v", "titles"] (spTR T)
  is : Has P w K mg base CX0 18 "is_saying" ["thing"] (spSaying 12)
  isk : HasK P w K mg base CX0 18 "is_saying" ["thing"] ["thing"] List.reverse (spSaying 12)
  b1 : Has P w K mg base CX0 12 "_law_bent" ["draw", "item"] (spBt 8)
  b2 : Has P w K mg base CX0 13 "_law_bent" ["draw", "item"] (spBt 9)
  od : Has P w K mg base CX0 4 "_law_odd" ["draw"] spOd
  sy : Has P w K mg base CX0 1 "_law_says" ["found", "due"] spSays
  ls : Has P w K mg base CX0 17 "_law_is_said" ["item", "inner"] (spIS 12)
  ll : Has P w K mg base CX0 5 "_law_lists" ["draw", "titles"] spLL
  so : Has P w K mg base (L2.CX P w) 4 "saying_of" ["systems"] (spSO K BY)
  sok : HasK P w K mg base (L2.CX P w) 4 "saying_of" ["systems"] ["systems"] List.reverse (spSO K BY)
  bs : XCls K mg CS "BadSaying" BS
  by_ : XCls K mg CS "BadSystems" BY
  xf : XfC K BY
  no : PySem.W.findIn K (.ref BY) "at" = some none
abbrev XL (P : Program) (w : World) (K : PySem.W.Frag) (mg : Str → Option Value) (base : Heap) (f : Addr) (cdv : Value) (A : Around) (outer : List Env) (s : Shared) (H : Hp) (E : XK) : Cx := (cxOf C8.CX0 P w K mg base nLaw "law" (defScope sLaw) f cdv A outer s H E).nox
abbrev LX (P : Program) (w : World) (K : PySem.W.Frag) (mg : Str → Option Value) (base : Heap) (f : Addr) (cdv : Value) (A : Around) (outer : List Env) (s : Shared) (H : Hp) (E : XK) (i : Nat) (I J : L2.St → Hp → Prop) : Prop := Step (XL P w K mg base f cdv A outer s H E) (lawSt i) I J
abbrev RL (A : Around) (s : Shared) (f : Addr) (cdv : Value) : Prop := Room 30 (A.deeper (envOfC "law" (defScope sLaw) s.heap.objs.size f cdv))
def TOk (T : List (Addr × Str)) (Pt : Addr) : Prop := (Pt, (envOfC "law" (defScope sLaw) 0 0 .none).qual ++ "<lambda>") ∈ T ∧ ∀ p ∈ T, p.1 = Pt → p.2 = (envOfC "law" (defScope sLaw) 0 0 .none).qual ++ "<lambda>"
/-- the state and the titles -/
structure LI (T : List (Addr × Str)) (D : DrA) (n : Nat) (lt : Addr) (ts : List Str) (x : Nat → Option V) (H : Hp) : Prop where
  x13 : x 13 = some (.ref D.d)
  x2 : x 2 = some (.ref lt)
  ht : H lt = some (.lst (ts.map V.str))
  td : lt ≠ D.d
  tw : lt ≠ D.w
  t0 : ts ≠ []
  t2 : ts.length ≤ 2
  tn : ts.Nodup
  low : ∀ x ∈ ts, x ∈ lows
  dr : DrawAt D n H
  tb : Tabs T H
section
variable {T : List (Addr × Str)} {D : DrA} {n : Nat} {lt : Addr} {ts : List Str} {x : Nat → Option V} {H H' : Hp}
theorem LI.set (h : LI T D n lt ts x H) (i : Nat) (v : Option V) (hi : i ≠ 13 ∧ i ≠ 2 := by decide) : LI T D n lt ts (sx x i v) H :=
  ⟨(if_neg hi.1.symm).trans h.x13, (if_neg hi.2.symm).trans h.x2, h.ht, h.td, h.tw, h.t0, h.t2, h.tn, h.low, h.dr, h.tb⟩
theorem LI.frT {n' : Nat} (h : LI T D n lt ts x H) (f : FrT D H H') (d : DrawAt D n' H') (t : Tabs T H') : LI T D n' lt ts x H' :=
  ⟨h.x13, h.x2, f _ _ h.ht h.td h.tw (fun _ z => by cases z), h.td, h.tw, h.t0, h.t2, h.tn, h.low, d, t⟩
theorem LI.fr {n' : Nat} (h : LI T D n lt ts x H) (f : Fr D H H') (d : DrawAt D n' H') : LI T D n' lt ts x H' := h.frT f.t d (Tabs.fr h.tb h.dr f)
theorem LI.sm (h : LI T D n lt ts x H) (s : Same H H') : LI T D n lt ts x H' := h.fr (.of s) (h.dr.sm s)
theorem LI.ext (h : LI T D n lt ts x H) (e : ExtN H H') (t : Tabs T H') : LI T D n lt ts x H' := h.frT (extN_frT e) (h.dr.ext e) t
theorem LI.mono {n' : Nat} (h : LI T D n lt ts x H) (k : n ≤ n') : LI T D n' lt ts x H := ⟨h.x13, h.x2, h.ht, h.td, h.tw, h.t0, h.t2, h.tn, h.low, h.dr.mono k, h.tb⟩
end
section
variable {P : Program} {w : World} {K : PySem.W.Frag} {mg : Str → Option Value} {base : Heap} {CS BS BT BY f c Pt : Addr} {A : Around} {outer : List Env} {s : Shared} {H0 : Hp} {E : XK} {cdv : Value} {T : List (Addr × Str)} {D : DrA} {n : Nat}
def J0 (T : List (Addr × Str)) (D : DrA) (n : Nat) : L2.St → Hp → Prop := fun σ H => ∃ x, σ = S x ∧ x 13 = some (.ref D.d) ∧ DrawAt D n H ∧ Tabs T H
def J1 (T : List (Addr × Str)) (D : DrA) (n : Nat) : L2.St → Hp → Prop := fun σ H => ∃ x lt ts, σ = S x ∧ LI T D n lt ts x H
def J2 (T : List (Addr × Str)) (D : DrA) (n : Nat) : L2.St → Hp → Prop := fun σ H => ∃ x lt ts v d, σ = S x ∧ LI T D n lt ts x H ∧ x 3 = some v ∧ Da D H v d ∧ SdF ts d
theorem st0 (C : Callees P w K mg base CS BS BT BY T) (hr : RL A s f cdv) (hn : n + 6000 ≤ B) : LX P w K mg base f cdv A outer s H0 E 0 (J0 T D n) (J1 T D (n + 10)) := by
  refine ⟨_, ps_set (i := 2) scLaw.nd rfl (.inl rfl) (pe_slice sl_list (pe_h C.GH hr (by decide) (by rfl) (E := C8.E0) pass0 (pa_cons (pv 13) (pa_cons (pe_lst (pa_cons pe_str (pa_cons pe_str (pa_cons pe_str (pa_cons pe_str (pa_cons pe_str (pa_cons (pe_op op_repS pe_str pe_int) (pa_cons pe_str (pa_cons pe_str (pa_cons (pe_op op_repS pe_str pe_int) pa_nil)))))))))) pa_nil)))
      po_none (po_some (pe_op op_add pe_int (pe_h C.GT hr (by decide) (by rfl) (E := C8.E0) pass0 (pa_cons (pv 13) (pa_cons pe_int pa_nil)))))), ?_⟩
  rintro Dn σ H ⟨x, rfl, h13, dr, tb⟩ hN
  refine ⟨_, congrArg some h13, _, _, rfl, rfl, ⟨by decide, by decide⟩, ⟨rfl, by decide +kernel⟩, by decide +kernel, ?_⟩
  refine ⟨_, _, rfl, rfl, ⟨by decide, by decide⟩, ⟨rfl, by decide +kernel⟩, by decide +kernel, ?_⟩
  refine ⟨(by show 9 ≤ sizeLine; decide), fun pc nc => ?_⟩
  have s1 := same_upd (o := .lst (lows.map V.str)) nc
  have h1 : (upd H pc (.lst (lows.map V.str))) pc = some (.lst ((lows.map some).map oV)) := by
    rw [upd_same, List.map_map]
    rfl
  have d1 := dr.sm s1
  have l9 : (lows.map some).length = 9 := rfl
  refine ⟨D, n, pc, lows.map some, rfl, d1, by rw [l9]; omega, h1, by rw [l9]; decide, fun o ho z ez => ?_, fun H3 p3 ys n3 h3 pm d3 f3 => ?_⟩
  · obtain ⟨y, hy, e⟩ := List.mem_map.mp ho
    rw [ez] at e
    obtain rfl := Option.some.inj e
    exact (lows_ok y hy).1.2.1
  rw [l9] at d3
  obtain ⟨us, rfl, pu⟩ := perm_some pm
  have fp := dr.off nc
  have n3H : H p3 = none := none_of s1 n3
  have o3 := dr.off n3H
  have tb3 := Tabs.fr (tb.ext s1) d1 f3
  refine ⟨_, congrArg some h13, D, _, 2, rfl, d3, by omega, by decide, by decide, fun H4 u d4 f4 u0 u2 => ⟨_, _, rfl, rfl, ?_⟩⟩
  obtain ⟨k, rfl⟩ : ∃ k : Nat, u = (k : Int) := ⟨u.toNat, by omega⟩
  have h4 := f4 _ _ h3 o3.1 o3.2
  have e4 : (us.map some).map oV = us.map V.str := by rw [List.map_map]; rfl
  rw [e4] at h4
  refine ⟨_, rfl, p3, _, rfl, SqL.of h4, fun p5 n5 => ?_⟩
  have ec : cutV (us.map V.str) none (some (1 + (k : Int))) = (us.take (1 + k)).map V.str := by
    rw [show (1 + (k : Int)) = ((1 + k : Nat) : Int) by omega, cut_to', List.map_take]
  rw [ec]
  have s5 := same_upd (o := .lst ((us.take (1 + k)).map V.str)) n5
  have o5 := d4.off n5
  have lu : us.length = 9 := pu.length_eq
  refine hN _ _ ⟨sx x 2 (some (.ref p5)), p5, us.take (1 + k), rfl, h13, rfl, upd_same, o5.1, o5.2, fun z => ?_, ?_, (lows_nodup.perm pu.symm).sublist (List.take_sublist _ _), fun y hy => pu.mem_iff.mp (List.mem_of_mem_take hy), (d4.mono (by omega)).sm s5, (Tabs.fr tb3 d3 f4).ext s5⟩
  · have := congrArg List.length z
    rw [List.length_take, lu] at this
    simp at this
  · rw [List.length_take]
    omega
theorem st1 (C : Callees P w K mg base CS BS BT BY T) (hr : RL A s f cdv) (hn : n + 6000 ≤ B) : LX P w K mg base f cdv A outer s H0 E 1 (J1 T D (n + 10)) (J2 T D (n + 1000)) := by
  refine ⟨_, ps_set (i := 3) scLaw.nd rfl (.inl rfl) (pe_h C.GS hr (by decide) (by rfl) (E := C8.E0) pass0 (pa_cons (pv 13) (pa_cons (pv 2) (pa_cons (pe_lst pa_nil) (pa_cons pe_int (pa_cons pe_int (pa_cons (pe_lst (pa_cons (pe_h C.GT hr (by decide) (by rfl) (E := C8.E0) pass0 (pa_cons (pv 13) (pa_cons pe_int pa_nil))) pa_nil)) pa_nil))))))), ?_⟩
  rintro Dn σ H ⟨x, lt, ts, rfl, I⟩ hN
  refine ⟨_, congrArg some I.x13, _, congrArg some I.x2, Nat.zero_le _, fun p1 n1 => ?_⟩
  have s1 := same_upd (o := .lst []) n1
  have h1 : (upd H p1 (.lst [])) p1 = some (.lst (([] : List Str).map V.str)) := upd_same
  have o1 := I.dr.off n1
  have p1t : p1 ≠ lt := fun z => by rw [z, I.ht] at n1; cases n1
  have I1 := I.sm s1
  generalize upd H p1 (.lst []) = H1 at *
  refine ⟨_, congrArg some I.x13, D, _, 4, rfl, I1.dr, by omega, by decide, by decide, fun H2 u d2 f2 u0 u4 => ⟨(by show 1 ≤ sizeLine; decide), fun p3 n3 => ?_⟩⟩
  obtain ⟨k, rfl⟩ : ∃ k : Nat, u = (k : Int) := ⟨u.toNat, by omega⟩
  have I2 := I1.fr f2 d2
  have h2 := f2 _ _ h1 o1.1 o1.2
  have s3 := same_upd (o := .lst [.int (k : Int)]) n3
  have h3 : (upd H2 p3 (.lst [.int (k : Int)])) p3 = some (.lst [.int ((k : Nat) : Int)]) := upd_same
  have I3 := I2.sm s3
  have o3 := d2.off n3
  have h13 := s3 _ _ h2
  have p3c : p3 ≠ D.c := fun z => by
    obtain ⟨_, _, _, _, _, _, k3, _⟩ := d2
    rw [z, k3] at n3
    cases n3
  have lt3 : lt ≠ p3 := fun z => by rw [← z, I2.ht] at n3; cases n3
  have p13 : p1 ≠ p3 := fun z => by rw [← z, h2] at n3; cases n3
  generalize upd H2 p3 (.lst [.int (k : Int)]) = H3 at *
  have J : SdIn D (n + 10 + 1) lt p1 p3 ts [] k [p3] H3 := ⟨I3.dr, Held.cons held0 h3, List.mem_singleton.mpr rfl, o3, p3c, I3.ht, h13, ⟨I3.tw, o1.2⟩, ⟨lt3, p13⟩, h3, (by show 0 + k ≤ 3; omega), ⟨I.t0, I.t2⟩, ⟨I.tn, I.low⟩, .nil, fun _ z => absurd z (by simp)⟩
  have c3 : cD 3 = 930 := rfl
  refine ⟨D, _, lt, p1, p3, ts, [], k, [p3], rfl, J, by omega, fun H4 v d c' d4 f4 hy le dn g => ?_⟩
  have tb4 : Tabs T H4 := by
    intro q hq
    obtain ⟨ps, e1, e2, e3⟩ := I3.tb q hq
    obtain ⟨ws, cs, r, t, k1, k2, _⟩ := id I3.dr
    have keep : ∀ {a : Addr} {o : HO}, H3 a = some o → (∀ zs, o ≠ .lst zs) → (∀ zs, o ≠ .dK zs) → H4 a = some o := fun {a o} e na nb => f4 _ _ e (ne_of e k1 (fun z => nb _ z)) (ne_of e k2 (fun z => na _ z)) (ne_of e h3 (fun z => na _ z))
    refine ⟨ps, keep e1 (fun _ z => by cases z) (fun _ z => by cases z), e2, fun pos cv hc => ?_⟩
    obtain ⟨c, a, b⟩ := e3 pos cv hc
    exact ⟨c, a, keep b (fun _ z => by unfold CodeO at z; cases z) (fun _ z => by unfold CodeO at z; cases z)⟩
  refine hN _ _ ⟨sx x 3 (some v), lt, ts, v, d, rfl, ⟨I.x13, I.x2, f4 _ _ I3.ht I3.td I3.tw lt3, I.td, I.tw, I.t0, I.t2, I.tn, I.low, d4.mono (by omega), tb4⟩, rfl, g.fr hidL_sub, dn, I.low⟩
theorem st2 (C : Callees P w K mg base CS BS BT BY T) (hr : RL A s f cdv) (hg : A.guards = some []) (hn : n + 6000 ≤ B) : LX P w K mg base f cdv A outer s H0 E 2 (J2 T D (n + 1000)) (J2 T D (n + 1200)) := by
  have hgg : (A.deeper (envOfC "law" (defScope sLaw) s.heap.objs.size f cdv)).guards = some [] := hg
  refine ⟨_, ps_if (pw_or (pt_cmpR op_notBl (pe_h C.is hr (by decide) (by rfl) (E := C8.E0) pass0 (pa_cons (pv 3) pa_nil)) pe_bl (nomark _))
      (pw_or (pt_cmpR op_notBl (pe_hK C.isk hr (by decide) (by rfl) (E := C8.E0) pass0 (pk_cons (pv 3) pk_nil)) pe_bl (nomark _))
      (pw_or1 (pt_not (pt_val (pe_hG C.tr hgg hr (by decide) (by rfl) (E := C8.E0) pass0 (pa_cons (pv 13) (pa_cons (pv 3) (pa_cons (pv 2) pa_nil))))))))).pt (pss_one (ps_ret pe_bl)) pss_nil, ?_⟩
  rintro Dn σ H ⟨x, lt, ts, v, d, rfl, I, h3, hd, sd⟩ hN
  have fit := sd.fit
  refine ⟨_, congrArg some h3, D, _, v, d, 12, rfl, I.dr, hd, sd.asked, Nat.le_refl _, fun H1 s1 => ?_⟩
  rw [fit]
  have I1 := I.sm s1
  refine ⟨true, true, rfl, rfl, _, rfl, iteF ⟨_, congrArg some h3, rfl, D, _, v, d, 12, rfl, I1.dr, hd.sm s1, sd.asked, Nat.le_refl _, fun H2 s2 => ?_⟩⟩
  rw [fit]
  have I2 := I1.sm s2
  have hd2 := (hd.sm s1).sm s2
  refine ⟨true, true, rfl, rfl, _, rfl, iteF ⟨_, congrArg some I.x13, _, congrArg some h3, _, congrArg some I.x2, D, _, v, _, d, ts, rfl, I2.dr, by omega, hd2, sd, I2.tb, fun H3 d3 f3 t3 => ⟨_, rfl, iteF ?_⟩⟩⟩
  exact hN _ _ ⟨x, lt, ts, v, d, rfl, I2.frT f3 d3 t3, h3, hd2.fr f3, sd⟩
end
end Lm
/-! The law of k06: bent sayings. -/
namespace Lm
open PySem PySem.Spec PyProof.Rows L2 LamX
theorem lf_strs : ∀ {fs : List Str}, (∀ f ∈ fs, NameOk f) → lfA 20 9 (fs.map PyData.str) = true := fun {fs} h => lfA_iff.mpr fun d hd => by
  obtain ⟨f, hf, rfl⟩ := List.mem_map.mp hd
  have k := h f hf
  simp only [lf, Bool.and_eq_true, decide_eq_true_eq]
  exact ⟨k.2.1, k.2.2⟩
theorem Dn.lf {ts : List Str} (Tn : ∀ x ∈ ts, NameOk x) {e : Nat} {bs : List Str} {d : PyData} (h : Dn ts e bs d) : (∀ x ∈ bs, x ∈ caps) → lf 20 9 d = true := by
  have wd : ∀ w : Str, PyData.strOk w = true → w.length ≤ 20 → Lm.lf 20 9 (.str w) = true := fun w a b => by
    simp only [Lm.lf, Bool.and_eq_true, decide_eq_true_eq]
    exact ⟨a, b⟩
  induction h with
  | @row e bs a b c ne ha hb c1 c2 =>
    intro S
    have nm : ∀ {x}, x ∈ ts ++ bs → NameOk x := fun {x} m => (List.mem_append.mp m).elim (Tn x) fun m => (caps_ok x (S x m)).1
    have sd : ∀ {o : Option Str}, (∀ x, o = some x → x ∈ ts ++ bs) → Lm.lf 20 9 (oD o) = true := fun {o} h => by
      cases o with
      | none => simp [oD, Lm.lf]
      | some x =>
        have k := nm (h x rfl)
        exact wd x k.2.1 k.2.2
    have w1 := wd "row" (by decide +kernel) (by decide +kernel)
    have i1 : Lm.lf 20 9 (.int c) = true := by
      simp only [Lm.lf, decide_eq_true_eq]
      omega
    rw [Lm.lf, lfA, lfA, lfA, lfA, lfA, w1, sd ha, sd hb, i1]
    rfl
  | @no e bs x hx ih =>
    intro S
    have w1 := wd "not" (by decide +kernel) (by decide +kernel)
    rw [Lm.lf, lfA, lfA, w1, ih S]
    rfl
  | @many e bs w es hw hl hes ih =>
    intro S
    have w1 := wd w (by rcases hw with rfl | rfl <;> decide +kernel) (by rcases hw with rfl | rfl <;> decide +kernel)
    have a : lfA 20 9 es = true := lfA_iff.mpr fun x hx => ih x hx S
    rw [Lm.lf, lfA, lfA, w1, Lm.lf, a]
    rfl
  | @bind e bs w fs x hw l1 l2 nd hf hx ih =>
    intro S
    have S' : ∀ y ∈ bs ++ fs, y ∈ caps := fun y hy => (List.mem_append.mp hy).elim (S y) fun m => (hf y m).1
    have w1 := wd w (by rcases hw with rfl | rfl <;> decide +kernel) (by rcases hw with rfl | rfl <;> decide +kernel)
    have a : lfA 20 9 (fs.map PyData.str) = true := lf_strs fun f hf' => (caps_ok f (hf f hf').1).1
    rw [Lm.lf, lfA, lfA, lfA, w1, Lm.lf, a, ih S']
    rfl
theorem SdF.bz {ts : List Str} {d : PyData} (h : SdF ts d) : Bz 20 9 3880 8 d := ⟨h.dn.lf h.ok (fun _ z => absurd z (by simp)), h.sz.w, Nat.le_trans h.sz.p (by decide)⟩
theorem Bz.asked {L J N m : Nat} {d : PyData} (h : Bz L J N m d) (a : L ≤ 1000) (b : N ≤ 20000) (c : m ≤ 12) : Askd 12 d := ⟨(lf_facts a d h.l).1, fun _ => (lf_facts a d h.l).2, Nat.le_trans h.p c, Nat.le_trans h.w b⟩
def Er (BS : Addr) (H : Hp) (e : V) : Prop := ∃ a, e = .ref a ∧ H a = some (ExI a (.ref BS) none)
structure SV (T : List (Addr × Str)) (D : DrA) (BS : Addr) (Hb : Hp) (sv : Addr) (n : Nat) (es : List V) (H : Hp) : Prop where
  f : FrT D Hb H
  d : DrawAt D n H
  t : Tabs T H
  n : ∀ o, Hb sv = some o → (∀ ps, o ≠ .tbl ps) → False
  o : sv ≠ D.d ∧ sv ≠ D.w ∧ sv ≠ D.c
  h : H sv = some (.lst es)
  e : ∀ x ∈ es, Er BS H x
theorem Er.frT {BS : Addr} {D : DrA} {n : Nat} {H H' : Hp} {e : V} (h : Er BS H e) (d : DrawAt D n H) (f : FrT D H H') : Er BS H' e := by
  obtain ⟨a, rfl, k⟩ := h
  obtain ⟨ws, cs, r, t, h1, h2, _⟩ := d
  exact ⟨a, rfl, f _ _ k (ne_of k h1 (fun z => by unfold ExI at z; cases z)) (ne_of k h2 (fun z => by unfold ExI at z; cases z)) (fun _ z => by unfold ExI at z; cases z)⟩
theorem fresh_of {D : DrA} {n : Nat} {H H' : Hp} {p : Addr} (f : FrT D H H') (d : DrawAt D n H') (np : H' p = none) : ∀ o, H p = some o → (∀ ps, o ≠ .tbl ps) → False := fun o e nt => by
  by_cases e1 : p = D.d
  · obtain ⟨o1, k⟩ := d.there.1
    rw [← e1, np] at k
    cases k
  · by_cases e2 : p = D.w
    · obtain ⟨o1, k⟩ := d.there.2
      rw [← e2, np] at k
      cases k
    · have := f _ _ e e1 e2 nt
      rw [np] at this
      cases this
theorem off_c {D : DrA} {n : Nat} {H : Hp} {p : Addr} (d : DrawAt D n H) (np : H p = none) : p ≠ D.d ∧ p ≠ D.w ∧ p ≠ D.c := ⟨(d.off np).1, (d.off np).2, fun z => by
  obtain ⟨_, _, _, _, _, _, k3, _⟩ := d
  rw [z, k3] at np
  cases np⟩
theorem SV.more {T : List (Addr × Str)} {D : DrA} {BS : Addr} {Hb : Hp} {sv : Addr} {n n' : Nat} {es : List V} {H H2 : Hp} {a : Addr} (I : SV T D BS Hb sv n es H) (f : FrT D H H2) (d : DrawAt D n' H2) (t : Tabs T H2) (na : H2 a = none) :
    (upd H2 a (ExI a (.ref BS) none)) sv = some (.lst es) ∧ SV T D BS Hb sv n' (es ++ [.ref a]) (upd (upd H2 a (ExI a (.ref BS) none)) sv (.lst (es ++ [.ref a]))) := by
  have s1 := same_upd (o := ExI a (.ref BS) none) na
  have h2 := f _ _ I.h I.o.1 I.o.2.1 (fun _ z => by cases z)
  have h3 := s1 _ _ h2
  have asv : a ≠ sv := fun z => by rw [z, h2] at na; cases na
  have d3 := d.sm s1
  have t3 := t.ext s1
  have e3 : ∀ x ∈ es, Er BS (upd H2 a (ExI a (.ref BS) none)) x := fun x hx => ((I.e x hx).frT I.d f).frT d (Fr.t (.of s1))
  have ha : (upd H2 a (ExI a (.ref BS) none)) a = some (ExI a (.ref BS) none) := upd_same
  have f3 : FrT D Hb (upd H2 a (ExI a (.ref BS) none)) := (I.f.trans f).trans (Fr.t (.of s1))
  generalize upd H2 a (ExI a (.ref BS) none) = H3 at *
  have sb : SameBut sv H3 (upd H3 sv (.lst (es ++ [.ref a]))) := fun b o ne e => by rw [upd_ne ne]; exact e
  refine ⟨h3, fun b o e n1 n2 n3 => ?_, d3.putY ⟨I.o.1, I.o.2.1⟩ I.o.2.2, Tabs.but t3 h3 (fun _ z => by cases z) (fun _ _ z => by unfold CodeO at z; cases z) sb, I.n, I.o, upd_same, fun x hx => ?_⟩
  · exact sb _ _ (fun z => I.n _ (by rw [← z]; exact e) n3) (f3 _ _ e n1 n2 n3)
  · rcases List.mem_append.mp hx with hx | hx
    · obtain ⟨b, rfl, hb⟩ := e3 x hx
      exact ⟨b, rfl, sb _ _ (ne_of hb h3 (fun z => by unfold ExI at z; cases z)) hb⟩
    · rw [List.mem_singleton.mp hx]
      exact ⟨a, rfl, sb _ _ asv ha⟩
section
variable {P : Program} {w : World} {K : PySem.W.Frag} {mg : Str → Option Value} {base : Heap} {CS BS BT BY f c Pt : Addr} {A : Around} {outer : List Env} {s : Shared} {H0 : Hp} {E : XK} {cdv : Value} {T : List (Addr × Str)} {D : DrA} {n : Nat}
/-- the bent saying -/
def JB (T : List (Addr × Str)) (D : DrA) (n : Nat) : L2.St → Hp → Prop := fun σ H => ∃ x lt ts v d u e, σ = S x ∧ LI T D n lt ts x H ∧ x 3 = some v ∧ Da D H v d ∧ SdF ts d ∧ x 12 = some u ∧ Da D H u e ∧ Askd 12 e
def lapSt (i : Nat) : Stmt := (forBody (lawSt 3)).getD i (.Pass ⟨0, 0, 0, 0⟩)
theorem stb3 (C : Callees P w K mg base CS BS BT BY T) (hr : RL A s f (.ref c)) (TB : LamX.TabB base mg c Pt) (hT : TOk T Pt) (hn : n + 3000 ≤ B) : Step (XL P w K mg base f (.ref c) A outer s H0 E) (lapSt 3) (JB T D n) (J2 T D (n + 1)) := by
  refine ⟨_, ps_if (pt_not (pt_val (pe_h C.ls hr (by decide) (by rfl) (E := C8.E0) pass0 (pa_cons (pv 12) (pa_cons (pe_lst pa_nil) pa_nil)))))
    (pss_cons (ps_set (i := 5) scLaw.nd rfl (.inl rfl) (pe_lst (pa_cons (pe_caught (T := T) C.t.caught C.t.lane TB rfl (by exact hT.1) (by exact hT.2) (hr.mono (by decide : 22 ≤ 30)) (by rfl) (show LamS (defScope sLaw) _ from lamS_by (by decide +kernel)) rfl (fun _ _ _ _ _ => rfl)
        (fun A outer s H E f c' hr => pe_h C.t.fn hr (by decide) (by rfl) passLam (pa_cons (pv 12) pa_nil))) pa_nil)))
    (pss_cons (ps_expr (pe_bm PySem.F.plainAttrs_list PySem.F.slot_list_append PySem.F.type_list_append mt_append (pv 5) (pa_cons
      (pe_caught (T := T) C.t.caught C.t.lane TB rfl (by exact hT.1) (by exact hT.2) (hr.mono (by decide : 22 ≤ 30)) (by rfl) (show LamS (defScope sLaw) _ from lamS_by (by decide +kernel)) rfl (fun _ _ _ _ _ => rfl)
        (fun A outer s H E f c' hr => pe_h C.t.pt hr (by decide) (by rfl) passLam (pa_cons (pv 12) (pa_cons (pe_h C.GP hr (by decide) (by rfl) (E := C8.E0) pass0 (pa_cons (pv 13) (pa_cons (pe_lst (pa_cons pe_non (pa_cons pe_dnewK (pa_cons (pe_disp (pps_cons pe_str pe_non pps_nil) (by rfl) (by rfl) (fun z => by cases z) (by decide)) pa_nil)))) pa_nil))) pa_nil)))) pa_nil)))
    (pss_cons (ps_expr (pe_bm PySem.F.plainAttrs_list PySem.F.slot_list_append PySem.F.type_list_append mt_append (pv 5) (pa_cons
      (pe_caught (T := T) C.t.caught C.t.lane TB rfl (by exact hT.1) (by exact hT.2) (hr.mono (by decide : 22 ≤ 30)) (by rfl) (show LamS (defScope sLaw) _ from lamS_by (by decide +kernel)) rfl (fun _ _ _ _ _ => rfl)
        (fun A outer s H E f c' hr => pe_h C.t.re hr (by decide) (by rfl) passLam (pa_cons (pv 12) pa_nil))) pa_nil)))
    (pss_one (ps_if (pt_cmpR (op_neD hr.units) (pe_lc (own := [("error", 6)]) (g := gName 6) rfl scLaw.nd (pi_listK K (pv 5)) (blkOk_by (own := [("error", 6)]) (N := nLaw) (sc := defScope sLaw) (by decide +kernel)) (fun _ _ _ _ _ => pg_name (i := 6) scLaw.nd rfl (Or.inl rfl))
        (fun _ _ _ _ _ => pts_one (pt_not (pt_val (pe_callB (call_isXK K C.bs.ex) (by rfl) C.N.bisi (by decide +kernel) (pa_cons (pv 6) (pa_cons (pe_glob (v := V.ref BS) (by rfl) C.bs.at_ rfl) pa_nil)))))) (fun _ _ _ _ _ => pe_int))
      (pe_lst pa_nil) (nomark _)) (pss_one (ps_ret pe_bl)) pss_nil)))))
    pss_nil, ?_⟩
  rintro Dn σ H ⟨x, lt, ts, v, d, u, e, rfl, I, h3, hd, sd, h12, hu, ak⟩ hN
  refine ⟨_, congrArg some h12, Nat.zero_le _, fun p1 n1 => ?_⟩
  have s1 := same_upd (o := .lst []) n1
  have k1 : (upd H p1 (.lst [])) p1 = some (.lst (([] : List Str).map V.str)) := upd_same
  have I1 := I.sm s1
  refine ⟨D, _, u, p1, e, [], 12, rfl, I1.dr, hu.sm s1, ak, Nat.le_refl _, by decide, k1, (fun _ z => absurd z (by simp)), by decide, fun H2 s2 => ⟨_, rfl, ?_⟩⟩
  have I2 := I1.sm s2
  have hd2 := (hd.sm s1).sm s2
  have hu2 := (hu.sm s1).sm s2
  generalize upd H p1 (.lst []) = H1 at *
  cases fit : fitsN 12 [] e with
  | true => exact iteF (hN _ _ ⟨x, lt, ts, v, d, rfl, I2.mono (by omega), h3, hd2, sd⟩)
  | false =>
    refine iteT ?_
    refine ⟨I2.tb, fun H3 e3 T3 => ⟨_, congrArg some h12, D, _, u, e, 12, rfl, I2.dr.ext e3, hu2.fr (extN_frT e3), ak, Nat.le_refl _, .inr ⟨fit, fun H4 s4 => ⟨C.bs.exm, fun a na => ⟨(by show 1 ≤ sizeLine; decide), fun sv nsv => ?_⟩⟩⟩⟩⟩
    have f24 : FrT D H2 H4 := (extN_frT e3).trans (Fr.t (.of s4))
    have d4 := (I2.dr.ext e3).sm s4
    have t4 := T3.ext s4
    have sa := same_upd (o := ExI a (.ref BS) none) na
    have d5 := d4.sm sa
    have f25 := f24.trans (Fr.t (.of sa))
    have ha5 : (upd H4 a (ExI a (.ref BS) none)) a = some (ExI a (.ref BS) none) := upd_same
    have t5 := t4.ext sa
    generalize upd H4 a (ExI a (.ref BS) none) = H5 at *
    have s6 := same_upd (o := .lst [.ref a]) nsv
    have V6 : SV T D BS H2 sv n [.ref a] (upd H5 sv (.lst [.ref a])) := ⟨f25.trans (Fr.t (.of s6)), d5.sm s6, t5.ext s6, fresh_of f25 d5 nsv, off_c d5 nsv, upd_same, fun y hy => by rw [List.mem_singleton.mp hy]; exact ⟨a, rfl, s6 _ _ ha5⟩⟩
    generalize upd H5 sv (.lst [.ref a]) = H6 at *
    -- put_terms
    refine ⟨_, rfl, .inl ⟨rfl, _, SqL.of V6.h⟩, V6.t, fun H7 e7 T7 => ⟨_, congrArg some h12, _, congrArg some I.x13, fun p8 n8 => ?_⟩⟩
    have d7 := V6.d.ext e7
    have f67 : FrT D H6 H7 := extN_frT e7
    have s8 := same_upd (o := .dK []) n8
    have d8 := d7.new (o := .dK []) n8
    have f68 := f67.trans (Fr.t (.of s8))
    have t8 := T7.ext s8
    generalize upd H7 p8 (.dK []) = H8 at *
    intro p9 n9
    have k9 : (upd H8 p9 (.dK [])) p9 = some (.dK []) := upd_same
    have o9 := off_c d8 n9
    refine ⟨k9, [(.inr "a", .non)], rfl, (by show 1 ≤ 15; decide), ?_⟩
    have s9 : Same H8 (upd (upd H8 p9 (.dK [])) p9 (.dK (mergeK [] [((.inr "a" : Key), V.non)]))) := same_put (same_upd n9) n9
    have d9 : DrawAt D _ (upd (upd H8 p9 (.dK [])) p9 (.dK (mergeK [] [((.inr "a" : Key), V.non)]))) := (d8.new n9).putY ⟨o9.1, o9.2.1⟩ o9.2.2
    have f69 := f68.trans (Fr.t (.of s9))
    have t9 := t8.ext s9
    generalize upd (upd H8 p9 (.dK [])) p9 (.dK (mergeK [] [((.inr "a" : Key), V.non)])) = H9 at *
    refine ⟨(by show 3 ≤ sizeLine; decide), fun pl nl => ?_⟩
    have s10 := same_upd (o := .lst [.non, .ref p8, .ref p9]) nl
    have k10 : (upd H9 pl (.lst [.non, .ref p8, .ref p9])) pl = some (.lst [.non, .ref p8, .ref p9]) := upd_same
    have d10 := d9.new (o := .lst [.non, .ref p8, .ref p9]) nl
    have o10 := d9.off nl
    have f6a := f69.trans (Fr.t (.of s10))
    have t10 := t9.ext s10
    generalize upd H9 pl (.lst [.non, .ref p8, .ref p9]) = H10 at *
    refine ⟨D, _, pl, _, rfl, d10, by omega, k10, o10.2, (fun z => nomatch z), (by show 3 < 1073741824; decide), fun H11 i w' ew d11 f11 => ?_⟩
    have f6b := f6a.trans f11.t
    have t11 := Tabs.fr t10 d10 f11
    refine ⟨D, _, u, w', e, 12, rfl, d11, hu2.fr (V6.f.trans f6b), ak, Nat.le_refl _, .inl ⟨fit, fun H12 s12 => ⟨C.bs.exm, fun a2 na2 => ?_⟩⟩⟩
    obtain ⟨q1, V13⟩ := V6.more (f6b.trans (Fr.t (.of s12))) (d11.sm s12) (t11.ext s12) na2
    refine ⟨sv, _, _, rfl, rfl, q1, (by show 1 < sizeLine; decide), ?_⟩
    generalize upd (upd H12 a2 (ExI a2 (.ref BS) none)) sv (.lst ([.ref a] ++ [.ref a2])) = H13 at *
    -- reach
    refine ⟨_, rfl, .inl ⟨rfl, _, SqL.of V13.h⟩, V13.t, fun H14 e14 T14 => ⟨_, congrArg some h12, D, _, u, e, 12, rfl, V13.d.ext e14, hu2.fr (V13.f.trans (extN_frT e14)), ak, Nat.le_refl _, .inr ⟨fit, fun H15 s15 => ⟨C.bs.exm, fun a3 na3 => ?_⟩⟩⟩⟩
    obtain ⟨q2, V16⟩ := V13.more ((extN_frT e14).trans (Fr.t (.of s15))) ((V13.d.ext e14).sm s15) (T14.ext s15) na3
    refine ⟨sv, _, _, rfl, rfl, q2, (by show 2 < sizeLine; decide), ?_⟩
    generalize upd (upd H15 a3 (ExI a3 (.ref BS) none)) sv (.lst ([.ref a] ++ [.ref a2] ++ [.ref a3])) = H16 at *
    refine ⟨_, rfl, sv, rfl, ⟨_, SqL.of V16.h⟩, fun R nR => lc_list (K := K) (a := sv) (xs := [.ref a] ++ [.ref a2] ++ [.ref a3]) (fun i H' => Same H16 H' ∧ H' R = some (.lst [])) ⟨same_upd nR, upd_same⟩ (fun i H' _ h => SqL.of (h.1 _ _ V16.h)) ?_ ?_⟩
    · rintro i y H' hy ⟨s17, hR⟩
      obtain ⟨b, rfl, hb⟩ := V16.e y (List.mem_of_getElem? hy)
      have hb' := s17 _ _ hb
      exact ⟨rfl, _, rfl, b, .ref BS, .ref BS, true, rfl, hb', fun _ r => r, C.bs.kit, true, rfl, s17, hR⟩
    · rintro H17 ⟨s17, hR⟩
      refine ⟨by show 0 ≤ sizeLine; decide, fun Z nZ => ?_⟩
      have s18 := same_upd (o := .lst []) nZ
      have s20 : Same H16 (upd H17 Z (.lst [])) := sameT s17 s18
      refine ⟨.list [], .list [], .lst (SqL.of (s18 _ _ hR)) .nil, .lst (SqL.of upd_same) .nil, by decide +kernel, by decide +kernel, _, rfl, iteF ?_⟩
      have f2z := V16.f.trans (Fr.t (.of s20))
      exact hN _ _ ⟨sx x 5 (some (.ref sv)), lt, ts, v, d, rfl, (I2.frT f2z (V16.d.sm s20) (V16.t.ext s20)).set 5 _, h3, hd2.fr f2z, sd⟩
end
end Lm
/-! The law of k06: the loop over bent sayings; the lists. -/
namespace Lm
open PySem PySem.Spec PyProof.Rows L2 LamX
theorem steps_all {ι : Type} {X : Cx} {st : List Stmt} {I J : ι → L2.St → Hp → Prop} (h : ∀ i, StepS X st (I i) (J i)) :
    ∃ t, PSs X st t ∧ ∀ i D σ H, I i σ H → (∀ σ' H', J i σ' H' → D.nx σ' H') → t D σ H :=
  ⟨fun D σ H => ∃ i, Classical.choose (h i) D σ H, ⟨fun pins s σ H D I ⟨i, q⟩ => (Classical.choose_spec (h i)).1.run pins s σ H D I q⟩, fun i D σ H hI hN => ⟨i, (Classical.choose_spec (h i)).2 D σ H hI hN⟩⟩
section
variable {P : Program} {w : World} {K : PySem.W.Frag} {mg : Str → Option Value} {base : Heap} {CS BS BT BY f c Pt : Addr} {A : Around} {outer : List Env} {s : Shared} {H0 : Hp} {E : XK} {cdv : Value} {T : List (Addr × Str)} {D : DrA} {n : Nat}
def JL (T : List (Addr × Str)) (D : DrA) (n : Nat) : L2.St → Hp → Prop := fun σ H => ∃ x lt ts v d i, σ = S x ∧ LI T D n lt ts x H ∧ x 3 = some v ∧ Da D H v d ∧ SdF ts d ∧ x 4 = some (.int i)
def JA (T : List (Addr × Str)) (D : DrA) (n : Nat) : L2.St → Hp → Prop := fun σ H => ∃ x lt ts v d i u e, σ = S x ∧ LI T D n lt ts x H ∧ x 3 = some v ∧ Da D H v d ∧ SdF ts d ∧ x 4 = some (.int i) ∧ x 12 = some u ∧ Da D H u e ∧ Bz 21 16 7780 9 e
theorem stb0 (C : Callees P w K mg base CS BS BT BY T) (hr : RL A s f cdv) (hn : n + 3000 ≤ B) : Step (XL P w K mg base f cdv A outer s H0 E) (lapSt 0) (JL T D n) (JA T D (n + 27)) := by
  refine ⟨_, ps_set (i := 12) scLaw.nd rfl (.inr rfl) (pe_h C.b1 hr (by decide) (by rfl) (E := C8.E0) pass0 (pa_cons (pv 13) (pa_cons (pv 3) pa_nil))), ?_⟩
  rintro Dn σ H ⟨x, lt, ts, v, d, i, rfl, I, h3, hd, sd, h4⟩ hN
  refine ⟨_, congrArg some I.x13, _, congrArg some h3, D, _, v, d, 20, 9, 3880, rfl, hd, sd.bz, ⟨by decide, by decide⟩, by decide, by decide, I.dr, by omega, fun H1 v1 d1 g1 b1 dr1 f1 => ?_⟩
  exact hN _ _ ⟨sx x 12 (some v1), lt, ts, v, d, i, v1, d1, rfl, (I.fr f1 dr1).set 12 _, h3, hd.fr f1.t, sd, h4, rfl, g1, b1⟩
theorem stb1 (C : Callees P w K mg base CS BS BT BY T) (hr : RL A s f cdv) (hn : n + 3000 ≤ B) : Step (XL P w K mg base f cdv A outer s H0 E) (lapSt 1) (JA T D (n + 27)) (JB T D (n + 90)) := by
  refine ⟨_, ps_if (pt_cmpR op_eq (pv 4) pe_int (nomark _)) (pss_one (ps_set (i := 12) scLaw.nd rfl (.inr rfl) (pe_h C.GP hr (by decide) (by rfl) (E := C8.E0) pass0 (pa_cons (pv 13) (pa_cons (pe_lst
    (pa_cons (pe_h C.od hr (by decide) (by rfl) (E := C8.E0) pass0 (pa_cons (pv 13) pa_nil)) (pa_cons (pe_h C.b2 hr (by decide) (by rfl) (E := C8.E0) pass0 (pa_cons (pv 13) (pa_cons (pv 12) pa_nil))) pa_nil))) pa_nil))))) pss_nil, ?_⟩
  rintro Dn σ H ⟨x, lt, ts, v, d, i, u, e, rfl, I, h3, hd, sd, h4, h12, hu, bz⟩ hN
  refine ⟨_, congrArg some h4, rfl, _, rfl, ite2 (fun _ => ?_) (fun _ => hN _ _ ⟨x, lt, ts, v, d, u, e, rfl, I.mono (by omega), h3, hd, sd, h12, hu, bz.asked (by decide) (by decide) (by decide)⟩)⟩
  refine ⟨_, congrArg some I.x13, _, congrArg some I.x13, D, _, rfl, I.dr, by omega, fun H1 v1 d1 dr1 f1 g1 a1 => ?_⟩
  refine ⟨_, congrArg some I.x13, _, congrArg some h12, D, _, u, e, 21, 16, 7780, rfl, hu.fr f1.t, bz, ⟨by decide, by decide⟩, by decide, by decide, dr1, by omega, fun H2 v2 d2 g2 b2 dr2 f2 => ⟨(by show 2 ≤ sizeLine; decide), fun p3 n3 => ?_⟩⟩
  have ak2 : Askd 12 d2 := b2.asked (by decide) (by decide) (by decide)
  obtain ⟨s3, d3, h3', o1, o2, hall⟩ := lst_da dr2 (.cons (g1.fr f2.t) (.cons g2 .nil)) n3
  refine pick_da (E := C8.E0) d3 (by omega) h3' o2 hall (fun z => by cases z) (by show 2 < 1073741824; decide) fun H4 v4 d4 dr4 f4 hm g4 => ?_
  have fz := (f1.trans f2).trans ((Fr.of s3).trans f4)
  have ak4 : Askd 12 d4 := by
    rcases List.mem_cons.mp hm with rfl | hm
    · exact a1
    · rw [List.mem_singleton.mp hm]
      exact ak2
  exact hN _ _ ⟨sx x 12 (some v4), lt, ts, v, d, v4, d4, rfl, (I.fr fz (dr4.mono (by omega))).set 12 _, h3, hd.fr fz.t, sd, rfl, g4, ak4⟩
theorem stb2 (C : Callees P w K mg base CS BS BT BY T) (hr : RL A s f cdv) : Step (XL P w K mg base f cdv A outer s H0 E) (lapSt 2) (JB T D n) (JB T D n) := by
  refine ⟨_, ps_if (pt_not (pt_val (pe_h C.sy hr (by decide) (by rfl) (E := C8.E0) pass0 (pa_cons (pe_h C.is hr (by decide) (by rfl) (E := C8.E0) pass0 (pa_cons (pv 12) pa_nil)) (pa_cons (pe_h C.ls hr (by decide) (by rfl) (E := C8.E0) pass0 (pa_cons (pv 12) (pa_cons (pe_lst pa_nil) pa_nil))) pa_nil))))) (pss_one (ps_ret pe_bl)) pss_nil, ?_⟩
  rintro Dn σ H ⟨x, lt, ts, v, d, u, e, rfl, I, h3, hd, sd, h12, hu, ak⟩ hN
  refine ⟨_, congrArg some h12, D, _, u, e, 12, rfl, I.dr, hu, ak, Nat.le_refl _, fun H1 s1 => ⟨_, congrArg some h12, Nat.zero_le _, fun p2 n2 => ?_⟩⟩
  have I1 := I.sm s1
  have s2 := same_upd (o := .lst []) n2
  have k2 : (upd H1 p2 (.lst [])) p2 = some (.lst (([] : List Str).map V.str)) := upd_same
  have I2 := I1.sm s2
  refine ⟨D, _, u, p2, e, [], 12, rfl, I2.dr, (hu.sm s1).sm s2, ak, Nat.le_refl _, by decide, k2, (fun _ z => absurd z (by simp)), by decide, fun H3 s3 => ?_⟩
  refine ⟨_, _, rfl, _, rfl, ?_⟩
  rw [decide_eq_true rfl]
  have sz := sameT s1 (sameT s2 s3)
  exact iteF (hN _ _ ⟨x, lt, ts, v, d, u, e, rfl, I.sm sz, h3, hd.sm sz, sd, h12, hu.sm sz, ak⟩)
theorem lap_body (C : Callees P w K mg base CS BS BT BY T) (hr : RL A s f (.ref c)) (TB : LamX.TabB base mg c Pt) (hT : TOk T Pt) (hn : n + 5000 ≤ B) : StepS (XL P w K mg base f (.ref c) A outer s H0 E) (forBody (lawSt 3)) (JL T D n) (J2 T D (n + 91)) := by
  show StepS (XL P w K mg base f (.ref c) A outer s H0 E) [lapSt 0, lapSt 1, lapSt 2, lapSt 3] (JL T D n) (J2 T D (n + 91))
  exact steps_cons (stb0 C hr (by omega)) (steps_cons (stb1 C hr (by omega)) (steps_cons (stb2 C hr) (steps_cons (stb3 C hr TB hT (by omega)) steps_nil)))
theorem st3 (C : Callees P w K mg base CS BS BT BY T) (hr : RL A s f (.ref c)) (TB : LamX.TabB base mg c Pt) (hT : TOk T Pt) (hn : n + 8000 ≤ B) : LX P w K mg base f (.ref c) A outer s H0 E 3 (J2 T D (n + 1200)) (J1 T D (n + 1600)) := by
  obtain ⟨tB, hB, rB⟩ := steps_all (ι := { k : Nat // k + 5000 ≤ B }) (I := fun p => JL T D p.1) (J := fun p => J2 T D (p.1 + 91)) fun p => lap_body (P := P) (w := w) (outer := outer) (s := s) (H0 := H0) (E := E) (f := f) (A := A) C hr TB hT p.2
  refine ⟨_, ps_for PassesOwn.never rfl (pi_range1 (by rfl) C.N.brng (pa_cons pe_int pa_nil)) (pg_name (i := 4) scLaw.nd rfl (.inl rfl)) hB, ?_⟩
  rintro Dn σ H h hN
  refine ⟨4, rfl, by decide, by decide, for_range (fun i σ H' => J2 T D (n + 1200 + 91 * i) σ H') h ?_ ?_⟩
  · rintro i σ H' hi ⟨x, lt, ts, v, d, rfl, I, h3, hd, sd⟩
    have hi : i < 4 := hi
    refine rB ⟨n + 1200 + 91 * i, by omega⟩ _ _ _ ⟨sx x 4 (some (.int (0 + (i : Int)))), lt, ts, v, d, 0 + (i : Int), rfl, I.set 4 _, h3, hd, sd, rfl⟩ fun σ' H'' h => ?_
    have e : n + 1200 + 91 * (i + 1) = n + 1200 + 91 * i + 91 := by omega
    show J2 T D (n + 1200 + 91 * (i + 1)) σ' H''
    rw [e]
    exact h
  · rintro σ H' ⟨x, lt, ts, v, d, rfl, I, h3, hd, sd⟩
    exact hN _ _ ⟨x, lt, ts, rfl, I.mono (by show n + 1200 + 91 * 4 ≤ _; omega)⟩
/-- the lists -/
def J4 (T : List (Addr × Str)) (D : DrA) (n : Nat) : L2.St → Hp → Prop := fun σ H => ∃ x lt ts u ds o, σ = S x ∧ LI T D n lt ts x H ∧ x 14 = some u ∧ x 7 = some (wOf o) ∧ Da D H u (.list ds) ∧ LisOk ds o ∧ ds.length ≤ 3
def J5 (T : List (Addr × Str)) (D : DrA) (n : Nat) : L2.St → Hp → Prop := fun σ H => ∃ x lt ts u ds o, σ = S x ∧ LI T D n lt ts x H ∧ x 14 = some u ∧ x 7 = some (wOf o) ∧ Da D H u (.list ds) ∧ LisOk ds o ∧ ds.length ≤ 3 ∧ x 8 = some (.str (PyData.list ds).shown)
theorem st4 (C : Callees P w K mg base CS BS BT BY T) (hr : RL A s f cdv) (hn : n + 6000 ≤ B) : LX P w K mg base f cdv A outer s H0 E 4 (J1 T D (n + 1600)) (J4 T D (n + 1650)) := by
  refine ⟨_, ps_asg (pe_h C.ll hr (by decide) (by rfl) (E := C8.E0) pass0 (pa_cons (pv 13) (pa_cons (pv 2) pa_nil))) (pg_tup rfl (pgs_cons (pg_name (i := 14) scLaw.nd rfl (.inr rfl)) (pgs_cons (pg_name (i := 7) scLaw.nd rfl (.inl rfl)) pgs_nil))), ?_⟩
  rintro Dn σ H ⟨x, lt, ts, rfl, I⟩ hN
  refine ⟨_, congrArg some I.x13, _, congrArg some I.x2, D, _, lt, ts, rfl, I.dr, by omega, I.ht, I.td, I.tw, I.t0, I.t2, I.tn, I.low, fun H1 p u ds o hp g lo l3 d1 f1 => ?_⟩
  refine ⟨p, _, rfl, SqT.of hp, rfl, _, _, rfl, _, _, rfl, rfl, ?_⟩
  exact hN _ _ ⟨sx (sx x 14 (some u)) 7 (some (wOf o)), lt, ts, u, ds, o, rfl, ⟨I.x13, I.x2, f1 _ _ I.ht I.td I.tw, I.td, I.tw, I.t0, I.t2, I.tn, I.low, d1, Tabs.fr I.tb I.dr f1⟩, rfl, rfl, g, lo, l3⟩
theorem rowG_sz {d : PyData} (h : RowG d) : Sz 100 1 d := by
  obtain ⟨a, b, c, rfl, ne, ha, hb, c1, c2⟩ := h
  exact (sz_tup (szA_cons (sz_side fun x e => (lows_ok x (ha x e)).1) (szA_cons (sz_side fun x e => (lows_ok x (hb x e)).1) (szA_cons (sz_small (c := c) (by omega) (by omega)) (szA_nil (m := 0)))))).mono (by decide) (by decide)
theorem sysG_sz {d : PyData} (h : SysG d) : Sz 303 2 d := by
  obtain ⟨rs, rfl, l, g⟩ := h
  have sA := szA_all fun r hr => rowG_sz (g r hr)
  have : rs.length * (100 + 1) ≤ 3 * (100 + 1) := Nat.mul_le_mul_right _ l
  exact (sz_lst sA).mono (by omega) (by decide)
theorem odd_sh : ∀ d ∈ oddS, d.weight ≤ 303 ∧ d.depth ≤ 2 ∧ d.leavesShort 13 = true ∧ d.showable = true := by
  intro d hd
  simp only [oddS, List.mem_cons, List.not_mem_nil, or_false] at hd
  rcases hd with rfl | rfl | rfl | rfl | rfl | rfl | rfl | rfl
  all_goals exact ⟨by decide +kernel, by decide +kernel, by decide +kernel, by decide +kernel⟩
theorem list_sh {ds : List PyData} (l : ds.length ≤ 10) (h : ∀ d ∈ ds, d.weight ≤ 5000 ∧ d.depth ≤ 20 ∧ d.leavesShort 13 = true ∧ d.showable = true) : Sh (2 ^ 20) 60 (.list ds) := by
  have e : (2 : Nat) ^ 20 = 1048576 := by decide
  have key : ∀ ds : List PyData, (∀ d ∈ ds, d.weight ≤ 5000 ∧ d.depth ≤ 20 ∧ d.leavesShort 13 = true ∧ d.showable = true) → PyData.weightAll ds ≤ ds.length * 5001 ∧ PyData.depthAll ds ≤ 20 ∧ PyData.leavesShortAll 13 ds = true ∧ PyData.showableAll ds = true := by
    intro ds
    induction ds with
    | nil => exact fun _ => ⟨by simp [PyData.weightAll], Nat.zero_le _, rfl, rfl⟩
    | cons d r ih =>
      intro h
      obtain ⟨a1, a2, a3, a4⟩ := h d (List.mem_cons_self ..)
      obtain ⟨b1, b2, b3, b4⟩ := ih fun x hx => h x (List.mem_cons_of_mem _ hx)
      refine ⟨?_, ?_, ?_, ?_⟩
      · show d.weight + 1 + PyData.weightAll r ≤ (r.length + 1) * 5001
        omega
      · show max d.depth (PyData.depthAll r) ≤ 20
        omega
      · simp only [PyData.leavesShortAll, a3, b3, Bool.and_self]
      · simp only [PyData.showableAll, a4, b4, Bool.and_self]
  obtain ⟨k1, k2, k3, k4⟩ := key ds h
  refine ⟨?_, ?_, ?_, ?_⟩
  · show PyData.weightAll ds ≤ 2 ^ 20
    omega
  · show PyData.depthAll ds + 1 ≤ 60
    omega
  · simpa only [PyData.leavesShort] using k3
  · simpa only [PyData.showable] using k4
theorem lis_sh {ds : List PyData} {o : Option Nat} (h : LisOk ds o) (l : ds.length ≤ 3) : Sh (2 ^ 20) 60 (.list ds) := list_sh (by omega) fun d hd => by
  rcases h.parts d hd with g | g
  · have k := sysG_sz g
    exact ⟨Nat.le_trans k.w (by decide), Nat.le_trans k.p (by decide), k.l, k.s⟩
  · obtain ⟨a, b, c, e⟩ := odd_sh d g
    exact ⟨Nat.le_trans a (by decide), Nat.le_trans b (by decide), c, e⟩
theorem st5 (C : Callees P w K mg base CS BS BT BY T) (hr : RL A s f cdv) (hg : A.guards = some []) : LX P w K mg base f cdv A outer s H0 E 5 (J4 T D n) (J5 T D n) := by
  have hgg : (A.deeper (envOfC "law" (defScope sLaw) s.heap.objs.size f cdv)).guards = some [] := hg
  refine ⟨_, ps_set (i := 8) scLaw.nd rfl (.inl rfl) (pe_callB (call_reprG (P := P) (w := w) hgg hr.units C.t.mods) (by rfl) C.N.brep (by decide +kernel) (pa_cons (pv 14) pa_nil)), ?_⟩
  rintro Dn σ H ⟨x, lt, ts, u, ds, o, rfl, I, h14, h7, g, lo, l3⟩ hN
  refine ⟨_, congrArg some h14, u, D, _, rfl, Da.gd g, lis_sh lo l3, ?_⟩
  exact hN _ _ ⟨sx x 8 (some (.str (PyData.list ds).shown)), lt, ts, u, ds, o, rfl, I.set 8 _, h14, h7, g, lo, l3, rfl⟩
end
end Lm
/-! The law of k06: systems told in words. -/
namespace Lm
open PySem PySem.Spec PyProof.Rows L2 LamX
def rIsY (K : PySem.W.Frag) (D : Addr) : List V → Hp → VK → Prop := fun xs H Q => ∃ (a dd : Addr) (fs : List (Str × V)) (c : V) (cv : Value) (b : Bool), xs = [.ref a, c] ∧ H a = some (ExI a (.ref D) (some dd)) ∧ H dd = some (.xd fs) ∧ (∀ u, RelV c u → u = cv) ∧ PySem.W.kitOne K (.ref D) cv = some b ∧ Q (.bl b) H
theorem call_isYK {X : Cx} (K : PySem.W.Frag) {D : Addr} (C : ExcC K D) (hK : X.K = K := by rfl) : CallR X (.builtin "isinstance") (rIsY K D) := by
  subst hK
  exact call_isY C
theorem pe_xatK {X : Cx} (K : PySem.W.Frag) {e : Expr} {te : TE} {pos : Pos} {f : Str} (he : PE X e te) (hK : X.K = K := by rfl) (hb : attributeBase e f X.env (eval e X.env) = eval e X.env := by rfl) : PE X (.Attribute e f pos) (tXat K f te) := by
  subst hK
  exact pe_xat he hb
theorem saidD_sz {d : PyData} (h : RowG d) : Sz 120 1 (saidD d) := by
  obtain ⟨a, b, c, rfl, ne, ha, hb, c1, c2⟩ := h
  exact (sz_tup (szA_cons (sz_word (w := "row") (by decide +kernel)) (szA_cons (sz_side fun x e => (lows_ok x (ha x e)).1) (szA_cons (sz_side fun x e => (lows_ok x (hb x e)).1) (szA_cons (sz_small (c := c) (by omega) (by omega)) (szA_nil (m := 0))))))).mono (by decide) (by decide)
theorem andD_sz {d : PyData} (h : SysG d) : Sz 400 3 (andD d) := by
  obtain ⟨rs, rfl, l, g⟩ := h
  have sA : SzA ((rs.map saidD).length * (120 + 1)) 1 (rs.map saidD) := szA_all fun y hy => by
    obtain ⟨r, hr, rfl⟩ := List.mem_map.mp hy
    exact saidD_sz (g r hr)
  rw [List.length_map] at sA
  have : rs.length * (120 + 1) ≤ 3 * (120 + 1) := Nat.mul_le_mul_right _ l
  exact (sz_tup (m := 2) (szA_cons ((sz_word (w := "and") (by decide +kernel)).mono (Nat.le_refl _) (by decide)) (szA_cons (sz_tup sA) szA_nil))).mono (by omega) (by decide)
theorem oneD_sz {ds : List PyData} (h : ∀ d ∈ ds, SysG d) (l : ds.length ≤ 3) : Sz 1300 5 (oneD ds) := by
  have sA : SzA ((ds.map andD).length * (400 + 1)) 3 (ds.map andD) := szA_all fun y hy => by
    obtain ⟨r, hr, rfl⟩ := List.mem_map.mp hy
    exact andD_sz (h r hr)
  rw [List.length_map] at sA
  have : ds.length * (400 + 1) ≤ 3 * (400 + 1) := Nat.mul_le_mul_right _ l
  exact (sz_tup (m := 4) (szA_cons ((sz_word (w := "or") (by decide +kernel)).mono (Nat.le_refl _) (by decide)) (szA_cons (sz_tup sA) szA_nil))).mono (by omega) (by decide)
theorem wOf_gd {P : Program} {w : World} {D : DrA} {H : Hp} (i : Nat) (h : i ≤ 1000) : Gd P w D H (.int ((i : Nat) : Int)) (.int (i : Nat)) ∧ Sh (2 ^ 20) 60 (.int ((i : Nat) : Int)) := ⟨.int _, (sz_small (by omega) (by omega)).to (by decide) (by decide)⟩
section
variable {P : Program} {w : World} {K : PySem.W.Frag} {mg : Str → Option Value} {base : Heap} {CS BS BT BY f c Pt : Addr} {A : Around} {outer : List Env} {s : Shared} {H0 : Hp} {E : XK} {cdv : Value} {T : List (Addr × Str)} {D : DrA} {n : Nat}
def thenBody : Stmt → List Stmt
  | .If (body := b) .. => b
  | _ => []
def elseBody : Stmt → List Stmt
  | .If (orelse := b) .. => b
  | _ => []
def JN (T : List (Addr × Str)) (D : DrA) (n : Nat) : L2.St → Hp → Prop := fun σ H => ∃ x lt ts u ds, σ = S x ∧ LI T D n lt ts x H ∧ x 14 = some u ∧ Da D H u (.list ds) ∧ (∀ d ∈ ds, SysG d) ∧ ds.length ≤ 3 ∧ x 8 = some (.str (PyData.list ds).shown)
def JD (T : List (Addr × Str)) (D : DrA) (n : Nat) : L2.St → Hp → Prop := fun σ H => ∃ x lt ts u ds v, σ = S x ∧ LI T D n lt ts x H ∧ x 14 = some u ∧ Da D H u (.list ds) ∧ (∀ d ∈ ds, SysG d) ∧ ds.length ≤ 3 ∧ x 8 = some (.str (PyData.list ds).shown) ∧ x 11 = some v ∧ Da D H v (oneD ds)
theorem catH {zs : List Addr} {H : Hp} {Q : VK} {a b : Addr} {ds es : List PyData} {xs ys : List V} (dr : DrawAt D n H) (hz : Held zs H) (h1 : H a = some (.tup xs)) (h2 : H b = some (.tup ys)) (g1 : DaAll D (HidL zs H) xs ds) (g2 : DaAll D (HidL zs H) ys es) (x0 : xs ≠ []) (y0 : ys ≠ []) (hl : xs.length + ys.length ≤ 10000)
    (q : ∀ (H' : Hp) (p : Addr), Same H H' → DrawAt D n H' → Da D (HidL zs H') (.ref p) (.tuple (ds ++ es)) → Q (.ref p) H') : rCatA K (.ref a) (.ref b) H Q :=
  ⟨a, b, xs, ys, rfl, rfl, SqT.of h1, SqT.of h2, small10000 hl, fun e => absurd e x0, fun _ e => absurd e y0, fun _ _ p np => q _ p (same_upd np) (dr.new np) (tup_hid dr hz np (g1.app g2))⟩
theorem stn0 (C : Callees P w K mg base CS BS BT BY T) (hr : RL A s f cdv) : Step (XL P w K mg base f cdv A outer s H0 E) ((thenBody (lawSt 6)).getD 0 (.Pass ⟨0, 0, 0, 0⟩)) (JN T D n) (JD T D n) := by
  refine ⟨_, ps_set (i := 11) scLaw.nd rfl (.inl rfl) (pe_tup (pa_cons pe_str (pa_cons (pe_callTy (call_tupK K) (by rfl) C.N.btup (by decide +kernel) (pa_cons
    (pe_lc (own := [("some", 9)]) (g := gName 9) (tt := tYes) rfl scLaw.nd (pi_listK K (pv 14)) (blkOk_by (own := [("some", 9)]) (N := nLaw) (sc := defScope sLaw) (by decide +kernel)) (fun _ _ _ _ _ => pg_name (i := 9) scLaw.nd rfl (Or.inl rfl))
      (fun _ _ _ _ _ => pts_nil) (fun _ _ _ _ _ => pe_tup (pa_cons pe_str (pa_cons (pe_callTy (call_tupK K) (by rfl) C.N.btup (by decide +kernel) (pa_cons
        (pe_lc (own := [("row", 10)]) (g := gName 10) (tt := tYes) rfl scLaw.nd (pi_listK K (pv 9)) (blkOk_by (by show blkC nLaw ⟨.function, [(".0", .local), ("some", .local), ("tuple", .globalImplicit)], false, false, []⟩ _ [("row", 10)] = true; decide +kernel)) (fun _ _ _ _ _ => pg_name (i := 10) scLaw.nd rfl (Or.inl rfl))
          (fun _ _ _ _ _ => pts_nil) (fun _ _ _ _ _ => pe_op (show OpR _ _ (rCatA K) from op_catA) (pe_tup (pa_cons pe_str pa_nil)) (pv 10))) pa_nil)) pa_nil)))) pa_nil)) pa_nil))), ?_⟩
  rintro Dn σ H ⟨x, lt, ts, u, ds, rfl, I, h14, g, sys, l3, h8⟩ hN
  obtain ⟨s0, xs, rfl, ha, n1, n2, hp⟩ := g.rows rfl
  have hp : H s0 = some (.lst xs) := by
    rcases hp with hp | hp
    · exact hp
    · cases g with
      | lst k _ _ _ => rw [k] at hp; cases hp
  have hl := ha.length
  have dr := I.dr
  refine ⟨_, congrArg some h14, s0, rfl, ⟨_, SqL.of hp⟩, fun R nR => lc_list (K := K) (a := s0) (xs := xs) (fun i H3 => Same H H3 ∧ ∃ zs, H3 R = some (.lst zs) ∧ DaAll D (HidL [R] H3) zs ((ds.take i).map andD) ∧ zs.length = min i ds.length) ⟨same_upd nR, [], upd_same, .nil, by simp⟩ (fun i H' _ z => SqL.of (z.1 _ _ hp)) ?_ ?_⟩
  · rintro i y H3 hy ⟨s3, zs, hR, gz, lz⟩
    obtain ⟨sy, hds, gs⟩ := ha.get hy
    obtain ⟨rs, rfl, lr, rg⟩ := sys sy (List.mem_of_getElem? hds)
    have gs3 : Da D (HidL [R] H3) y (.list rs) := gs.fr (by rw [← hidL_nil H]; exact hidL_more nR s3)
    obtain ⟨b0, ws, rfl, hrs, _, _, hb0⟩ := gs3.rows rfl
    have hb0 : HidL [R] H3 b0 = some (.lst ws) := by
      rcases hb0 with hb0 | hb0
      · exact hb0
      · cases gs3 with
        | lst k _ _ _ => rw [k] at hb0; cases hb0
    have lrs := hrs.length
    refine ⟨rfl, _, rfl, b0, rfl, ⟨_, SqL.of (HidL.sub hb0).2⟩, fun R2 nR2 => lc_list (K := K) (a := b0) (xs := ws) (fun j H4 => Same H3 H4 ∧ ∃ us, H4 R2 = some (.lst us) ∧ DaAll D (HidL [R2, R] H4) us ((rs.take j).map saidD) ∧ us.length = min j rs.length) ⟨same_upd nR2, [], upd_same, .nil, by simp⟩ (fun j H4 _ h => SqL.of (h.1 _ _ (HidL.sub hb0).2)) ?_ ?_⟩
    · rintro j y H4 hy ⟨s4, us, hR2, g, lu⟩
      obtain ⟨dy, hdy, gy⟩ := hrs.get hy
      obtain ⟨a, b, c, rfl, _⟩ := rg dy (List.mem_of_getElem? hdy)
      obtain ⟨r, vs, _, rfl, ed, hr1, rz, _, _, hvs⟩ := gy.tupH rfl
      injection ed with ed
      subst ed
      have lvs := hvs.length
      have nR2H : H3 R2 = none := nR2
      have fr := hidL_more (zs := [R]) (D := D) nR2H s4
      refine ⟨rfl, (by show 1 ≤ sizeLine; decide), fun p5 n5 => ⟨_, rfl, ?_⟩⟩
      have s5 := same_upd (o := .tup [.str "row"]) n5
      have h5 : (upd H4 p5 (.tup [.str "row"])) p5 = some (.tup [.str "row"]) := upd_same
      have hz5 : Held [R2, R] (upd H4 p5 (.tup [.str "row"])) := (((Held.cons held0 hR).sm s4).cons hR2).sm s5
      have d5 := ((dr.sm s3).sm s4).sm s5
      refine catH (ds := [.str "row"]) (es := [oD a, oD b, .int c]) d5 hz5 h5 (s5 _ _ (s4 _ _ hr1)) (.cons (.str _) .nil) (hvs.fr (fr.trans (hidL_sm s5))) (fun z => by cases z) (fun z => by rw [z] at lvs; cases lvs) (by rw [lvs]; show 1 + 3 ≤ 10000; decide) fun H6 p6 s6 d6 g6 => ?_
      refine ⟨_, s6 _ _ (s5 _ _ hR2), small1000 (by omega), same_put (sameT s4 (sameT s5 s6)) nR2, _, upd_same, ?_, ?_⟩
      · rw [hidL_upd (List.mem_cons_self ..), List.take_add_one, hdy, List.map_append]
        exact (g.fr ((hidL_sm s5).trans (hidL_sm s6))).app (.cons g6 .nil)
      · have lj : j < rs.length := (List.getElem?_eq_some_iff.mp hdy).1
        rw [List.length_append, lu]
        show min j rs.length + 1 = _
        omega
    · rintro H4 ⟨s4, us, hR2, g, lu⟩
      rw [lrs, List.take_length] at g
      have hz4 : Held [R] H4 := (Held.cons held0 hR).sm s4
      have dr4 := (dr.sm s3).sm s4
      have g' : DaAll D (HidL [R] H4) us (rs.map saidD) := g.fr hidL_cons
      refine ⟨R2, _, rfl, .inl ⟨SqL.of hR2, fun p5 n5 => ⟨(by show 2 ≤ sizeLine; decide), fun p6 n6 => ?_⟩⟩⟩
      have s5 := same_upd (o := .tup us) n5
      have a5 : Da D (HidL [R] _) (.ref p5) (.tuple (rs.map saidD)) := tup_hid dr4 hz4 n5 g'
      have s6 := same_upd (o := .tup [.str "and", .ref p5]) n6
      have a6 : Da D (HidL [R] _) (.ref p6) (.tuple [.str "and", .tuple (rs.map saidD)]) := tup_hid (dr4.sm s5) (hz4.sm s5) n6 (.cons (.str _) (.cons a5 .nil))
      have s36 : Same H3 _ := fun b o e => s6 b o (s5 b o (s4 b o e))
      refine ⟨_, s36 _ _ hR, small1000 (by omega), same_put (fun b o e => s36 b o (s3 b o e)) nR, _, upd_same, ?_, ?_⟩
      · rw [hidL_upd (List.mem_cons_self ..), List.take_add_one, hds, List.map_append]
        exact (gz.fr (hidL_sm s36)).app (.cons a6 .nil)
      · have lj : i < ds.length := (List.getElem?_eq_some_iff.mp hds).1
        rw [List.length_append, lz]
        show min i ds.length + 1 = _
        omega
  · rintro H3 ⟨s3, zs, hR, gz, lz⟩
    rw [hl, List.take_length] at gz
    have g0 : DaAll D H3 zs (ds.map andD) := gz.fr hidL_sub
    refine ⟨R, _, rfl, .inl ⟨SqL.of hR, fun p5 n5 => ⟨(by show 2 ≤ sizeLine; decide), fun p6 n6 => ?_⟩⟩⟩
    obtain ⟨s5, d5, g5⟩ := tup_da (dr.sm s3) g0 n5
    obtain ⟨s6, d6, g6⟩ := tup_da d5 (.cons (.str "or") (.cons g5 .nil)) n6
    have sz := sameT s3 (sameT s5 s6)
    exact hN _ _ ⟨sx x 11 (some (.ref p6)), lt, ts, .ref s0, ds, .ref p6, rfl, (I.sm sz).set 11 _, h14, (Da.lst hp n1 n2 ha : Da D H (.ref s0) (.list ds)).sm sz, sys, l3, h8, rfl, g6⟩
end
end Lm
/-! The law of k06, whole. -/
namespace Lm
open PySem PySem.Spec PyProof.Rows L2 LamX
/-- what saying_of raises, held -/
def EY (BY : Addr) (y : V) (H : Hp) (e : V) : Prop := ∃ a dx, e = .ref a ∧ H a = some (ExI a (.ref BY) (some dx)) ∧ H dx = some (.xd [("at", y)])
theorem EY.sm {BY : Addr} {y e : V} {H H' : Hp} (h : EY BY y H e) (s : Same H H') : EY BY y H' e := by
  obtain ⟨a, dx, rfl, h1, h2⟩ := h
  exact ⟨a, dx, rfl, s _ _ h1, s _ _ h2⟩
section
variable {P : Program} {w : World} {K : PySem.W.Frag} {mg : Str → Option Value} {base : Heap} {CS BS BT BY f c Pt : Addr} {A : Around} {outer : List Env} {s : Shared} {H0 : Hp} {E : XK} {cdv : Value} {T : List (Addr × Str)} {D : DrA} {n : Nat}
theorem stn1 (C : Callees P w K mg base CS BS BT BY T) (hr : RL A s f cdv) (hg : A.guards = some []) : Step (XL P w K mg base f cdv A outer s H0 E) ((thenBody (lawSt 6)).getD 1 (.Pass ⟨0, 0, 0, 0⟩)) (JD T D n) (J1 T D n) := by
  have hgg : (A.deeper (envOfC "law" (defScope sLaw) s.heap.objs.size f cdv)).guards = some [] := hg
  refine ⟨_, ps_if (pw_or (pt_cmpR op_ne (pe_callB (call_reprG (P := P) (w := w) hgg hr.units C.t.mods) (by rfl) C.N.brep (by decide +kernel) (pa_cons (pe_lst (pa_cons (pe_h C.so hr (by decide) (by rfl) passL (pa_cons (pv 14) pa_nil))
        (pa_cons (pe_hK C.sok hr (by decide) (by rfl) passL (pk_cons (pe_callTy (call_tupK K) (by rfl) C.N.btup (by decide +kernel) (pa_cons (pv 14) pa_nil)) pk_nil)) pa_nil))) pa_nil))
      (pe_callB (call_reprG (P := P) (w := w) hgg hr.units C.t.mods) (by rfl) C.N.brep (by decide +kernel) (pa_cons (pe_lst (pa_cons (pv 11) (pa_cons (pv 11) pa_nil))) pa_nil)) (nomark _))
      (pw_or1 (pt_cmpR op_ne (pe_callB (call_reprG (P := P) (w := w) hgg hr.units C.t.mods) (by rfl) C.N.brep (by decide +kernel) (pa_cons (pv 14) pa_nil)) (pv 8) (nomark _)))).pt (pss_one (ps_ret pe_bl)) pss_nil, ?_⟩
  rintro Dn σ H ⟨x, lt, ts, u, ds, v, rfl, I, h14, g, sys, l3, h8, h11, gv⟩ hN
  have lo : LisOk ds none := sys
  obtain ⟨sh, r30⟩ := lo.short
  have good : ∀ d ∈ ds, goodS d = true := fun d hd => sysG_good (sys d hd)
  obtain ⟨s0, xs, rfl, ha, n1, n2, hp⟩ := g.rows rfl
  have hp : H s0 = some (.lst xs) := by
    rcases hp with hp | hp
    · exact hp
    · cases g with
      | lst k _ _ _ => rw [k] at hp; cases hp
  have shO := two_sz (oneD_sz sys l3) (by decide) (by decide)
  refine ⟨_, congrArg some h14, .ref s0, rfl, .inr ⟨D, _, .list ds, ds, I.dr, .lst hp n1 n2 ha, sh, rfl, by omega, r30, .inr ⟨good, fun H1 v1 s1 g1 => ?_⟩⟩⟩
  have I1 := I.sm s1
  refine ⟨_, congrArg some h14, s0, _, rfl, .inl ⟨SqL.of (s1 _ _ hp), fun p2 np2 => ?_⟩⟩
  obtain ⟨s2, d2, g2⟩ := tup_da I1.dr (ha.sm s1) np2
  refine ⟨rfl, .ref p2, rfl, .inr ⟨D, _, .tuple ds, ds, d2, g2, sh, rfl, by omega, r30, .inr ⟨good, fun H3 v3 s3 g3 => ?_⟩⟩⟩
  have d3 := d2.sm s3
  refine ⟨(by show 2 ≤ sizeLine; decide), fun p4 n4 => ?_⟩
  obtain ⟨s4, d4, h4, o1, o2, g4⟩ := lst_da d3 (.cons (g1.sm (sameT s2 s3)) (.cons g3 .nil)) n4
  refine ⟨.ref p4, D, _, rfl, Da.gd (.lst h4 o1 o2 g4), shO, ?_⟩
  have s14 := sameT s1 (sameT s2 (sameT s3 s4))
  refine ⟨_, congrArg some h11, _, congrArg some h11, (by show 2 ≤ sizeLine; decide), fun p5 n5 => ?_⟩
  obtain ⟨s5, d5, h5, o3, o4, g5⟩ := lst_da d4 (.cons (gv.sm s14) (.cons (gv.sm s14) .nil)) n5
  have s15 := sameT s14 s5
  refine ⟨.ref p5, D, _, rfl, Da.gd (.lst h5 o3 o4 g5), shO, rfl, _, rfl, no_ne ?_⟩
  exact ⟨_, congrArg some h14, .ref s0, D, _, rfl, Da.gd ((Da.lst hp n1 n2 ha : Da D H (.ref s0) (.list ds)).sm s15), lis_sh lo l3, _, congrArg some h8, rfl, _, rfl, no_ne (hN _ _ ⟨x, lt, ts, rfl, I.sm s15⟩)⟩
/-- behind what is caught -/
def JE (BY : Addr) (T : List (Addr × Str)) (D : DrA) (n : Nat) : L2.St → Hp → Prop := fun σ H => ∃ x lt ts e i, σ = S x ∧ LI T D n lt ts x H ∧ x 7 = some (.int ((i : Nat) : Int)) ∧ i ≤ 1000 ∧ x 6 = some e ∧ EY BY (.int (i : Nat)) H e
def JO (T : List (Addr × Str)) (D : DrA) (n : Nat) : L2.St → Hp → Prop := fun σ H => ∃ x lt ts u ds i, σ = S x ∧ LI T D n lt ts x H ∧ x 14 = some u ∧ x 7 = some (.int ((i : Nat) : Int)) ∧ Da D H u (.list ds) ∧ LisOk ds (some i) ∧ ds.length ≤ 3
theorem ste0 (C : Callees P w K mg base CS BS BT BY T) (hr : RL A s f (.ref c)) (TB : LamX.TabB base mg c Pt) (hT : TOk T Pt) : Step (XL P w K mg base f (.ref c) A outer s H0 E) ((elseBody (lawSt 6)).getD 0 (.Pass ⟨0, 0, 0, 0⟩)) (JO T D n) (JE BY T D n) := by
  refine ⟨_, ps_set (i := 6) scLaw.nd rfl (.inl rfl) (pe_caught (T := T) C.t.caught C.t.lane TB rfl (by exact hT.1) (by exact hT.2) (hr.mono (by decide : 22 ≤ 30)) (by rfl) (show LamS (defScope sLaw) _ from lamS_by (by decide +kernel)) rfl (fun _ _ _ _ _ => rfl)
      (fun A outer s H E f c' hr => pe_h C.so hr (by decide) (by rfl) passLam (pa_cons (pv 14) pa_nil))), ?_⟩
  rintro Dn σ H ⟨x, lt, ts, u, ds, i, rfl, I, h14, h7, g, lo, l3⟩ hN
  obtain ⟨sh, r30⟩ := lo.short
  refine ⟨I.tb, fun H1 e1 T1 => ⟨_, congrArg some h14, u, rfl, .inr ⟨D, _, .list ds, ds, I.dr.ext e1, g.fr (extN_frT e1), sh, rfl, by omega, r30, .inl ⟨i, lo.1, fun H2 dx s2 hx => ⟨C.by_.exm, fun e ne => ?_⟩⟩⟩⟩⟩
  have I2 := (I.ext e1 T1).sm s2
  have s3 := same_upd (o := ExI e (.ref BY) (some dx)) ne
  have hi : i < ds.length := by
    obtain ⟨⟨⟨z, h1, _⟩, _⟩, _⟩ := lo
    exact (List.getElem?_eq_some_iff.mp h1).1
  exact hN _ _ ⟨sx x 6 (some (.ref e)), lt, ts, .ref e, i, rfl, (I2.sm s3).set 6 _, h7, by omega, rfl, e, dx, rfl, upd_same, s3 _ _ hx⟩
theorem ste1 (C : Callees P w K mg base CS BS BT BY T) (hr : RL A s f cdv) (hg : A.guards = some []) : Step (XL P w K mg base f cdv A outer s H0 E) ((elseBody (lawSt 6)).getD 1 (.Pass ⟨0, 0, 0, 0⟩)) (JE BY T D n) (J1 T D n) := by
  have hgg : (A.deeper (envOfC "law" (defScope sLaw) s.heap.objs.size f cdv)).guards = some [] := hg
  refine ⟨_, ps_if (pw_or (pt_not (pt_val (pe_callB (call_isYK K C.by_.ex) (by rfl) C.N.bisi (by decide +kernel) (pa_cons (pv 6) (pa_cons (pe_glob (v := V.ref BY) (by rfl) C.by_.at_ rfl) pa_nil)))))
      (pw_or1 (pt_cmpR op_ne (pe_callB (call_reprG (P := P) (w := w) hgg hr.units C.t.mods) (by rfl) C.N.brep (by decide +kernel) (pa_cons (pe_xatK K (pv 6)) pa_nil)) (pe_callB (call_reprG (P := P) (w := w) hgg hr.units C.t.mods) (by rfl) C.N.brep (by decide +kernel) (pa_cons (pv 7) pa_nil)) (nomark _)))).pt
    (pss_one (ps_ret pe_bl)) pss_nil, ?_⟩
  rintro Dn σ H ⟨x, lt, ts, e, i, rfl, I, h7, hi, h6, a, dx, rfl, ha, hx⟩ hN
  obtain ⟨gw, sw⟩ := wOf_gd (P := P) (w := w) (D := D) (H := H) i hi
  refine ⟨_, congrArg some h6, a, dx, _, .ref BY, .ref BY, true, rfl, ha, hx, fun _ r => r, C.by_.kit, true, rfl, iteF ?_⟩
  exact ⟨_, congrArg some h6, a, BY, dx, _, .int (i : Nat), rfl, C.xf, C.no, ha, hx, rfl, _, D, _, rfl, gw, sw, _, congrArg some h7, _, D, _, rfl, gw, sw, rfl, _, rfl, no_ne (hN _ _ ⟨x, lt, ts, rfl, I⟩)⟩
theorem st6 (C : Callees P w K mg base CS BS BT BY T) (hr : RL A s f (.ref c)) (hg : A.guards = some []) (TB : LamX.TabB base mg c Pt) (hT : TOk T Pt) : LX P w K mg base f (.ref c) A outer s H0 E 6 (J5 T D n) (J1 T D n) := by
  obtain ⟨tA, pA, qA⟩ : StepS (XL P w K mg base f (.ref c) A outer s H0 E) [(thenBody (lawSt 6)).getD 0 (.Pass ⟨0, 0, 0, 0⟩), (thenBody (lawSt 6)).getD 1 (.Pass ⟨0, 0, 0, 0⟩)] (JN T D n) (J1 T D n) := steps_cons (stn0 C hr) (steps_cons (stn1 C hr hg) steps_nil)
  obtain ⟨tB, pB, qB⟩ : StepS (XL P w K mg base f (.ref c) A outer s H0 E) [(elseBody (lawSt 6)).getD 0 (.Pass ⟨0, 0, 0, 0⟩), (elseBody (lawSt 6)).getD 1 (.Pass ⟨0, 0, 0, 0⟩)] (JO T D n) (J1 T D n) := steps_cons (ste0 C hr TB hT) (steps_cons (ste1 C hr hg) steps_nil)
  refine ⟨_, ps_if (pt_cmpR op_isN1 (pv 7) pe_non (nomark _)) pA pB, ?_⟩
  rintro Dn σ H ⟨x, lt, ts, u, ds, o, rfl, I, h14, h7, g, lo, l3, h8⟩ hN
  refine ⟨_, congrArg some h7, rfl, _, rfl, ?_⟩
  cases o with
  | none => exact iteT (qA _ _ _ ⟨x, lt, ts, u, ds, rfl, I, h14, g, lo, l3, h8⟩ hN)
  | some i => exact iteF (qB _ _ _ ⟨x, lt, ts, u, ds, i, rfl, I, h14, h7, g, lo, l3⟩ hN)
def J7 (BY : Addr) (T : List (Addr × Str)) (D : DrA) (n : Nat) : L2.St → Hp → Prop := fun σ H => ∃ x lt ts e, σ = S x ∧ LI T D n lt ts x H ∧ x 6 = some e ∧ EY BY .non H e
theorem st7 (C : Callees P w K mg base CS BS BT BY T) (hr : RL A s f (.ref c)) (TB : LamX.TabB base mg c Pt) (hT : TOk T Pt) (hn : n + 1 ≤ B) : LX P w K mg base f (.ref c) A outer s H0 E 7 (J1 T D n) (J7 BY T D (n + 1)) := by
  refine ⟨_, ps_set (i := 6) scLaw.nd rfl (.inl rfl) (pe_caught (T := T) C.t.caught C.t.lane TB rfl (by exact hT.1) (by exact hT.2) (hr.mono (by decide : 22 ≤ 30)) (by rfl) (show LamS (defScope sLaw) _ from lamS_by (by decide +kernel)) rfl (fun _ _ _ _ _ => rfl)
      (fun A outer s H E f c' hr => pe_h C.so hr (by decide) (by rfl) passLam (pa_cons (pe_h C.GP hr (by decide) (by rfl) (E := C8.E0) pass0 (pa_cons (pv 13) (pa_cons (pe_lst (pa_cons pe_non (pa_cons pe_int (pa_cons pe_str (pa_cons pe_dnewK (pa_cons (pe_disp (pps_cons pe_str (pe_lst pa_nil) pps_nil) (by rfl) (by rfl) (fun z => by cases z) (by decide)) pa_nil)))))) pa_nil))) pa_nil))), ?_⟩
  rintro Dn σ H ⟨x, lt, ts, rfl, I⟩ hN
  refine ⟨I.tb, fun H1 e1 T1 => ⟨_, congrArg some I.x13, fun p2 n2 => ?_⟩⟩
  have I1 := I.ext e1 T1
  have s2 := same_upd (o := .dK []) n2
  have h2 : (upd H1 p2 (.dK [])) p2 = some (.dK []) := upd_same
  have o2 := I1.dr.off n2
  have I2 := I1.sm s2
  generalize upd H1 p2 (.dK []) = H2 at *
  intro p3 n3
  have h3 : (upd H2 p3 (.dK [])) p3 = some (.dK []) := upd_same
  have o3 := off_c I2.dr n3
  have d3 := I2.dr.new (o := .dK []) n3
  refine ⟨Nat.zero_le _, fun p4 n4 => ?_⟩
  have s4 := same_upd (o := .lst []) n4
  have d4 := d3.new (o := .lst []) n4
  refine ⟨s4 _ _ h3, [(.inr "a", .ref p4)], rfl, (by show 1 ≤ 15; decide), ?_⟩
  have s5 : Same H2 (upd (upd (upd H2 p3 (.dK [])) p4 (.lst [])) p3 (.dK (mergeK [] [((.inr "a" : Key), V.ref p4)]))) := same_put (sameT (same_upd n3) s4) n3
  have h5 : (upd (upd (upd H2 p3 (.dK [])) p4 (.lst [])) p3 (.dK (mergeK [] [((.inr "a" : Key), V.ref p4)]))) p3 = some (.dK (mergeK [] [((.inr "a" : Key), V.ref p4)])) := upd_same
  have I5 := I2.sm s5
  generalize upd (upd (upd H2 p3 (.dK [])) p4 (.lst [])) p3 (.dK (mergeK [] [((.inr "a" : Key), V.ref p4)])) = H5 at *
  refine ⟨(by show 5 ≤ sizeLine; decide), fun pl nl => ?_⟩
  have s6 := same_upd (o := .lst [.non, .int 5, .str "", .ref p2, .ref p3]) nl
  have h6 : (upd H5 pl (.lst [.non, .int 5, .str "", .ref p2, .ref p3])) pl = some (.lst [.non, .int 5, .str "", .ref p2, .ref p3]) := upd_same
  have o6 := I5.dr.off nl
  have I6 := I5.sm s6
  have k2 := s6 _ _ (s5 _ _ h2)
  have k3 := s6 _ _ h5
  generalize upd H5 pl (.lst [.non, .int 5, .str "", .ref p2, .ref p3]) = H6 at *
  refine ⟨D, _, pl, _, rfl, I6.dr, hn, h6, o6.2, (fun z => nomatch z), (by show 5 < 1073741824; decide), fun H7 i v ev d7 f7 => ?_⟩
  have I7 := I6.fr f7 d7
  have k2 := f7 _ _ k2 o2.1 o2.2
  have k3 := f7 _ _ k3 o3.1 o3.2.1
  have fin : ∀ H' dx, Same H7 H' → H' dx = some (.xd [("at", .non)]) → PySem.W.exmOne K (.ref BY) (.ref CS) = some true ∧ ∀ a, H' a = none → Dn.nx ((S x).set 6 (some (.ref a))) (upd H' a (ExI a (.ref BY) (some dx))) := fun H' dx s' hx => ⟨C.by_.exm, fun a na => by
    have sa := same_upd (o := ExI a (.ref BY) (some dx)) na
    exact hN _ _ ⟨sx x 6 (some (.ref a)), lt, ts, .ref a, rfl, ((I7.sm s').sm sa).set 6 _, rfl, a, dx, rfl, upd_same, sa _ _ hx⟩⟩
  refine ⟨v, rfl, .inl ⟨?_, fin⟩⟩
  match i, ev with
  | 0, ev => cases ev; exact ⟨_, fun H' s' => (Da.non (D := D)).ty, kit_listing K .none⟩
  | 1, ev => cases ev; exact ⟨_, fun H' s' => (Da.int (D := D) 5).ty, kit_listing K (.int 5)⟩
  | 2, ev => cases ev; exact ⟨_, fun H' s' => (Da.str (D := D) "").ty, kit_listing K (.str "")⟩
  | 3, ev => cases ev; exact ⟨_, fun H' s' => (Da.emp (D := D) (s' _ _ k2) o2.1 o2.2).ty, kit_listing K (.dict [])⟩
  | 4, ev => cases ev; exact ⟨_, fun H' s' => .base (.dK (s' _ _ k3)), kit_listing K (.dict [])⟩
  | n + 5, ev => simp at ev
theorem st8 (C : Callees P w K mg base CS BS BT BY T) (hr : RL A s f cdv) : LX P w K mg base f cdv A outer s H0 E 8 (J7 BY T D n) (J0 T D n) := by
  refine ⟨_, ps_if (pw_or (pt_not (pt_val (pe_callB (call_isYK K C.by_.ex) (by rfl) C.N.bisi (by decide +kernel) (pa_cons (pv 6) (pa_cons (pe_glob (v := V.ref BY) (by rfl) C.by_.at_ rfl) pa_nil)))))
      (pw_or1 (pt_cmpR op_notN1 (pe_xatK K (pv 6)) pe_non (nomark _)))).pt
    (pss_one (ps_ret pe_bl)) pss_nil, ?_⟩
  rintro Dn σ H ⟨x, lt, ts, e, rfl, I, h6, a, dx, rfl, ha, hx⟩ hN
  refine ⟨_, congrArg some h6, a, dx, _, .ref BY, .ref BY, true, rfl, ha, hx, fun _ r => r, C.by_.kit, true, rfl, iteF ?_⟩
  exact ⟨_, congrArg some h6, a, BY, dx, _, .non, rfl, C.xf, C.no, ha, hx, rfl, rfl, _, rfl, iteF (hN _ _ ⟨x, rfl, I.x13, I.dr, I.tb⟩)⟩
theorem law_lap (C : Callees P w K mg base CS BS BT BY T) (hr : RL A s f (.ref c)) (hg : A.guards = some []) (TB : LamX.TabB base mg c Pt) (hT : TOk T Pt) (hn : n + 9000 ≤ B) :
    StepS (XL P w K mg base f (.ref c) A outer s H0 E) (forBody ((defBody sLaw).getD 1 (.Pass ⟨0, 0, 0, 0⟩))) (J0 T D n) (J0 T D (n + 1651)) := by
  show StepS (XL P w K mg base f (.ref c) A outer s H0 E) [lawSt 0, lawSt 1, lawSt 2, lawSt 3, lawSt 4, lawSt 5, lawSt 6, lawSt 7, lawSt 8] (J0 T D n) (J0 T D (n + 1651))
  exact steps_cons (st0 C hr (by omega)) (steps_cons (st1 C hr (by omega)) (steps_cons (st2 C hr hg (by omega)) (steps_cons (st3 C hr TB hT (by omega)) (steps_cons (st4 C hr (by omega)) (steps_cons (st5 C hr hg) (steps_cons (st6 C hr hg TB hT) (steps_cons (st7 C hr TB hT (by omega)) (steps_cons (st8 C hr) steps_nil))))))))
def spLaw (K : PySem.W.Frag) (T : List (Addr × Str)) : Sp := fun vs H Q _ => ∃ (a : Addr) (ns : List Int), vs = [.ref a] ∧ SqL K H a (ns.map V.int) ∧ ns.length ≤ 63 ∧ Tabs T H ∧ ∀ H', Q (.bl true) H'
theorem asc_nil {ys : List Str} (h : AscOf [] ys) : ys = [] := by
  cases ys with
  | nil => rfl
  | cons y r =>
    have := (h.2.2 y).mp (List.mem_cons_self ..)
    simp at this
theorem law_body (C : Callees P w K mg base CS BS BT BY T) (hr : RL A s f (.ref c)) (hg : A.guards = some []) (TB : LamX.TabB base mg c Pt) (hT : TOk T Pt) {vs : List V} {Q : VK} (h : spLaw K T vs H0 Q E) :
    ∃ t, PSs (XL P w K mg base f (.ref c) A outer s H0 E) (defBody sLaw) t ∧ t { nx := fun _ H' => Q .non H', rt := Q } (L2.start nLaw vs) H0 := by
  obtain ⟨a, ns, rfl, hS, hl, tb, q⟩ := h
  have hgg : (A.deeper (envOfC "law" (defScope sLaw) s.heap.objs.size f (.ref c))).guards = some [] := hg
  obtain ⟨tB, hB, rB⟩ := steps_all (ι := { p : DrA × Nat // p.2 + 9000 ≤ B }) (I := fun p => J0 T p.1.1 p.1.2) (J := fun p => J0 T p.1.1 (p.1.2 + 1651)) fun p => law_lap (P := P) (w := w) (outer := outer) (s := s) (H0 := H0) (E := E) (f := f) C hr hg TB hT p.2
  refine ⟨_, pss_cons (ps_set (i := 13) scLaw.nd rfl (.inr rfl) (pe_h C.GB hr (by decide) (by rfl) (E := C8.E0) pass0 (pa_cons (pv 0) pa_nil)))
    (pss_cons (ps_for PassesOwn.never rfl (pi_range1 (by rfl) C.N.brng (pa_cons (pe_op op_add pe_int (pe_callB (call_min2 rfl) (by rfl) C.N.bmin (by decide +kernel) (pa_cons (pe_callB call_len_seq (by rfl) C.N.blen PySem.boot_len (pa_cons (pv 0) pa_nil)) (pa_cons pe_int pa_nil)))) pa_nil)) (pg_name (i := 1) scLaw.nd rfl (.inl rfl)) hB)
    (pss_one (ps_ret (pe_and (pe_cmpR (op_eqD hr.units) (pe_h C.t.fn hr (by decide) (by rfl) passL (pa_cons (pe_tup (pa_cons pe_str (pa_cons (pe_tup pa_nil) pa_nil))) pa_nil)) (pe_tup pa_nil) (nomark _))
      (pe_one (pe_cmpR op_eq (pe_callB (call_reprG (P := P) (w := w) hgg hr.units C.t.mods) (by rfl) C.N.brep (by decide +kernel) (pa_cons (pe_h C.t.re hr (by decide) (by rfl) passL (pa_cons (pe_tup (pa_cons pe_str (pa_cons (pe_tup pa_nil) pa_nil))) pa_nil)) pa_nil)) pe_str (nomark _))))))), ?_⟩
  refine ⟨_, rfl, a, ns, rfl, hS, hl, fun H1 D s1 d1 _ _ => ?_⟩
  obtain ⟨m, hm, hm0, hm1⟩ : ∃ m : Int, m = (if (6 : Int) < ((ns.map V.int).length : Int) then 6 else ((ns.map V.int).length : Int)) ∧ 0 ≤ m ∧ m ≤ 6 := by
    refine ⟨_, rfl, ?_, ?_⟩ <;> split <;> omega
  refine ⟨_, rfl, a, _, rfl, .inl (s1.seq hS), _, _, rfl, ?_⟩
  rw [← hm]
  refine ⟨_, _, rfl, rfl, 2 + m, rfl, by omega, by omega, for_range (fun i σ H' => J0 T D (i * 1651) σ H') ⟨sx (sx (fun _ => none) 0 (some (.ref a))) 13 (some (.ref D.d)), rfl, rfl, d1.mono (by omega), tb.ext s1⟩ ?_ ?_⟩
  · rintro i σ H' hi ⟨x, rfl, h1, d, t⟩
    have hi : i < 8 := by omega
    have hb : i * 1651 + 9000 ≤ B := by unfold B; omega
    refine rB ⟨(D, i * 1651), hb⟩ _ _ _ ⟨sx x 1 (some (.int (0 + (i : Int)))), rfl, h1, d, t⟩ fun σ' H'' h => ?_
    have e : (i + 1) * 1651 = i * 1651 + 1651 := by omega
    show J0 T D ((i + 1) * 1651) σ' H''
    rw [e]
    exact h
  · rintro σ H' ⟨x, rfl, h1, d, t⟩
    -- free_names(('and', ())) == ()
    refine ⟨Nat.zero_le _, fun p1 n1 => ?_⟩
    obtain ⟨s1', d1', g1⟩ := tup_da d .nil n1
    refine ⟨(by show 2 ≤ sizeLine; decide), fun p2 n2 => ?_⟩
    obtain ⟨s2, d2, g2⟩ := tup_da d1' (.cons (.str "and") (.cons g1 .nil)) n2
    have akA : Askd 12 (.tuple [.str "and", .tuple []]) := ⟨by decide +kernel, fun _ => by decide +kernel, by decide +kernel, by decide +kernel⟩
    have nmA : namesN 12 (.tuple [.str "and", .tuple []]) = [] := by rw [names_many (.inl rfl)]; rfl
    refine ⟨D, _, .ref p2, _, 12, rfl, d2, g2, akA, Nat.le_refl _, .inl ⟨by decide +kernel, by rw [nmA]; decide, fun H3 R ys nR as hR s3 => ?_⟩⟩
    rw [nmA] at as
    obtain rfl := asc_nil as
    have d3 := d2.sm s3
    refine ⟨Nat.zero_le _, fun p4 n4 => ?_⟩
    have s4 := same_upd (o := .tup []) n4
    refine ⟨.tuple [], .tuple [], .tup (SqT.of (s4 _ _ hR)) .nil, .tup (SqT.of upd_same) .nil, by decide +kernel, by decide +kernel, _, rfl, ?_⟩
    rw [show PyData.eqv (.tuple []) (.tuple []) = true by decide +kernel]
    refine iteT ?_
    -- repr(reach(('or', ()))) == '0'
    have d4 := d3.sm s4
    refine ⟨Nat.zero_le _, fun p5 n5 => ?_⟩
    obtain ⟨s5, d5, g5⟩ := tup_da d4 .nil n5
    refine ⟨(by show 2 ≤ sizeLine; decide), fun p6 n6 => ?_⟩
    obtain ⟨s6, d6, g6⟩ := tup_da d5 (.cons (.str "or") (.cons g5 .nil)) n6
    have akO : Askd 12 (.tuple [.str "or", .tuple []]) := ⟨by decide +kernel, fun _ => by decide +kernel, by decide +kernel, by decide +kernel⟩
    have nmO : namesN 12 (.tuple [.str "or", .tuple []]) = [] := by rw [names_many (.inr rfl)]; rfl
    refine ⟨D, _, .ref p6, _, 12, rfl, d6, g6, akO, Nat.le_refl _, .inl ⟨by decide +kernel, by rw [nmO]; decide, by decide +kernel, fun H7 ys as s7 => ?_⟩⟩
    rw [nmO] at as
    obtain rfl := asc_nil as
    have e0 : reachN 12 (.tuple [.str "or", .tuple []]) [] = 0 := by
      unfold reachN
      exact Int.zero_mul _
    rw [e0]
    obtain ⟨gw, sw⟩ := wOf_gd (P := P) (w := w) (D := D) (H := H7) 0 (by decide)
    refine ⟨_, D, _, rfl, gw, sw, rfl, ?_⟩
    have e1 : (PyData.int ((0 : Nat) : Int)).shown = "0" := by decide +kernel
    rw [e1]
    exact q _
end
end Lm
/-! As Own9, and the run may use that sys.modules is an object. -/
namespace Lm
open PySem PySem.Spec PyProof.Rows L2 LamX
/-- the run of the law's def at fa, called by the row's own caller; cs: code objects and their tables -/
def RunAts (P : Program) (w : World) (K : PySem.W.Frag) (mg : Str → Option Value) (fa a : Addr) (cs : List (Addr × Addr)) (ns : List Int) (s : Shared) : Prop :=
  ∀ (base : Heap) (H : Hp), K.In base → base.Ns mainGlobals mg → (∃ u, base.get? sysModules = some u) → (∀ p ∈ cs, LamX.TabB base mg p.1 p.2) → Env0 P w K mg base callerA [] s H → (∀ p ∈ cs, H p.2 = some (.tbl #[])) → SqL K H a (ns.map V.int) →
    codeAny (model P w) callerA (.call (.ref fa) ⟨[.ref a], []⟩) (CR C8.CX0 [] P w H s (fun v _ => v = .bl true) fun _ _ _ => False) s
/-- b is one of the tables -/
def InT (cs : List (Addr × Addr)) (b : Addr) : Prop := ∃ p ∈ cs, p.2 = b
instance (cs : List (Addr × Addr)) (b : Addr) : Decidable (InT cs b) := by unfold InT; exact inferInstance
section
variable {P : Program} {w : World} {K : PySem.W.Frag} {mg mb : Str → Option Value} {fa a : Addr} {cs : List (Addr × Addr)} {s : Shared} {vs : List Value} {ns : List Int}
theorem ends_core (inK : K.In s.heap) (nsG : s.heap.Ns mainGlobals mg) (nsB : s.heap.Ns builtinsNs mb) (boot : ∀ x : Str, x ≠ "__name__" → mb x = bootBuiltins x) (lim : s.heap.NoLimit) (gens : s.gens = #[]) (mods : ∃ mm, s.heap.Ns sysModules mm)
    (tab : ∀ p ∈ cs, s.heap.get? p.2 = some { cls := .none, data := .fields #[] }) (tabK : ∀ p ∈ cs, K.lookup p.2 = none) (code : ∀ p ∈ cs, PySem.W.CodeHd s.heap p.1 p.2) (bmod : ∃ (bm : Addr) (ob : Obj), mg "__builtins__" = some (.ref bm) ∧ bm ≠ builtinsNs ∧ s.heap.get? bm = some ob ∧ ob.cls = .type "module" ∧ ob.dict = some builtinsNs ∧ ob.data = .plain)
    (scr : s.heap.get? a = some { cls := .type "list", data := .seq vs.toArray }) (run : RunAts P w K mg fa a cs ns s)
    (H : Hp) (hP : ∀ p ∈ cs, H p.2 = some (.tbl #[])) (hA : H a = none ∨ ∃ o xs, H a = some (.frz o (.lst xs))) (hS : SqL K H a (ns.map V.int)) (ok : HOk P w H s.heap) (only : ∀ b, H b ≠ none → b = a ∨ InT cs b) (aK : H a ≠ none → K.lookup a = none) :
    codeAny (model P w) callerA (.call (.ref fa) ⟨[.ref a], []⟩) (fun r s' => r = .ok (.ret (.bool true)) ∧ OldK s.heap s'.heap ∧ s'.os = s.os ∧ AllBare s'.gens) s := by
  have tabI : ∀ {b : Addr}, InT cs b → s.heap.get? b = some { cls := .none, data := .fields #[] } := fun ⟨p, hp, e⟩ => e ▸ tab p hp
  have out : ∀ {b : Addr}, b ≠ a → ¬ InT cs b → H b = none := fun {b} h1 h2 => by
    cases q : H b with
    | none => rfl
    | some u => exact ((only b (by rw [q]; exact Option.some_ne_none u)).elim h1 h2).elim
  have seen : ∀ {b : Addr} {o : Obj}, s.heap.get? b = some o → b ≠ a → ¬ InT cs b → (hidT s.heap H).get? b = some o := fun e h1 h2 => hidT_get e (out h1 h2)
  have offA : ∀ {b : Addr} {o : Obj}, s.heap.get? b = some o → (∀ vs n, o.data ≠ .seq vs n) → b ≠ a := fun e h z => by
    rw [z, scr] at e
    injection e with e
    exact h _ _ (congrArg Obj.data e).symm
  have offP : ∀ {b : Addr} {o : Obj}, s.heap.get? b = some o → o.data ≠ .fields #[] → ¬ InT cs b := fun e h z => by
    rw [tabI z] at e
    injection e with e
    exact h (congrArg Obj.data e).symm
  have dicts : ∀ {b : Addr} {m : Str → Option Value}, s.heap.Ns b m → ¬ InT cs b ∧ (hidT s.heap H).Ns b m := fun ⟨o, es, ep, e, d, r⟩ => by
    have hp := offP e (by rw [d]; intro z; cases z)
    exact ⟨hp, o, es, ep, seen e (offA e (by rw [d]; intro _ _ z; cases z)) hp, d, r⟩
  have frag : K.In (hidT s.heap H) := by
    intro b o e
    have g := inK b o e
    by_cases hb : InT cs b
    · obtain ⟨p, hp, ep⟩ := hb
      rw [← ep, tabK p hp] at e
      cases e
    · by_cases ha : b = a
      · by_cases hn : H a = none
        · exact hidT_get g (by rw [ha]; exact hn)
        · rw [ha, aK hn] at e
          cases e
      · exact seen g ha hb
  have world : L2.Mod K mg (hidT s.heap H) := by
    obtain ⟨mc, l1, l2⟩ := lim
    exact ⟨frag, (dicts nsG).2, ⟨mb, (dicts nsB).2, boot⟩, ⟨mc, (dicts l1).2, l2⟩⟩
  have tables : ∀ p ∈ cs, LamX.TabB (hidT s.heap H) mg p.1 p.2 := by
    intro p hp
    refine ⟨?_, ?_, fun z => (dicts nsG).1 ⟨p, hp, z.symm⟩⟩
    · obtain ⟨o, us, z1, z2, z3, z4, z5, z6, z7, e, y1, y2, y3, y4⟩ := code p hp
      refine ⟨o, us, z1, z2, z3, z4, z5, z6, z7, seen e (offA e ?_) (offP e ?_), y1, y2, y3, y4⟩
      · intro _ _ z
        rw [y2] at z
        cases z
      · intro z
        rw [y2] at z
        injection z with z
        rw [z] at y3
        simp at y3
    · obtain ⟨bm, ob, b1, b2, b3, b4, b5, b6⟩ := bmod
      have hp' := offP b3 (by rw [b6]; intro z; cases z)
      refine ⟨bm, ob, b1, b2, ?_, fun z => hp' ⟨p, hp, z.symm⟩, seen b3 (offA b3 (by rw [b6]; intro _ _ z; cases z)) hp', b4, b5, b6⟩
      intro z
      obtain ⟨o, es, ep, e, d, _⟩ := nsG
      rw [← z, b3] at e
      injection e with e
      rw [← e, b6] at d
      cases d
  have env : Env0 P w K mg (hidT s.heap H) callerA [] s H :=
    ⟨rfl, world, fun _ _ e => of_hidT e, Nat.le_of_eq (hidT_size s.heap H), trivial, (fun _ z => nomatch z), ok, AllBare.of_eq gens⟩
  refine codeAny_mono (run _ H frag (dicts nsG).2 (let ⟨mm, hm⟩ := mods; let ⟨o, _, _, e, _⟩ := (dicts hm).2; ⟨o, e⟩) tables env hP hS) ?_
  intro r s' hr
  match r, hr with
  | .ok (.ret u), hr =>
    obtain ⟨_, H', os, bare, un, ok', r', rfl⟩ := hr
    obtain rfl : u = Value.bool true := r'
    have kept : ∀ b o, ¬ InT cs b → s.heap.get? b = some o → s'.heap.get? b = some o := by
      intro b o hb e
      by_cases ha : b = a
      · rcases hA with hn | ⟨o1, xs, hf⟩
        · exact un.keep b o e (by rw [ha]; exact hn) (fun z => nomatch (show b ∈ ([] : List Addr) from z)) (fun z => nomatch z)
        · have e1 := (ok a _ hf).1
          have e2 := (ok' a _ (un.frzs a o1 _ hf)).1
          rw [ha] at e ⊢
          rw [e1] at e
          rw [e2, ← e]
      · exact un.keep b o e (out ha hb) (fun z => nomatch (show b ∈ ([] : List Addr) from z)) (fun z => nomatch z)
    have grown : ∀ p ∈ cs, ∃ more : Array Value, s'.heap.get? p.2 = some { cls := .none, data := .fields more } := by
      intro p hp
      obtain ⟨more, hm⟩ := un.tbls p.2 #[] (hP p hp)
      exact ⟨_, ok' p.2 _ hm⟩
    refine ⟨rfl, ⟨fun b o e => ?_, fun b o e => ?_⟩, os, bare⟩
    · by_cases hb : InT cs b
      · obtain ⟨p, hp, rfl⟩ := hb
        obtain ⟨more, g⟩ := grown p hp
        rw [tab p hp] at e
        injection e with e
        subst e
        exact .inr (.inl ⟨((code p hp).tab (tab p hp)).isCodeTable, rfl, #[], more, rfl, by rw [Array.empty_append]; exact g⟩)
      · exact .inl (kept b o hb e)
    · by_cases hb : InT cs b
      · obtain ⟨p, hp, rfl⟩ := hb
        obtain ⟨more, g⟩ := grown p hp
        exact ⟨_, g⟩
      · exact ⟨o, kept b o hb e⟩
  | .ok .next, hr => exact hr.elim
  | .ok .brk, hr => exact hr.elim
  | .ok .cont, hr => exact hr.elim
  | .error e, hr => exact hr.elim
/-- from what the head leaves -/
theorem ends_run (inK : K.In s.heap) (nsG : s.heap.Ns mainGlobals mg) (nsB : s.heap.Ns builtinsNs mb) (boot : ∀ x : Str, x ≠ "__name__" → mb x = bootBuiltins x) (lim : s.heap.NoLimit) (gens : s.gens = #[]) (mods : ∃ mm, s.heap.Ns sysModules mm)
    (tab : ∀ p ∈ cs, s.heap.get? p.2 = some { cls := .none, data := .fields #[] }) (tabK : ∀ p ∈ cs, K.lookup p.2 = none) (code : ∀ p ∈ cs, PySem.W.CodeHd s.heap p.1 p.2) (bmod : ∃ (bm : Addr) (ob : Obj), mg "__builtins__" = some (.ref bm) ∧ bm ≠ builtinsNs ∧ s.heap.get? bm = some ob ∧ ob.cls = .type "module" ∧ ob.dict = some builtinsNs ∧ ob.data = .plain)
    (scr : s.heap.get? a = some { cls := .type "list", data := .seq vs.toArray }) (hni : IntsAre vs ns) (len : ns.length ≤ sizeLine) (run : RunAts P w K mg fa a cs ns s) :
    codeAny (model P w) callerA (.call (.ref fa) ⟨[.ref a], []⟩) (fun r s' => r = .ok (.ret (.bool true)) ∧ OldK s.heap s'.heap ∧ s'.os = s.os ∧ AllBare s'.gens) s := by
  have rv := vals_ints hni
  have lv := hni.length
  have aP : ¬ InT cs a := fun ⟨p, hp, e⟩ => by
    have h := tab p hp
    rw [e, scr] at h
    injection h with z
    have z := congrArg Obj.data z
    cases z
  have inI : ∀ p ∈ cs, InT cs p.2 := fun p hp => ⟨p, hp, rfl⟩
  cases hk : K.lookup a with
  | some o =>
    have e := inK a o hk
    rw [scr] at e
    cases e
    refine ends_core inK nsG nsB boot lim gens mods tab tabK code bmod scr run (fun b => if InT cs b then some (.tbl #[]) else none) (fun p hp => if_pos (inI p hp)) (.inl (if_neg aP)) ?_ (fun b u z => ?_) (fun b z => ?_) (fun z => absurd (if_neg aP) z)
    · exact .inr ⟨_, vs.toArray, _, hk, rfl, rfl, rfl, by rw [List.size_toArray, lv]; exact len, by simpa using rv⟩
    · have z : (if InT cs b then some (HO.tbl #[]) else none) = some u := z
      by_cases hb : InT cs b
      · rw [if_pos hb] at z
        cases z
        obtain ⟨p, hp, rfl⟩ := hb
        exact tab p hp
      · rw [if_neg hb] at z
        cases z
    · by_cases hb : InT cs b
      · exact .inr hb
      · exact absurd (if_neg hb) z
  | none =>
    refine ends_core inK nsG nsB boot lim gens mods tab tabK code bmod scr run (fun b => if b = a then some (.frz { cls := .type "list", data := .seq vs.toArray } (.lst (ns.map V.int))) else if InT cs b then some (.tbl #[]) else none)
      (fun p hp => (if_neg (fun (z : p.2 = a) => aP (z ▸ inI p hp))).trans (if_pos (inI p hp))) (.inr ⟨_, _, if_pos rfl⟩) (.inl (.inr ⟨_, if_pos rfl⟩)) (fun b u z => ?_) (fun b z => ?_) (fun _ => hk)
    · have z : (if b = a then some (HO.frz { cls := .type "list", data := .seq vs.toArray } (.lst (ns.map V.int))) else if InT cs b then some (.tbl #[]) else none) = some u := z
      by_cases ha : b = a
      · subst ha
        rw [if_pos rfl] at z
        cases z
        exact ⟨scr, by rw [List.length_map]; exact len, vs, _, rv, scr⟩
      · rw [if_neg ha] at z
        by_cases hb : InT cs b
        · rw [if_pos hb] at z
          cases z
          obtain ⟨p, hp, rfl⟩ := hb
          exact tab p hp
        · rw [if_neg hb] at z
          cases z
    · by_cases ha : b = a
      · exact .inl ha
      · by_cases hb : InT cs b
        · exact .inr hb
        · exact absurd ((if_neg ha).trans (if_neg hb)) z
end
end Lm
/-! The end of k06: the tables of two defs, the promises, what the law calls (made by gen_x06.py from X41, X42, PE41, F41b). -/
namespace Lm
open PySem PySem.Spec PyProof.Rows L2 LamX
/-- the fields of a code object that a lambda's making reads -/
def CodeF (vs : Array Value) (Pt : Addr) : Prop := ∃ file tf flags tg inF text tt, vs[11]? = some (.ref Pt) ∧ vs.getD 11 .none = .ref Pt ∧ vs.getD 18 .none = .str file tf ∧ vs.getD 7 .none = .int flags tg ∧ vs.getD 9 .none = .bool inF ∧ vs.getD 10 .none = .int text tt
/-- the def of the name x, its code object and its table, as the head leaves them -/
structure DefC (K : PySem.W.Frag) (mg : Str → Option Value) (x : Str) (fa c Pt : Addr) : Prop where
  ex : ∃ (o : Obj) (fd : FuncData) (dd : Option Addr) (vs : Array Value) (sl : Array (Option Value)), mg x = some (.ref fa) ∧ K.lookup fa = some o ∧ o.data = .func fd ∧ fd.code = .ref c ∧ K.lookup c = some ⟨.type "code", dd, .fields vs, sl⟩ ∧ CodeF vs Pt ∧ c ≠ Pt ∧ K.lookup Pt = none
theorem walk_guards {l : PySem.W.OpenLaw} {n : Nat} {q : Program} {loose : List Str} {XP : (Str → Option Value) → Heap → Prop} {YP : World → Heap → Prop} {d : DefRec} {x2 : Str} {K : Params → PySem.W.Frag} (most : l.most = some n) (fits : n ≤ sizeLine) (plain : d.params.defaults = [])
    (isRec : ((recsOf q).any fun e => e.name == d.name) = true) (isRec2 : ((recsOf q).any fun e => e.name == x2) = true) (imp : importsNone q = true) (hY : ∀ (w : World) (h : Heap), YP w h → (K w.params).In h)
    (F : ∀ (w : World) (mg : Str → Option Value) (fa : Addr) (h : Heap), (K w.params).In h → h.Ns mainGlobals mg → mg d.name = some (.ref fa) →
      ∃ (c Pt fu cu Pu : Addr), DefC (K w.params) mg d.name fa c Pt ∧ DefC (K w.params) mg x2 fu cu Pu ∧ ∀ (s : Shared) (a : Addr) (ns : List Int), ns.length ≤ n → RunAts l.prog w (K w.params) mg fa a [(c, Pt), (cu, Pu)] ns s) :
    PySem.W.WalkO q loose XP YP l.row.toRowW d [] (fun f vs => PySem.call f vs) := by
  refine Att.attach_callB most plain ?_
  intro w s₀ s mg mb fa o pm cd doc a vs ns G Y ho hd hcd hmg hobj hints hlen hbits hg
  have inK := hY w _ Y
  obtain ⟨c, Pt, fu, cu, Pu, D1, D2, run⟩ := F w mg fa _ inK G.T.g hmg
  have one : ∀ {x : Str} {fb c Pt : Addr}, ((recsOf q).any fun e => e.name == x) = true → DefC (K w.params) mg x fb c Pt → PySem.W.CodeHd s.heap c Pt ∧ s.heap.get? Pt = some { cls := .none, data := .fields #[] } ∧ (K w.params).lookup Pt = none := by
    intro x fb c Pt ir D
    obtain ⟨o1, fd, dd, us, sl, k0, k1, k2, k3, k4, cf, cP, kP⟩ := D.ex
    obtain ⟨file, tf, flags, tg, inF, text, tt, r1, r2, r3, r4, r5, r6⟩ := cf
    refine ⟨⟨_, us, file, tf, flags, tg, inF, text, tt, inK _ _ k4, rfl, rfl, r1, r2, r3, r4, r5, r6, cP⟩, ?_, kP⟩
    obtain ⟨e, hm, he⟩ := List.any_eq_true.mp ir
    obtain ⟨b, o2, fd2, c2, P2, h1, h2, h3, h4, h5, ⟨oc, vc, e1, _, e3, e4⟩, hP⟩ := G.T.tab e hm
    have he : e.name = x := beq_iff_eq.mp he
    rw [he, k0] at h1
    injection h1 with h1
    injection h1 with h1
    subst h1
    rw [inK _ _ k1] at h2
    injection h2 with h2
    subst h2
    rw [k2] at h3
    injection h3 with h3
    subst h3
    rw [k3] at h4
    injection h4 with h4
    subst h4
    rw [inK _ _ k4] at e1
    injection e1 with e1
    subst e1
    injection e3 with e3
    subst e3
    rw [r1] at e4
    injection e4 with e4
    injection e4 with e4
    rw [e4]
    exact hP
  obtain ⟨a1, a2, a3⟩ := one isRec D1
  obtain ⟨b1, b2, b3⟩ := one isRec2 D2
  have all : ∀ {Z : Addr × Addr → Prop}, Z (c, Pt) → Z (cu, Pu) → ∀ p ∈ [(c, Pt), (cu, Pu)], Z p := fun z1 z2 p hp => by
    rcases List.mem_cons.mp hp with rfl | hp
    · exact z1
    · rw [List.mem_singleton.mp hp]
      exact z2
  exact ends_run inK G.T.g G.T.b G.T.builtins G.T.nolimit hg (let ⟨mm, h, _⟩ := (G.T.seer imp).mods; ⟨mm, h⟩) (all (Z := fun p => s.heap.get? p.2 = some { cls := .none, data := .fields #[] }) a2 b2) (all (Z := fun p => (K w.params).lookup p.2 = none) a3 b3) (all (Z := fun p => PySem.W.CodeHd s.heap p.1 p.2) a1 b1) G.T.bmain hobj hints (Nat.le_trans hlen fits) (run s a ns hlen)
/-! ### the defs where the head leaves them -/
structure At (K : PySem.W.Frag) (mg : Str → Option Value) (x : Str) (st : Stmt) : Prop where
  ex : ∃ (f : Addr) (fd : FuncData), mg x = some (.ref f) ∧ Fun K x x st f fd
theorem at_mk {K : PySem.W.Frag} {h : Heap} {mg : Str → Option Value} {x : Str} {st : Stmt} {f : Addr} {oc kV doc pm cdv ct : Value} {od an : Option Addr} {osl : Array (Option Value)} (X : K.In h) (G : h.Ns mainGlobals mg) (a : PySem.W.nsIn K mainGlobals x = some (some (.ref f)))
    (l : K.lookup f = some ⟨oc, od, .func (PySem.W.fnOf x x (defArgs st) (defBody st) (defScope st) .none kV doc pm an cdv ct), osl⟩) (c : PySem.W.codeIn K cdv x = true) (k : PySem.W.keepIn K (.ref f) = true) : At K mg x st :=
  ⟨f, _, PySem.W.mg_of X G a, fun_mk l c k⟩
theorem has_of {P : Program} {w : World} {K : PySem.W.Frag} {mg : Str → Option Value} {base : Heap} {CX : CXT} {k : Nat} {x : Str} {st : Stmt} {ps : List Str} {sp : Sp} (h : At K mg x st) (b : ∀ f fd, Fun K x x st f fd → L2.Binds K fd ps []) (ok : ∀ f fd, Fun K x x st f fd → FnOk P w K mg base CX k f fd ps sp) :
    Has P w K mg base CX k x ps sp := by
  obtain ⟨f, fd, m, F⟩ := h.ex
  exact ⟨f, fd, m, F.kp, b f fd F, ok f fd F⟩
theorem bl_mk {K : PySem.W.Frag} {h : Heap} {mg : Str → Option Value} (X : K.In h) (G : h.Ns mainGlobals mg) (z1 : PySem.W.nsIn K mainGlobals "int" = some none) (z2 : PySem.W.nsIn K mainGlobals "len" = some none) (z3 : PySem.W.nsIn K mainGlobals "isinstance" = some none) (z4 : PySem.W.nsIn K mainGlobals "bool" = some none)
    (z5 : PySem.W.nsIn K mainGlobals "tuple" = some none) (z6 : PySem.W.nsIn K mainGlobals "list" = some none) (z7 : PySem.W.nsIn K mainGlobals "str" = some none) (z8 : PySem.W.nsIn K mainGlobals "max" = some none) (z9 : PySem.W.nsIn K mainGlobals "range" = some none)
    (z10 : PySem.W.nsIn K mainGlobals "abs" = some none) (z11 : PySem.W.nsIn K mainGlobals "all" = some none) (z12 : PySem.W.nsIn K mainGlobals "min" = some none) (z13 : PySem.W.nsIn K mainGlobals "repr" = some none)
    (z14 : PySem.W.nsIn K mainGlobals "any" = some none) (z15 : PySem.W.nsIn K mainGlobals "sorted" = some none) (z16 : PySem.W.nsIn K mainGlobals "enumerate" = some none) : Bl mg :=
  ⟨PySem.W.mg_none_of X G z1, PySem.W.mg_none_of X G z2, PySem.W.mg_none_of X G z3, PySem.W.mg_none_of X G z4, PySem.W.mg_none_of X G z5, PySem.W.mg_none_of X G z6, PySem.W.mg_none_of X G z7, PySem.W.mg_none_of X G z8, PySem.W.mg_none_of X G z9, PySem.W.mg_none_of X G z10, PySem.W.mg_none_of X G z11, PySem.W.mg_none_of X G z12, PySem.W.mg_none_of X G z13,
    PySem.W.mg_none_of X G z14, PySem.W.mg_none_of X G z15, PySem.W.mg_none_of X G z16⟩
def clsBody : Stmt → List Stmt
  | .ClassDef (body := b) .. => b
  | _ => []
abbrev sIni : Stmt := (clsBody (topS 2)).getD 0 (.Pass ⟨0, 0, 0, 0⟩)
theorem txt_ini : InitTxt sIni "at" := ⟨rfl, ⟨_, _, _, _, _, _, _, _, _, _, _, _, _, _, _, ⟨0, 0, 0, 0⟩, rfl, Nat.le_of_ble_eq_true rfl, fun env => ⟨_, rfl⟩⟩, rfl, _, _, rfl, rfl⟩
/-- the law's own defs -/
structure Defs (K : PySem.W.Frag) (mg : Str → Option Value) : Prop where
  led : At K mg "_law_led" sLed
  begun : At K mg "_law_begun" sBegun
  pick : At K mg "_law_pick" sPick
  caught : At K mg "_law_caught" sCaught
  whole : At K mg "_law_is_whole" sWholeL
  odd : At K mg "_law_odd" sOd
  take : At K mg "_law_take" sTake
  mixed : At K mg "_law_mixed" sMixed
  few : At K mg "_law_few_of" sFew
  shuf : At K mg "_law_shuffled" sShuf
  says : At K mg "_law_says" sSays
  sr : At K mg "_law_said_row" sSR
  sd : At K mg "_law_said" sSd
  rs : At K mg "_law_rows_said" sRS
  mb : At K mg "_law_many_bound" sMB
  big : At K mg "_law_is_big" sBig
  ti : At K mg "_law_titles_in" sTI
  step : At K mg "_law_step_of" sStep
  bent : At K mg "_law_bent" sBt
  title : At K mg "_law_is_title" sTitle
  side : At K mg "_law_is_one_side" sSide
  is : At K mg "_law_is_said" sIS
  tm : At K mg "_law_terms" sTm
  bterms : At K mg "_law_bad_terms" sBT
  ll : At K mg "_law_lists" sLL
/-- the program's defs -/
structure PDefs (K : PySem.W.Frag) (mg : Str → Option Value) : Prop where
  number : At K mg "is_number" sNumber
  listing : At K mg "is_listing" sListing
  tupOf : At K mg "is_tuple_of" sTupOf
  namesOf : At K mg "names_of" sNO
  rowName : At K mg "is_row_name" sRowName
  row : At K mg "is_row" sRow
  sys : At K mg "is_system" sSys
  saidName : At K mg "is_said_name" sSaidName
  boundName : At K mg "is_bound_name" sBoundName
  freeName : At K mg "is_free_name" sFreeName
  fits : At K mg "fits" sFits
  srow : At K mg "is_said_row" sSRow
  binds : At K mg "binds" sBinds
  names : At K mg "names_in" sNames
  free : At K mg "free_in" sFree
  bound : At K mg "bound_in" sBoundIn
  wt : At K mg "with_terms" sWT
  rw : At K mg "row_with" sRW
  said1 : At K mg "said" sSaid1
  oo : At K mg "one_of" sOO
  saying : At K mg "is_saying" sSaying
  ckS : At K mg "check_saying" sCkS
  fn : At K mg "free_names" sFN
  term : At K mg "is_term" sTerm
  pt : At K mg "put_terms" sPT
  so : At K mg "saying_of" sSO
  great : At K mg "greatest_number" sGreat
  reach : At K mg "reach" sReach
section
variable {P : Program} {w : World} {K : PySem.W.Frag} {mg : Str → Option Value} {base : Heap}
theorem hasK_of {CX : CXT} {k : Nat} {x : Str} {st : Stmt} {ps ks : List Str} {sp : Sp} (h : At K mg x st)
    (to : ∀ (kV doc pm : Value) (an : Option Addr) (cdv ct : Value) (ws : List Value), ws.length = ks.length → bindArgs (PySem.W.fnOf x x (defArgs st) (defBody st) (defScope st) .none kV doc pm an cdv ct) ⟨[], ks.zip ws⟩ = pure (ps.zip ws.reverse))
    (ok : ∀ f fd, Fun K x x st f fd → FnOk P w K mg base CX k f fd ps sp) : HasK P w K mg base CX k x ps ks List.reverse sp := by
  obtain ⟨f, fd, m, F⟩ := h.ex
  have ok' := ok f fd F
  have kp := F.kp
  obtain ⟨oc, od, kV, doc, pm, an, cdv, ct, osl, rfl, lk, hcd⟩ := F.ex
  refine ⟨f, _, fun _ ws => ws.reverse, m, kp, ⟨fun s us ws inK hu hw => ?_, fun r rz => rz.reverse⟩, ok'⟩
  cases us with
  | nil => exact .of_eq (to kV doc pm an cdv ct ws hw)
  | cons _ _ => cases hu
/-- an own exception class, as the head leaves it -/
structure XFacts (K : PySem.W.Frag) (x : Str) (CS C : Addr) : Prop where
  a : PySem.W.nsIn K mainGlobals x = some (some (.ref C))
  h1 : PySem.W.findIn K (.ref C) "__getattribute__" = some (some (.builtin "BaseException.__getattribute__"))
  h2 : PySem.W.findIn K (.ref C) "__getattr__" = some none
  h3 : PySem.W.subIn K (.ref C) (.type "BaseException") = some true
  h4 : PySem.W.hasDictIn K C = true
  h5 : PySem.W.findIn K (.ref C) "__class__" = some (some (.builtin "object.__class__"))
  h6 : PySem.W.specialIn K (.builtin "object.__class__") "__get__" = some (some (.builtin "getset_descriptor.__get__"))
  h7 : PySem.W.takesIn K (.builtin "object.__class__") = some true
  h8 : PySem.W.mroIn K C (.type "object") = some true
  e1 : PySem.W.isClsIn K CS = true
  e2 : PySem.W.typeIn K (.ref CS) = some (.type "type")
  e3 : PySem.W.subIn K (.ref C) (.ref CS) = some true
  e4 : PySem.W.subIn K (.ref CS) (.type "BaseException") = some true
  kC : PySem.W.keepIn K (.ref C) = true
  ty : PySem.W.typeIn K (.ref C) = some (.type "type")
theorem kit_own (K : PySem.W.Frag) (C : Addr) : PySem.W.kitOne K (.ref C) (.ref C) = some true := by
  unfold PySem.W.kitOne
  rw [if_pos (beq_self_eq_true _)]
theorem exm_own {K : PySem.W.Frag} {C S : Addr} (b : PySem.W.subIn K (.ref S) (.type "BaseException") = some true) (i : PySem.W.isClsIn K S = true) (t : PySem.W.typeIn K (.ref S) = some (.type "type")) (u : PySem.W.subIn K (.ref C) (.ref S) = some true) : PySem.W.exmOne K (.ref C) (.ref S) = some true := by
  have i' : (PySem.W.clsIn K S).isSome = true := i
  unfold PySem.W.exmOne PySem.W.kitCls
  rw [if_pos (by rw [b]; rfl)]
  show (if ((PySem.W.clsIn K S).isSome && PySem.W.typeIn K (.ref S) == some (.type "type")) = true then PySem.W.subIn K (.ref C) (.ref S) else none) = some true
  rw [if_pos (by rw [i', t]; rfl)]
  exact u
theorem XFacts.cls {h : Heap} {x : Str} {CS C : Addr} (X : K.In h) (G : h.Ns mainGlobals mg) (f : XFacts K x CS C) : XCls K mg CS x C :=
  ⟨PySem.W.mg_of X G f.a, ⟨f.h1, f.h2, f.h3, f.h4, f.h5, f.h6, f.h7, f.h8⟩, kit_own K C, exm_own f.e4 f.e1 f.e2 f.e3⟩
theorem XFacts.mk2 {h : Heap} {x : Str} {CS C : Addr} (X : K.In h) (G : h.Ns mainGlobals mg) (f : XFacts K x CS C) (q : PySem.W.excIn K C [.type "ValueError", .type "Exception", .type "BaseException", .type "object"] "ValueError.__new__" = true) : XMk K mg x C :=
  ⟨PySem.W.mg_of X G f.a, q, f.kC, f.h3, f.ty⟩
/-- the exception class with a field -/
structure YFacts (P : Program) (K : PySem.W.Frag) (mg : Str → Option Value) (C fI : Addr) (fd : FuncData) : Prop where
  ini : PySem.W.findIn K (.ref C) "__init__" = some (some (.ref fI))
  ty : PySem.W.typeIn K (.ref fI) = some (.type "function")
  at_ : InitAt P K mg C sIni fI fd
  bind : L2.Binds K fd ["self", "at"] []
  no : PySem.W.findIn K (.ref C) "at" = some none
theorem fits_has (N : Bl mg) (D : PDefs K mg) (GT : Has P w K mg base CX0 1 "is_tuple_of" ["thing", "count"] spTupD) (GR : Has P w K mg base CX0 3 "is_said_row" ["thing", "bound"] spSRow) (GB : Has P w K mg base CX0 3 "binds" ["names", "bound"] spBinds) : ∀ n, Has P w K mg base CX0 (n + 5) "fits" ["thing", "bound"] (spFits n)
  | 0 => has_of D.fits (fun f fd F => F.binds (ps := ["thing", "bound"]) fun _ _ _ _ _ _ us hl => match us, hl with | [_, _], _ => rfl) (fun f fd F => ok_fits F N 0 GT GR GB (has_of D.fits (fun f fd F => F.binds (ps := ["thing", "bound"]) fun _ _ _ _ _ _ us hl => match us, hl with | [_, _], _ => rfl) (fun f fd F => ok_fits_no F 3)))
  | n + 1 => has_of D.fits (fun f fd F => F.binds (ps := ["thing", "bound"]) fun _ _ _ _ _ _ us hl => match us, hl with | [_, _], _ => rfl) (fun f fd F => ok_fits F N (n + 1) GT GR GB (fits_has N D GT GR GB n))
theorem names_has (D : PDefs K mg) : ∀ n, Has P w K mg base CX0 (n + 5) "names_in" ["saying"] (spNames n)
  | 0 => has_of D.names (fun f fd F => F.binds (ps := ["saying"]) fun _ _ _ _ _ _ us hl => match us, hl with | [_], _ => rfl) (fun f fd F => ok_names F 0 (has_of D.names (fun f fd F => F.binds (ps := ["saying"]) fun _ _ _ _ _ _ us hl => match us, hl with | [_], _ => rfl) (fun f fd F => ok_names_no F 3)))
  | n + 1 => has_of D.names (fun f fd F => F.binds (ps := ["saying"]) fun _ _ _ _ _ _ us hl => match us, hl with | [_], _ => rfl) (fun f fd F => ok_names F (n + 1) (names_has D n))
theorem bound_has (N : Bl mg) (D : PDefs K mg) : ∀ n, Has P w K mg base CX0 (n + 5) "bound_in" ["saying"] (spBoundIn n)
  | 0 => has_of D.bound (fun f fd F => F.binds (ps := ["saying"]) fun _ _ _ _ _ _ us hl => match us, hl with | [_], _ => rfl) (fun f fd F => ok_boundIn F N 0 (has_of D.bound (fun f fd F => F.binds (ps := ["saying"]) fun _ _ _ _ _ _ us hl => match us, hl with | [_], _ => rfl) (fun f fd F => ok_boundIn_no F 3)))
  | n + 1 => has_of D.bound (fun f fd F => F.binds (ps := ["saying"]) fun _ _ _ _ _ _ us hl => match us, hl with | [_], _ => rfl) (fun f fd F => ok_boundIn F N (n + 1) (bound_has N D n))
theorem great_has (N : Bl mg) (D : PDefs K mg) : ∀ n, Has P w K mg base CX0 (n + 5) "greatest_number" ["saying"] (spGreat n)
  | 0 => has_of D.great (fun f fd F => F.binds (ps := ["saying"]) fun _ _ _ _ _ _ us hl => match us, hl with | [_], _ => rfl) (fun f fd F => ok_great F N 0 (has_of D.great (fun f fd F => F.binds (ps := ["saying"]) fun _ _ _ _ _ _ us hl => match us, hl with | [_], _ => rfl) (fun f fd F => ok_great_no F 3)))
  | n + 1 => has_of D.great (fun f fd F => F.binds (ps := ["saying"]) fun _ _ _ _ _ _ us hl => match us, hl with | [_], _ => rfl) (fun f fd F => ok_great F N (n + 1) (great_has N D n))
theorem wt_has (N : Bl mg) (D : PDefs K mg) (GR : Has P w K mg base CX0 1 "row_with" ["saying", "terms"] spRW) : ∀ n, Has P w K mg base CX0 (n + 5) "with_terms" ["saying", "terms"] (spWT n)
  | 0 => has_of D.wt (fun f fd F => F.binds (ps := ["saying", "terms"]) fun _ _ _ _ _ _ us hl => match us, hl with | [_, _], _ => rfl) (fun f fd F => ok_wt F N 0 GR (has_of D.wt (fun f fd F => F.binds (ps := ["saying", "terms"]) fun _ _ _ _ _ _ us hl => match us, hl with | [_, _], _ => rfl) (fun f fd F => ok_wt_no F 3)))
  | n + 1 => has_of D.wt (fun f fd F => F.binds (ps := ["saying", "terms"]) fun _ _ _ _ _ _ us hl => match us, hl with | [_, _], _ => rfl) (fun f fd F => ok_wt F N (n + 1) GR (wt_has N D GR n))
theorem is_has (N : Bl mg) (D : Defs K mg) (GW : Has P w K mg base CX0 1 "_law_is_whole" ["item"] spNum) (GS : Has P w K mg base CX0 2 "_law_is_one_side" ["item", "inner"] spSide) (GT : Has P w K mg base CX0 1 "_law_is_title" ["item"] (spB saidNameD)) (GB : Has P w K mg base CX0 1 "_law_is_big" ["title"] spBig) : ∀ n, Has P w K mg base CX0 (n + 5) "_law_is_said" ["item", "inner"] (spIS n)
  | 0 => has_of D.is (fun f fd F => F.binds (ps := ["item", "inner"]) fun _ _ _ _ _ _ us hl => match us, hl with | [_, _], _ => rfl) (fun f fd F => ok_is F N 0 GW GS GT GB (has_of D.is (fun f fd F => F.binds (ps := ["item", "inner"]) fun _ _ _ _ _ _ us hl => match us, hl with | [_, _], _ => rfl) (fun f fd F => ok_is_no F 3)))
  | n + 1 => has_of D.is (fun f fd F => F.binds (ps := ["item", "inner"]) fun _ _ _ _ _ _ us hl => match us, hl with | [_, _], _ => rfl) (fun f fd F => ok_is F N (n + 1) GW GS GT GB (is_has N D GW GS GT GB n))
theorem mb_has (N : Bl mg) (bsum : mg "sum" = none) (D : Defs K mg) : ∀ n, Has P w K mg base CX0 (n + 5) "_law_many_bound" ["said_v"] (spMB n)
  | 0 => has_of D.mb (fun f fd F => F.binds (ps := ["said_v"]) fun _ _ _ _ _ _ us hl => match us, hl with | [_], _ => rfl) (fun f fd F => ok_mb F N bsum 0 (has_of D.mb (fun f fd F => F.binds (ps := ["said_v"]) fun _ _ _ _ _ _ us hl => match us, hl with | [_], _ => rfl) (fun f fd F => ok_mb_no F 3)))
  | n + 1 => has_of D.mb (fun f fd F => F.binds (ps := ["said_v"]) fun _ _ _ _ _ _ us hl => match us, hl with | [_], _ => rfl) (fun f fd F => ok_mb F N bsum (n + 1) (mb_has N bsum D n))
theorem rs_has (D : Defs K mg) : ∀ n, Has P w K mg base CX0 (n + 5) "_law_rows_said" ["said_v"] (spRS n)
  | 0 => has_of D.rs (fun f fd F => F.binds (ps := ["said_v"]) fun _ _ _ _ _ _ us hl => match us, hl with | [_], _ => rfl) (fun f fd F => ok_rs F 0 (has_of D.rs (fun f fd F => F.binds (ps := ["said_v"]) fun _ _ _ _ _ _ us hl => match us, hl with | [_], _ => rfl) (fun f fd F => ok_rs_no F 3)))
  | n + 1 => has_of D.rs (fun f fd F => F.binds (ps := ["said_v"]) fun _ _ _ _ _ _ us hl => match us, hl with | [_], _ => rfl) (fun f fd F => ok_rs F (n + 1) (rs_has D n))
theorem led_has (N : Bl mg) (D : Defs K mg) : ∀ n, Has P w K mg base CX0 (n + 5) "_law_led" ["said_v", "table"] (spWT n)
  | 0 => has_of D.led (fun f fd F => F.binds (ps := ["said_v", "table"]) fun _ _ _ _ _ _ us hl => match us, hl with | [_, _], _ => rfl) (fun f fd F => ok_led F N 0 (has_of D.led (fun f fd F => F.binds (ps := ["said_v", "table"]) fun _ _ _ _ _ _ us hl => match us, hl with | [_, _], _ => rfl) (fun f fd F => ok_led_no F 3)))
  | n + 1 => has_of D.led (fun f fd F => F.binds (ps := ["said_v", "table"]) fun _ _ _ _ _ _ us hl => match us, hl with | [_, _], _ => rfl) (fun f fd F => ok_led F N (n + 1) (led_has N D n))
theorem sd_has (N : Bl mg) (D : Defs K mg) (GT : Has P w K mg base CX0 2 "_law_take" ["draw", "size"] spTake) (GP : Has P w K mg base CX0 3 "_law_pick" ["draw", "some"] spPick) (GH : Has P w K mg base CX0 3 "_law_shuffled" ["draw", "some"] spShuf) (GR : Has P w K mg base CX0 4 "_law_said_row" ["draw", "several", "top"] spSR) : ∀ n, Has P w K mg base CX0 (n + 6) "_law_said" pSd (spSd n)
  | 0 => has_of D.sd (fun f fd F => F.binds (ps := ["draw", "titles", "inner", "deep", "top", "ties"]) fun _ _ _ _ _ _ us hl => match us, hl with | [_, _, _, _, _, _], _ => rfl) (fun f fd F => ok_sd F N 0 GT GP GH GR (has_of D.sd (fun f fd F => F.binds (ps := ["draw", "titles", "inner", "deep", "top", "ties"]) fun _ _ _ _ _ _ us hl => match us, hl with | [_, _, _, _, _, _], _ => rfl) (fun f fd F => ok_sd_no F 4)))
  | n + 1 => has_of D.sd (fun f fd F => F.binds (ps := ["draw", "titles", "inner", "deep", "top", "ties"]) fun _ _ _ _ _ _ us hl => match us, hl with | [_, _, _, _, _, _], _ => rfl) (fun f fd F => ok_sd F N (n + 1) GT GP GH GR (sd_has N D GT GP GH GR n))
theorem bent_has (N : Bl mg) (D : Defs K mg) (GT : Has P w K mg base CX0 2 "_law_take" ["draw", "size"] spTake) (GP : Has P w K mg base CX0 3 "_law_pick" ["draw", "some"] spPick) (GW : Has P w K mg base CX0 1 "_law_is_whole" ["item"] spNum) : ∀ n, n ≤ 20 → Has P w K mg base CX0 (n + 4) "_law_bent" ["draw", "item"] (spBt n)
  | 0, h => has_of D.bent (fun f fd F => F.binds (ps := ["draw", "item"]) fun _ _ _ _ _ _ us hl => match us, hl with | [_, _], _ => rfl) (fun f fd F => ok_bt F N 0 h GT GP GW (has_of D.bent (fun f fd F => F.binds (ps := ["draw", "item"]) fun _ _ _ _ _ _ us hl => match us, hl with | [_, _], _ => rfl) (fun f fd F => ok_bt_no F 2)))
  | n + 1, h => has_of D.bent (fun f fd F => F.binds (ps := ["draw", "item"]) fun _ _ _ _ _ _ us hl => match us, hl with | [_, _], _ => rfl) (fun f fd F => ok_bt F N (n + 1) h GT GP GW (bent_has N D GT GP GW n (by omega)))
/-- the tables of the two lambdas -/
def TT (Pt Pu : Addr) : List (Addr × Str) := [(Pt, (envOfC "law" (defScope sLaw) 0 0 .none).qual ++ "<lambda>"), (Pu, (envOfC "_law_told_right" (defScope sTR) 0 0 .none).qual ++ "<lambda>")]
theorem tt_t {Pt Pu : Addr} (ne : Pt ≠ Pu) : TOk (TT Pt Pu) Pt := ⟨List.mem_cons_self .., fun p hp e => by
  rcases List.mem_cons.mp hp with rfl | hp
  · rfl
  · rw [List.mem_singleton.mp hp] at e
    exact absurd e.symm ne⟩
theorem tt_u {Pt Pu : Addr} (ne : Pt ≠ Pu) : TOkR (TT Pt Pu) Pu := ⟨List.mem_cons_of_mem _ (List.mem_cons_self ..), fun p hp e => by
  rcases List.mem_cons.mp hp with rfl | hp
  · exact absurd e ne
  · rw [List.mem_singleton.mp hp]⟩
/-- all that the law calls -/
theorem callees {CS BS BT BY c Pt Pu fu : Addr} {t1 t2 : Tok} {oc kV doc pm ct : Value} {od an : Option Addr} {osl : Array (Option Value)} (N : Bl mg) (bset : mg "set" = none) (bdict : mg "dict" = none) (bsum : mg "sum" = none) (MC : mg "CAPITALS" = some (.str capS t1)) (MR : mg "MOST_ROWS" = some (.int 400 t2))
    (D : Defs K mg) (PD : PDefs K mg) (lane : mg "LaneError" = some (.ref CS)) (bs : XCls K mg CS "BadSaying" BS) (bs2 : XMk K mg "BadSaying" BS) (bt : XCls K mg CS "BadTerms" BT) (bt2 : XMk K mg "BadTerms" BT) (by_ : XCls K mg CS "BadSystems" BY) (by2 : YMk P K mg base w "BadSystems" "at" BY) (xf : XfC K BY) (no : PySem.W.findIn K (.ref BY) "at" = some none)
    (mods : ∃ o, base.get? sysModules = some o) (mu : mg "_law_told_right" = some (.ref fu)) (ku : PySem.W.keepIn K (.ref fu) = true)
    (lk : K.lookup fu = some ⟨oc, od, .func (PySem.W.fnOf "_law_told_right" "_law_told_right" (defArgs sTR) (defBody sTR) (defScope sTR) .none kV doc pm an (.ref c) ct), osl⟩) (hcd : PySem.W.codeIn K (.ref c) "_law_told_right" = true) (TB : LamX.TabB base mg c Pu) (ne : Pt ≠ Pu) : Callees P w K mg base CS BS BT BY (TT Pt Pu) := by
  have GN : Has P w K mg base CX0 1 "is_number" ["thing"] spNum := has_of PD.number (fun f fd F => F.binds (ps := ["thing"]) fun _ _ _ _ _ _ us hl => match us, hl with | [_], _ => rfl) (fun f fd F => ok_number F N)
  have GTu : Has P w K mg base CX0 1 "is_tuple_of" ["thing", "count"] spTupD := has_of PD.tupOf (fun f fd F => F.binds (ps := ["thing", "count"]) fun _ _ _ _ _ _ us hl => match us, hl with | [_, _], _ => rfl) (fun f fd F => ok_tupD F N)
  have GRn : Has P w K mg base CX0 1 "is_row_name" ["thing"] (spB rowNameD) := has_of PD.rowName (fun f fd F => F.binds (ps := ["thing"]) fun _ _ _ _ _ _ us hl => match us, hl with | [_], _ => rfl) (fun f fd F => ok_rowName F N)
  have GSn : Has P w K mg base CX0 1 "is_said_name" ["thing"] (spB saidNameD) := has_of PD.saidName (fun f fd F => F.binds (ps := ["thing"]) fun _ _ _ _ _ _ us hl => match us, hl with | [_], _ => rfl) (fun f fd F => ok_saidName F N)
  have GBn : Has P w K mg base CX0 2 "is_bound_name" ["thing"] (spB boundNameD) := has_of PD.boundName (fun f fd F => F.binds (ps := ["thing"]) fun _ _ _ _ _ _ us hl => match us, hl with | [_], _ => rfl) (fun f fd F => ok_boundName F MC GSn)
  have GFn : Has P w K mg base CX0 2 "is_free_name" ["thing"] (spB freeNameD) := has_of PD.freeName (fun f fd F => F.binds (ps := ["thing"]) fun _ _ _ _ _ _ us hl => match us, hl with | [_], _ => rfl) (fun f fd F => ok_freeName F MC GSn)
  have GRo : Has P w K mg base CX0 2 "is_row" ["thing"] (spS rowD) := has_of PD.row (fun f fd F => F.binds (ps := ["thing"]) fun _ _ _ _ _ _ us hl => match us, hl with | [_], _ => rfl) (fun f fd F => ok_row F GTu GRn GN)
  have GSr : Has P w K mg base CX0 3 "is_said_row" ["thing", "bound"] spSRow := has_of PD.srow (fun f fd F => F.binds (ps := ["thing", "bound"]) fun _ _ _ _ _ _ us hl => match us, hl with | [_, _], _ => rfl) (fun f fd F => ok_srow F GRo GFn)
  have GBi : Has P w K mg base CX0 3 "binds" ["names", "bound"] spBinds := has_of PD.binds (fun f fd F => F.binds (ps := ["names", "bound"]) fun _ _ _ _ _ _ us hl => match us, hl with | [_, _], _ => rfl) (fun f fd F => ok_binds F N GBn)
  have GFi := fits_has (P := P) (w := w) (base := base) N PD GTu GSr GBi 12
  have GNa := names_has (P := P) (w := w) (base := base) PD 12
  have GBo := bound_has (P := P) (w := w) (base := base) N PD 12
  have GGr := great_has (P := P) (w := w) (base := base) N PD 12
  have GSa : Has P w K mg base CX0 18 "is_saying" ["thing"] (spSaying 12) := has_of PD.saying (fun f fd F => F.binds (ps := ["thing"]) fun _ _ _ _ _ _ us hl => match us, hl with | [_], _ => rfl) (fun f fd F => ok_saying F 12 (by decide) GFi)
  have GSaK : HasK P w K mg base CX0 18 "is_saying" ["thing"] ["thing"] List.reverse (spSaying 12) := hasK_of PD.saying (fun _ _ _ _ _ _ ws hl => match ws, hl with | [_], _ => rfl) (fun f fd F => ok_saying F 12 (by decide) GFi)
  have GCk : Has P w K mg base (L2.CX P w) 19 "check_saying" ["saying"] (spCkS BS 12) := has_of PD.ckS (fun f fd F => F.binds (ps := ["saying"]) fun _ _ _ _ _ _ us hl => match us, hl with | [_], _ => rfl) (fun f fd F => ok_ckS F bs2 12 GSa)
  have GLi : Has P w K mg base CX0 1 "is_listing" ["thing"] spListing := has_of PD.listing (fun f fd F => F.binds (ps := ["thing"]) fun _ _ _ _ _ _ us hl => match us, hl with | [_], _ => rfl) (fun f fd F => ok_listing F N)
  have GLs : Has P w K mg base CX0 1 "is_listing" ["thing"] (spLis K) := has_of PD.listing (fun f fd F => F.binds (ps := ["thing"]) fun _ _ _ _ _ _ us hl => match us, hl with | [_], _ => rfl) (fun f fd F => ok_lis F N)
  have GSy : Has P w K mg base CX0 3 "is_system" ["thing"] (spS sysD) := has_of PD.sys (fun f fd F => F.binds (ps := ["thing"]) fun _ _ _ _ _ _ us hl => match us, hl with | [_], _ => rfl) (fun f fd F => ok_sys F N MR GLi GRo)
  have GFr : Has P w K mg base CX0 18 "free_in" ["saying"] (spFree 12) := has_of PD.free (fun f fd F => F.binds (ps := ["saying"]) fun _ _ _ _ _ _ us hl => match us, hl with | [_], _ => rfl) (fun f fd F => ok_free F N bset 12 GNa)
  have GFN : Has P w K mg base (L2.CX P w) 20 "free_names" ["saying"] (spFN BS 12) := has_of PD.fn (fun f fd F => F.binds (ps := ["saying"]) fun _ _ _ _ _ _ us hl => match us, hl with | [_], _ => rfl) (fun f fd F => ok_fn F N 12 GCk GFr)
  have GFNK : HasK P w K mg base (L2.CX P w) 20 "free_names" ["saying"] ["saying"] List.reverse (spFN BS 12) := hasK_of PD.fn (fun _ _ _ _ _ _ ws hl => match ws, hl with | [_], _ => rfl) (fun f fd F => ok_fn F N 12 GCk GFr)
  have GTe : Has P w K mg base CX0 3 "is_term" ["thing"] (spB termD) := has_of PD.term (fun f fd F => F.binds (ps := ["thing"]) fun _ _ _ _ _ _ us hl => match us, hl with | [_], _ => rfl) (fun f fd F => ok_term F GTu GFn GN)
  have GRw : Has P w K mg base CX0 1 "row_with" ["saying", "terms"] spRW := has_of PD.rw (fun f fd F => F.binds (ps := ["saying", "terms"]) fun _ _ _ _ _ _ us hl => match us, hl with | [_, _], _ => rfl) (fun f fd F => ok_rw F)
  have GWt := wt_has (P := P) (w := w) (base := base) N PD GRw 12
  have GPt : Has P w K mg base (L2.CX P w) 20 "put_terms" ["saying", "terms"] (spPT P w BS BT 12) := has_of PD.pt (fun f fd F => F.binds (ps := ["saying", "terms"]) fun _ _ _ _ _ _ us hl => match us, hl with | [_, _], _ => rfl) (fun f fd F => ok_pt F N bdict bt2 12 GCk GFr GTe GWt)
  have GPtK : HasK P w K mg base (L2.CX P w) 20 "put_terms" ["saying", "terms"] ["terms", "saying"] List.reverse (spPT P w BS BT 12) := hasK_of PD.pt (fun _ _ _ _ _ _ ws hl => match ws, hl with | [_, _], _ => rfl) (fun f fd F => ok_pt F N bdict bt2 12 GCk GFr GTe GWt)
  have GNo : Has P w K mg base CX0 1 "names_of" ["rows"] spNO := has_of PD.namesOf (fun f fd F => F.binds (ps := ["rows"]) fun _ _ _ _ _ _ us hl => match us, hl with | [_], _ => rfl) (fun f fd F => ok_no F N)
  have GS1 : Has P w K mg base CX0 1 "said" ["row"] (spSaid1 K) := has_of PD.said1 (fun f fd F => F.binds (ps := ["row"]) fun _ _ _ _ _ _ us hl => match us, hl with | [_], _ => rfl) (fun f fd F => ok_said1 F)
  have GOo : Has P w K mg base CX0 2 "one_of" ["systems"] spOO := has_of PD.oo (fun f fd F => F.binds (ps := ["systems"]) fun _ _ _ _ _ _ us hl => match us, hl with | [_], _ => rfl) (fun f fd F => ok_oo F N GS1)
  have GSo : Has P w K mg base (L2.CX P w) 4 "saying_of" ["systems"] (spSO K BY) := has_of PD.so (fun f fd F => F.binds (ps := ["systems"]) fun _ _ _ _ _ _ us hl => match us, hl with | [_], _ => rfl) (fun f fd F => ok_so F N by2 GLs GSy GNo GFn GOo)
  have GSoK : HasK P w K mg base (L2.CX P w) 4 "saying_of" ["systems"] ["systems"] List.reverse (spSO K BY) := hasK_of PD.so (fun _ _ _ _ _ _ ws hl => match ws, hl with | [_], _ => rfl) (fun f fd F => ok_so F N by2 GLs GSy GNo GFn GOo)
  have GRe : Has P w K mg base (L2.CX P w) 20 "reach" ["saying"] (spReach BS 12) := has_of PD.reach (fun f fd F => F.binds (ps := ["saying"]) fun _ _ _ _ _ _ us hl => match us, hl with | [_], _ => rfl) (fun f fd F => ok_reach F N 12 GCk GFr GGr GBo)
  have GReK : HasK P w K mg base (L2.CX P w) 20 "reach" ["saying"] ["saying"] List.reverse (spReach BS 12) := hasK_of PD.reach (fun _ _ _ _ _ _ ws hl => match ws, hl with | [_], _ => rfl) (fun f fd F => ok_reach F N 12 GCk GFr GGr GBo)
  have GM : Has P w K mg base CX0 1 "_law_mixed" ["draw"] spMixed := has_of D.mixed (fun f fd F => F.binds (ps := ["draw"]) fun _ _ _ _ _ _ us hl => match us, hl with | [_], _ => rfl) (fun f fd F => ok_mixed F N)
  have GT : Has P w K mg base CX0 2 "_law_take" ["draw", "size"] spTake := has_of D.take (fun f fd F => F.binds (ps := ["draw", "size"]) fun _ _ _ _ _ _ us hl => match us, hl with | [_, _], _ => rfl) (fun f fd F => ok_take F N GM)
  have GP : Has P w K mg base CX0 3 "_law_pick" ["draw", "some"] spPick := has_of D.pick (fun f fd F => F.binds (ps := ["draw", "some"]) fun _ _ _ _ _ _ us hl => match us, hl with | [_, _], _ => rfl) (fun f fd F => ok_pick F N GT)
  have GBe : Has P w K mg base CX0 1 "_law_begun" ["script"] (spBegun K) := has_of D.begun (fun f fd F => F.binds (ps := ["script"]) fun _ _ _ _ _ _ us hl => match us, hl with | [_], _ => rfl) (fun f fd F => ok_begun F N)
  have GFe : Has P w K mg base CX0 4 "_law_few_of" ["draw", "some", "size"] spFew := has_of D.few (fun f fd F => F.binds (ps := ["draw", "some", "size"]) fun _ _ _ _ _ _ us hl => match us, hl with | [_, _, _], _ => rfl) (fun f fd F => ok_few F GT)
  have GH : Has P w K mg base CX0 3 "_law_shuffled" ["draw", "some"] spShuf := has_of D.shuf (fun f fd F => F.binds (ps := ["draw", "some"]) fun _ _ _ _ _ _ us hl => match us, hl with | [_, _], _ => rfl) (fun f fd F => ok_shuf F N GT)
  have GSR : Has P w K mg base CX0 4 "_law_said_row" ["draw", "several", "top"] spSR := has_of D.sr (fun f fd F => F.binds (ps := ["draw", "several", "top"]) fun _ _ _ _ _ _ us hl => match us, hl with | [_, _, _], _ => rfl) (fun f fd F => ok_sr F GT GH)
  have GSd := sd_has (P := P) (w := w) (base := base) N D GT GP GH GSR 3
  have GTi : Has P w K mg base CX0 1 "_law_is_title" ["item"] (spB saidNameD) := has_of D.title (fun f fd F => F.binds (ps := ["item"]) fun _ _ _ _ _ _ us hl => match us, hl with | [_], _ => rfl) (fun f fd F => ok_title F N)
  have GBg : Has P w K mg base CX0 1 "_law_is_big" ["title"] spBig := has_of D.big (fun f fd F => F.binds (ps := ["title"]) fun _ _ _ _ _ _ us hl => match us, hl with | [_], _ => rfl) (fun f fd F => ok_big F)
  have GSi : Has P w K mg base CX0 2 "_law_is_one_side" ["item", "inner"] spSide := has_of D.side (fun f fd F => F.binds (ps := ["item", "inner"]) fun _ _ _ _ _ _ us hl => match us, hl with | [_, _], _ => rfl) (fun f fd F => ok_side F GTi GBg)
  have GWh : Has P w K mg base CX0 1 "_law_is_whole" ["item"] spNum := has_of D.whole (fun f fd F => F.binds (ps := ["item"]) fun _ _ _ _ _ _ us hl => match us, hl with | [_], _ => rfl) (fun f fd F => ok_wholeL F N)
  have GIs := is_has (P := P) (w := w) (base := base) N D GWh GSi GTi GBg 12
  have GMb := mb_has (P := P) (w := w) (base := base) N bsum D 12
  have GRs := rs_has (P := P) (w := w) (base := base) D 12
  have GLe := led_has (P := P) (w := w) (base := base) N D 12
  have GSt : Has P w K mg base CX0 18 "_law_step_of" ["said_v"] (spStep 12) := has_of D.step (fun f fd F => F.binds (ps := ["said_v"]) fun _ _ _ _ _ _ us hl => match us, hl with | [_], _ => rfl) (fun f fd F => ok_step F N 12 GRs GMb)
  have GSs : Has P w K mg base CX0 1 "_law_says" ["found", "due"] spSays := has_of D.says (fun f fd F => F.binds (ps := ["found", "due"]) fun _ _ _ _ _ _ us hl => match us, hl with | [_, _], _ => rfl) (fun f fd F => ok_says F)
  have GTt : Has P w K mg base CX0 18 "_law_titles_in" ["said_v"] (spTI 12) := has_of D.ti (fun f fd F => F.binds (ps := ["said_v"]) fun _ _ _ _ _ _ us hl => match us, hl with | [_], _ => rfl) (fun f fd F => ok_ti F N 12 GRs GBg)
  have GB1 := bent_has (P := P) (w := w) (base := base) N D GT GP GWh 8 (by decide)
  have GB2 := bent_has (P := P) (w := w) (base := base) N D GT GP GWh 9 (by decide)
  have GOd : Has P w K mg base CX0 4 "_law_odd" ["draw"] spOd := has_of D.odd (fun f fd F => F.binds (ps := ["draw"]) fun _ _ _ _ _ _ us hl => match us, hl with | [_], _ => rfl) (fun f fd F => ok_od F GP)
  have GTm : Has P w K mg base CX0 5 "_law_terms" ["draw", "titles"] spTm := has_of D.tm (fun f fd F => F.binds (ps := ["draw", "titles"]) fun _ _ _ _ _ _ us hl => match us, hl with | [_, _], _ => rfl) (fun f fd F => ok_tm F GT GP GFe)
  have GBt : Has P w K mg base CX0 4 "_law_bad_terms" ["draw", "titles"] (spBT P w) := has_of D.bterms (fun f fd F => F.binds (ps := ["draw", "titles"]) fun _ _ _ _ _ _ us hl => match us, hl with | [_, _], _ => rfl) (fun f fd F => ok_bterms F GP)
  have GLl : Has P w K mg base CX0 5 "_law_lists" ["draw", "titles"] spLL := has_of D.ll (fun f fd F => F.binds (ps := ["draw", "titles"]) fun _ _ _ _ _ _ us hl => match us, hl with | [_, _], _ => rfl) (fun f fd F => ok_ll F N GT GP GSR)
  have CA : CaughtAt K mg := by
    obtain ⟨f, fd, m, F⟩ := D.caught.ex
    exact ⟨f, fd, m, F.kp, F.binds (ps := ["task"]) (fun _ _ _ _ _ _ us hl => match us, hl with | [_], _ => rfl), F⟩
  have CT : CalT P w K mg base CS BS BT := ⟨N, GTt, GFN, GFNK, GTm, GPt, GPtK, GLe, GSt, GRe, GReK, GBt, lane, bt, mods, CA⟩
  have GTr : HasG P w K mg base CX0 23 "_law_told_right" ["draw", "said_v", "titles"] (spTR (TT Pt Pu)) := ⟨fu, _, mu, ku, (fun_mk lk hcd ku).binds (ps := ["draw", "said_v", "titles"]) (fun _ _ _ _ _ _ us hl => match us, hl with | [_, _, _], _ => rfl), ok_tr lk hcd CT TB (tt_u ne)⟩
  exact ⟨N, CT, GBe, GT, GP, GH, GSd, GTr, GSa, GSaK, GB1, GB2, GOd, GSs, GIs, GLl, GSo, GSoK, bs, by_, xf, no⟩
theorem run_ats {fa a c Pt cu Pu CS BS BT BY : Addr} {ns : List Int} {s : Shared} {oc kV doc pm ct : Value} {od an : Option Addr} {osl : Array (Option Value)} (ne : Pt ≠ Pu)
    (C : ∀ base : Heap, K.In base → base.Ns mainGlobals mg → (∃ o, base.get? sysModules = some o) → LamX.TabB base mg cu Pu → Callees P w K mg base CS BS BT BY (TT Pt Pu))
    (lk : K.lookup fa = some ⟨oc, od, .func (PySem.W.fnOf "law" "law" (defArgs sLaw) (defBody sLaw) (defScope sLaw) .none kV doc pm an (.ref c) ct), osl⟩) (hcd : PySem.W.codeIn K (.ref c) "law" = true) (hl : ns.length ≤ 63) : RunAts P w K mg fa a [(c, Pt), (cu, Pu)] ns s := by
  intro base H inB nsB mods TB e0 hP hS
  have TB1 := TB (c, Pt) (List.mem_cons_self ..)
  have TB2 := TB (cu, Pu) (List.mem_cons_of_mem _ (List.mem_cons_self ..))
  have C := C base inB nsB mods TB2
  have hr : Room 31 callerA := ⟨rfl, by decide, by decide⟩
  refine run_ofS (k := 30) (N := nLaw) (ps := ["script"]) (us := [.ref a]) (vs := [.ref a]) lk hcd scLaw hr e0 (.of_eq rfl) (.cons rfl .nil) rfl fun hr' => ?_
  have tabs : Tabs (TT Pt Pu) H := fun p hp => by
    rcases List.mem_cons.mp hp with rfl | hp
    · exact TabS.nil (hP (c, Pt) (List.mem_cons_self ..))
    · rw [List.mem_singleton.mp hp]
      exact TabS.nil (hP (cu, Pu) (List.mem_cons_of_mem _ (List.mem_cons_self ..)))
  obtain ⟨t, ht, hq⟩ := law_body (P := P) (w := w) (outer := []) (s := s) (H0 := H) (E := fun _ _ _ => False) (f := fa) (Q := fun v _ => v = .bl true) (vs := [.ref a]) C hr' rfl TB1 (tt_t ne) ⟨a, ns, rfl, hS, hl, tabs, fun _ => rfl⟩
  exact ⟨t, ht.nox, hq⟩
abbrev VE : List Value := [.type "ValueError", .type "Exception", .type "BaseException", .type "object"]
theorem fin06 {h : Heap} {fa : Addr} (X : K.In h) (G : h.Ns mainGlobals mg) (hfa : mg "law" = some (.ref fa)) (N : Bl mg) (zs : PySem.W.nsIn K mainGlobals "set" = some none) (zd : PySem.W.nsIn K mainGlobals "dict" = some none) (zm : PySem.W.nsIn K mainGlobals "sum" = some none) (D : Defs K mg) (PD : PDefs K mg) {t1 t2 : Tok} (MC : PySem.W.nsIn K mainGlobals "CAPITALS" = some (some (.str capS t1))) (MR : PySem.W.nsIn K mainGlobals "MOST_ROWS" = some (some (.int 400 t2)))
    {CS BS BT BY fI : Addr} {fdI : FuncData} (lane : PySem.W.nsIn K mainGlobals "LaneError" = some (some (.ref CS))) (bs : XFacts K "BadSaying" CS BS) (qs : PySem.W.excIn K BS [.type "ValueError", .type "Exception", .type "BaseException", .type "object"] "ValueError.__new__" = true) (bt : XFacts K "BadTerms" CS BT) (qt : PySem.W.excIn K BT [.type "ValueError", .type "Exception", .type "BaseException", .type "object"] "ValueError.__new__" = true)
    (by_ : XFacts K "BadSystems" CS BY) (yb : YFacts P K mg BY fI fdI)
    {f3 c Pt fu cu Pu : Addr} {oc kV doc pm ct oc2 kV2 doc2 pm2 ct2 : Value} {od an dd od2 an2 dd2 : Option Addr} {osl sl osl2 sl2 : Array (Option Value)} {vs vs2 : Array Value} (a : PySem.W.nsIn K mainGlobals "law" = some (some (.ref f3)))
    (lk : K.lookup f3 = some ⟨oc, od, .func (PySem.W.fnOf "law" "law" (defArgs sLaw) (defBody sLaw) (defScope sLaw) .none kV doc pm an (.ref c) ct), osl⟩) (hcd : PySem.W.codeIn K (.ref c) "law" = true)
    (lc : K.lookup c = some ⟨.type "code", dd, .fields vs, sl⟩) (cf : CodeF vs Pt) (cP : c ≠ Pt) (kP : K.lookup Pt = none)
    (a2 : PySem.W.nsIn K mainGlobals "_law_told_right" = some (some (.ref fu))) (k2 : PySem.W.keepIn K (.ref fu) = true)
    (lk2 : K.lookup fu = some ⟨oc2, od2, .func (PySem.W.fnOf "_law_told_right" "_law_told_right" (defArgs sTR) (defBody sTR) (defScope sTR) .none kV2 doc2 pm2 an2 (.ref cu) ct2), osl2⟩) (hcd2 : PySem.W.codeIn K (.ref cu) "_law_told_right" = true)
    (lc2 : K.lookup cu = some ⟨.type "code", dd2, .fields vs2, sl2⟩) (cf2 : CodeF vs2 Pu) (cP2 : cu ≠ Pu) (kP2 : K.lookup Pu = none) (ne : Pt ≠ Pu) :
    ∃ (c Pt fu cu Pu : Addr), DefC K mg "law" fa c Pt ∧ DefC K mg "_law_told_right" fu cu Pu ∧ ∀ (s : Shared) (a : Addr) (ns : List Int), ns.length ≤ 63 → RunAts P w K mg fa a [(c, Pt), (cu, Pu)] ns s := by
  have e := PySem.W.mg_of X G a
  rw [hfa] at e
  injection e with e
  injection e with e
  subst e
  have mu := PySem.W.mg_of X G a2
  exact ⟨c, Pt, fu, cu, Pu, ⟨_, _, dd, vs, sl, hfa, lk, rfl, rfl, lc, cf, cP, kP⟩, ⟨_, _, dd2, vs2, sl2, mu, lk2, rfl, rfl, lc2, cf2, cP2, kP2⟩, fun s a ns hl => run_ats ne (fun base inB nsB mods TB => callees N (PySem.W.mg_none_of X G zs) (PySem.W.mg_none_of X G zd) (PySem.W.mg_none_of X G zm) (PySem.W.mg_of X G MC) (PySem.W.mg_of X G MR) D PD (PySem.W.mg_of X G lane)
    (bs.cls X G) (bs.mk2 X G qs) (bt.cls X G) (bt.mk2 X G qt) (by_.cls X G) ⟨PySem.W.mg_of X G by_.a, yb.at_.oex, ⟨fI, fdI, yb.ini, yb.ty, ok_init yb.at_ txt_ini ⟨by decide, by decide, by decide⟩ ⟨by decide, by decide⟩, yb.bind⟩, yb.no⟩ ⟨by_.h1, by_.h2, by_.h3, by_.h4⟩ yb.no mods mu k2 lk2 hcd2 TB ne) lk hcd hl⟩
end
theorem y_mk {P : Program} {K : PySem.W.Frag} {h : Heap} {mg : Str → Option Value} {C fI cda cc : Addr} {oc kV doc pm ct ccl cl : Value} {od an cdd cld : Option Addr} {osl ccs csl : Array (Option Value)} {qual file : Str} {vs : Array Value} {tf : Tok}
    {nm q : Str} {N : Addr} {bs bm : List Value} {sn sub ab col dd k0 k1 k2 k3 k5} (X : K.In h) (G : h.Ns mainGlobals mg)
    (ini : PySem.W.findIn K (.ref C) "__init__" = some (some (.ref fI))) (ty : PySem.W.typeIn K (.ref fI) = some (.type "function"))
    (lk : K.lookup fI = some ⟨oc, od, .func (PySem.W.ksFn "__init__" qual (defArgs sIni) (defBody sIni) (defScope sIni) .none kV doc pm an (.ref cda) ct cc), osl⟩) (hcd : PySem.W.codeIn K (.ref cda) qual = true)
    (lc : K.lookup cda = some ⟨ccl, cdd, .fields vs, ccs⟩) (hv : vs[2]? = some (.str file tf)) (hf : ((P.main.file : Str) == file) = true) (lcell : K.lookup cc = some ⟨cl, cld, .cell (some (.ref C)), csl⟩)
    (cls : PySem.W.isClsIn K C = true) (self : PySem.W.mroIn K C (.ref C) = some true) (sup : PySem.W.nsIn K mainGlobals "super" = some none) (top : (P.main.scope.names.lookup ("super" : Str)).isSome = false)
    (along : PySem.W.ks_superIn K C C "__init__" = some (some (.builtin "ValueError.__init__"))) (isV : PySem.W.subIn K (.ref C) (.type "ValueError") = some true) (opq : PySem.W.nsIn K cStatics "thirdparty.any" = some none)
    (lC : K.lookup C = some (excClassObj nm q C N bs bm true sn sub ab col dd k0 k1 k2 k3 k5 "ValueError.__new__")) (hbm : PySem.HandSPX.refsVE bm = true) (sa : PySem.W.findIn K (.ref C) "__setattr__" = some (some (.builtin "object.__setattr__")))
    (exC : PySem.W.subIn K (.ref C) (.type "BaseException") = some true) (tyC : PySem.W.typeIn K (.ref C) = some (.type "type")) (kC : PySem.W.keepIn K (.ref C) = true) (no : PySem.W.findIn K (.ref C) "at" = some none) :
    YFacts P K mg C fI (PySem.W.ksFn "__init__" qual (defArgs sIni) (defBody sIni) (defScope sIni) .none kV doc pm an (.ref cda) ct cc) := by
  have cls' : ∃ cd, PySem.W.clsIn K C = some cd := by
    have c : (PySem.W.clsIn K C).isSome = true := cls
    exact Option.isSome_iff_exists.mp c
  exact ⟨ini, ty, ⟨⟨oc, od, kV, doc, pm, an, cda, cc, ct, osl, qual, rfl, lk, hcd, ⟨ccl, cdd, vs, ccs, file, tf, lc, hv, hf⟩, cl, cld, csl, lcell⟩, cls', self, PySem.W.mg_none_of X G sup, top, along, isV, opq,
    ⟨⟨nm, q, N, bs, bm, sn, sub, ab, col, dd, k0, k1, k2, k3, k5, lC, hbm⟩, sa, exC, tyC, kC⟩⟩, .all (fun us hl => match us, hl with | [_, _], _ => rfl), no⟩
end Lm
open PySem PySem.W PyProof.Rows
set_option Elab.async false
set_option maxRecDepth 100000 in
set_option maxHeartbeats 0 in
theorem PySem.Challenge.cw_lanesmeet_k06_sayings_told_apart_holds : PySem.Challenge.rw_lanesmeet_k06_sayings_told_apart.Holds := by
  w_on; o_law; k_head; (case hw => w_witness2)
  k_fill
  refine Lm.walk_guards (l := PySem.Challenge.rw_lanesmeet_k06_sayings_told_apart) (n := 63) (x2 := "_law_told_right") rfl (by decide) rfl ?rec ?rec2 ?imp (fun w h Y => PySem.W.km_in_of Y) ?F
  case rec => rfl
  case rec2 => rfl
  case imp => rfl
  case F =>
    intro w mg fa h KX G hmg
    refine' Lm.fin06 KX G hmg ?qN ?qs ?qd ?qm ?qD ?qP ?qMC ?qMR ?ql ?qbs ?qqs ?qbt ?qqt ?qby ?qyb ?qa ?qlk ?qhcd ?qlc ?qcf ?qcP ?qkP ?qa2 ?qk2 ?qlk2 ?qhcd2 ?qlc2 ?qcf2 ?qcP2 ?qkP2 ?qne
    (case qa => k_is); (case qlk => k_is); (case qhcd => k_is); (case qlc => k_is)
    (case qa2 => k_is); (case qk2 => k_is); (case qlk2 => k_is); (case qhcd2 => k_is); (case qlc2 => k_is)
    (case qs => k_is); (case qd => k_is); (case qm => k_is); (case qMC => k_is); (case qMR => k_is); (case ql => k_is)
    (case qN => refine' Lm.bl_mk KX G ?_ ?_ ?_ ?_ ?_ ?_ ?_ ?_ ?_ ?_ ?_ ?_ ?_ ?_ ?_ ?_ <;> k_is)
    (case qD => refine' ⟨?_, ?_, ?_, ?_, ?_, ?_, ?_, ?_, ?_, ?_, ?_, ?_, ?_, ?_, ?_, ?_, ?_, ?_, ?_, ?_, ?_, ?_, ?_, ?_, ?_⟩ <;> (refine' Lm.at_mk KX G ?ya ?yl ?yc ?yk; (case ya => k_is); (case yl => k_is); (case yc => k_is); (case yk => k_is)))
    (case qP => refine' ⟨?_, ?_, ?_, ?_, ?_, ?_, ?_, ?_, ?_, ?_, ?_, ?_, ?_, ?_, ?_, ?_, ?_, ?_, ?_, ?_, ?_, ?_, ?_, ?_, ?_, ?_, ?_, ?_⟩ <;> (refine' Lm.at_mk KX G ?ya ?yl ?yc ?yk; (case ya => k_is); (case yl => k_is); (case yc => k_is); (case yk => k_is)))
    (case qbs => refine' ⟨?rbza, ?rbz1, ?rbz2, ?rbz3, ?rbz4, ?rbz5, ?rbz6, ?rbz7, ?rbz8, ?rbzd, ?rbze, ?rbzf, ?rbzg, ?rbzk, ?rbzt⟩; (case rbza => k_is); all_goals k_is)
    (case qqs => k_exc)
    (case qbt => refine' ⟨?rdza, ?rdz1, ?rdz2, ?rdz3, ?rdz4, ?rdz5, ?rdz6, ?rdz7, ?rdz8, ?rdzd, ?rdze, ?rdzf, ?rdzg, ?rdzk, ?rdzt⟩; (case rdza => k_is); all_goals k_is)
    (case qqt => k_exc)
    (case qby => refine' ⟨?rcza, ?rcz1, ?rcz2, ?rcz3, ?rcz4, ?rcz5, ?rcz6, ?rcz7, ?rcz8, ?rczd, ?rcze, ?rczf, ?rczg, ?rczk, ?rczt⟩; (case rcza => k_is); all_goals k_is)
    (case qyb => refine' Lm.y_mk KX G ?y1 ?y2 ?y3 ?y4 ?y5 ?y6 ?y7 ?y8 ?y9 ?ya0 ?yb0 ?yc0 ?yd0 ?ye0 ?yf0 ?yg0 ?yh0 ?yi0 ?yj0 ?yk0 ?yl0 ?ym0; (case y1 => k_is); (case y3 => k_is); (case y5 => k_is); (case y8 => k_is); (case yg0 => k_is); (case y6 => rfl); (case y7 => rfl); (case yc0 => rfl); (case yh0 => rfl); (case yd0 => first | ks_is | k_is | rfl | decide +kernel); all_goals k_is)
    case qcf => exact ⟨_, _, _, _, _, _, _, rfl, rfl, rfl, rfl, rfl, rfl⟩
    case qcP => decide
    case qkP => rfl
    case qcf2 => exact ⟨_, _, _, _, _, _, _, rfl, rfl, rfl, rfl, rfl, rfl⟩
    case qcP2 => decide
    case qkP2 => rfl
    case qne => decide
