import PyProof.Rows.All
import Wide.All
import OpenK.AllK
import Wide.FinOn
import PySem.Challenge.RW_lanesmeet_k43_whole_stretches_and_arcs
import HandS.Base
import HandS.Call
import HandS.List
import HandS.Comp
import HandS.Ends
import HandS.Dict
import HandS.Iter
import HandS.Exc
import HandS.TryOnly
import HandS.ExcOwn
import HandS.ExcIs
import HandS.IsInst
import HandS.Lambda
import HandS.Words
import HandS.WordsList
import HandS.WordsDict
import HandS.WordsExc
import PyProof.ReprReads
import HandS.Defaults
import HandS.Codes
import HandS.Wide
import HandS.Style
import HandS.TupAny
import HandS.Conv
import HandS.More
import HandS.Deep
import HandS.TupLe
import HandS.Text
import HandS.ExcInit
import HandS.FStr
import KE.KExcSuper
import PyProof.FString2
import HandS.ExcField
import KE.KExcIs
import PyProof.ExcBaseAll.ValueError
import KE.DataMinKey
import PyProof.Rows.CallKwBuiltin
import KE.GoesEnum
import HandS.Walk
import HandS.Small
import HandS.SortKw
import HandS.DictComp
import KE.DataMinMax
import KE.SortData
import HandS.SetFor
import HandS.Strs
import HandS.SortInts
import HandS.Evl
import KE.SortKeyHeap
import HandS.EndTab
import HandS.EndOwn
import KE.KExcLine
import KE.RegKSuper
set_option Elab.async false
set_option linter.all false
set_option maxRecDepth 100000
set_option maxHeartbeats 4000000
/-! An own exception that an except clause keeps: it is tracked from the clause on. -/
namespace Lm
open PySem PySem.Spec PyProof.Rows L2
/-- an exception's object, of the class cls, its own dict at d -/
def ExI (a : Addr) (cls : Value) (d : Option Addr) : HO := .ext fun h => ∃ oe : Obj, h.get? a = some oe ∧ Zc cls d oe ∧ ∃ vs, oe.data = .fields vs
theorem exI_ok {P : Program} {w : World} {H : Hp} {h : Heap} {a : Addr} {cls : Value} {d : Option Addr} {oe : Obj} {vs : Array Value} (e : h.get? a = some oe) (z : Zc cls d oe) (v : oe.data = .fields vs) : ObjOk P w H h a (ExI a cls d) :=
  ⟨⟨oe, e, z, vs, v⟩, ⟨oe, e⟩, fun _ _ ⟨o, q, r⟩ k => ⟨o, k o q, r⟩⟩
section
variable {X : Cx} {pins : List (Addr × Obj)} {σ : L2.St} {H : Hp} {s0 s1 : Shared} {B : Heap}
/-- back on the ground with the exception's object tracked -/
theorem landT {a : Addr} {o : HO} (I : Inv X pins σ H s0) (nb : ∀ b u, s0.heap.get? b = some u → b ∉ frs X.stack → B.get? b = some u)
    (st : B.StaysIn s1.heap) (up : s0.heap.UpToSlots s1.heap) (os : s1.os = s0.os) (ag : AllBare s1.gens)
    (n0 : s0.heap.get? a = none) (na : H a = none) (new : ObjOk X.prog X.w (upd H a o) s1.heap a o) : Inv X pins σ (upd H a o) s1 := by
  have slots : ∀ b ∈ frs X.stack, ∀ u, s0.heap.get? b = some u → ∃ sl, s1.heap.get? b = some { u with slots := sl } := by
    intro b hb u e
    obtain ⟨_, u', e', hd⟩ := I.stack.mem hb
    rw [e] at e'
    cases e'
    exact up b u e hd
  have off : ∀ b u, s0.heap.get? b = some u → b ≠ a := by
    intro b u e z
    rw [z, n0] at e
    cases e
  have un : Un (frs X.stack) [] H (upd H a o) s0.heap s1.heap := by
    constructor
    · intro b u e _ hb _
      exact st b u (nb b u e hb)
    · intro b u e _ hb _
      exact slots b hb u e
    · intro b u e n _
      rw [upd_ne (off b u e)]
      exact n
    · intro b u e _
      by_cases hb : b ∈ frs X.stack
      · obtain ⟨sl, q⟩ := slots b hb u e
        exact ⟨_, q⟩
      · exact ⟨u, st b u (nb b u e hb)⟩
    · intro b xs e
      rw [upd_ne (ne_of_none e na)]
      exact e
    · intro b u xs e
      rw [upd_ne (ne_of_none e na)]
      exact e
    · intro b ps e
      refine ⟨#[], ?_⟩
      rw [upd_ne (ne_of_none e na), e]
      simp
  have hk : HOk X.prog X.w H s1.heap := (I.inGround nb).kept st
  have hk2 : HOk X.prog X.w (upd H a o) s1.heap := by
    intro b u e
    by_cases hb : b = a
    · rw [hb] at e ⊢
      rw [upd_same] at e
      cases e
      exact new
    · rw [upd_ne hb] at e
      refine (hk b u e).stay (fun _ _ _ q => q) (fun c q => ?_) (fun c xs q => ?_)
      · rw [upd_ne (ne_of_none q na)]
        exact q
      · rw [upd_ne (ne_of_none q na)]
        exact q
  have fin := I.call (ch := []) (h' := s1.heap) (g' := s1.gens) (t' := s1.toks) (d' := s1.drawn) un hk2 ag (fun _ z => nomatch z)
  obtain ⟨p1, p2, p3, p4, p5⟩ := s1
  have e5 : p5 = s0.os := os
  subst e5
  exact fin
theorem suiteOf {a : Addr} {s : Shared} (I : Inv X pins σ H s) : Inv (X.suite a (X.pn ++ pins)) [] σ H s where
  ok := I.ok.suite _ _
  os := I.os
  bare := I.bare
  base := I.base
  loc := I.loc
  cell := I.cell
  free := I.free
  freeC := I.freeC
  pin := fun p hp => I.pin p (by
    have hp' : p ∈ (X.pn ++ pins) ++ [] := hp
    rwa [List.append_nil] at hp')
  hok := I.hok
  len := I.len
theorem ofSuite {a : Addr} {s : Shared} {more : List (Addr × Obj)} (ok : X.Ok) (I : Inv (X.suite a (X.pn ++ pins)) more σ H s) : Inv X pins σ H s where
  ok := ok
  os := I.os
  bare := I.bare
  base := I.base
  loc := I.loc
  cell := I.cell
  free := I.free
  freeC := I.freeC
  pin := fun p hp => I.pin p (List.mem_append_left _ hp)
  hok := I.hok
  len := I.len
end
/-- what such a clause wishes of an exception of the body -/
def wTr (K : PySem.W.Frag) (m : Nat) (c : Value) (i : Nat) (ts : Addr → TS) (D : Ends) : WX := fun cls d σ H =>
  PySem.W.exmOne K cls c = some true ∧ ∀ a, σ.length = m → H a = none → ts a { nx := fun σ' H' => D.nx (σ'.set i none) H', rt := D.rt, bk := fun σ' H' => D.bk (σ'.set i none) H', ct := fun σ' H' => D.ct (σ'.set i none) H' }
    (σ.set i (some (.ref a))) (upd H a (ExI a cls d))
section
variable {X : Cx} {x n : Str} {c : Value} {i : Nat} {body suite : List Stmt} {b₀ : Stmt} {np pos pos' : Pos} {tb : WX → TS} {ts : Addr → TS}
/-- try: .. / except x as n: suite; the exception's object is tracked in the suite and behind it -/
theorem ps_tryT (hs : X.stack = X.env :: X.outer) (hf : X.env.frame = some X.env.locals) (hN : X.N.Nodup) (hi : X.N[i]? = some n) (hln : X.env.kindOf n = some .local) (hc : Names X x c)
    (hb : ∀ (W : WX) (pn : List (Addr × Obj)) (xe : Value → Shared → Prop), Takes (X.tr pn xe) W → PassesOwn (model X.prog X.w) X.A X.env xe → PSs (X.tr pn xe) body (tb W))
    (hsu : ∀ (a : Addr) (pn : List (Addr × Obj)), PSs (X.suite a pn) (b₀ :: suite) (ts a)) :
    PS X (.Try body [.ExceptHandler (some (.Name x np)) (some n) (b₀ :: suite) pos'] [] [] pos) (fun D σ H => tb (wTr X.K X.N.length c i ts D) D σ H) := by
  constructor
  intro pins s σ H D I h
  have ok := I.ok
  have hfr : X.A.frames = some (X.env :: X.outer) := by rw [ok.frames, hs]
  refine wpAny_Try_except ?_
  refine wpAny_mono ((hb (wTr X.K X.N.length c i ts D) (X.pn ++ pins)
    (fun e s₁ => wpAny (model X.prog X.w) X.A (noteFrame e X.env) (fun _ s₂ => wpAny (model X.prog X.w) X.A (setFlight e none)
      (fun _ s₃ => wpAny (model X.prog X.w) X.A (handleBy e X.env [.ExceptHandler (some (.Name x np)) (some n) (b₀ :: suite) pos']) (SP X pins D) X.xe s₃) X.xe s₂) X.xe s₁)
    (fun u s' xx => ?kept) PassesOwn.looking).run [] s σ H D (I.toTry _) h) (fun f s1 hsp => ?done) (fun e s1 he => he)
  case kept =>
    obtain ⟨a, B, sI, pins', σ', H', cls, d, rfl, Ja, nb, up, sky, na, os, ag, hcls, hgo⟩ := xx
    have J : Inv X pins σ' H' sI := Ja.ofTry ok
    have nb' : ∀ b o, sI.heap.get? b = some o → b ∉ frs X.stack → B.get? b = some o := nb
    have skyX : Sky B (X.env :: X.outer) a (Zc cls d) X.env.locals s'.heap := by
      rw [← hs]
      exact sky
    refine Sky.land Zc.steady hfr hf skyX ?_
    intro h3 fl3 up3
    obtain ⟨oe3, vs3, g3, z3, d3⟩ := fl3.there
    have n0 : sI.heap.get? a = none := by
      cases q : sI.heap.get? a with
      | none => rfl
      | some o =>
        exfalso
        have hm : a ∈ frs X.stack := by
          refine Classical.byContradiction fun hn => ?_
          have z := nb' a o q hn
          rw [fl3.2.1] at z
          cases z
        rw [hs] at hm
        obtain ⟨_, o', e', hnf⟩ := fl3.2.2.1.mem hm
        rw [g3] at e'
        cases e'
        exact hnf _ d3
    have J3 := landT (a := a) (o := ExI a cls d) (s1 := { s' with heap := h3 }) J nb' fl3.1 (up.trans up3) os ag n0 na (exI_ok g3 z3 d3)
    refine wpAny_handleBy_cons (codeAny_handlers_test ?_) (by intro q; cases q)
    have LT : PySem.W.Looks (model X.prog X.w) h3 (typeOf (.ref a)) cls := by
      intro A Q E s k q
      refine wpAny_typeOf_ref (k _ _ g3) ?_
      rw [z3.1]
      exact q
    have LM := PySem.W.exm_one (M := model X.prog X.w) J3.kIn LT hcls
    have test : ∀ {Q : Value → Shared → Prop} {E : Value → Shared → Prop}, Q c { s' with heap := h3 } →
        wpAny (model X.prog X.w) (X.A.mark (some (.ref a))) (eval (.Name x np) X.env) Q E { s' with heap := h3 } := by
      intro Q E q
      obtain ⟨hg, hdbg, hm | ⟨hm, hv, hnn⟩⟩ := hc
      · exact ld_glob (X := X.suite a (X.pn ++ pins)) (suiteOf J3) hg hm q hdbg
      · exact ld_blt (X := X.suite a (X.pn ++ pins)) (suiteOf J3) hg hm hv q hnn hdbg
    refine test (LM.here ?_)
    refine codeAny_handlers_suite_as ?_
    refine HandSPX.lands_againZ fl3 ?_
    intro h4 fl4 up4
    obtain ⟨oe4, vs4, g4, z4, d4⟩ := fl4.there
    have J4 := landT (a := a) (o := ExI a cls d) (s1 := { s' with heap := h4 }) J nb' fl4.1 ((up.trans up3).trans up4) os ag n0 na (exI_ok g4 z4 d4)
    refine store_ok (X := X.suite a (X.pn ++ pins)) (v := .ref a) (suiteOf J4) hN hi (.inl hln) rfl (fun s5 S5 => ?_) (.inr hln)
    refine wpAny_mono ((hsu a (X.pn ++ pins)).run [] s5 _ _ _ S5 (hgo a J.len na)) (fun f s6 hsp => ?_) (fun _ _ z => z.elim)
    have gone : ∀ {σ6 : L2.St} {H6 : Hp} {R : Shared → Prop}, Inv (X.suite a (X.pn ++ pins)) [] σ6 H6 s6 → (∀ s7, Inv X pins (σ6.set i none) H6 s7 → R s7) →
        wpAny (model X.prog X.w) X.A (do bindName X.env n .none; unbindBehindTheSuite X.env n pos') (fun _ s7 => R s7) X.xe s6 := by
      intro σ6 H6 R S6 hq
      exact gone_ok (ofSuite ok S6) hN hi hln hq
    cases f with
    | next =>
      obtain ⟨σ6, H6, S6, q6⟩ := hsp
      exact gone S6 fun s7 J7 => ⟨_, _, J7, q6⟩
    | brk =>
      obtain ⟨σ6, H6, S6, q6⟩ := hsp
      exact gone S6 fun s7 J7 => ⟨_, _, J7, q6⟩
    | cont =>
      obtain ⟨σ6, H6, S6, q6⟩ := hsp
      exact gone S6 fun s7 J7 => ⟨_, _, J7, q6⟩
    | ret u =>
      obtain ⟨v6, σ6, H6, S6, r6, q6⟩ := hsp
      exact gone S6 fun s7 J7 => ⟨_, _, _, J7, r6, q6⟩
  case done =>
   cases f with
    | next =>
      obtain ⟨σ', H', J', q⟩ := hsp
      exact wpAny_execs_nil ⟨σ', H', J'.ofTry ok, q⟩
    | brk =>
      obtain ⟨σ', H', J', q⟩ := hsp
      exact ⟨σ', H', J'.ofTry ok, q⟩
    | cont =>
      obtain ⟨σ', H', J', q⟩ := hsp
      exact ⟨σ', H', J'.ofTry ok, q⟩
    | ret u =>
      obtain ⟨v, σ', H', J', r, q⟩ := hsp
      exact ⟨v, σ', H', J'.ofTry ok, r, q⟩
end
/-! ### isinstance of such an exception -/
theorem call_isX {X : Cx} {D : Addr} (C : ExcC X.K D) : CallR X (.builtin "isinstance") (fun xs H Q => ∃ (a : Addr) (c : V) (cv : Value) (b : Bool), xs = [.ref a, c] ∧ H a = some (ExI a (.ref D) none) ∧ (∀ u, RelV c u → u = cv) ∧ PySem.W.kitOne X.K (.ref D) cv = some b ∧ Q (.bl b) H) := by
  intro pins s σ H xs us Q I r h
  obtain ⟨a, c, cv, b, rfl, ha, hcv, e, q⟩ := h
  cases r with
  | cons rx rr =>
    cases rr with
    | cons rt rr =>
      cases rr
      cases rx
      have ec := hcv _ rt
      subst ec
      obtain ⟨⟨oe, hget, hz, vs, hv⟩, _, _⟩ := I.hok a _ ha
      have J : PySem.W.InstAt s.heap a oe D none := by
        obtain ⟨oc, od, oda, osl⟩ := oe
        obtain ⟨h1, h2⟩ := hz
        dsimp only at h1 h2 hv
        subst h1 h2 hv
        exact ⟨hget, rfl, rfl, trivial⟩
      exact PySem.W.kia_one (PySem.W.handS_kitx_exc C.hg C.hk C.hs C.hd C.ha C.hn C.ht C.hm) I.kIn J e (fun z => nomatch z)
        (fun tk => ⟨.bl b, H, I.kept (t' := tk) (fun _ _ z => z), rfl, q⟩)
end Lm
/-! repr of a list of data. -/
namespace Lm
open PySem PySem.Spec PyProof.Rows L2
theorem repr_list {prog : Program} {w : World} {A : Around} {E : Value → Shared → Prop} {s : Shared} {a : Addr} {oa : Obj} {x : Value} {l : List Value} {n : Nat} {as : List Addr} {ds : List PyData} {Q : Value → Shared → Prop}
    (ha : s.heap.get? a = some oa) (hc : oa.cls = .type "list") (hd : oa.data = .seq (x :: l).toArray n) (hr : ReadsAll s.heap (x :: l) ds as) (hs : PyData.showableAll ds = true) (hnd : PyData.hasDictAll ds = false)
    (hz : (listText (PyData.shownAll ds)).length ≤ sizeLine) (hg : A.guards = some []) (hu : A.units + (PyData.depthAll ds + 8) < cLine)
    (hQ : ∀ h' u tk, (∀ b o, s.heap.get? b = some o → h'.get? b = some o) → Q (.str (listText (PyData.shownAll ds)) u) { s with heap := h', toks := tk }) :
    wpAny (model prog w) A (call (.builtin "repr") [.ref a]) Q E s := by
  obtain ⟨bs, hb, hk⟩ := ReprAllK.of_readsAll (prog := prog) (w := w) hr hs (fun z => by rw [hnd] at z; cases z) (fun t ht => Nat.le_trans (listText_mem_le ht) hz)
  have r : Reads s.heap (.ref a) (.list ds) _ := .list ha hc hd hr
  have hna : a ∉ bs := not_mem_of_deeper r (by simp only [PyData.depth]; omega) hb
  have hT : s.TypeIs (.ref a) "list" := ⟨oa, ha, hc⟩
  refine Calls.call_function_entry F.kind_repr F.plain_repr F.entry_repr (F.args_repr1 _) ?_
  unfold Builtin.«repr»
  refine wpAny_bind (m := oneArg "repr" _) (wpAny_pure ?_)
  refine wpAny_bind (wpAny_cRoomFor (by show A.units + 1 < _; omega) ?_)
  refine wpAny_bind (wpAny_specialOf (name := Str.ofString "__repr__") hT PySem.F.slot_list_repr.lookup ?_)
  refine wpAny_bind (m := callSpecialIfBound? (.ref a) (Str.ofString "__repr__")) (wpAny_callSpecialIfBound?_slot (name := Str.ofString "__repr__") hT PySem.F.slot_list_repr
    (call_list_reprK ha hc hd hna (by simpa using hk.length_eq) (fun i y e => hk.item i y (by simpa using e)) (g := []) (by simpa using hg) (fun b _ => Clear.nil b) (by show A.units + 1 + _ < _; omega) (fun b o e => e) (fun h' u tk hk => ?_) hz))
  refine wpAny_bind (wpAny_isInstance (T := "str") (b := true) rfl isSubtype_str_str ?_)
  exact wpAny_pure ⟨_, rfl, hQ h' u tk hk⟩
end Lm
/-! A def at hand by its name; the state of the draws; data that the draws leave as they are. -/
namespace Lm
open PySem PySem.Spec PyProof.Rows L2
/-- the def named x keeps its promise -/
def Has (P : Program) (w : World) (K : PySem.W.Frag) (mg : Str → Option Value) (base : Heap) (CX : CXT) (k : Nat) (x : Str) (ps : List Str) (sp : Sp) : Prop :=
  ∃ (f : Addr) (fd : FuncData), mg x = some (.ref f) ∧ PySem.W.keepIn K (.ref f) = true ∧ L2.Binds K fd ps [] ∧ FnOk P w K mg base CX k f fd ps sp
theorem Has.imp {P : Program} {w : World} {K : PySem.W.Frag} {mg : Str → Option Value} {base : Heap} {CX : CXT} {k : Nat} {x : Str} {ps : List Str} {sp sp' : Sp} (h : Has P w K mg base CX k x ps sp) (i : ∀ vs H Q E, sp' vs H Q E → sp vs H Q E) : Has P w K mg base CX k x ps sp' := by
  obtain ⟨f, fd, a, b, c, d⟩ := h
  exact ⟨f, fd, a, b, c, d.imp i⟩
def tH (sp : Sp) (E : XK) (t : TA) : TE := fun σ H Q => t σ H fun vs H1 => sp vs H1 Q E
def tHK (ks : List Str) (gV : List V → List V) (sp : Sp) (E : XK) (tk : TA) : TE := fun σ H Q => tk σ H fun zs H1 => zs.length = ks.length ∧ sp (gV zs) H1 Q E
section
variable {X : Cx} {CX : CXT} {x : Str} {ps : List Str} {sp : Sp} {E : XK} {j k : Nat} {p pos : Pos} {e : Expr} {es : List Expr} {t : TA}
theorem pe_h (c : Has X.prog X.w X.K X.mg X.base CX k x ps sp) (hr : Room j X.A) (hk : k ≤ j) (hg : Gl X x) (hx : Passes CX X E) (ha : PA X (e :: es) t) (hdb : (x == ("__debug__" : Str)) = false := by decide)
    (he : starEach (e :: es) X.env = (false, eval e X.env) :: starEach es X.env := by rfl) (hpl : (backTo pos (starEach es X.env)).any (·.1) = false := by rfl) : PE X (.Call (.Name x p) (e :: es) [] pos) (tH sp E t) := by
  obtain ⟨f, fd, hm, kp, b, F⟩ := c
  constructor
  intro pins s σ H Q I h
  have h : t σ H fun vs H1 => sp vs H1 Q E := h
  refine (pe_call F (hr.mono hk) hg hm kp b .nil hx ha hdb he hpl).run pins s σ H Q I ?_
  show t σ H fun vs H1 => sp (vs ++ []) H1 Q E
  simpa using h
end
/-- a def that is called by keywords alone -/
def HasK (P : Program) (w : World) (K : PySem.W.Frag) (mg : Str → Option Value) (base : Heap) (CX : CXT) (k : Nat) (x : Str) (ps ks : List Str) (gV : List V → List V) (sp : Sp) : Prop :=
  ∃ (f : Addr) (fd : FuncData) (g : List Value → List Value → List Value), mg x = some (.ref f) ∧ PySem.W.keepIn K (.ref f) = true ∧ KBn K fd ps 0 ks g (fun _ zs => gV zs) ∧ FnOk P w K mg base CX k f fd ps sp
section
variable {X : Cx} {CX : CXT} {x : Str} {ps ks : List Str} {sp : Sp} {E : XK} {j k : Nat} {p pos : Pos} {kws : List Keyword} {tk : TA} {gV : List V → List V}
theorem pe_hK (c : HasK X.prog X.w X.K X.mg X.base CX k x ps ks gV sp) (hr : Room j X.A) (hk : k ≤ j) (hg : Gl X x) (hx : Passes CX X E) (hkw : PK X kws tk)
    (hall : (backToKw pos (keywordEach kws X.env)).all (·.1.isSome) = true := by rfl) (hks : (backToKw pos (keywordEach kws X.env)).filterMap (·.1) = ks := by rfl)
    (hpl : ((backTo pos (starEach [] X.env)).any (·.1) || (backToKw pos (keywordEach kws X.env)).any (·.1.isNone)) = false := by rfl) (hdb : (x == ("__debug__" : Str)) = false := by decide) :
    PE X (.Call (.Name x p) [] kws pos) (tHK ks gV sp E tk) := by
  obtain ⟨f, fd, g, hm, kp, b, F⟩ := c
  constructor
  intro pins s σ H Q I h
  have h : tk σ H fun zs H1 => zs.length = ks.length ∧ sp (gV zs) H1 Q E := h
  refine wpAny_Call_Name_kw (ld_glob I hg hm ?_ hdb)
  refine PySem.W.callWith_KW0 (h₀ := X.base) I.ok.mod.kin kp hall ?_ hpl
  refine thn (hkw.run pos pins s σ H _ I h) ?_
  intro ws s2 ⟨zs, H2, I2, rz, l2, q2⟩
  refine ⟨I2.kIn, ?_⟩
  rw [hks]
  exact run_fnN (us := []) (vs := []) F (hr.mono hk) b hx I2 .nil rz rfl l2 q2
end
/-! ### the state of the draws -/
structure DrA where
  d : Addr
  w : Addr
  c : Addr
def drF (D : DrA) (r t : Int) : List (Key × V) := [(.inr "wide", .ref D.w), (.inr "cells", .ref D.c), (.inr "rest", .int r), (.inr "turn", .int t)]
/-- the state stands, and at most n turns were taken -/
def DrawAt (D : DrA) (n : Nat) (H : Hp) : Prop := ∃ (ws cs : List Int) (r t : Int), H D.d = some (.dK (drF D r t)) ∧ H D.w = some (.lst (ws.map V.int)) ∧ H D.c = some (.lst (cs.map V.int)) ∧ ((∀ x ∈ cs, 0 ≤ x ∧ x < 2147483629) ∧ D.c ≠ D.w) ∧ 0 ≤ t ∧ t ≤ (n : Int)
theorem DrawAt.mono {D : DrA} {n m : Nat} {H : Hp} (h : DrawAt D n H) (l : n ≤ m) : DrawAt D m H := by
  obtain ⟨ws, cs, r, t, h1, h2, h3, h4, h5, h6⟩ := h
  exact ⟨ws, cs, r, t, h1, h2, h3, h4, h5, by omega⟩
theorem DrawAt.same {D : DrA} {n : Nat} {H H' : Hp} (h : DrawAt D n H) (s : ∀ b o, H b = some o → (∀ ps, o ≠ .tbl ps) → H' b = some o) : DrawAt D n H' := by
  obtain ⟨ws, cs, r, t, h1, h2, h3, h4, h5, h6⟩ := h
  exact ⟨ws, cs, r, t, s _ _ h1 (fun _ z => by cases z), s _ _ h2 (fun _ z => by cases z), s _ _ h3 (fun _ z => by cases z), h4, h5, h6⟩
/-- all but the state stands -/
def Fr (D : DrA) (H H' : Hp) : Prop := ∀ b o, H b = some o → b ≠ D.d → b ≠ D.w → H' b = some o
theorem Fr.refl (D : DrA) (H : Hp) : Fr D H H := fun _ _ h _ _ => h
theorem Fr.trans {D : DrA} {H H1 H2 : Hp} (a : Fr D H H1) (b : Fr D H1 H2) : Fr D H H2 := fun c o h n1 n2 => b c o (a c o h n1 n2) n1 n2
theorem Fr.of {D : DrA} {H H' : Hp} (a : Same H H') : Fr D H H' := fun c o h _ _ => a c o h
theorem same_upd {H : Hp} {p : Addr} {o : HO} (h : H p = none) : Same H (upd H p o) := by
  intro b x e
  rw [upd_ne (ne_of_none e h)]
  exact e
theorem drF_rest (D : DrA) (r t : Int) : valV (drF D r t) (.inr "rest") = some (.int r) := rfl
theorem drF_turn (D : DrA) (r t : Int) : valV (drF D r t) (.inr "turn") = some (.int t) := rfl
theorem drF_wide (D : DrA) (r t : Int) : valV (drF D r t) (.inr "wide") = some (.ref D.w) := rfl
theorem drF_cells (D : DrA) (r t : Int) : valV (drF D r t) (.inr "cells") = some (.ref D.c) := rfl
theorem drF_putR (D : DrA) (r t z : Int) : putK (drF D r t) (.inr "rest") (.int z) = drF D z t := rfl
theorem drF_putT (D : DrA) (r t z : Int) : putK (drF D r t) (.inr "turn") (.int z) = drF D r z := rfl
def B : Nat := 70368744177664
/-! ### data apart from the state -/
mutual
inductive Da (D : DrA) (H : Hp) : V → PyData → Prop
  | non : Da D H .non .none
  | bl (b : Bool) : Da D H (.bl b) (.bool b)
  | int (i : Int) : Da D H (.int i) (.int i)
  | str (x : Str) : Da D H (.str x) (.str x)
  | lst {a : Addr} {xs : List V} {ds : List PyData} : H a = some (.lst xs) → a ≠ D.d → a ≠ D.w → DaAll D H xs ds → Da D H (.ref a) (.list ds)
  | tup {a : Addr} {xs : List V} {ds : List PyData} : H a = some (.tup xs) → a ≠ D.d → a ≠ D.w → DaAll D H xs ds → Da D H (.ref a) (.tuple ds)
  | emp {a : Addr} : H a = some (.dK []) → a ≠ D.d → a ≠ D.w → Da D H (.ref a) (.dict [])
inductive DaAll (D : DrA) (H : Hp) : List V → List PyData → Prop
  | nil : DaAll D H [] []
  | cons {v : V} {vs : List V} {d : PyData} {ds : List PyData} : Da D H v d → DaAll D H vs ds → DaAll D H (v :: vs) (d :: ds)
end
/-- all but the state, and but the tables, stands -/
def FrT (D : DrA) (H H' : Hp) : Prop := ∀ b o, H b = some o → b ≠ D.d → b ≠ D.w → (∀ ps, o ≠ .tbl ps) → H' b = some o
theorem FrT.refl (D : DrA) (H : Hp) : FrT D H H := fun _ _ h _ _ _ => h
theorem FrT.trans {D : DrA} {H H1 H2 : Hp} (a : FrT D H H1) (b : FrT D H1 H2) : FrT D H H2 := fun c o h n1 n2 n3 => b c o (a c o h n1 n2 n3) n1 n2 n3
theorem Fr.t {D : DrA} {H H' : Hp} (a : Fr D H H') : FrT D H H' := fun c o h n1 n2 _ => a c o h n1 n2
mutual
theorem Da.fr {D : DrA} {H H' : Hp} (f : FrT D H H') : ∀ {d : PyData} {v : V}, Da D H v d → Da D H' v d
  | _, _, .non => .non
  | _, _, .bl b => .bl b
  | _, _, .int i => .int i
  | _, _, .str x => .str x
  | _, _, .lst h n1 n2 ha => .lst (f _ _ h n1 n2 (fun _ z => by cases z)) n1 n2 (DaAll.fr f ha)
  | _, _, .tup h n1 n2 ha => .tup (f _ _ h n1 n2 (fun _ z => by cases z)) n1 n2 (DaAll.fr f ha)
  | _, _, .emp h n1 n2 => .emp (f _ _ h n1 n2 (fun _ z => by cases z)) n1 n2
theorem DaAll.fr {D : DrA} {H H' : Hp} (f : FrT D H H') : ∀ {ds : List PyData} {vs : List V}, DaAll D H vs ds → DaAll D H' vs ds
  | _, _, .nil => .nil
  | _, _, .cons h ha => .cons (Da.fr f h) (DaAll.fr f ha)
end
theorem DaAll.length {D : DrA} {H : Hp} : ∀ {ds : List PyData} {vs : List V}, DaAll D H vs ds → vs.length = ds.length
  | _, _, .nil => rfl
  | _, _, .cons _ ha => congrArg Nat.succ (DaAll.length ha)
theorem DaAll.get {D : DrA} {H : Hp} : ∀ {ds : List PyData} {vs : List V} {i : Nat} {v : V}, DaAll D H vs ds → vs[i]? = some v → ∃ d, ds[i]? = some d ∧ Da D H v d
  | _, _, _, _, .nil, e => by simp at e
  | _, _, 0, _, .cons h _, e => by
    simp at e
    subst e
    exact ⟨_, rfl, h⟩
  | _, _, i + 1, _, .cons _ ha, e => by
    obtain ⟨d, h1, h2⟩ := DaAll.get (i := i) ha (by simpa using e)
    exact ⟨d, by simpa using h1, h2⟩
theorem DaAll.app {D : DrA} {H : Hp} : ∀ {ds es : List PyData} {vs ws : List V}, DaAll D H vs ds → DaAll D H ws es → DaAll D H (vs ++ ws) (ds ++ es)
  | _, _, _, _, .nil, h => h
  | _, _, _, _, .cons a b, h => .cons a (DaAll.app b h)
theorem DaAll.take {D : DrA} {H : Hp} (n : Nat) : ∀ {ds : List PyData} {vs : List V}, DaAll D H vs ds → DaAll D H (vs.take n) (ds.take n) := by
  induction n with
  | zero => intro ds vs _; exact .nil
  | succ n ih =>
    intro ds vs h
    cases h with
    | nil => exact .nil
    | cons a b => exact .cons a (ih b)
theorem DaAll.drop {D : DrA} {H : Hp} (n : Nat) : ∀ {ds : List PyData} {vs : List V}, DaAll D H vs ds → DaAll D H (vs.drop n) (ds.drop n) := by
  induction n with
  | zero => intro ds vs h; exact h
  | succ n ih =>
    intro ds vs h
    cases h with
    | nil => exact .nil
    | cons a b => exact ih b
theorem DaAll.rev {D : DrA} {H : Hp} : ∀ {ds : List PyData} {vs : List V}, DaAll D H vs ds → DaAll D H vs.reverse ds.reverse
  | _, _, .nil => .nil
  | _, _, .cons a b => by
    rw [List.reverse_cons, List.reverse_cons]
    exact DaAll.app (DaAll.rev b) (.cons a .nil)
theorem DaAll.ints {D : DrA} {H : Hp} : ∀ ns : List Int, DaAll D H (ns.map V.int) (ns.map PyData.int)
  | [] => .nil
  | n :: r => .cons (.int n) (DaAll.ints r)
/-- a new object lies apart from the state -/
theorem DrawAt.off {D : DrA} {n : Nat} {H : Hp} {p : Addr} (h : DrawAt D n H) (np : H p = none) : p ≠ D.d ∧ p ≠ D.w := by
  obtain ⟨ws, cs, r, t, h1, h2, _⟩ := h
  constructor
  · intro z
    rw [z, h1] at np
    cases np
  · intro z
    rw [z, h2] at np
    cases np
theorem DrawAt.new {D : DrA} {n : Nat} {H : Hp} {p : Addr} {o : HO} (h : DrawAt D n H) (np : H p = none) : DrawAt D n (upd H p o) := h.same fun b x e _ => same_upd np b x e
end Lm
/-! An own exception whose __init__ says super().__init__(f"..") and keeps one field. -/
namespace Lm
open PySem PySem.Spec PyProof.Rows L2
/-! ### {x!r} of None or an int -/
def tFmtN (te : TE) : TE := fun σ H Q => te σ H fun x H1 => (x = .non ∧ Q (.str "None") H1) ∨ ∃ i : Int, x = .int i ∧ i.natAbs.log2 < 1920 ∧ Q (.str (toString i)) H1
theorem pe_fmtN {X : Cx} {e : Expr} {te : TE} {pos : Pos} (he : PE X e te) : PE X (.FormattedValue e 114 none pos) (tFmtN te) := by
  refine ⟨fun pins s σ H Q I h => ?_⟩
  refine wpAny_FormattedValue_repr (thn (he.run pins s σ H _ I h) fun v s1 hv => ?_)
  obtain ⟨x, H1, I1, r1, q⟩ := hv
  rcases q with ⟨rfl, q⟩ | ⟨i, rfl, hz, q⟩
  · obtain rfl : v = Value.none := r1
    exact pyReprObj_none (wpAny_formatField_str ⟨.str "None", H1, I1.tok _, ⟨_, rfl⟩, q⟩ ⟨.str "None", H1, I1.tok _, ⟨_, rfl⟩, q⟩ (by decide +kernel))
  · obtain ⟨t, rfl⟩ := r1
    exact pyReprObj_int hz (wpAny_formatField_str ⟨.str (toString i), H1, I1.tok _, ⟨_, rfl⟩, q⟩ ⟨.str (toString i), H1, I1.tok _, ⟨_, rfl⟩, q⟩ (int_text_fits hz))
theorem lk_cons {α : Type} (k y : Str) (v : α) (r : List (Str × α)) : ((k, v) :: r).lookup y = if y = k then some v else r.lookup y := by
  by_cases h : y = k
  · rw [if_pos h]
    simp [List.lookup, h]
  · rw [if_neg h]
    have : (y == k) = false := by simpa using h
    simp [List.lookup, this]
theorem lk_nil {α : Type} (y : Str) : ([] : List (Str × α)).lookup y = none := rfl
/-! ### the frame of such an __init__ -/
/-- what the written part says of the def -/
structure InitAt (P : Program) (K : PySem.W.Frag) (mg : Str → Option Value) (C : Addr) (st : Stmt) (fI : Addr) (fd : FuncData) : Prop where
  ex : ∃ (oc : Value) (od : Option Addr) (kV doc pm : Value) (an : Option Addr) (cda cc : Addr) (ct : Value) (osl : Array (Option Value)) (qual : Str),
    fd = PySem.W.ksFn "__init__" qual (defArgs st) (defBody st) (defScope st) .none kV doc pm an (.ref cda) ct cc ∧ K.lookup fI = some ⟨oc, od, .func fd, osl⟩ ∧ PySem.W.codeIn K (.ref cda) qual = true ∧
    (∃ (ccl : Value) (cdd : Option Addr) (vs : Array Value) (ccs : Array (Option Value)) (file : Str) (tf : Tok), K.lookup cda = some ⟨ccl, cdd, .fields vs, ccs⟩ ∧ vs[2]? = some (.str file tf) ∧ ((P.main.file : Str) == file) = true) ∧
    ∃ (cl : Value) (cld : Option Addr) (csl : Array (Option Value)), K.lookup cc = some ⟨cl, cld, .cell (some (.ref C)), csl⟩
  cls : ∃ cd, PySem.W.clsIn K C = some cd
  self : PySem.W.mroIn K C (.ref C) = some true
  sup : mg "super" = none
  top : (P.main.scope.names.lookup ("super" : Str)).isSome = false
  along : PySem.W.ks_superIn K C C "__init__" = some (some (.builtin "ValueError.__init__"))
  isV : PySem.W.subIn K (.ref C) (.type "ValueError") = some true
  opq : PySem.W.nsIn K cStatics "thirdparty.any" = some none
  oex : OexC K C
/-- the context in which its body runs -/
def cxI (P : Program) (w : World) (K : PySem.W.Frag) (mg : Str → Option Value) (base : Heap) (N : List Str) (qual : Str) (scope : Scope) (f : Addr) (cd : Value) (cc : Addr) (A : Around) (outer : List Env) (s : Shared) (H : Hp) (xe : Value → Shared → Prop) : Cx where
  prog := P
  w := w
  K := K
  mg := mg
  base := base
  A := A.deeper (PySem.W.ksEnv qual scope s.heap.objs.size f cd cc)
  N := N
  s_0 := s
  H_0 := H
  env := PySem.W.ksEnv qual scope s.heap.objs.size f cd cc
  outer := outer
  stack := PySem.W.ksEnv qual scope s.heap.objs.size f cd cc :: outer
  ex := []
  calm := true
  fn := fun _ => false
  pn := []
  xe := xe
def nInit (x : Str) : List Str := ["self", x]
def scI (x : Str) : Scope := { kind := .function, names := [("self", .local), (x, .local), ("__class__", .free), ("super", .globalImplicit)], isGenerator := false, isCoroutine := false, more := [] }
section
variable {P : Program} {w : World} {K : PySem.W.Frag} {mg : Str → Option Value} {base : Heap}
theorem inv_init {x qual : Str} {f cc C : Addr} {cd : Value} {A : Around} {outer : List Env} {s : Shared} {H : Hp} {xe : Value → Shared → Prop} {u0 u1 : Value} {v0 v1 : V} {h₀ : Heap} {oc : Value} {od : Option Addr} {osl : Array (Option Value)}
    (hx : (x == ("self" : Str)) = false ∧ (x == ("__class__" : Str)) = false ∧ (x == ("super" : Str)) = false) (hd : A.handled = none) (e0 : Env0 P w K mg base A outer s H) (hcc : K.lookup cc = some ⟨oc, od, .cell (some (.ref C)), osl⟩)
    (r0 : RelV v0 u0) (r1 : RelV v1 u1) (ns : h₀.Ns s.heap.objs.size (fun y => ([("self", u0), (x, u1)] : List (Str × Value)).reverse.lookup y)) (hk : ∀ b o, s.heap.get? b = some o → h₀.get? b = some o) (t : Nat) :
    Inv (cxI P w K mg base (nInit x) qual (scI x) f cd cc A outer s H xe) [] [some v0, some v1] H { s with heap := h₀, toks := t } := by
  have KX : K.In s.heap := e0.mod.kin.keeps fun b o e => (e0.bs b o e).1
  have noA : ∀ b : Addr, b ∉ (cxI P w K mg base (nInit x) qual (scI x) f cd cc A outer s H xe).ex := fun b z => absurd (show b ∈ ([] : List Addr) from z) (by simp)
  have cells : ∀ y c, (cxI P w K mg base (nInit x) qual (scI x) f cd cc A outer s H xe).env.cells.lookup y = some c → y = ("__class__" : Str) ∧ c = cc := fun y c h => by
    have h : ([(("__class__" : Str), cc)] : List (Str × Addr)).lookup y = some c := h
    rw [lk_cons] at h
    by_cases e : y = ("__class__" : Str)
    · rw [if_pos e] at h
      exact ⟨e, (Option.some.inj h).symm⟩
    · rw [if_neg e] at h
      cases h
  have hccb : H cc = none := (e0.bs cc _ (e0.mod.kin _ _ hcc)).2
  refine ⟨⟨e0.mod, rfl, rfl, rfl, Nat.le_refl _, fun y z c h1 h2 => ?_, fun y hy => ?_, fun y c h => ?_, fun _ => hd, Around.frames_deeper e0.frames, .inr ⟨rfl, rfl⟩, fun b z => absurd z (noA b), e0.bs, e0.bsz, fun b _ _ => noA b, fun b z => absurd z (noA b), e0.funs, e0.frf⟩,
    rfl, e0.bare, Un.kept hk, ⟨_, ns, fun i y v h1 h2 h3 => ?_⟩, fun y c h => ?_, e0.hok.fresh (Nat.le_refl _), fun y c h => ?_, fun p hp => absurd (show p ∈ ([] : List (Addr × Obj)) from hp) (by simp), e0.hok.kept hk, rfl⟩
  · rw [(cells y c h1).1, (cells z c h2).1]
  · have hy : ([("self", .local), (x, .local), ("__class__", .free), ("super", .globalImplicit)] : List (Str × NameKind)).lookup y = some .cell ∨ ([("self", .local), (x, .local), ("__class__", .free), ("super", .globalImplicit)] : List (Str × NameKind)).lookup y = some .free := hy
    by_cases e : y = ("__class__" : Str)
    · exact ⟨cc, by rw [e]; rfl⟩
    · exfalso
      rw [lk_cons, lk_cons, lk_cons, lk_cons, lk_nil, if_neg e] at hy
      by_cases e1 : y = ("self" : Str)
      · rw [if_pos e1] at hy
        rcases hy with hy | hy <;> cases hy
      · rw [if_neg e1] at hy
        by_cases e2 : y = x
        · rw [if_pos e2] at hy
          rcases hy with hy | hy <;> cases hy
        · rw [if_neg e2] at hy
          by_cases e3 : y = ("super" : Str)
          · rw [if_pos e3] at hy
            rcases hy with hy | hy <;> cases hy
          · rw [if_neg e3] at hy
            rcases hy with hy | hy <;> cases hy
  · cases h
  · have hx1 : (x == ("self" : Str)) = false := hx.1
    match i, h1, h2 with
    | 0, h1, h2 =>
      have h1 : some ("self" : Str) = some y := h1
      cases h1
      have h2 : some (some v0) = some (some v) := h2
      cases h2
      refine ⟨u0, r0, .inl ⟨rfl, ?_⟩⟩
      have k : ¬ ("self" : Str) = x := fun z => by
        rw [← z] at hx1
        simp at hx1
      show ([(x, u1), ("self", u0)] : List (Str × Value)).lookup ("self" : Str) = some u0
      rw [lk_cons, if_neg k, lk_cons, if_pos rfl]
    | 1, h1, h2 =>
      have h1 : some x = some y := h1
      cases h1
      have h2 : some (some v1) = some (some v) := h2
      cases h2
      refine ⟨u1, r1, .inl ⟨?_, ?_⟩⟩
      · show ([("self", .local), (x, .local), ("__class__", .free), ("super", .globalImplicit)] : List (Str × NameKind)).lookup x = some .local
        rw [lk_cons, lk_cons, if_pos rfl]
        split <;> rfl
      · show ([(x, u1), ("self", u0)] : List (Str × Value)).lookup x = some u1
        rw [lk_cons, if_pos rfl]
    | i + 2, h1, h2 => cases h1
  · obtain ⟨_, rfl⟩ := cells y c h
    exact ⟨_, ⟨_, hk _ _ (KX _ _ hcc), rfl⟩⟩
  · obtain ⟨_, rfl⟩ := cells y c h
    exact hccb
theorem run_on {X : Cx} {pins : List (Addr × Obj)} {σ : L2.St} {H : Hp} {s : Shared} {D : Ends} {st : List Stmt} {t : TS} (I : Inv X pins σ H s) (p : PSs X st t) (q : t D σ H) : wpAny (model X.prog X.w) X.A (execs st X.env) (SP X pins D) X.xe s := p.run pins s σ H D I q
/-- ValueError.__init__, bound to the exception, is called -/
theorem call_mw {A : Around} {E : Value → Shared → Prop} {pins : List (Addr × Obj)} {σ : L2.St} {H : Hp} {s : Shared} {X : Cx} {u a C : Addr} {us : List Value} {Q : Value → Shared → Prop} (T : OexC X.K C) (I : Inv X pins σ H s) (e : H a = some (exo a C none))
    (hu : s.heap.get? u = some (PySem.W.kxs_mw "ValueError.__init__" a)) (hl : us.length ≤ sizeLine) (h : ∀ s', Inv X pins σ H s' → Q .none s') : wpAny (model X.prog X.w) A (call (.ref u) us) Q E s := by
  obtain ⟨nm, q, N, bs, bm, sn, sub, ab, col, dd, k0, k1, k2, k3, k5, hC, hbm⟩ := T.cls
  obtain ⟨t1, ho⟩ := exo_at I.hok e
  have fin : ∀ h', (∀ b o, b ≠ a → s.heap.get? b = some o → h'.get? b = some o) → h'.get? a = some (PySem.W.excRec (.ref C) s.heap.objs.size none .none .none (.bool false)) → Q .none { s with heap := h' } := fun h' k hx => by
    have J := I.write (t' := s.toks) (x := a) (e := a) (o := exo a C none) (by rw [e]; exact True.intro) (.inl rfl) k ⟨_, hx⟩ (exo_ok hx)
    have eu : upd H a (exo a C none) = H := by
      funext b
      by_cases hb : b = a
      · rw [hb, upd_same, e]
      · rw [upd_ne hb]
    rw [eu] at J
    exact h _ J
  have hCk := I.kIn _ _ hC
  obtain ⟨hh, g, d, t, os⟩ := s
  refine wpAny_call (codeAny_of_tree ?_)
  show wpAny _ A.in1 (callAny (.ref u) ⟨us, []⟩) _ _ _
  simp only [callAny]
  refine wpAny_bind (wpAny_load hu ?_)
  have kinds : (Value.type "method-wrapper" == Value.type "method" || Value.type "method-wrapper" == Value.type "builtin_function_or_method" || Value.type "method-wrapper" == Value.type "method-wrapper") = true := by decide
  simp only [PySem.W.kxs_mw, kinds, if_true]
  refine PySem.W.KFB.if_so (by decide) ?_
  refine wpAny_bind (PySem.W.check_bound_init PySem.F.excBase_ValueError.toExcCallFacts hCk ho rfl ?_)
  refine wpAny_bind (wpAny_pure (wpAny_pure ?_))
  refine ⟨plainId_quiet PySem.F.excBase_ValueError.init.plain _, codeAny_builtin PySem.F.excBase_ValueError.initEntry ?_⟩
  exact PySem.W.exc_init_tree (cls := .ref C) (t0 := t1) (dv := none) (c2 := .none) (c3 := .none) (b4 := .bool false) ho hl fun h' k hx _ => fin h' k hx
/-- the def's statements, as their text has them -/
structure InitTxt (st : Stmt) (x : Str) : Prop where
  sc : defScope st = scI x
  body : ∃ (m : Str) (j : Nat) (p0 p1 p2 p3 p4 p5 p6 p7 p8 p9 pa pb pc pd : Pos), defBody st = [
    .Expr (.Call (.Attribute (.Call (.Name "super" p0) [] [] p1) "__init__" p2) [.JoinedStr [.Constant (.str m) j p3, .FormattedValue (.Name x p4) 114 none p5] p6] [] p7) p8,
    .Assign [.Attribute (.Name "self" p9) x pa] (.Name x pb) pc] ∧ m.length ≤ 1000 ∧
    ∀ env, ∃ pl, eval (.Call (.Attribute (.Call (.Name "super" p0) [] [] p1) "__init__" p2) [.JoinedStr [.Constant (.str m) j p3, .FormattedValue (.Name x p4) 114 none p5] p6] [] p7) env = (do
      let ov ← attributeBase (.Call (.Name "super" p0) [] [] p1) "__init__" env (eval (.Call (.Name "super" p0) [] [] p1) env)
      standAt p2.atName
      let (f, first) ← holding [ov] (getMethod ov "__init__" pl)
      callWith p7 f first (backTo p7 (starEach [.JoinedStr [.Constant (.str m) j p3, .FormattedValue (.Name x p4) 114 none p5] p6] env)) [])
  params : (defArgs st).posonlyargs = [] ∧ ∃ a b, (defArgs st).args = [a, b] ∧ a.arg = "self"
/-- what it keeps: the argument in the one field -/
def spInit (K : PySem.W.Frag) (C : Addr) (x : Str) : Sp := fun vs H Q _ => ∃ (a : Addr) (y : V), vs = [.ref a, y] ∧ H a = some (exo a C none) ∧ PySem.W.findIn K (.ref C) x = some none ∧ (y = .non ∨ ∃ i : Int, y = .int i ∧ i.natAbs < 1000) ∧
  ∀ dx, H dx = none → dx ≠ a → Q .non (upd (upd H dx (exd dx [(x, y)])) a (exo a C (some dx)))
theorem ok_init {x : Str} {C fI : Addr} {st : Stmt} {fd : FuncData} (F : InitAt P K mg C st fI fd) (T : InitTxt st x) (hx : (x == ("self" : Str)) = false ∧ (x == ("__class__" : Str)) = false ∧ (x == ("super" : Str)) = false) (hdb : (x == ("__debug__" : Str)) = false ∧ (x == ("__classdict__" : Str)) = false) :
    FnOk P w K mg base CX0 1 fI fd ["self", x] (spInit K C x) := by
  refine ⟨fun vs H Q E h => ?_, fun A outer s H args us vs Q E hr e0 hb r hsp => ?_⟩
  · obtain ⟨a, y, rfl, _⟩ := h
    rfl
  · obtain ⟨a, y, rfl, ha, hno, hy, q⟩ := hsp
    obtain ⟨oc, od, kV, doc, pm, an, cda, cc, ct, osl, qual, rfl, lk, hcd, ⟨ccl, cdd, fs, ccs, file, tf, lcd, hfs, hfile⟩, cl, cld, csl, lcc⟩ := F.ex
    obtain ⟨cd, hcls⟩ := F.cls
    obtain ⟨m, j, p0, p1, p2, p3, p4, p5, p6, p7, p8, p9, pa, pb, pc, pd, hbody, hm, hev⟩ := T.body
    have hsc := T.sc
    have hpar := T.params
    have hself := F.self
    have hsup := F.sup
    have htop := F.top
    have halong := F.along
    have hisV := F.isV
    have hopq := F.opq
    have hoex := F.oex
    clear F T
    generalize defScope st = sc at *
    generalize defBody st = bd at *
    subst hsc hbody
    have KX : K.In s.heap := e0.mod.kin.keeps fun b o e => (e0.bs b o e).1
    have lim : s.heap.NoLimit := e0.mod.nolimit.keeps fun b o e => (e0.bs b o e).1
    match us, r with
    | [u0, u1], .cons r0 (.cons r1 .nil) =>
    obtain rfl : u0 = Value.ref a := r0
    refine ks_codeAny_call_defAt (binds := [("self", .ref a), (x, u1)]) hr.depth (KX _ _ lk) rfl lim (PySem.W.codeRec_of KX hcd) rfl hb ?_ ?_ (fun h₀ ns hk => ?_)
    · intro z hz
      have hz : z ∈ ([("self", .local), (x, .local), ("__class__", .free), ("super", .globalImplicit)] : List (Str × NameKind)) := hz
      simp at hz
      rcases hz with rfl | rfl | rfl | rfl <;> (intro e; cases e)
    · intro z hz
      have hz : z = (("self" : Str), Value.ref a) ∨ z = (x, u1) := by simpa using hz
      show ([("self", .local), (x, .local), ("__class__", .free), ("super", .globalImplicit)] : List (Str × NameKind)).lookup z.1 = some .local
      rcases hz with rfl | rfl
      · rw [lk_cons, if_pos rfl]
      · rw [lk_cons, lk_cons, if_pos rfl]
        split <;> rfl
    · have I := inv_init (qual := qual) (f := fI) (cd := .ref cda) (A := A) (outer := outer) (xe := fun e s' => wpAny (model P w) (A.deeper (PySem.W.ksEnv qual (scI x) s.heap.objs.size fI (.ref cda) cc)) (leaving (PySem.W.ksEnv qual (scI x) s.heap.objs.size fI (.ref cda) cc) e)
          (fun _ s'' => CR CX0 outer P w H s Q E (.error e) s'') (fun e' s'' => CR CX0 outer P w H s Q E (.error e') s'') s') hx hr.hd e0 lcc (v0 := .ref a) (u0 := .ref a) rfl r1 ns hk (s.toks + 2)
      have kS : (scI x).names.lookup ("super" : Str) = some .globalImplicit := by
        show ([("self", .local), (x, .local), ("__class__", .free), ("super", .globalImplicit)] : List (Str × NameKind)).lookup ("super" : Str) = some .globalImplicit
        rw [lk_cons, if_neg (by decide), lk_cons, if_neg (fun z => by rw [← z] at hx; simp at hx), lk_cons, if_neg (by decide), lk_cons, if_pos rfl]
      have kC : (scI x).names.lookup ("__class__" : Str) = some .free := by
        show ([("self", .local), (x, .local), ("__class__", .free), ("super", .globalImplicit)] : List (Str × NameKind)).lookup ("__class__" : Str) = some .free
        rw [lk_cons, if_neg (by decide), lk_cons, if_neg (fun z => by rw [← z] at hx; simp at hx), lk_cons, if_pos rfl]
      have kA : (scI x).names.lookup ("self" : Str) = some .local := rfl
      obtain ⟨hpos, ar, ar2, hargs, hself'⟩ := hpar
      obtain ⟨oD, hD1, hD2⟩ : ∃ oD, h₀.get? C = some oD ∧ oD.data = .cls cd := by
        unfold PySem.W.clsIn at hcls
        split at hcls
        · rename_i c0 d0 cd' sl ho
          cases hcls
          exact ⟨_, hk _ _ (KX _ _ ho), rfl⟩
        · cases hcls
      obtain ⟨t1, hxo⟩ := exo_at I.hok ha
      obtain ⟨pl, hev⟩ := hev (PySem.W.ksEnv qual (scI x) s.heap.objs.size fI (.ref cda) cc)
      refine ks_wpAt_execs_cons (ks_wpAt_Expr_any (ks_wpAt_MethodCall ?_ hev))
      · refine ks_wpAt_super_base (env := PySem.W.ksEnv qual (scI x) s.heap.objs.size fI (.ref cda) cc) (ar := ar) kS kC (by rfl) rfl (hk _ _ (KX _ _ lk)) rfl ?_ rfl (hk _ _ (KX _ _ lcd)) rfl hfs hfile htop ?_
        · show ((defArgs st).posonlyargs ++ (defArgs st).args).head? = some ar
          rw [hpos, hargs]
          rfl
        · obtain ⟨mb, b1, b2⟩ := e0.mod.blt
          refine PySem.W.ks_loadName_global rfl kS (Calls.loadGlobal_builtin (env := PySem.W.ksEnv qual (scI x) s.heap.objs.size fI (.ref cda) cc) (e0.mod.glob.keeps I.bk) hsup (b1.keeps I.bk) ((b2 "super" (by decide)).trans (by decide +kernel)) ⟨rfl, ?_⟩)
          refine wpAny_loadName_free rfl kC rfl ⟨_, hk _ _ (KX _ _ lcc), rfl⟩ ?_
          refine wpAny_loadName_local rfl (by rw [hself']; exact kA) ns (v := .ref a) ?_ ?_
          · rw [hself']
            show ([(x, u1), ("self", .ref a)] : List (Str × Value)).lookup ("self" : Str) = some (.ref a)
            rw [lk_cons, if_neg (fun z => by rw [← z] at hx; simp at hx), lk_cons, if_pos rfl]
          refine ks_wpAny_isType_cls hD1 hD2 ⟨rfl, ?_⟩
          refine ks_wpAny_call_super hD1 hD2 hxo rfl (fun c e => by cases e) (PySem.W.looks_mroIn I.kIn hself) (fun h2 hso hk2 => ?_)
          have I2 := I.kept (t' := s.toks + 2) hk2
          have hx2 := hk2 _ _ hxo
          have J2 : PySem.W.InstAt h2 a { cls := .ref C, dict := none, data := .fields #[.ref t1, .none, .none, .none, .bool false, .none] } C none := ⟨hx2, rfl, rfl, trivial⟩
          have along : PySem.W.alongIn K "__init__" ((cd.mro.dropWhile (· != .ref C)).drop 1) = some (some (.builtin "ValueError.__init__")) := by
            unfold PySem.W.ks_superIn at halong
            rw [hcls] at halong
            exact halong
          refine PySem.W.kxs_getMethod PySem.W.kxs_ValueError hso (PySem.W.looks_opaque I2.kIn hopq) (fun A Q E s k q => wpAny_bind ((PySem.W.looks_clsIn I2.kIn hcls) A _ E s k (wpAny_pure q))) rfl I2.kIn along (J2.type.andThen (PySem.W.looks_subIn I2.kIn hisV)) (PySem.W.ks_ne I2.kIn J2 hcls) (by decide) ?_
          have I3 := (I2.kept (t' := s.toks + 2 + 1) fun b o e => Heap.get?_push_of_some (PySem.W.kxs_mw "ValueError.__init__" a) e).pins_of (pins' := [(h2.objs.size, PySem.W.kxs_mw "ValueError.__init__" a)]) fun p hp => by
            rw [List.mem_singleton.mp hp]
            refine ⟨Heap.get?_push_size _ rfl, I2.hok.fresh (Nat.le_refl _), ?_, I2.nofs (Nat.le_refl _), fun v z => by cases z⟩
            exact Nat.ne_of_gt I2.lt
          have vx : Vis (scI x) x := .inl (by
            show ([("self", .local), (x, .local), ("__class__", .free), ("super", .globalImplicit)] : List (Str × NameKind)).lookup x = some .local
            rw [lk_cons, lk_cons, if_pos rfl]
            split <;> rfl)
          refine PySem.W.kxs_callWith (i := "ValueError.__init__") (x := a) rfl (PySem.Calls.evalArgs_plain ?_)
          refine thn ((pa_cons (pe_joined (.cons pe_str (.cons (pe_fmtN (pv 1 rfl vx hdb.1 hdb.2)) .nil))) pa_nil).run p7 [(h2.objs.size, PySem.W.kxs_mw "ValueError.__init__" a)] _ [some (.ref a), some y] H (fun vs H1 => vs.length = 1 ∧ H1 = H) I3 ?_) fun us s4 hus => ?_
          · have fits : ∀ z : Str, z.length ≤ 5000 → (Str.empty ++ m ++ z).length ≤ sizeLine := fun z hz => by
              rw [Str.length_append, Str.length_append, sizeLine_eq]
              have : Str.empty.length = 0 := rfl
              omega
            refine ⟨m, rfl, ?_, ?_⟩
            · have := fits "" (by decide +kernel)
              rw [Str.length_append] at this
              exact Nat.le_trans (Nat.le_add_right _ _) this
            · rcases hy with rfl | ⟨i, rfl, hi⟩
              · exact ⟨_, rfl, .inl ⟨rfl, _, rfl, fits _ (by decide +kernel), rfl, rfl⟩⟩
              · refine ⟨_, rfl, .inr ⟨i, rfl, ?_, _, rfl, fits _ ?_, rfl, rfl⟩⟩
                · by_cases h0 : i.natAbs = 0
                  · rw [h0]
                    decide
                  · have : i.natAbs.log2 < 10 := (Nat.log2_lt h0).mpr (by omega)
                    omega
                · have := int_text_length_le10 (a := i) (k := 4) (by decide) (by omega)
                  rw [PySem.ofString_length]
                  omega
          · obtain ⟨vs, H1, I4, r4, hl4, rfl⟩ := hus
            have pin := I4.pin _ (List.mem_append_right _ (List.mem_singleton.mpr rfl))
            refine ⟨pin.1, call_mw hoex I4 ha pin.1 ?_ fun s5 I5 => ?_⟩
            · show us.length ≤ sizeLine
              rw [← r4.length, hl4]
              decide
            · have I6 := (I5.pins_of (pins' := []) (fun _ z => nomatch z))
              have st := run_on (D := { nx := fun _ H' => Q .non H', rt := Q }) (st := [.Assign [.Attribute (.Name "self" p9) x pa] (.Name x pb) pc]) I6 (pss_one (ps_ost (pv 0) (pv 1 rfl vx hdb.1 hdb.2))) ⟨y, rfl, .ref a, rfl, a, C, rfl, hoex, hno, .inl ⟨ha, q⟩⟩
              refine wpAt_of_wpAny (wpAny_mono st (fun fl s6 hs => ?_) fun _ _ z => z)
              cases fl with
              | next =>
                obtain ⟨σ', H', J, qq⟩ := hs
                exact ⟨.non, H', J.os, J.bare, J.base, J.hok, rfl, qq⟩
              | ret u =>
                obtain ⟨v, σ', H', J, rv, qq⟩ := hs
                exact ⟨v, H', J.os, J.bare, J.base, J.hok, rv, qq⟩
              | brk =>
                obtain ⟨_, _, _, qq⟩ := hs
                exact False.elim qq
              | cont =>
                obtain ⟨_, _, _, qq⟩ := hs
                exact False.elim qq
end
end Lm
/-! Raising such an exception; its field and its class asked where it is held. -/
namespace Lm
open PySem PySem.Spec PyProof.Rows L2
/-- a class with such an __init__, as the head leaves it -/
structure YMk (P : Program) (K : PySem.W.Frag) (mg : Str → Option Value) (base : Heap) (w : World) (x : Str) (f : Str) (C : Addr) : Prop where
  at_ : mg x = some (.ref C)
  oex : OexC K C
  ini : ∃ (fI : Addr) (fd : FuncData), PySem.W.findIn K (.ref C) "__init__" = some (some (.ref fI)) ∧ PySem.W.typeIn K (.ref fI) = some (.type "function") ∧ FnOk P w K mg base CX0 1 fI fd ["self", f] (spInit K C f) ∧ L2.Binds K fd ["self", f] []
  no : PySem.W.findIn K (.ref C) f = some none
/-- a reading by what it leads to -/
def tOf (te : TE) : TE := fun σ H Q => ∃ Q0 : VK, te σ H Q0 ∧ ∀ v H', Q0 v H' → Q v H'
theorem pe_of {X : Cx} {e : Expr} {te : TE} (he : PE X e te) : PE X e (tOf te) := by
  refine ⟨fun pins s σ H Q I h => ?_⟩
  obtain ⟨Q0, h0, k⟩ := h
  exact thn (he.run pins s σ H Q0 I h0) fun u s1 ⟨v, H1, I1, r, q⟩ => ⟨v, H1, I1, r, k _ _ q⟩
/-- raise X(e) -/
def tBadY (C : Addr) (f : Str) (W : WX) (te : TE) : TS := fun _ σ H => te σ H fun y H1 => (y = .non ∨ ∃ i : Int, y = .int i ∧ i.natAbs < 1000) ∧ ∀ dx, H1 dx = none → W (.ref C) (some dx) σ (upd H1 dx (.xd [(f, y)]))
theorem xd_heap {H : Hp} {a dx : Addr} {C : Addr} {f : Str} {y : V} (na : H a = none) (hd : dx ≠ a) :
    upd (del (upd (upd (upd H a (exo a C none)) dx (exd dx [(f, y)])) a (exo a C (some dx))) a) dx (.xd [(f, y)]) = upd H dx (.xd [(f, y)]) := by
  funext b
  by_cases h1 : b = dx
  · rw [h1, upd_same, upd_same]
  · rw [upd_ne h1, upd_ne h1]
    by_cases h2 : b = a
    · rw [h2, del_same, na]
    · rw [del_ne h2, upd_ne h2, upd_ne h1, upd_ne h2]
theorem ps_badY {X : Cx} {W : WX} {x f : Str} {C : Addr} {e : Expr} {te : TE} {p pos pos2 : Pos} {j : Nat} (hc : X.calm = true) (M : YMk X.prog X.K X.mg X.base X.w x f C) (tk : Takes X W) (hr : Room j X.A) (hj : 2 ≤ j) (hg : Gl X x) (he : PE X e te) (hdb : (x == ("__debug__" : Str)) = false := by decide)
    (hs : starEach [e] X.env = (false, eval e X.env) :: starEach [] X.env := by rfl) : PS X (.Raise (some (.Call (.Name x p) [e] [] pos)) none pos2) (tBadY C f W te) := by
  obtain ⟨fI, fd, i1, i2, F, hb⟩ := M.ini
  have base := ps_raise (pos := pos2) hc tk (pmk_oex (p := p) (pos := pos) M.oex i1 i2 F (hr.mono hj) hb .nil pass0 hg M.at_ (pa_cons (pe_of he) pa_nil hs) hdb hs)
  refine ⟨fun pins s σ H D I h => base.run pins s σ H D I ?_⟩
  refine ⟨_, h, fun y H1 hq => ?_⟩
  obtain ⟨hy, q⟩ := hq
  refine ⟨by show 1 ≤ 1000; decide, fun a na => ⟨a, y, rfl, upd_same, M.no, hy, fun dx hd hne => ⟨rfl, dx, [(f, y)], upd_same, ?_, ?_, ?_⟩⟩⟩
  · rw [upd_ne hne, upd_same]
  · rwa [upd_ne hne] at hd
  · rw [xd_heap na hne]
    exact q dx (by rwa [upd_ne hne] at hd)
/-! ### such an exception, held -/
/-- e.f -/
def tXat (K : PySem.W.Frag) (f : Str) (te : TE) : TE := fun σ H Q => te σ H fun x H1 => ∃ (a C dd : Addr) (fs : List (Str × V)) (v : V), x = .ref a ∧ XfC K C ∧ PySem.W.findIn K (.ref C) f = some none ∧ H1 a = some (ExI a (.ref C) (some dd)) ∧ H1 dd = some (.xd fs) ∧ fs.lookup f = some v ∧ Q v H1
theorem pe_xat {X : Cx} {e : Expr} {te : TE} {pos : Pos} {f : Str} (he : PE X e te) (hb : attributeBase e f X.env (eval e X.env) = eval e X.env := by rfl) : PE X (.Attribute e f pos) (tXat X.K f te) := by
  refine ⟨fun pins s σ H Q I h => ?_⟩
  refine attr_of hb (thn (he.run pins s σ H _ I h) fun u s1 hh => ?_)
  obtain ⟨x, H1, I1, rx, a, C, dd, fs, v, ex, T, hno, ha, ea, l, q⟩ := hh
  subst ex
  obtain rfl : u = Value.ref a := rx
  obtain ⟨⟨oe, hget, hz, vs, hv⟩, _, _⟩ := I1.hok a _ ha
  have hx : ObjOk X.prog X.w H1 s1.heap dd (.xd fs) := I1.hok dd _ ea
  obtain ⟨mA, hns, hr⟩ := hx
  obtain ⟨od, ho, hl⟩ := lookIn_ns hns
  obtain ⟨u, hu, ru⟩ := RelO.some_of (v := v) (o := mA f) (by rw [← l]; exact hr f)
  have J : PySem.W.InstAt s1.heap a oe C (some od) := ⟨hget, hz.1, by unfold PySem.W.notCls; rw [hv] <;> rfl, by rw [hz.2]; exact ho⟩
  exact HandSPX.exc_get I1.kIn J T.ga T.gg T.exC (PySem.W.findObj_own T.hdC hno rfl (by rw [hl, hu])) (handed_of ru) ⟨v, H1, I1.tok _, ru, q⟩
theorem cls_there {K : PySem.W.Frag} {D : Addr} {cd : ClassData} (h : PySem.W.clsIn K D = some cd) : ∃ oD, K.lookup D = some oD ∧ oD.data = .cls cd := by
  unfold PySem.W.clsIn at h
  split at h
  · rename_i ho
    cases h
    exact ⟨_, ho, rfl⟩
  · cases h
/-- isinstance of it -/
theorem kitxY {K : PySem.W.Frag} {x D : Addr} {ox od : Obj} (C : ExcC K D) : PySem.W.KitX K (.ref x) (.ref D) (fun h => PySem.W.InstAt h x ox D (some od)) where
  ty := fun _ _ _ I => I.type
  it := fun M h X _ => by
    obtain ⟨cd, hc, _⟩ := PySem.W.any_some C.hd
    obtain ⟨oD, l, e⟩ := cls_there hc
    intro A Q E s k q
    obtain ⟨hh, g, d, t, os⟩ := s
    exact ks_wpAny_isType_cls (k _ _ (X _ _ l)) e q
  ne := fun h tp dd its n sl X htp => (PySem.W.handS_kitx_exc (x := x) (ox := ox) C.hg C.hk C.hs C.hd C.ha C.hn C.ht C.hm).ne h tp dd its n sl X htp
  ca := fun X I k => by
    have some_ : (PySem.W.clsIn K D).isSome = true := by
      obtain ⟨cd, hc, _⟩ := PySem.W.any_some C.hd
      rw [hc]
      rfl
    exact PySem.W.kx_classE X I C.hg C.hk C.hs (PySem.W.findObj_dataE some_ C.ha C.hn C.ht) C.hm k
theorem call_isY {X : Cx} {D : Addr} (C : ExcC X.K D) : CallR X (.builtin "isinstance") (fun xs H Q => ∃ (a dd : Addr) (fs : List (Str × V)) (c : V) (cv : Value) (b : Bool), xs = [.ref a, c] ∧ H a = some (ExI a (.ref D) (some dd)) ∧ H dd = some (.xd fs) ∧ (∀ u, RelV c u → u = cv) ∧ PySem.W.kitOne X.K (.ref D) cv = some b ∧ Q (.bl b) H) := by
  intro pins s σ H xs us Q I r h
  obtain ⟨a, dd, fs, c, cv, b, rfl, ha, hd, hcv, e, q⟩ := h
  match us, r with
  | [_, u], .cons rx (.cons rt .nil) =>
    cases rx
    have ec := hcv _ rt
    subst ec
    obtain ⟨⟨oe, hget, hz, vs, hv⟩, _, _⟩ := I.hok a _ ha
    have hx : ObjOk X.prog X.w H s.heap dd (.xd fs) := I.hok dd _ hd
    obtain ⟨mA, ⟨od, es, ep, ho, hr⟩, _⟩ := hx
    have J : PySem.W.InstAt s.heap a oe D (some od) := ⟨hget, hz.1, by unfold PySem.W.notCls; rw [hv] <;> rfl, by rw [hz.2]; exact ho⟩
    exact PySem.W.kia_one (kitxY C) I.kIn J e (fun z => nomatch z) (fun tk => ⟨.bl b, H, I.kept (t' := tk) (fun _ _ z => z), rfl, q⟩)
end Lm
/-! min(xs, key=len), the items tuples. -/
namespace Lm
open PySem PySem.Spec PyProof.Rows L2
theorem minLen_run {prog : Program} {w : World} {A : Around} {S : Addr} {n : Nat} {P : Nat → Value → Prop} {St : Nat → Shared → Prop} {s0 : Shared} {wr : List Addr} (L : Nat → Nat) (hS : s0.heap.objs.size ≤ S) (hw : ∀ b ∈ wr, s0.heap.objs.size ≤ b)
    (hP : ∀ i v, P i v → ∃ b its, v = .ref b ∧ IsTup s0.heap b its ∧ its.size = L i ∧ (its.size : Int) < 2 ^ 63) (hst : ∀ i (s : Shared) tk, St i s → St i { s with toks := tk }) :
    KeyRun prog w A (.builtin "len") .Lt S wr (fun a b => b = a) n P St (fun s => (∀ b o, s0.heap.get? b = some o → s.heap.get? b = some o) ∧ s.gens = s0.gens ∧ s.drawn = s0.drawn ∧ s.os = s0.os) (fun i k _ => ∃ t, k = .int (L i : Nat) t) (fun i j => decide ((L i : Int) < (L j : Int))) := by
  refine ⟨?_, ?_, ?_, ?_⟩
  · rintro s s' ⟨h1, h2, h3, h4⟩ m
    refine ⟨fun b o e => m.heap b o (fun hb => ?_) (h1 b o e), m.gens.trans h2, m.drawn.trans h3, m.os.trans h4⟩
    have hl := Heap.lt_size e
    rcases List.mem_cons.mp hb with z | z
    · exact absurd hl (Nat.not_lt.mpr (z ▸ hS))
    · exact absurd hl (Nat.not_lt.mpr (hw b z))
  · intro i k s s' h _
    exact h
  · intro i v s o Q E hi hp hJ hs ho q
    obtain ⟨b, its, rfl, ht, hL, hf⟩ := hP i v hp
    have ht' : IsTup s.heap b its := by
      obtain ⟨oo, e, r⟩ := ht
      exact ⟨oo, hJ.1 _ _ e, r⟩
    refine len_tuple ht' hf ?_
    rw [hL]
    exact q _ { s with toks := s.toks + 1 + 1 } hJ (hst _ _ _ hs) ho ⟨_, rfl⟩ fun _ _ h => h
  · rintro i j ki kj s Q E hJ ⟨t, rfl⟩ ⟨u, rfl⟩ q
    exact wpAny_lt_int (w := w) (show Q (.bool (decide ((L i : Int) < (L j : Int)))) s from q)
def tMinLen (K : PySem.W.Frag) (te : TE) : TE := fun σ H Q => te σ H fun x H1 => ∃ (a : Addr) (xs : List V) (L : Nat → Nat), x = .ref a ∧ SqL K H1 a xs ∧ 0 < xs.length ∧ (∀ (i : Nat) (v : V), xs[i]? = some v → ∃ (b : Addr) (ys : List V), v = .ref b ∧ SqT K H1 b ys ∧ ys.length = L i) ∧ ∀ (i : Nat) (v : V), xs[i]? = some v → Q v H1
theorem pe_minLen {X : Cx} {e : Expr} {te : TE} {p p2 kp pos : Pos} (hc : X.calm = true) (hg : Gl X "min") (hm : X.mg "min" = none) (hv : bootBuiltins "min" = some (.builtin "min")) (hg2 : Gl X "len") (hm2 : X.mg "len" = none) (he : PE X e te)
    (hs0 : starEach [e] X.env = (false, eval e X.env) :: starEach [] X.env := by rfl) (hst : backTo pos (starEach [e] X.env) = (false, eval e X.env) :: backTo pos (starEach [] X.env) := by rfl) (hpl : (backTo pos (starEach [e] X.env)).any (·.1) = false := by rfl)
    (hks : backToKw pos (keywordEach [⟨some (Str.ofString "key"), .Name "len" p2, kp⟩] X.env) = [(some (Str.ofString "key"), do let v ← eval (.Name "len" p2) X.env; standAt pos; pure v)] := by rfl) :
    PE X (.Call (.Name "min" p) [e] [⟨some (Str.ofString "key"), .Name "len" p2, kp⟩] pos) (tMinLen X.K te) := by
  refine ⟨fun pins s σ H Q I h => ?_⟩
  refine wpAny_Call_Name_kw (ld_blt I hg hm hv ?_)
  have ha : PA X [e] (tCons te tNil) := pa_cons he pa_nil hs0
  refine PyProof.Rows.callWith_kw (thn (ha.run pos pins s σ H (fun vs H1 => ∃ (a : Addr) (xs : List V) (L : Nat → Nat), vs = [.ref a] ∧ SqL X.K H1 a xs ∧ 0 < xs.length ∧ (∀ (i : Nat) (v : V), xs[i]? = some v → ∃ (b : Addr) (ys : List V), v = .ref b ∧ SqT X.K H1 b ys ∧ ys.length = L i) ∧ ∀ (i : Nat) (v : V), xs[i]? = some v → Q v H1) I ?_) fun us s1 hh => ?_) hst hpl (by rw [hks]; rfl) (by rw [hks]; rfl)
  · show te σ H _
    refine cast (congrArg (te σ H) (funext fun x => funext fun H1 => propext ⟨?_, ?_⟩)) h
    · rintro ⟨a, xs, L, rfl, k⟩
      exact ⟨a, xs, L, rfl, k⟩
    · rintro ⟨a, xs, L, ex, k⟩
      cases ex
      exact ⟨a, xs, L, rfl, k⟩
  · obtain ⟨vs, H1, I1, r1, a, xs, L, rfl, hq, h0, hL, q⟩ := hh
    rw [hks]
    refine wpAny_evalAll_cons (wpAny_bind (ld_blt I1 hg2 hm2 PySem.boot_len (wpAny_bind (wpAny_standAt (wpAny_pure (wpAny_evalAll_nil ?_))))))
    obtain ⟨u, rfl, r⟩ := vals1 r1
    obtain rfl : u = Value.ref a := r
    obtain ⟨its, rv, hl, hz⟩ := I1.list hq
    refine call_min_walkKB (q := "len") (iter_any hl.isList fun s₂ e2 st hne => ?_)
    subst e2
    have hlen := rv.length
    refine ⟨_, _, _, _, _, _, _, _, _, _, rfl, (Walks.list (A := X.A.in1) (I1.ok.hd hc) _ a hne its.toArray).toS, st, fun b hb => ?_, by rw [List.size_toArray]; omega, minLen_run (s0 := s1) L ?_ ?_ ?_ ?_, ⟨?_, rfl, rfl, rfl⟩, ?_⟩
    · show b < (s1.heap.push _).objs.size
      rw [Heap.size_push]
      have hal : a < s1.heap.objs.size := by
        obtain ⟨_, e, _⟩ := hl.isList
        exact Heap.lt_size e
      rcases List.mem_cons.mp hb with z | z
      · rw [z]
        exact Nat.lt_succ_self _
      · rw [List.mem_singleton.mp z]
        exact Nat.lt_succ_of_lt hal
    · show s1.heap.objs.size ≤ (s1.heap.push _).objs.size
      rw [Heap.size_push]
      exact Nat.le_succ _
    · intro b hb
      rw [List.mem_singleton.mp hb]
      exact Nat.le_refl _
    · intro i v hv
      have hv : its[i]? = some v := by simpa using hv
      obtain ⟨x, hx, rx⟩ : ∃ x, xs[i]? = some x ∧ RelV x v := by
        have hi : i < xs.length := by
          rw [hlen]
          exact (List.getElem?_eq_some_iff.mp hv).1
        obtain ⟨u, hu, ru⟩ := rv.get (List.getElem?_eq_getElem hi)
        rw [hv] at hu
        cases hu
        exact ⟨_, List.getElem?_eq_getElem hi, ru⟩
      obtain ⟨b, ys, rfl, hb, hl2⟩ := hL i x hx
      obtain rfl : v = Value.ref b := rx
      obtain ⟨it2, r2, p2', z2⟩ := I1.tuple hb
      have hn := line63
      have l2 := r2.length
      refine ⟨b, it2.toArray, rfl, p2', ?_, ?_⟩
      · rw [List.size_toArray, ← l2, hl2]
      · simp only [List.size_toArray]
        omega
    · intro i s tk h
      exact h
    · intro b o e
      exact Heap.get?_push_of_some _ e
    · intro v s' hp hJ
      have hv : its[PySem.argBest (fun i j => decide ((L i : Int) < (L j : Int))) (its.toArray.size - 1)]? = some v := by simpa using hp
      obtain ⟨x, hx, rx⟩ : ∃ x, xs[PySem.argBest (fun i j => decide ((L i : Int) < (L j : Int))) (its.toArray.size - 1)]? = some x ∧ RelV x v := by
        have hi : PySem.argBest (fun i j => decide ((L i : Int) < (L j : Int))) (its.toArray.size - 1) < xs.length := by
          rw [hlen]
          exact (List.getElem?_eq_some_iff.mp hv).1
        obtain ⟨u, hu, ru⟩ := rv.get (List.getElem?_eq_getElem hi)
        rw [hv] at hu
        cases hu
        exact ⟨_, List.getElem?_eq_getElem hi, ru⟩
      obtain ⟨k1, k2, k3, k4⟩ := hJ
      obtain ⟨h', g', d', tk', os'⟩ := s'
      have k2 : g' = s1.gens := k2
      have k3 : d' = s1.drawn := k3
      have k4 : os' = s1.os := k4
      subst k2 k3 k4
      exact ⟨x, H1, I1.kept (t' := tk') k1, rx, q _ x hx⟩
end Lm
/-! for i, x in enumerate(t), t a tuple. -/
namespace Lm
open PySem PySem.Spec PyProof.Rows L2
theorem enum_one {v : Value} {o : Obj} {G : Heap → Prop} (bg : Begins v o G) :
    Meets (Builtin.«enumerate.__new__» ⟨[.type "enumerate", v], []⟩) (fun _ R s => G s.heap ∧
      R (.ok (.ret (.ref (s.heap.push o).objs.size))) { s with heap := (s.heap.push o).push { cls := .type "enumerate", data := .fields #[.none, .bool false, .ref s.heap.objs.size, rawInt 0, .none, .none] } }) :=
  .of_wp fun prog w A R s hh => by
    obtain ⟨hp, g, d, tk, os⟩ := s
    obtain ⟨h1, hq⟩ := hh
    have hsub := sub_enumerate
    have go : ∀ {A' : Around} {E : Value → Shared → Prop} {Q : Value → Shared → Prop}, Q (.ref hp.objs.size) ⟨hp.push o, g, d, tk, os⟩ → wpAny (model prog w) A' (pyIter v) Q E ⟨hp, g, d, tk, os⟩ :=
      fun z => bg.iter prog w _ _ ⟨hp, g, d, tk, os⟩ _ h1 z
    wp_walk
    refine wpAny_stack_any fun st => wpAny_pure ?_
    split
    · rename_i c _ _ _ _ _
      cases (c == Value.type "enumerate")
      · wp_walk using go
        exact ⟨_, rfl, hq⟩
      · wp_walk using go
        exact ⟨_, rfl, hq⟩
    · wp_walk using go
      exact ⟨_, rfl, hq⟩
theorem call_enum_one {prog : Program} {w : World} {A : Around} {E : Value → Shared → Prop} {s : Shared} {v : Value} {o : Obj} {G : Heap → Prop} {Q : Value → Shared → Prop} (bg : Begins v o G) (h1 : G s.heap)
    (hq : ∀ h', IsEnum h' (s.heap.objs.size + 1) s.heap.objs.size 0 .none → h'.get? s.heap.objs.size = some o → (∀ b x, s.heap.get? b = some x → h'.get? b = some x) → Q (.ref (s.heap.objs.size + 1)) { s with heap := h' }) :
    wpAny (model prog w) A (call (.type "enumerate") [v]) Q E s := by
  refine callType_new F.called_enumerate (by decide) (F.typeCall_enumerate_1 _) (F.newCall_enumerate_1 _) (fun obj => F.args_object_init_2 obj _) F.entry_enumerate_new (enum_one bg) ⟨h1, ?_⟩
  have hz : (s.heap.push o).objs.size = s.heap.objs.size + 1 := Heap.size_push ..
  have at0 := Heap.get?_push_size (s.heap.push o) (o := { cls := .type "enumerate", data := .fields #[.none, .bool false, .ref s.heap.objs.size, rawInt 0, .none, .none] }) rfl
  show _ ∧ _
  rw [hz] at at0 ⊢
  exact ⟨⟨_, at0, rfl⟩, hq _ at0 (Heap.get?_push_of_some _ (Heap.get?_push_size _ bg.free)) fun b x e => Heap.get?_push_of_some _ (Heap.get?_push_of_some _ e)⟩
/-- the tuple at a as it stands at each turn, each item in a new pair -/
def ItT (K : PySem.W.Frag) (a : Addr) : It :=
  ⟨fun i H => ∃ (xs : List V) (x : V), SqT K H a xs ∧ xs[i]? = some x, fun i H v H' => ∃ T x, v = .ref T ∧ H T = none ∧ H' = upd H T (.tup [.int (i : Nat), x]) ∧ ∀ xs, SqT K H a xs → xs[i]? = some x, fun i H => ∃ xs : List V, SqT K H a xs ∧ xs.length = i⟩
theorem turn_enumT {P : Program} {w : World} {K : PySem.W.Frag} {elts : List Expr} {kk : Nat} {tpos : Pos} (a e it : Addr) :
    Turn P w K (.Tuple elts kk tpos) (ItT K a) [e, it] e (fun i h => (∃ old, IsEnum h e it ((i : Nat) : Int) old) ∧ h.IsTupleIter it a i ∧ e ≠ it) where
  mem := List.mem_cons_self ..
  obj := fun i h st b hb => by
    obtain ⟨⟨old, he⟩, ⟨o, ho, hc, hd⟩, _⟩ := st
    rcases List.mem_cons.mp hb with z | z
    · rw [z]
      exact ⟨_, he, fun v q => nomatch q⟩
    · rw [List.mem_singleton.mp z]
      exact ⟨o, ho, fun v q => by rw [hd] at q; cases q⟩
  keep := fun i h h' st k => by
    obtain ⟨⟨old, he⟩, hi, hne⟩ := st
    exact ⟨⟨old, k e (List.mem_cons_self ..) _ he⟩, hi.at fun o q => k it (List.mem_cons_of_mem _ (List.mem_cons_self ..)) o q, hne⟩
  item := by
    intro X hP hw hK hc i pins s σ H E I hf st hg
    subst hP hw hK
    obtain ⟨⟨old, he⟩, hit, hne⟩ := st
    obtain ⟨xs, x, hq, hx⟩ := hg
    obtain ⟨its, rv, p, _⟩ := I.tuple hq
    obtain ⟨u, hu, ru⟩ := rv.get hx
    have hel : e < s.heap.objs.size := Heap.lt_size he
    have hil : it < s.heap.objs.size := by
      obtain ⟨_, q, _⟩ := hit
      exact Heap.lt_size q
    have hT : s.heap.IsTuple a its.toArray := p
    obtain ⟨f0, f1, f2, f3, f4, f5⟩ := hf it (List.mem_cons_of_mem _ (List.mem_cons_self ..))
    have ait : a ≠ it := fun z => by
      obtain ⟨o1, e1, c1, _⟩ := hT
      obtain ⟨o2, e2, c2, _⟩ := hit
      rw [z, e2] at e1
      cases e1
      rw [c2] at c1
      exact absurd c1 (by decide)
    have hil2 : i < its.toArray.size := by
      have := (List.getElem?_eq_some_iff.mp hu).1
      simpa using this
    by_cases ea : e = a
    · exfalso
      obtain ⟨o1, e1, c1, _⟩ := hT
      rw [← ea, he] at e1
      cases e1
      have c1 : Value.type "enumerate" = Value.type "tuple" := c1
      exact absurd c1 (by decide)
    refine wpAny_pyNext_enum_itemC (Draws.tuple (A := X.A.in1) (I.ok.hd hc) it a ait its.toArray) he ⟨hit, hT⟩ hil2 hne (by simp [hne, ea]) fun v h' tk hP ho hst hT2 hsz hk => ?_
    have ev : v = u := by
      have hP : its.toArray[i]? = some v := hP
      rw [List.getElem?_toArray, hu] at hP
      exact (Option.some.inj hP).symm
    subst ev
    refine ⟨_, rfl, wpAny_letOwnedTupleGo_enum (s := { s with heap := h', toks := tk + 1 }) ho fun h'' he' sb => ?_⟩
    have hT3 : h''.get? s.heap.objs.size = some { cls := .type "tuple", data := .seq #[.int i tk, v] } := (sb.2 _ (Nat.ne_of_gt hel)).trans hT2
    have new : ObjOk X.prog X.w (upd H s.heap.objs.size (.tup [.int (i : Nat), x])) h'' s.heap.objs.size (.tup [.int (i : Nat), x]) :=
      ⟨by show 2 ≤ sizeLine; decide, [.int i tk, v], .cons ⟨_, rfl⟩ (.cons ru .nil), ⟨_, hT3, rfl, _, rfl⟩⟩
    have I1 : Inv X pins σ (upd H s.heap.objs.size (.tup [.int (i : Nat), x])) { s with heap := h'', toks := tk + 1 } :=
      I.turnedNew (ch := [e, it]) (fun b ob hb q => (sb.2 b (fun z => hb (by simp [z]))).trans (hk b ob (fun z => hb (by simp [z])) (fun z => hb (by simp [z])) q)) hf (Nat.le_refl _) new
    refine ⟨.ref s.heap.objs.size, _, I1, rfl, ⟨_, x, rfl, I.hok.fresh (Nat.le_refl _), rfl, fun ys hy => by rw [I.tuple_inj hy hq]; exact hx⟩, ⟨⟨v, ?_⟩, hst.1.at fun o q => (sb.2 it (Ne.symm hne)).trans q, hne⟩, fun b hb => ?_⟩
    · have e1 : ((i + 1 : Nat) : Int) = (i : Int) + 1 := by omega
      rw [e1]
      exact he'
    · have hb' : b < s.heap.objs.size := by
        rcases List.mem_cons.mp hb with z | z
        · rw [z]
          exact hel
        · rw [List.mem_singleton.mp z]
          exact hil
      rw [upd_ne (Nat.ne_of_lt hb')]
      exact (hf b hb).1
  done := by
    intro X hP hw hK hc i pins s σ H E I hf st hg
    subst hP hw hK
    obtain ⟨⟨old, he⟩, hit, hne⟩ := st
    obtain ⟨xs, hq, hx⟩ := hg
    obtain ⟨its, rv, p, _⟩ := I.tuple hq
    obtain ⟨f0, f1, f2, f3, f4, f5⟩ := hf it (List.mem_cons_of_mem _ (List.mem_cons_self ..))
    have hT : s.heap.IsTuple a its.toArray := p
    have hl := rv.length
    have ait : a ≠ it := fun z => by
      obtain ⟨o1, e1, c1, _⟩ := hT
      obtain ⟨o2, e2, c2, _⟩ := hit
      rw [z, e2] at e1
      cases e1
      rw [c2] at c1
      exact absurd c1 (by decide)
    have hn : its.toArray.size = i := by
      rw [List.size_toArray]
      omega
    subst hn
    exact wpAny_pyNext_enum_endD (Draws.tuple (A := X.A.in1) (I.ok.hd hc) it a ait its.toArray) he ⟨hit, hT⟩ fun h' eb => ⟨rfl, I.turned (t' := s.toks) (fun b o hb q => eb b o hb q) f0 f1 f3 f4 f5⟩
  self := fun A i s Q E st h => by
    obtain ⟨⟨_, he⟩, _⟩ := st
    exact wpAny_pyIter_enum he h
def iEnumT (K : PySem.W.Frag) (ta : TA) : TI := fun σ H R => ta σ H fun vs H1 => ∃ a xs, vs = [.ref a] ∧ SqT K H1 a xs ∧ R (ItT K a) H1
theorem pi_enumT {X : Cx} {e : Expr} {ta : TA} {p pos tpos : Pos} {elts : List Expr} {kk : Nat} (hg : Gl X "enumerate") (hm : X.mg "enumerate" = none) (ha : PA X [e] ta) (hs : starEach [e] X.env = [(false, eval e X.env)] := by rfl) :
    PI X (.Tuple elts kk tpos) (.Call (.Name "enumerate" p) [e] [] pos) (iEnumT X.K ta) := by
  refine ⟨fun pins s σ H R I h => ?_⟩
  have iter : ∀ (us : List Value) (s1 : Shared) (vs : List V) (H1 : Hp), Inv X pins σ H1 s1 → Vals vs us → (∃ a xs, vs = [V.ref a] ∧ SqT X.K H1 a xs ∧ R (ItT X.K a) H1) →
      wpAny (model X.prog X.w) X.A (call (.type "enumerate") us) (fun v s1 => wpAny (model X.prog X.w) X.A (pyIter v) (PIE X pins σ (.Tuple elts kk tpos) R) X.xe s1) X.xe s1 := by
    rintro us s1 vs H1 I1 r1 ⟨a, xs, rfl, hq, q⟩
    obtain ⟨u, rfl, r⟩ := vals1 r1
    obtain rfl : u = Value.ref a := r
    obtain ⟨its, rv, p', hz⟩ := I1.tuple hq
    refine call_enum_one (begins_tuple a its.toArray) p' fun h' he hit hk => wpAny_pyIter_enum he ?_
    have I2 : Inv X pins σ H1 { s1 with heap := h' } := I1.kept (t' := s1.toks) hk
    have hit0 : h'.IsTupleIter s1.heap.objs.size a 0 := ⟨_, hit, rfl, rfl⟩
    refine ⟨s1.heap.objs.size + 1, [s1.heap.objs.size + 1, s1.heap.objs.size], _, _, H1, rfl, I2, turn_enumT a (s1.heap.objs.size + 1) s1.heap.objs.size, ⟨⟨.none, he⟩, hit0, Nat.succ_ne_self _⟩, fun b hb => ?_, q⟩
    have hle : s1.heap.objs.size ≤ b := by
      rcases List.mem_cons.mp hb with z | z
      · rw [z]
        exact Nat.le_add_right _ _
      · rw [List.mem_singleton.mp z]
        exact Nat.le_refl _
    exact I1.fpOk hle (I1.hok.fresh hle)
  refine Call_ (ld_blt I hg hm boot_enumerate ?_)
  refine PyProof.Rows.callWith_type1 ?_ hs rfl
  refine thn (ha.run pos pins s σ H (fun vs H1 => ∃ a xs, vs = [V.ref a] ∧ SqT X.K H1 a xs ∧ R (ItT X.K a) H1) I h) fun us s1 hh => ?_
  obtain ⟨vs, H1, I1, r1, q1⟩ := hh
  exact iter us s1 vs H1 I1 r1 q1
theorem walk_enumT {K : PySem.W.Frag} {a : Addr} {xs : List V} : Walk (ItT K a) xs.length (fun H => SqT K H a xs) (fun i H v H' => ∃ T x, v = .ref T ∧ H T = none ∧ H' = upd H T (.tup [.int (i : Nat), x]) ∧ xs[i]? = some x) :=
  ⟨fun i H hi g => ⟨xs, xs[i], g, List.getElem?_eq_getElem hi⟩, fun H g => ⟨xs, g, rfl⟩, fun i H v H' hi g y => by
    obtain ⟨T, x, e1, e2, e3, e4⟩ := y
    exact ⟨T, x, e1, e2, e3, e4 xs g⟩⟩
theorem walk_enumL {K : PySem.W.Frag} {a : Addr} {xs : List V} : Walk (Ite K a) xs.length (fun H => SqL K H a xs) (fun i H v H' => ∃ T x, v = .ref T ∧ H T = none ∧ H' = upd H T (.tup [.int (i : Nat), x]) ∧ xs[i]? = some x) :=
  ⟨fun i H hi g => ⟨xs, xs[i], g, List.getElem?_eq_getElem hi⟩, fun H g => ⟨xs, g, Nat.le_refl _⟩, fun i H v H' hi g y => by
    obtain ⟨T, x, e1, e2, e3, e4⟩ := y
    exact ⟨T, x, e1, e2, e3, e4 xs g⟩⟩
end Lm
/-! d.update(e), both dicts of numbers and texts. -/
namespace Lm
open PySem PySem.Spec PyProof.Rows L2
theorem d_update {X : Cx} {pins : List (Addr × Obj)} {σ : L2.St} {H : Hp} {s : Shared} {a b : Addr} {kvs more : List (Key × V)} {A : Around} {E : Value → Shared → Prop} {Q : Value → Shared → Prop} (I : Inv X pins σ H s) (e : H a = some (.dK kvs)) (e2 : H b = some (.dK more)) (ne : a ≠ b) (hz : kvs.length + more.length ≤ sizeLine)
    (h : ∀ s', Inv X pins σ (upd H a (.dK (mergeK kvs more))) s' → Q .none s') : wpAny (model X.prog X.w) A (call (.builtin "dict.update") [.ref a, .ref b]) Q E s := by
  obtain ⟨z, hd, vs, rel, dd⟩ := dk_of I.hok e
  obtain ⟨z2, hd2, vs2, rel2, dd2⟩ := dk_of I.hok e2
  refine call_meetsIn PySem.F.slot_dict_update dd.typeIs PySem.F.entry_dict_update (PySem.F.args_dict_update_2 _ _) (meets_dict_update (mixKind X.prog X.w) a b ne hd2)
    ⟨vs, vs2, dd, dd2, by rw [← rel.length, ← rel2.length]; exact hz, fun h' dd' _ hs => ?_⟩
  refine h _ ?_
  have he : ∃ q, h'.get? a = some q := let ⟨q, _, _, hq, _⟩ := dd'; ⟨q, hq⟩
  exact d_write (t' := s.toks) I (by rw [e]; exact True.intro) hs he (dk_new (Nat.le_trans (length_mergeK more kvs) hz) hd (rel2.merge rel) dd')
def tDUpd (td ty : TE) : TE := fun σ H Q => td σ H fun x H1 => ∃ a, x = .ref a ∧ IsD H1 a ∧ ty σ H1 fun y H2 => ∃ kvs more b, H2 a = some (.dK kvs) ∧ y = .ref b ∧ H2 b = some (.dK more) ∧ a ≠ b ∧ kvs.length + more.length ≤ sizeLine ∧ Q .non (upd H2 a (.dK (mergeK kvs more)))
theorem pe_dupd {X : Cx} {o e : Expr} {apos cpos : Pos} {td ty : TE} (ho : PE X o td) (he : PE X e ty) (m : M1 X o "update" apos e cpos) : PE X (.Call (.Attribute o "update" apos) [e] [] cpos) (tDUpd td ty) := by
  refine ⟨fun pins s σ H Q I h => ?_⟩
  refine wpAny_Call_method m.base m.few m.line PySem.F.plainAttrs_dict PySem.F.slot_dict_update PySem.F.type_dict_update (thn (ho.run pins s σ H _ I h) fun u s1 ⟨x, H1, I1, rx, a, ex, d, q1⟩ => ?_)
  subst ex
  obtain rfl : u = Value.ref a := rx
  obtain ⟨t1, t2, _⟩ := isD_at I1 d
  refine ⟨t1, t2, ?_⟩
  rw [m.trees]
  refine Calls.callWith_builtin rfl (Calls.evalArgs_plain (Calls.spliced_cons (thn (he.run pins s1 σ H1 _ I1 q1) fun iv s2 h2 => Calls.spliced_nil ?_)))
  obtain ⟨y, H2, I2, ry, kvs, more, b, ea, ey, eb, ne, hz, q2⟩ := h2
  subst ey
  obtain rfl : iv = Value.ref b := ry
  exact d_update I2 ea eb ne hz fun s3 I3 => ⟨.non, _, I3, rfl, q2⟩
end Lm
/-! Gaps that hit lots: mathematics. -/
namespace Hm
abbrev Lots := List (List Int)
def hitsL (ls : Lots) (gs : List Int) : Prop := ∀ l ∈ ls, ∃ g, g ∈ l ∧ g ∈ gs
def Can (ls : Lots) (n : Nat) : Prop := ∃ gs : List Int, gs.length ≤ n ∧ hitsL ls gs
def woL (ls : Lots) (g : Int) : Lots := ls.filter fun l => !decide (g ∈ l)
def cutL (ls : Lots) (g : Int) : Lots := ls.map fun l => l.filter fun o => decide (o ≠ g)
def abvL (ls : Lots) (g : Int) : Lots := ls.map fun l => l.filter fun o => decide (g < o)
theorem mem_wo {ls : Lots} {g : Int} {l : List Int} : l ∈ woL ls g ↔ l ∈ ls ∧ g ∉ l := by
  unfold woL
  rw [List.mem_filter]
  simp
theorem can_nil (n : Nat) : Can [] n := ⟨[], Nat.zero_le _, fun _ z => nomatch z⟩
theorem can_empty {ls : Lots} {n : Nat} (h : [] ∈ ls) : ¬ Can ls n := by
  rintro ⟨gs, _, k⟩
  obtain ⟨g, z, _⟩ := k [] h
  cases z
theorem can_mono {ls : Lots} {n m : Nat} (h : Can ls n) (k : n ≤ m) : Can ls m := by
  obtain ⟨gs, a, b⟩ := h
  exact ⟨gs, Nat.le_trans a k, b⟩
theorem can_zero {ls : Lots} : Can ls 0 ↔ ls = [] := by
  constructor
  · rintro ⟨gs, a, b⟩
    have : gs = [] := List.length_eq_zero_iff.mp (Nat.le_zero.mp a)
    subst this
    cases ls with
    | nil => rfl
    | cons l r =>
      obtain ⟨g, _, z⟩ := b l (List.mem_cons_self ..)
      cases z
  · rintro rfl
    exact can_nil 0
theorem can_take {ls : Lots} {g : Int} {n : Nat} (h : Can (woL ls g) n) : Can ls (n + 1) := by
  obtain ⟨gs, a, b⟩ := h
  refine ⟨g :: gs, Nat.succ_le_succ a, fun l hl => ?_⟩
  by_cases hg : g ∈ l
  · exact ⟨g, hg, List.mem_cons_self ..⟩
  · obtain ⟨x, h1, h2⟩ := b l (mem_wo.mpr ⟨hl, hg⟩)
    exact ⟨x, h1, List.mem_cons_of_mem _ h2⟩
theorem can_cut {ls : Lots} {g : Int} {n : Nat} (h : Can (cutL ls g) n) : Can ls n := by
  obtain ⟨gs, a, b⟩ := h
  refine ⟨gs, a, fun l hl => ?_⟩
  obtain ⟨x, h1, h2⟩ := b _ (List.mem_map.mpr ⟨l, hl, rfl⟩)
  exact ⟨x, (List.mem_filter.mp h1).1, h2⟩
theorem filter_less {gs : List Int} {p : Int → Bool} {g : Int} (h : g ∈ gs) (n : p g = false) : (gs.filter p).length < gs.length := by
  induction gs with
  | nil => cases h
  | cons x r ih =>
    rcases List.mem_cons.mp h with rfl | h
    · rw [List.filter_cons_of_neg (by simp [n])]
      exact Nat.lt_succ_of_le (List.length_filter_le _ _)
    · by_cases hp : p x = true
      · rw [List.filter_cons_of_pos hp]
        exact Nat.succ_lt_succ (ih h)
      · rw [List.filter_cons_of_neg (by simpa using hp)]
        exact Nat.lt_succ_of_lt (ih h)
theorem can_split {ls : Lots} {g : Int} {n : Nat} (h : Can ls (n + 1)) : Can (woL ls g) n ∨ Can (cutL ls g) (n + 1) := by
  obtain ⟨gs, a, b⟩ := h
  by_cases hg : g ∈ gs
  · left
    refine ⟨gs.filter fun o => decide (o ≠ g), ?_, fun l hl => ?_⟩
    · have := filter_less (p := fun o => decide (o ≠ g)) hg (by simp)
      omega
    · obtain ⟨h1, h2⟩ := mem_wo.mp hl
      obtain ⟨x, k1, k2⟩ := b l h1
      exact ⟨x, k1, List.mem_filter.mpr ⟨k2, decide_eq_true fun z => h2 (z ▸ k1)⟩⟩
  · right
    refine ⟨gs, a, fun l hl => ?_⟩
    obtain ⟨l', h1, rfl⟩ := List.mem_map.mp hl
    obtain ⟨x, k1, k2⟩ := b l' h1
    exact ⟨x, List.mem_filter.mpr ⟨k1, decide_eq_true fun z => hg (z ▸ k2)⟩, k2⟩
/-- lots without common gaps want a gap each -/
theorem apart_le : ∀ {cs : Lots} {gs : List Int}, cs.Pairwise (fun a b => ∀ g ∈ a, g ∉ b) → hitsL cs gs → cs.length ≤ gs.length
  | [], _, _, _ => Nat.zero_le _
  | c :: r, gs, hp, hh => by
    obtain ⟨h1, h2⟩ := List.pairwise_cons.mp hp
    obtain ⟨g, k1, k2⟩ := hh c (List.mem_cons_self ..)
    have ih := apart_le (cs := r) (gs := gs.filter fun o => decide (o ≠ g)) h2 fun l hl => by
      obtain ⟨x, m1, m2⟩ := hh l (List.mem_cons_of_mem _ hl)
      exact ⟨x, m1, List.mem_filter.mpr ⟨m2, decide_eq_true fun z => h1 l hl g k1 (z ▸ m1)⟩⟩
    have := filter_less (p := fun o => decide (o ≠ g)) k2 (by simp)
    show r.length + 1 ≤ gs.length
    omega
theorem apart_can {ls cs : Lots} {n : Nat} (hs : ∀ c ∈ cs, c ∈ ls) (hp : cs.Pairwise fun a b => ∀ g ∈ a, g ∉ b) (h : Can ls n) : cs.length ≤ n := by
  obtain ⟨gs, a, b⟩ := h
  have := apart_le hp fun l hl => b l (hs l hl)
  omega
/-! ### the turns of can_hit -/
/-- the lots behind some gaps that are not taken -/
def cutsL (ls : Lots) : List Int → Lots
  | [] => ls
  | g :: r => cutsL (cutL ls g) r
theorem cutsL_snoc : ∀ (gs : List Int) (ls : Lots) (g : Int), cutsL ls (gs ++ [g]) = cutL (cutsL ls gs) g
  | [], _, _ => rfl
  | x :: r, ls, g => cutsL_snoc r (cutL ls x) g
theorem cuts_can : ∀ {gs : List Int} {ls : Lots} {n : Nat}, Can (cutsL ls gs) n → Can ls n
  | [], _, _, h => h
  | _ :: r, _, _, h => can_cut (cuts_can (gs := r) h)
theorem cuts_mem : ∀ {gs : List Int} {ls : Lots} {l : List Int}, l ∈ ls → (l.filter fun o => !decide (o ∈ gs)) ∈ cutsL ls gs
  | [], _, l, h => by
    have : (l.filter fun o => !decide (o ∈ ([] : List Int))) = l := by
      rw [List.filter_eq_self]
      intro a _
      simp
    rw [this]
    exact h
  | g :: r, ls, l, h => by
    have := cuts_mem (gs := r) (ls := cutL ls g) (l := l.filter fun o => decide (o ≠ g)) (List.mem_map.mpr ⟨l, h, rfl⟩)
    rw [List.filter_filter] at this
    refine (congrArg (· ∈ cutsL ls (g :: r)) ?_).mp this
    congr 1
    funext o
    by_cases h1 : o = g
    · simp [h1]
    · by_cases h2 : o ∈ r <;> simp [h1, h2]
theorem cuts_all {ls : Lots} {l : List Int} (h : l ∈ ls) {n : Nat} : ¬ Can (cutsL ls l) n := by
  refine can_empty ?_
  have := cuts_mem (gs := l) h
  have e : (l.filter fun o => !decide (o ∈ l)) = [] := by
    rw [List.filter_eq_nil_iff]
    intro a ha
    simp [ha]
  rw [e] at this
  exact this
/-! ### the first tuple -/
def Asc (t : List Int) : Prop := t.Pairwise (· < ·)
/-- equal up to a place at which f has the lesser gap -/
def Lt (f t : List Int) : Prop := ∃ (p : List Int) (x y : Int) (r s : List Int), f = p ++ x :: r ∧ t = p ++ y :: s ∧ x < y
structure Inv (ls : Lots) (n : Nat) (g : Int) (f : List Int) (L : Lots) : Prop where
  asc : Asc f
  low : ∀ x ∈ f, x < g
  pos : ∀ x ∈ f, 0 ≤ x
  len : f.length ≤ n
  on : ∃ gs : List Int, gs.length ≤ n - f.length ∧ (∀ x ∈ gs, g ≤ x) ∧ hitsL L gs
  left : ∀ l ∈ ls, l ∈ L ∨ ∃ x, x ∈ l ∧ x ∈ f
  sub : ∀ l ∈ L, l ∈ ls ∧ ∀ x ∈ f, x ∉ l
  least : ∀ t, Asc t → t.length = n → (∀ x ∈ t, 0 ≤ x) → hitsL ls t → (∃ r, t = f ++ r ∧ ∀ x ∈ r, g ≤ x) ∨ Lt f t
theorem inv_start {ls : Lots} {n : Nat} (h : Can ls n) (h0 : ∀ l ∈ ls, ∀ x ∈ l, 0 ≤ x) : Inv ls n 0 [] ls := by
  obtain ⟨gs, a, b⟩ := h
  refine ⟨List.Pairwise.nil, (fun _ z => nomatch z), (fun _ z => nomatch z), Nat.zero_le _, ⟨gs.filter fun o => decide (0 ≤ o), ?_, fun x hx => of_decide_eq_true (List.mem_filter.mp hx).2, fun l hl => ?_⟩,
    fun l hl => .inl hl, fun l hl => ⟨hl, fun _ z => nomatch z⟩, fun t _ _ hp _ => .inl ⟨t, rfl, hp⟩⟩
  · exact Nat.le_trans (List.length_filter_le _ _) a
  · obtain ⟨x, k1, k2⟩ := b l hl
    exact ⟨x, k1, List.mem_filter.mpr ⟨k2, decide_eq_true (h0 l hl x k1)⟩⟩
theorem asc_app {a b : List Int} (h : Asc (a ++ b)) : Asc b ∧ ∀ x ∈ a, ∀ y ∈ b, x < y :=
  ⟨(List.pairwise_append.mp h).2.1, (List.pairwise_append.mp h).2.2⟩
theorem inv_take {ls : Lots} {n : Nat} {g : Int} {f : List Int} {L : Lots} (I : Inv ls n g f L) (g0 : 0 ≤ g) (hl : f.length < n) (h : Can (abvL (woL L g) g) (n - f.length - 1)) : Inv ls n (g + 1) (f ++ [g]) (woL L g) := by
  obtain ⟨gs, a, b⟩ := h
  have fl : (f ++ [g]).length = f.length + 1 := by simp
  refine ⟨?_, ?_, ?_, by omega, ⟨gs.filter fun o => decide (g < o), ?_, ?_, ?_⟩, ?_, ?_, ?_⟩
  · unfold Asc
    rw [List.pairwise_append]
    refine ⟨I.asc, List.pairwise_singleton _ _, fun x hx y hy => ?_⟩
    rw [List.mem_singleton.mp hy]
    exact I.low x hx
  · intro x hx
    rcases List.mem_append.mp hx with hx | hx
    · have := I.low x hx
      omega
    · rw [List.mem_singleton.mp hx]
      omega
  · intro x hx
    rcases List.mem_append.mp hx with hx | hx
    · exact I.pos x hx
    · rw [List.mem_singleton.mp hx]
      exact g0
  · have := List.length_filter_le (fun o => decide (g < o)) gs
    omega
  · intro x hx
    have := of_decide_eq_true (List.mem_filter.mp hx).2
    omega
  · intro l hl
    obtain ⟨x, k1, k2⟩ := b _ (List.mem_map.mpr ⟨l, hl, rfl⟩)
    obtain ⟨k3, k4⟩ := List.mem_filter.mp k1
    exact ⟨x, k3, List.mem_filter.mpr ⟨k2, k4⟩⟩
  · intro l hl
    rcases I.left l hl with k | ⟨x, k1, k2⟩
    · by_cases hg : g ∈ l
      · exact .inr ⟨g, hg, List.mem_append_right _ (List.mem_singleton.mpr rfl)⟩
      · exact .inl (mem_wo.mpr ⟨k, hg⟩)
    · exact .inr ⟨x, k1, List.mem_append_left _ k2⟩
  · intro l hl
    obtain ⟨h1, h2⟩ := mem_wo.mp hl
    refine ⟨(I.sub l h1).1, fun x hx => ?_⟩
    rcases List.mem_append.mp hx with hx | hx
    · exact (I.sub l h1).2 x hx
    · rw [List.mem_singleton.mp hx]
      exact h2
  · intro t h1 h2 h3 h4
    rcases I.least t h1 h2 h3 h4 with ⟨r, rfl, hr⟩ | ⟨p, x, y, r, s, rfl, e2, e3⟩
    · cases r with
      | nil =>
        rw [List.append_nil] at h2
        omega
      | cons y r =>
        have gy := hr y (List.mem_cons_self ..)
        by_cases e : y = g
        · subst e
          refine .inl ⟨r, by simp, fun x hx => ?_⟩
          have := (List.pairwise_cons.mp (asc_app h1).1).1 x hx
          omega
        · exact .inr ⟨f, g, y, [], r, rfl, rfl, by omega⟩
    · exact .inr ⟨p, x, y, r ++ [g], s, by simp, e2, e3⟩
theorem inv_full {ls : Lots} {n : Nat} {g : Int} {f : List Int} {L : Lots} (I : Inv ls n g f L) (hl : ¬ f.length < n) : Inv ls n (g + 1) f L := by
  have e := I.len
  refine ⟨I.asc, fun x hx => by have := I.low x hx; omega, I.pos, I.len, ?_, I.left, I.sub, fun t h1 h2 h3 h4 => ?_⟩
  · obtain ⟨gs, a, b, c⟩ := I.on
    have : gs = [] := List.length_eq_zero_iff.mp (by omega)
    subst this
    exact ⟨[], Nat.zero_le _, (fun _ z => nomatch z), c⟩
  · rcases I.least t h1 h2 h3 h4 with ⟨r, rfl, hr⟩ | k
    · rw [List.length_append] at h2
      have : r = [] := List.length_eq_zero_iff.mp (by omega)
      subst this
      exact .inl ⟨[], rfl, fun _ z => nomatch z⟩
    · exact .inr k
theorem inv_skip {ls : Lots} {n : Nat} {g : Int} {f : List Int} {L : Lots} (I : Inv ls n g f L) (hl : f.length < n) (h : ¬ Can (abvL (woL L g) g) (n - f.length - 1)) : Inv ls n (g + 1) f L := by
  refine ⟨I.asc, fun x hx => by have := I.low x hx; omega, I.pos, I.len, ?_, I.left, I.sub, fun t h1 h2 h3 h4 => ?_⟩
  · obtain ⟨gs, a, b, c⟩ := I.on
    by_cases hg : g ∈ gs
    · refine absurd ⟨gs.filter fun o => decide (g < o), ?_, fun l hl => ?_⟩ h
      · have := filter_less (p := fun o => decide (g < o)) hg (by simp)
        omega
      · obtain ⟨l', m1, rfl⟩ := List.mem_map.mp hl
        obtain ⟨m2, m3⟩ := mem_wo.mp m1
        obtain ⟨x, k1, k2⟩ := c l' m2
        have xg : g < x := by
          have := b x k2
          have : x ≠ g := fun z => m3 (z ▸ k1)
          omega
        exact ⟨x, List.mem_filter.mpr ⟨k1, decide_eq_true xg⟩, List.mem_filter.mpr ⟨k2, decide_eq_true xg⟩⟩
    · refine ⟨gs, a, fun x hx => ?_, c⟩
      have := b x hx
      have : x ≠ g := fun z => hg (z ▸ hx)
      omega
  · rcases I.least t h1 h2 h3 h4 with ⟨r, rfl, hr⟩ | k
    · cases r with
      | nil =>
        rw [List.append_nil] at h2
        omega
      | cons y r =>
        have gy := hr y (List.mem_cons_self ..)
        have ay := List.pairwise_cons.mp (asc_app h1).1
        by_cases e : y = g
        · subst e
          refine absurd ⟨r, ?_, fun l hl => ?_⟩ h
          · rw [List.length_append, List.length_cons] at h2
            omega
          · obtain ⟨l', m1, rfl⟩ := List.mem_map.mp hl
            obtain ⟨m2, m3⟩ := mem_wo.mp m1
            obtain ⟨k1, k2⟩ := I.sub l' m2
            obtain ⟨x, q1, q2⟩ := h4 l' k1
            rcases List.mem_append.mp q2 with q2 | q2
            · exact absurd q1 (k2 x q2)
            · rcases List.mem_cons.mp q2 with rfl | q2
              · exact absurd q1 m3
              · exact ⟨x, List.mem_filter.mpr ⟨q1, decide_eq_true (ay.1 x q2)⟩, q2⟩
        · refine .inl ⟨y :: r, rfl, fun x hx => ?_⟩
          rcases List.mem_cons.mp hx with rfl | hx
          · omega
          · have := ay.1 x hx
            omega
    · exact .inr k
/-- what least_hits is to tell -/
structure First (ls : Lots) (many : Int) (f : List Int) : Prop where
  asc : Asc f
  low : ∀ x ∈ f, 0 ≤ x ∧ x < many
  hit : hitsL ls f
  few : ∀ t, hitsL ls t → f.length ≤ t.length
  least : ∀ t, Asc t → t.length = f.length → (∀ x ∈ t, 0 ≤ x) → hitsL ls t → t = f ∨ Lt f t
theorem inv_end {ls : Lots} {n : Nat} {many : Int} {f : List Int} {L : Lots} (I : Inv ls n many f L) (hm : ∀ l ∈ ls, ∀ x ∈ l, x < many) (hn : ∀ m, m < n → ¬ Can ls m) : First ls many f := by
  have hL : L = [] := by
    cases L with
    | nil => rfl
    | cons l r =>
      obtain ⟨gs, _, b, c⟩ := I.on
      obtain ⟨x, k1, k2⟩ := c l (List.mem_cons_self ..)
      have := b x k2
      have := hm l (I.sub l (List.mem_cons_self ..)).1 x k1
      omega
  subst hL
  have hit : hitsL ls f := fun l hl => (I.left l hl).elim (fun z => nomatch z) id
  have len : f.length = n := by
    have := I.len
    by_cases h : f.length < n
    · exact absurd ⟨f, Nat.le_refl _, hit⟩ (hn _ h)
    · omega
  refine ⟨I.asc, fun x hx => ⟨I.pos x hx, I.low x hx⟩, hit, fun t ht => ?_, fun t h1 h2 h3 h4 => ?_⟩
  · rw [len]
    by_cases h : t.length < n
    · exact absurd ⟨t, Nat.le_refl _, ht⟩ (hn _ h)
    · omega
  · rcases I.least t h1 (h2.trans len) h3 h4 with ⟨r, rfl, _⟩ | k
    · rw [List.length_append] at h2
      have : r = [] := List.length_eq_zero_iff.mp (by omega)
      subst this
      exact .inl (List.append_nil _)
    · exact .inr k
theorem can_many {ls : Lots} {many : Nat} (h0 : [] ∉ ls) (h : ∀ l ∈ ls, ∀ x ∈ l, 0 ≤ x ∧ x < (many : Int)) : Can ls many := by
  refine ⟨(List.range many).map (fun i : Nat => (i : Int)), by simp, fun l hl => ?_⟩
  cases l with
  | nil => exact absurd hl h0
  | cons x r =>
    have := h _ hl x (List.mem_cons_self ..)
    exact ⟨x, List.mem_cons_self .., List.mem_map.mpr ⟨x.toNat, List.mem_range.mpr (by omega), by omega⟩⟩
end Hm
namespace Lm
open PySem PySem.Spec PyProof.Rows L2
def topS (i : Nat) : Stmt := PySem.Challenge.pw_lanesmeet_k43_whole_stretches_and_arcs.main.body.getD i (.Pass ⟨0, 0, 0, 0⟩)
/-- the built-ins that no name of the module hides -/
structure Bl (mg : Str → Option Value) : Prop where
  bint : mg "int" = none
  blen : mg "len" = none
  bisi : mg "isinstance" = none
  bbool : mg "bool" = none
  btup : mg "tuple" = none
  blist : mg "list" = none
  bstr : mg "str" = none
  bmax : mg "max" = none
  brng : mg "range" = none
  babs : mg "abs" = none
  ball : mg "all" = none
  bmin : mg "min" = none
  brep : mg "repr" = none
  bany : mg "any" = none
  bsrt : mg "sorted" = none
  benu : mg "enumerate" = none
theorem dp_ints {K : PySem.W.Frag} {H : Hp} : ∀ ns : List Int, DpAll K H (ns.map V.int) (ns.map PyData.int)
  | [] => .nil
  | n :: r => .cons (.int n) (dp_ints r)
theorem shaped_ints (ns : List Int) : SeqAt.shaped (.list (ns.map .int)) = true := by
  have h1 : PyData.canLayAll0 (ns.map .int) = true := by
    induction ns with
    | nil => simp [PyData.canLayAll0]
    | cons n r ih => simp [PyData.canLayAll0, PyData.canLay0, ih]
  have h2 : PyData.depthAll (ns.map .int) ≤ 1 := by
    induction ns with
    | nil => simp [PyData.depthAll]
    | cons n r ih =>
      have ih' := ih (by simpa [PyData.canLayAll0, PyData.canLay0] using h1)
      simp [PyData.depthAll, PyData.depth]
      omega
  unfold SeqAt.shaped
  simp [PyData.canLay0, PyData.depth, h1]
  omega
theorem same_put {H H' : Hp} {p : Addr} {o : HO} (s : Same H H') (n : H p = none) : Same H (upd H' p o) := by
  intro b x e
  rw [upd_ne (ne_of_none e n)]
  exact s b x e
theorem int_at {ns : List Int} {i : Nat} {x : V} (h : (ns.map V.int)[i]? = some x) : ∃ z, ns[i]? = some z ∧ x = .int z := by
  rw [List.getElem?_map] at h
  cases e : ns[i]? with
  | none => rw [e] at h; cases h
  | some z => rw [e] at h; exact ⟨z, rfl, (Option.some.inj h).symm⟩
/-! ### kinds of data -/
def kindOf : PyData → String
  | .none => "NoneType" | .bool _ => "bool" | .int _ => "int" | .str _ => "str" | .list _ => "list" | .tuple _ => "tuple" | .dict _ => "dict"
theorem Da.ty {K : PySem.W.Frag} {D : DrA} {H : Hp} {v : V} {d : PyData} (h : Da D H v d) : TyX K H v (.type (kindOf d)) := by
  cases h with
  | non => exact .base .non
  | bl b => exact .base (.bl b)
  | int i => exact .base (.int i)
  | str x => exact .base (.str x)
  | lst h _ _ _ => exact .base (.lst h)
  | tup h _ _ _ => exact .base (.tup h)
  | emp h _ _ => exact .base (.dK h)
def isTup : PyData → Bool
  | .tuple _ => true
  | _ => false
def isStr : PyData → Bool
  | .str _ => true
  | _ => false
def isIntB : PyData → Bool
  | .int _ => true
  | .bool _ => true
  | _ => false
def isBoolB : PyData → Bool
  | .bool _ => true
  | _ => false
def isNum : PyData → Bool
  | .int _ => true
  | _ => false
theorem kit_tup (K : PySem.W.Frag) : ∀ d : PyData, PySem.W.kitOne K (.type (kindOf d)) (.type "tuple") = some (isTup d)
  | .none => kit_ty (show kitB "NoneType" "tuple" = some false by decide +kernel)
  | .bool _ => kit_ty (show kitB "bool" "tuple" = some false by decide +kernel)
  | .int _ => kit_ty (show kitB "int" "tuple" = some false by decide +kernel)
  | .str _ => kit_ty (show kitB "str" "tuple" = some false by decide +kernel)
  | .list _ => kit_ty (show kitB "list" "tuple" = some false by decide +kernel)
  | .tuple _ => kit_ty (show kitB "tuple" "tuple" = some true by decide +kernel)
  | .dict _ => kit_ty (show kitB "dict" "tuple" = some false by decide +kernel)
theorem kit_str (K : PySem.W.Frag) : ∀ d : PyData, PySem.W.kitOne K (.type (kindOf d)) (.type "str") = some (isStr d)
  | .none => kit_ty (show kitB "NoneType" "str" = some false by decide +kernel)
  | .bool _ => kit_ty (show kitB "bool" "str" = some false by decide +kernel)
  | .int _ => kit_ty (show kitB "int" "str" = some false by decide +kernel)
  | .str _ => kit_ty (show kitB "str" "str" = some true by decide +kernel)
  | .list _ => kit_ty (show kitB "list" "str" = some false by decide +kernel)
  | .tuple _ => kit_ty (show kitB "tuple" "str" = some false by decide +kernel)
  | .dict _ => kit_ty (show kitB "dict" "str" = some false by decide +kernel)
theorem kit_int (K : PySem.W.Frag) : ∀ d : PyData, PySem.W.kitOne K (.type (kindOf d)) (.type "int") = some (isIntB d)
  | .none => kit_ty (show kitB "NoneType" "int" = some false by decide +kernel)
  | .bool _ => kit_ty (show kitB "bool" "int" = some true by decide +kernel)
  | .int _ => kit_ty (show kitB "int" "int" = some true by decide +kernel)
  | .str _ => kit_ty (show kitB "str" "int" = some false by decide +kernel)
  | .list _ => kit_ty (show kitB "list" "int" = some false by decide +kernel)
  | .tuple _ => kit_ty (show kitB "tuple" "int" = some false by decide +kernel)
  | .dict _ => kit_ty (show kitB "dict" "int" = some false by decide +kernel)
theorem kit_bool (K : PySem.W.Frag) : ∀ d : PyData, PySem.W.kitOne K (.type (kindOf d)) (.type "bool") = some (isBoolB d)
  | .none => kit_ty (show kitB "NoneType" "bool" = some false by decide +kernel)
  | .bool _ => kit_ty (show kitB "bool" "bool" = some true by decide +kernel)
  | .int _ => kit_ty (show kitB "int" "bool" = some false by decide +kernel)
  | .str _ => kit_ty (show kitB "str" "bool" = some false by decide +kernel)
  | .list _ => kit_ty (show kitB "list" "bool" = some false by decide +kernel)
  | .tuple _ => kit_ty (show kitB "tuple" "bool" = some false by decide +kernel)
  | .dict _ => kit_ty (show kitB "dict" "bool" = some false by decide +kernel)
/-! ### readings that tell data -/
theorem Da.sm {D : DrA} {H H' : Hp} {v : V} {d : PyData} (h : Da D H v d) (s : Same H H') : Da D H' v d := h.fr (Fr.t (.of s))
theorem DaAll.sm {D : DrA} {H H' : Hp} {v : List V} {d : List PyData} (h : DaAll D H v d) (s : Same H H') : DaAll D H' v d := h.fr (Fr.t (.of s))
theorem DrawAt.sm {D : DrA} {n : Nat} {H H' : Hp} (h : DrawAt D n H) (s : Same H H') : DrawAt D n H' := h.same fun b o e _ => s b o e
theorem small10000 {n : Nat} (h : n ≤ 10000) : n ≤ sizeLine := Nat.le_trans h (by unfold sizeLine; decide)
section
variable {K : PySem.W.Frag} {D : DrA} {n : Nat} {H : Hp} {Q : VK}
theorem tup_da {xs : List V} {ds : List PyData} {p : Addr} (dr : DrawAt D n H) (h : DaAll D H xs ds) (np : H p = none) : Same H (upd H p (.tup xs)) ∧ DrawAt D n (upd H p (.tup xs)) ∧ Da D (upd H p (.tup xs)) (.ref p) (.tuple ds) :=
  ⟨same_upd np, dr.new np, .tup upd_same (dr.off np).1 (dr.off np).2 (h.sm (same_upd np))⟩
theorem lst_da {xs : List V} {ds : List PyData} {p : Addr} (dr : DrawAt D n H) (h : DaAll D H xs ds) (np : H p = none) : Same H (upd H p (.lst xs)) ∧ DrawAt D n (upd H p (.lst xs)) ∧ (upd H p (.lst xs)) p = some (.lst xs) ∧ p ≠ D.d ∧ p ≠ D.w ∧ DaAll D (upd H p (.lst xs)) xs ds :=
  ⟨same_upd np, dr.new np, upd_same, (dr.off np).1, (dr.off np).2, h.sm (same_upd np)⟩
theorem cutV_whole {xs : List V} {lo hi : Option Int} (h : HT.sIx xs.length 0 lo = 0 ∧ HT.sIx xs.length xs.length hi = xs.length) : cutV xs lo hi = xs := by
  unfold cutV
  rw [h.1, h.2, List.drop_zero, Nat.sub_zero, List.take_length]
theorem slA_da {a : Addr} {ds : List PyData} {lo hi : Option Int} (dr : DrawAt D n H) (h : Da D H (.ref a) (.tuple ds)) (q : ∀ (H' : Hp) (p : Addr) (es : List PyData), Same H H' → DrawAt D n H' → es.length ≤ ds.length → Da D H' (.ref p) (.tuple es) → Q (.ref p) H') : rSlA K (.ref a) lo hi H Q := by
  cases h with
  | tup h n1 n2 ha =>
    rename_i xs
    refine ⟨a, xs, rfl, SqT.of h, fun _ => q H a ds (fun _ _ z => z) dr (Nat.le_refl _) (.tup h n1 n2 ha), fun _ p np => ?_⟩
    refine q _ p _ (same_upd np) (dr.new np) ?_ (.tup upd_same (dr.off np).1 (dr.off np).2 (((ha.drop _).take _).sm (same_upd np)))
    rw [List.length_take, List.length_drop]
    omega
theorem catA_da {a b : Addr} {ds es : List PyData} (dr : DrawAt D n H) (h : Da D H (.ref a) (.tuple ds)) (h' : Da D H (.ref b) (.tuple es)) (hl : ds.length + es.length ≤ 10000) (q : ∀ (H' : Hp) (p : Addr), Same H H' → DrawAt D n H' → Da D H' (.ref p) (.tuple (ds ++ es)) → Q (.ref p) H') : rCatA K (.ref a) (.ref b) H Q := by
  have hh := h
  have hh' := h'
  cases h with
  | tup h n1 n2 ha =>
    cases h' with
    | tup h' m1 m2 ha' =>
      rename_i xs ys
      refine ⟨a, b, xs, ys, rfl, rfl, SqT.of h, SqT.of h', small10000 (by rw [ha.length, ha'.length]; exact hl), fun e => ?_, fun _ e => ?_, fun _ _ p np => ?_⟩
      · subst e
        cases ha
        exact q H b (fun _ _ z => z) dr hh'
      · subst e
        cases ha'
        rw [List.append_nil] at q
        exact q H a (fun _ _ z => z) dr hh
      · exact q _ p (same_upd np) (dr.new np) (.tup upd_same (dr.off np).1 (dr.off np).2 ((ha.app ha').sm (same_upd np)))
end
theorem daAll_sub {H : Hp} {ys xs : List V} (k : ys.Sublist xs) : ∀ {ds : List PyData}, DaAll D H xs ds → ∃ es : List PyData, es.Sublist ds ∧ DaAll D H ys es := by
  induction k with
  | slnil => intro ds h; cases h; exact ⟨[], .slnil, .nil⟩
  | cons a s ih =>
    intro ds h
    cases h with
    | cons h t =>
      obtain ⟨es, s', p⟩ := ih t
      exact ⟨es, s'.cons _, p⟩
  | cons_cons a s ih =>
    intro ds h
    cases h with
    | cons h t =>
      obtain ⟨es, s', p⟩ := ih t
      exact ⟨_, s'.cons_cons _, .cons h p⟩
section
end
/-! ### raising an own exception class with a message -/
structure XMk (K : PySem.W.Frag) (mg : Str → Option Value) (x : Str) (C : Addr) : Prop where
  at_ : mg x = some (.ref C)
  q : PySem.W.excIn K C [.type "ValueError", .type "Exception", .type "BaseException", .type "object"] "ValueError.__new__" = true
  kC : PySem.W.keepIn K (.ref C) = true
  sub : PySem.W.subIn K (.ref C) (.type "BaseException") = some true
  ty : PySem.W.typeIn K (.ref C) = some (.type "type")
theorem ps_bad {X : Cx} {W : WX} {x m : Str} {C : Addr} {j : Nat} {p p2 pos pos2 : Pos} (hc : X.calm = true) (M : XMk X.K X.mg x C) (tk : Takes X W) (hg : Gl X x) (hdb : (x == ("__debug__" : Str)) = false := by decide) :
    PS X (.Raise (some (.Call (.Name x p) [.Constant (.str m) j p2] [] pos)) none pos2) (fun _ σ H => W (.ref C) none σ H) :=
  ps_raise hc tk (pmk_own PySem.F.excBase_ValueError M.q M.at_ M.kC (raises_own M.sub M.ty) hg hdb)
section
variable {P : Program} {w : World} {K : PySem.W.Frag} {mg : Str → Option Value} {base : Heap}
theorem passE {N : List Str} {qual : Str} {scope : Scope} {f : Addr} {cdv : Value} {A : Around} {outer : List Env} {s : Shared} {H : Hp} {E : XK} : Passes (L2.CX P w) (cxOf (L2.CX P w) P w K mg base N qual scope f cdv A outer s H E) E := by
  have tk : Takes (cxOf (L2.CX P w) P w K mg base N qual scope f cdv A outer s H E) (fun cls d _ H => E cls d H) := takes_of (E := E) rfl rfl rfl rfl
  exact passes_call tk (fun _ _ _ _ h => h)
end
def btw (lo hi : Int) : PyData → Bool
  | .int n => decide (lo ≤ n) && decide (n ≤ hi)
  | _ => false
theorem btw_int {lo hi : Int} {d : PyData} (h : btw lo hi d = true) : ∃ n, d = .int n ∧ lo ≤ n ∧ n ≤ hi := by
  cases d with
  | int n =>
    have h : (decide (lo ≤ n) && decide (n ≤ hi)) = true := h
    rw [Bool.and_eq_true] at h
    exact ⟨n, rfl, of_decide_eq_true h.1, of_decide_eq_true h.2⟩
  | none => cases h
  | bool _ => cases h
  | str _ => cases h
  | list _ => cases h
  | tuple _ => cases h
  | dict _ => cases h
theorem btw_of {lo hi n : Int} (h1 : lo ≤ n) (h2 : n ≤ hi) : btw lo hi (.int n) = true := by
  show (decide (lo ≤ n) && decide (n ≤ hi)) = true
  rw [decide_eq_true h1, decide_eq_true h2]
  rfl
section
variable {P : Program} {w : World} {K : PySem.W.Frag} {mg : Str → Option Value} {base : Heap}
def spNum : Sp := fun vs H Q _ => ∃ (D : DrA) (v : V) (d : PyData), vs = [v] ∧ Da D H v d ∧ Q (.bl (isNum d)) H
abbrev sNumber : Stmt := topS 6
theorem scNumber : FnScope ["thing"] ["thing"] (defScope sNumber) := ⟨rfl, rfl, rfl, by decide +kernel, rfl, by decide +kernel, by decide +kernel⟩
theorem ok_number {f : Addr} {fd : FuncData} (F : Fun K "is_number" "is_number" sNumber f fd) (N : Bl mg) : FnOk P w K mg base CX0 1 f fd ["thing"] spNum := by
  refine F.ok scNumber (fun vs H Q E h => ?_) (fun cdv A outer s H vs Q E hr h => ?_)
  · obtain ⟨D, v, d, rfl, _⟩ := h
    rfl
  · obtain ⟨D, v, d, rfl, h, q⟩ := h
    refine ⟨_, pss_one (ps_ret (pe_and (pe_callB call_isi (by rfl) N.bisi (by decide +kernel) (pa_cons (pv 0) (pa_cons (pe_bltn (v := .ty "int") (by rfl) N.bint (by decide +kernel) rfl) pa_nil)))
      (pe_one (pe_not (pe_callB call_isi (by rfl) N.bisi (by decide +kernel) (pa_cons (pv 0) (pa_cons (pe_bltn (v := .ty "bool") (by rfl) N.bbool (by decide +kernel) rfl) pa_nil))))))), ?_⟩
    refine ⟨v, rfl, v, .ty "int", _, _, isIntB d, rfl, .ty "int", h.ty, kit_int K d, isIntB d, rfl, ?_⟩
    cases hb : isIntB d with
    | true =>
      refine iteT ⟨v, rfl, v, .ty "bool", _, _, isBoolB d, rfl, .ty "bool", h.ty, kit_bool K d, isBoolB d, rfl, ?_⟩
      have e : isNum d = !isBoolB d := by cases d <;> first | rfl | cases hb
      rw [← e]
      exact q
    | false =>
      have e : isNum d = false := by cases d <;> first | rfl | cases hb
      rw [e] at q
      exact iteF q
abbrev sBetween : Stmt := topS 7
theorem scBetween : FnScope ["thing", "low", "high"] ["thing", "low", "high"] (defScope sBetween) := ⟨rfl, rfl, rfl, by decide +kernel, rfl, by decide +kernel, by decide +kernel⟩
def spBtw : Sp := fun vs H Q _ => ∃ (D : DrA) (v : V) (d : PyData) (lo hi : Int), vs = [v, .int lo, .int hi] ∧ Da D H v d ∧ Q (.bl (btw lo hi d)) H
theorem ok_between {f : Addr} {fd : FuncData} (F : Fun K "is_between" "is_between" sBetween f fd) (GN : Has P w K mg base CX0 1 "is_number" ["thing"] spNum) : FnOk P w K mg base CX0 2 f fd ["thing", "low", "high"] spBtw := by
  refine F.ok scBetween (fun vs H Q E h => ?_) (fun cdv A outer s H vs Q E hr h => ?_)
  · obtain ⟨D, v, d, lo, hi, rfl, _⟩ := h
    rfl
  · obtain ⟨D, v, d, lo, hi, rfl, h, q⟩ := h
    refine ⟨_, pss_one (ps_ret (pe_and (pe_h GN hr (by decide) (by rfl) pass0 (pa_cons (pv 0) pa_nil)) (pe_one (pe_chain op_le op_le (pv 1) (pv 0) (pv 2))))), ?_⟩
    refine ⟨v, rfl, D, v, d, rfl, h, isNum d, rfl, ?_⟩
    cases h with
    | int n =>
      refine iteT ⟨_, rfl, _, rfl, _, _, rfl, rfl, _, rfl, ?_⟩
      have q : Q (.bl (decide (lo ≤ n) && decide (n ≤ hi))) H := q
      refine ite2 (fun z => ⟨_, rfl, _, _, rfl, rfl, ?_⟩) (fun z => ?_)
      · rw [z, Bool.true_and] at q
        exact q
      · rw [Bool.not_eq_true] at z
        rw [z, Bool.false_and] at q
        exact q
    | non => exact iteF q
    | bl _ => exact iteF q
    | str _ => exact iteF q
    | lst _ _ _ _ => exact iteF q
    | tup _ _ _ _ => exact iteF q
    | emp _ _ _ => exact iteF q
end
end Lm
namespace Lm
open PySem PySem.Spec PyProof.Rows L2
def isLst : PyData → Bool
  | .list _ => true
  | _ => false
theorem kit_list (K : PySem.W.Frag) : ∀ d : PyData, PySem.W.kitOne K (.type (kindOf d)) (.type "list") = some (isLst d)
  | .none => kit_ty (show kitB "NoneType" "list" = some false by decide +kernel)
  | .bool _ => kit_ty (show kitB "bool" "list" = some false by decide +kernel)
  | .int _ => kit_ty (show kitB "int" "list" = some false by decide +kernel)
  | .str _ => kit_ty (show kitB "str" "list" = some false by decide +kernel)
  | .list _ => kit_ty (show kitB "list" "list" = some true by decide +kernel)
  | .tuple _ => kit_ty (show kitB "tuple" "list" = some false by decide +kernel)
  | .dict _ => kit_ty (show kitB "dict" "list" = some false by decide +kernel)
theorem kit_listing (K : PySem.W.Frag) (d : PyData) : PySem.W.kitAny K (.type (kindOf d)) [.type "list", .type "tuple"] = some (isLst d || isTup d) := by
  unfold PySem.W.kitAny
  rw [kit_list K d]
  cases h : isLst d with
  | true => rfl
  | false =>
    show PySem.W.kitAny K (.type (kindOf d)) [.type "tuple"] = some (isTup d)
    unfold PySem.W.kitAny
    rw [kit_tup K d]
    cases isTup d <;> rfl
section
variable {P : Program} {w : World} {K : PySem.W.Frag} {mg : Str → Option Value} {base : Heap}
abbrev sListing : Stmt := topS 8
theorem scListing : FnScope ["thing"] ["thing"] (defScope sListing) := ⟨rfl, rfl, rfl, by decide +kernel, rfl, by decide +kernel, by decide +kernel⟩
def spListing : Sp := fun vs H Q _ => ∃ (D : DrA) (v : V) (d : PyData), vs = [v] ∧ Da D H v d ∧ ∀ H', Same H H' → Q (.bl (isLst d || isTup d)) H'
theorem ok_listing {f : Addr} {fd : FuncData} (F : Fun K "is_listing" "is_listing" sListing f fd) (N : Bl mg) : FnOk P w K mg base CX0 1 f fd ["thing"] spListing := by
  refine F.ok scListing (fun vs H Q E h => ?_) (fun cdv A outer s H vs Q E hr h => ?_)
  · obtain ⟨D, v, d, rfl, _⟩ := h
    rfl
  · obtain ⟨D, v, d, rfl, h, q⟩ := h
    refine ⟨_, pss_one (ps_ret (pe_callB call_isiT (by rfl) N.bisi (by decide +kernel) (pa_cons (pv 0) (pa_cons (pe_tup (pa_cons (pe_bltn (v := .ty "list") (by rfl) N.blist (by decide +kernel) rfl)
      (pa_cons (pe_bltn (v := .ty "tuple") (by rfl) N.btup (by decide +kernel) rfl) pa_nil))) pa_nil)))), ?_⟩
    refine ⟨v, rfl, (by show 2 ≤ sizeLine; decide), fun p np => ?_⟩
    exact ⟨v, p, _, _, [.type "list", .type "tuple"], _, rfl, upd_same, .cons (.ty "list") (.cons (.ty "tuple") .nil), (h.sm (same_upd np)).ty, kit_listing K d, q _ (same_upd np)⟩
/-! ### is_rising of ints -/
def ascI : List Int → Bool
  | a :: b :: r => decide (a < b) && ascI (b :: r)
  | _ => true
theorem ascI_iff : ∀ {l : List Int}, ascI l = true ↔ Hm.Asc l
  | [] => ⟨fun _ => List.Pairwise.nil, fun _ => rfl⟩
  | [a] => ⟨fun _ => List.pairwise_singleton _ _, fun _ => rfl⟩
  | a :: b :: r => by
    show (decide (a < b) && ascI (b :: r)) = true ↔ _
    unfold Hm.Asc
    rw [Bool.and_eq_true, decide_eq_true_iff, ascI_iff (l := b :: r), List.pairwise_cons (a := a)]
    unfold Hm.Asc
    constructor
    · rintro ⟨h, k⟩
      refine ⟨fun c hc => ?_, k⟩
      rcases List.mem_cons.mp hc with rfl | hc
      · exact h
      · exact Int.lt_trans h ((List.pairwise_cons.mp k).1 c hc)
    · rintro ⟨h, k⟩
      exact ⟨h b (List.mem_cons_self ..), k⟩
theorem ascI_drop : ∀ (l : List Int) (i : Nat) {a b : Int}, l[i]? = some a → l[i + 1]? = some b → ascI (l.drop i) = (decide (a < b) && ascI (l.drop (i + 1)))
  | [], _, _, _, h, _ => by simp at h
  | [_], 0, _, _, _, h => by simp at h
  | [_], _ + 1, _, _, h, _ => by simp at h
  | x :: y :: r, 0, a, b, h1, h2 => by
    simp at h1 h2
    subst h1 h2
    rfl
  | x :: y :: r, i + 1, a, b, h1, h2 => by
    have := ascI_drop (y :: r) i (a := a) (b := b) (by simpa using h1) (by simpa using h2)
    simpa using this
abbrev sRise : Stmt := topS 10
theorem scRise : FnScope ["things", "at"] ["things"] (defScope sRise) := ⟨rfl, rfl, rfl, by decide +kernel, rfl, by decide +kernel, by decide +kernel⟩
def spRise : Sp := fun vs H Q _ => ∃ (a : Addr) (l : List Int), vs = [.ref a] ∧ H a = some (.tup (l.map V.int)) ∧ l.length ≤ 1000 ∧ Q (.bl (ascI l)) H
theorem ok_rise {f : Addr} {fd : FuncData} (F : Fun K "is_rising" "is_rising" sRise f fd) (N : Bl mg) : FnOk P w K mg base CX0 1 f fd ["things"] spRise := by
  refine F.ok scRise (fun vs H Q E h => ?_) (fun cdv A outer s H vs Q E hr h => ?_)
  · obtain ⟨a, l, rfl, _⟩ := h
    rfl
  · obtain ⟨a, l, rfl, h1, hl, q⟩ := h
    refine ⟨_, pss_cons (ps_for PassesOwn.never rfl (pi_range1 (by rfl) N.brng (pa_cons (pe_op op_sub (pe_callB call_len_seq (by rfl) N.blen PySem.boot_len (pa_cons (pv 0) pa_nil)) pe_int) pa_nil)) (pg_name (i := 1) scRise.nd rfl (.inl rfl))
        (pss_one (ps_if (pt_not (pt_cmpR op_lt (pe_ix ix_tup (pv 0) (pv 1) (fun _ _ => rfl)) (pe_ix ix_tup (pv 0) (pe_op op_add (pv 1) pe_int) (fun _ _ => rfl)) (nomark _))) (pss_one (ps_ret pe_bl)) pss_nil)))
      (pss_one (ps_ret pe_bl)), ?_⟩
    have hx : (l.map V.int).length = l.length := List.length_map ..
    refine ⟨_, rfl, a, _, rfl, .inr (SqT.of h1), _, _, rfl, rfl, _, rfl, by omega, by omega, for_range (fun i σ H' => H' = H ∧ ascI (l.drop i) = ascI l ∧ ∃ x1, σ = [some (.ref a), x1]) ⟨rfl, rfl, _, rfl⟩ ?_ ?_⟩
    · rintro i σ H' hi ⟨rfl, hs, x1, rfl⟩
      have hi1 : i + 1 < l.length := by omega
      refine ⟨_, rfl, _, rfl, a, _, _, .int l[i], rfl, rfl, SqT.of h1, ?_, ?_⟩
      · rw [Int.zero_add]
        refine atI_nat ?_
        rw [List.getElem?_map, List.getElem?_eq_getElem (show i < l.length by omega)]
        rfl
      · refine ⟨_, rfl, _, rfl, _, _, rfl, rfl, a, _, _, .int l[i + 1], rfl, rfl, SqT.of h1, ?_, ?_⟩
        · rw [Int.zero_add]
          refine atI_nat (j := i + 1) ?_
          rw [List.getElem?_map, List.getElem?_eq_getElem hi1]
          rfl
        · refine ⟨_, _, rfl, rfl, _, rfl, ?_⟩
          have step := ascI_drop l i (List.getElem?_eq_getElem (show i < l.length by omega)) (List.getElem?_eq_getElem hi1)
          by_cases hlt : l[i] < l[i + 1]
          · rw [decide_eq_true hlt, Bool.true_and] at step
            rw [decide_eq_true hlt]
            exact iteF ⟨rfl, step.symm.trans hs, _, rfl⟩
          · rw [decide_eq_false hlt, Bool.false_and] at step
            rw [← hs, step] at q
            rw [decide_eq_false hlt]
            exact iteT q
    · rintro σ H' ⟨rfl, hs, x1, rfl⟩
      have last : ascI (l.drop (((l.map V.int).length : Int) - 1).toNat) = true := by
        have : (l.drop (((l.map V.int).length : Int) - 1).toNat).length ≤ 1 := by
          rw [List.length_drop]
          omega
        match l.drop (((l.map V.int).length : Int) - 1).toNat, this with
        | [], _ => rfl
        | [_], _ => rfl
        | _ :: _ :: _, h => simp at h
      rw [← hs, last] at q
      exact q
end
end Lm
namespace Lm
open PySem PySem.Spec PyProof.Rows L2
/-- how many items a row of values has -/
def lenD : PyData → Nat
  | .tuple ds => ds.length
  | .list ds => ds.length
  | _ => 0
def GapIs (many : Int) (d : PyData) : Prop := ∃ l : List Int, d = .tuple (l.map .int) ∧ (∀ x ∈ l, 0 ≤ x ∧ x < many) ∧ Hm.Asc l
theorem ints_of {lo hi : Int} : ∀ {ds : List PyData}, ds.all (btw lo hi) = true → ∃ l : List Int, ds = l.map .int ∧ ∀ x ∈ l, lo ≤ x ∧ x ≤ hi
  | [], _ => ⟨[], rfl, fun _ z => nomatch z⟩
  | d :: r, h => by
    rw [List.all_cons, Bool.and_eq_true] at h
    obtain ⟨n, rfl, a, b⟩ := btw_int h.1
    obtain ⟨l, rfl, hl⟩ := ints_of h.2
    refine ⟨n :: l, rfl, fun x hx => ?_⟩
    rcases List.mem_cons.mp hx with rfl | hx
    · exact ⟨a, b⟩
    · exact hl x hx
theorem all_btw {lo hi : Int} {l : List Int} (h : ∀ x ∈ l, lo ≤ x ∧ x ≤ hi) : (l.map PyData.int).all (btw lo hi) = true := by
  rw [List.all_map, List.all_eq_true]
  intro x hx
  exact btw_of (h x hx).1 (h x hx).2
theorem map_int_inj : ∀ {a b : List Int}, a.map PyData.int = b.map PyData.int → a = b
  | [], [], _ => rfl
  | _ :: _, _ :: _, h => by
    rw [List.map_cons, List.map_cons] at h
    injection h with h1 h2
    injection h1 with h1
    rw [h1, map_int_inj h2]
theorem daAll_ints {D : DrA} {H : Hp} : ∀ {bs : List Int} {vs : List V}, DaAll D H vs (bs.map PyData.int) → vs = bs.map V.int
  | [], _, h => by cases h; rfl
  | b :: r, _, h => by
    cases h with
    | cons h1 h2 =>
      cases h1
      rw [daAll_ints h2]
      rfl
section
variable {P : Program} {w : World} {K : PySem.W.Frag} {mg : Str → Option Value} {base : Heap}
abbrev sGap : Stmt := topS 16
theorem scGap : FnScope ["many", "thing", "gap"] ["many", "thing"] (defScope sGap) := ⟨rfl, rfl, rfl, by decide +kernel, rfl, by decide +kernel, by decide +kernel⟩
def spGap : Sp := fun vs H Q _ => ∃ (D : DrA) (many : Int) (v : V) (d : PyData), vs = [.int many, v] ∧ Da D H v d ∧ lenD d ≤ 1000 ∧ ∀ (H' : Hp) (b : Bool), Same H H' → (b = true ↔ GapIs many d) → Q (.bl b) H'
theorem ok_gap {f : Addr} {fd : FuncData} (F : Fun K "is_gap_tuple" "is_gap_tuple" sGap f fd) (N : Bl mg) (GB : Has P w K mg base CX0 2 "is_between" ["thing", "low", "high"] spBtw) (GR : Has P w K mg base CX0 1 "is_rising" ["things"] spRise) : FnOk P w K mg base CX0 3 f fd ["many", "thing"] spGap := by
  refine F.ok scGap (fun vs H Q E h => ?_) (fun cdv A outer s H vs Q E hr h => ?_)
  · obtain ⟨D, many, v, d, rfl, _⟩ := h
    rfl
  · obtain ⟨D, many, v, d, rfl, hd, hl, q⟩ := h
    refine ⟨_, pss_cons (ps_if (pt_not (pt_val (pe_callB call_isi (by rfl) N.bisi (by decide +kernel) (pa_cons (pv 1) (pa_cons (pe_bltn (v := .ty "tuple") (by rfl) N.btup (by decide +kernel) rfl) pa_nil))))) (pss_one (ps_ret pe_bl)) pss_nil)
      (pss_one (ps_ret (pe_and (pe_callB (cr_all rfl) (by rfl) N.ball (by decide +kernel) (pa_cons (pe_lc (own := [("gap", 2)]) (g := gName 2) (tt := tYes) rfl scGap.nd (pi_tup (pv 1)) (blkOk_by (own := [("gap", 2)]) (N := ["many", "thing", "gap"]) (sc := defScope sGap) (by decide +kernel)) (fun _ _ _ _ _ => pg_name (i := 2) scGap.nd rfl (Or.inl rfl))
          (fun _ _ _ _ _ => pts_nil) (fun _ _ _ _ _ => pe_h GB (hr.mono (by decide : 2 ≤ 2)) (by decide) (by rfl) pass0 (pa_cons (pv 2) (pa_cons pe_int (pa_cons (pe_op op_sub (pv 0) pe_int) pa_nil))))) pa_nil))
        (pe_one (pe_h GR hr (by decide) (by rfl) pass0 (pa_cons (pv 1) pa_nil)))))), ?_⟩
    have no : ∀ {H'}, Same H H' → ¬ GapIs many d → Q (.bl false) H' := fun s n => q _ false s ⟨fun z => absurd z (by decide), fun z => absurd z n⟩
    refine ⟨v, rfl, v, .ty "tuple", _, _, isTup d, rfl, .ty "tuple", hd.ty, kit_tup K d, isTup d, rfl, ?_⟩
    have kind : isTup d = false → ¬ GapIs many d := fun e z => by
      obtain ⟨l, rfl, _⟩ := z
      cases e
    cases hd with
    | tup h1 n1 n2 ha =>
      rename_i a xs ds
      have hx := ha.length
      have hl : ds.length ≤ 1000 := hl
      refine iteF ⟨_, rfl, a, rfl, ⟨_, SqT.of h1⟩, fun R nR => lc_tup (K := K) (a := a) (xs := xs) (fun i H' => Same H H' ∧ H' R = some (.lst (((ds.map (btw 0 (many - 1))).take i).map V.bl))) ⟨same_upd nR, upd_same⟩ (fun i H' _ h => SqT.of (h.1 _ _ h1)) ?_ ?_⟩
      · rintro i x H' hx ⟨s1, hR⟩
        obtain ⟨de, hde, hv⟩ := ha.get hx
        have hi : i < ds.length := (List.getElem?_eq_some_iff.mp hde).1
        refine ⟨rfl, _, rfl, _, rfl, _, _, rfl, rfl, D, x, de, 0, many - 1, rfl, hv.sm s1, ⟨_, hR, ?_, same_put s1 nR, ?_⟩⟩
        · rw [List.length_map, List.length_take, List.length_map]
          exact small1000 (by omega)
        · have ht : (ds.map (btw 0 (many - 1))).take (i + 1) = (ds.map (btw 0 (many - 1))).take i ++ [btw 0 (many - 1) de] := by
            rw [List.take_add_one, List.getElem?_map, hde]
            rfl
          rw [ht, List.map_append]
          exact upd_same
      · rintro H1 ⟨s1, hR⟩
        rw [show (ds.map (btw 0 (many - 1))).take xs.length = ds.map (btw 0 (many - 1)) from by rw [hx, ← List.length_map (f := btw 0 (many - 1)), List.take_length]] at hR
        refine ⟨R, ds.map (btw 0 (many - 1)), rfl, SqL.of hR, _, rfl, ?_⟩
        have ea : (ds.map (btw 0 (many - 1))).all id = ds.all (btw 0 (many - 1)) := by rw [List.all_map]; rfl
        rw [ea]
        cases hall : ds.all (btw 0 (many - 1)) with
        | false =>
          refine iteF (no s1 ?_)
          rintro ⟨l, e, k, _⟩
          injection e with e
          subst e
          rw [all_btw fun x hx => ⟨(k x hx).1, by have := (k x hx).2; omega⟩] at hall
          cases hall
        | true =>
          obtain ⟨l, rfl, hk⟩ := ints_of hall
          rw [List.length_map] at hl
          rw [daAll_ints ha] at h1
          refine iteT ⟨_, rfl, a, l, rfl, s1 _ _ h1, hl, q _ _ s1 ?_⟩
          rw [ascI_iff]
          constructor
          · intro h
            exact ⟨l, rfl, fun x hx => ⟨(hk x hx).1, by have := (hk x hx).2; omega⟩, h⟩
          · rintro ⟨l', e, _, h⟩
            injection e with e
            rw [map_int_inj e]
            exact h
    | non => exact iteT (no (fun _ _ z => z) (kind rfl))
    | bl _ => exact iteT (no (fun _ _ z => z) (kind rfl))
    | str _ => exact iteT (no (fun _ _ z => z) (kind rfl))
    | lst _ _ _ _ => exact iteT (no (fun _ _ z => z) (kind rfl))
    | int _ => exact iteT (no (fun _ _ z => z) (kind rfl))
    | emp _ _ _ => exact iteT (no (fun _ _ z => z) (kind rfl))
end
end Lm
namespace Lm
open PySem PySem.Spec PyProof.Rows L2
def rowsD : PyData → Option (List PyData)
  | .list ds => some ds
  | .tuple ds => some ds
  | _ => none
def ManyIs (d : PyData) : Prop := ∃ n : Int, d = .int n ∧ 1 ≤ n ∧ n ≤ 16
theorem manyIs_iff {b : PyData} : ManyIs b ↔ btw 1 16 b = true := by
  constructor
  · rintro ⟨m, rfl, h1, h2⟩
    exact btw_of h1 h2
  · intro h
    obtain ⟨n, rfl, a, b⟩ := btw_int h
    exact ⟨n, rfl, a, b⟩
/-- at i stands the first that is no lot -/
def BadAt (n : Int) (ds : List PyData) (i : Nat) : Prop := (∃ d, ds[i]? = some d ∧ ¬ GapIs n d) ∧ ∀ j d, j < i → ds[j]? = some d → GapIs n d
def iOr (a b : TI) : TI := fun σ H R => a σ H R ∨ b σ H R
def spCheck (BM BL : Addr) : Sp := fun vs H Q E => ∃ (D : DrA) (v1 v2 : V) (m l : PyData), vs = [v1, v2] ∧ Da D H v1 m ∧ Da D H v2 l ∧ lenD l ≤ 1000 ∧ (∀ ds, rowsD l = some ds → ∀ d ∈ ds, lenD d ≤ 1000) ∧
  ((¬ ManyIs m ∧ ∀ H', Same H H' → E (.ref BM) none H') ∨
  (ManyIs m ∧ (∀ ds, rowsD l = some ds → 400 < ds.length) ∧ ∀ H' dx, Same H H' → H' dx = some (.xd [("at", .non)]) → E (.ref BL) (some dx) H') ∨
  ∃ (n : Int) (ds : List PyData), m = .int n ∧ 1 ≤ n ∧ n ≤ 16 ∧ rowsD l = some ds ∧ ds.length ≤ 400 ∧
    ((∃ i : Nat, BadAt n ds i ∧ ∀ H' dx, Same H H' → H' dx = some (.xd [("at", .int i)]) → E (.ref BL) (some dx) H') ∨
    ((∀ d ∈ ds, GapIs n d) ∧ ∀ H', Same H H' → Q .non H')))
section
variable {P : Program} {w : World} {K : PySem.W.Frag} {mg : Str → Option Value} {base : Heap}
abbrev sCheck : Stmt := topS 17
def nCheck : List Str := ["many", "lots", "at", "lot"]
theorem scCheck : FnScope nCheck ["many", "lots"] (defScope sCheck) := ⟨rfl, rfl, rfl, by decide +kernel, rfl, by decide +kernel, by decide +kernel⟩
theorem none_of {H H' : Hp} {p : Addr} (s : Same H H') (n : H' p = none) : H p = none := by
  cases e : H p with
  | none => rfl
  | some o => rw [s _ _ e] at n; cases n
def GapsUp (n : Int) (ds : List PyData) (i : Nat) : Prop := ∀ j d, j < i → ds[j]? = some d → GapIs n d
theorem pi_or {X : Cx} {tg e : Expr} {a b : TI} (h1 : PI X tg e a) (h2 : PI X tg e b) : PI X tg e (iOr a b) := ⟨fun pins s σ H R I h => h.elim (h1.run pins s σ H R I) (h2.run pins s σ H R I)⟩
theorem rows_none {D : DrA} {H : Hp} {v : V} {l : PyData} (h : Da D H v l) (n : rowsD l = none) : (isLst l || isTup l) = false := by
  cases h <;> first | rfl | cases n
theorem rows_some {l : PyData} {ds : List PyData} (n : rowsD l = some ds) : (isLst l || isTup l) = true ∧ lenD l = ds.length := by
  cases l <;> first | cases n | skip
  · exact ⟨rfl, rfl⟩
  · exact ⟨rfl, rfl⟩
theorem rows_at {D : DrA} {H : Hp} {v : V} {l : PyData} {ds : List PyData} (h : Da D H v l) (n : rowsD l = some ds) : ∃ (a : Addr) (xs : List V), v = .ref a ∧ DaAll D H xs ds ∧ ((H a = some (.lst xs)) ∨ (H a = some (.tup xs))) := by
  cases h <;> first | cases n | skip
  · rename_i a xs h n1 n2 ha
    exact ⟨a, xs, rfl, ha, .inl h⟩
  · rename_i a xs h n1 n2 ha
    exact ⟨a, xs, rfl, ha, .inr h⟩
theorem ok_check {BM BL : Addr} {f : Addr} {fd : FuncData} {tm tl : Tok} (F : Fun K "check_lots" "check_lots" sCheck f fd) (N : Bl mg) (MG : mg "MOST_GAPS" = some (.int 16 tm)) (ML : mg "MOST_LOTS" = some (.int 400 tl)) (M1 : XMk K mg "BadMany" BM) (M2 : YMk P K mg base w "BadLots" "at" BL)
    (GB : Has P w K mg base CX0 2 "is_between" ["thing", "low", "high"] spBtw) (GL : Has P w K mg base CX0 1 "is_listing" ["thing"] spListing) (GG : Has P w K mg base CX0 3 "is_gap_tuple" ["many", "thing"] spGap) : FnOk P w K mg base (L2.CX P w) 5 f fd ["many", "lots"] (spCheck BM BL) := by
  refine F.okX scCheck (fun vs H Q E h => ?_) (fun cdv A outer s H vs Q E hr h => ?_)
  · obtain ⟨D, v1, v2, m, l, rfl, _⟩ := h
    rfl
  · obtain ⟨D, v1, v2, m, l, rfl, h1, h2, hl, hll, q⟩ := h
    refine ⟨_, pss_cons (ps_if (pt_not (pt_val (pe_h GB hr (by decide) (by rfl) (E := C8.E0) pass0 (pa_cons (pv 0) (pa_cons pe_int (pa_cons (pe_glob (v := .int 16) (by rfl) MG ⟨tm, rfl⟩) pa_nil)))))) (pss_one (ps_bad rfl M1 (takes_of (E := E) rfl rfl rfl rfl) (by rfl))) pss_nil)
        (pss_cons (ps_if (pw_or (pt_not (pt_val (pe_h GL hr (by decide) (by rfl) (E := C8.E0) pass0 (pa_cons (pv 1) pa_nil))))
            (pw_or1 (pt_cmpR op_gt (pe_callB call_len_seq (by rfl) N.blen PySem.boot_len (pa_cons (pv 1) pa_nil)) (pe_glob (v := .int 400) (by rfl) ML ⟨tl, rfl⟩) (nomark _)))).pt
          (pss_one (ps_badY rfl M2 (takes_of (E := E) rfl rfl rfl rfl) hr (by decide) (by rfl) pe_non)) pss_nil)
        (pss_one (ps_for (passes_of rfl) rfl (pi_or (pi_enum (by rfl) N.benu (pa_cons (pv 1) pa_nil)) (pi_enumT (by rfl) N.benu (pa_cons (pv 1) pa_nil))) (pg_tup rfl (pgs_cons (pg_name (i := 2) scCheck.nd rfl (.inl rfl)) (pgs_cons (pg_name (i := 3) scCheck.nd rfl (.inl rfl)) pgs_nil)))
          (pss_one (ps_if (pt_not (pt_val (pe_h GG hr (by decide) (by rfl) (E := C8.E0) pass0 (pa_cons (pv 0) (pa_cons (pv 3) pa_nil))))) (pss_one (ps_badY rfl M2 (takes_of (E := E) rfl rfl rfl rfl) hr (by decide) (by rfl) (pv 2))) pss_nil))))), ?_⟩
    refine ⟨v1, rfl, D, v1, m, 1, 16, rfl, h1, btw 1 16 m, rfl, ?_⟩
    have idS : Same H H := fun _ _ z => z
    rcases q with ⟨nm, q⟩ | ⟨hm, hlong, q⟩ | ⟨n, ds, rfl, n1, n2, hr', hlen, q⟩
    · have hb : btw 1 16 m = false := by
        cases hb : btw 1 16 m with
        | false => rfl
        | true => exact absurd (manyIs_iff.mpr hb) nm
      rw [hb]
      exact iteT (q H idS)
    · rw [manyIs_iff.mp hm]
      refine iteF ⟨v2, rfl, D, v2, l, rfl, h2, fun H1 s1 => ⟨_, rfl, ?_⟩⟩
      have bad : ∀ {H'}, Same H H' → ((.non : V) = .non ∨ ∃ i : Int, (.non : V) = .int i ∧ i.natAbs < 1000) ∧ ∀ dx, H' dx = none → E (.ref BL) (some dx) (upd H' dx (.xd [("at", .non)])) := fun s => ⟨.inl rfl, fun dx nd => q _ dx (same_put s (none_of s nd)) upd_same⟩
      cases hro : rowsD l with
      | none =>
        rw [rows_none h2 hro]
        exact iteT (bad s1)
      | some ds =>
        rw [(rows_some hro).1]
        obtain ⟨a, xs, rfl, ha, hx⟩ := rows_at h2 hro
        refine iteF ⟨_, rfl, a, xs, rfl, ?_, _, _, rfl, rfl, _, rfl, ?_⟩
        · rcases hx with hx | hx
          · exact .inl (SqL.of (s1 _ _ hx))
          · exact .inr (SqT.of (s1 _ _ hx))
        · have : (400 : Int) < (xs.length : Int) := by
            have := hlong ds hro
            rw [ha.length]
            omega
          rw [decide_eq_true this]
          exact iteT (bad s1)
    · rw [btw_of n1 n2]
      cases h1
      obtain ⟨rk, rl⟩ := rows_some hr'
      obtain ⟨a, xs, rfl, ha, hx⟩ := rows_at h2 hr'
      refine iteF ⟨_, rfl, D, .ref a, l, rfl, h2, fun H1 s1 => ⟨_, rfl, ?_⟩⟩
      rw [rk]
      have hxl := ha.length
      have hx1 : SqL K H1 a xs ∨ SqT K H1 a xs := by
        rcases hx with hx | hx
        · exact .inl (SqL.of (s1 _ _ hx))
        · exact .inr (SqT.of (s1 _ _ hx))
      refine iteF ⟨_, rfl, a, xs, rfl, hx1, _, _, rfl, rfl, _, rfl, ?_⟩
      have hle : ¬ (400 : Int) < (xs.length : Int) := by omega
      rw [decide_eq_false hle]
      refine iteF ?_
      have hnl : GapsUp n ds 0 := fun j d hj => absurd hj (Nat.not_lt_zero _)
      rcases hx with hx | hx
      · refine .inl ⟨_, rfl, a, xs, rfl, SqL.of (s1 _ _ hx), for_it (walk_enumL (xs := xs)) (fun i σ H' => Same H H' ∧ GapsUp n ds i ∧ ∃ x2 x3, σ = [some (.int n), some (.ref a), x2, x3]) ⟨s1, hnl, none, none, rfl⟩ ?_ ?_ ?_⟩
        · intro i σ H' hi hp
          exact SqL.of (hp.1 _ _ hx)
        · intro i x σ H' H'' hi hp hy
          obtain ⟨s2, hg, x2, x3, rfl⟩ := hp
          obtain ⟨T, x, rfl, nT, rfl, hxi⟩ := hy
          obtain ⟨d, hd, hv⟩ := ha.get hxi
          have s3 := same_put s2 (none_of s2 nT) (o := .tup [.int (i : Nat), x])
          refine ⟨T, _, rfl, SqT.of upd_same, rfl, _, _, rfl, _, _, rfl, rfl, ?_⟩
          refine ⟨_, rfl, _, rfl, D, n, x, d, rfl, hv.sm s3, hll ds hr' d (List.mem_of_getElem? hd), fun H3 b s4 hb => ⟨_, rfl, ?_⟩⟩
          have s5 : Same H H3 := fun b o e => s4 b o (s3 b o e)
          cases b with
          | true =>
            refine iteF ⟨s5, fun j e hj he => ?_, _, _, rfl⟩
            rcases Nat.lt_succ_iff_lt_or_eq.mp hj with hj | rfl
            · exact hg j e hj he
            · rw [hd] at he
              cases he
              exact hb.mp rfl
          | false =>
            have bad : ¬ GapIs n d := fun z => absurd (hb.mpr z) (by decide)
            refine iteT ⟨_, rfl, .inr ⟨_, rfl, ?_⟩, fun dx nd => ?_⟩
            · show ((i : Nat) : Int).natAbs < 1000
              omega
            · rcases q with ⟨i', hi', q⟩ | ⟨hall, q⟩
              · have : i' = i := by
                  rcases Nat.lt_trichotomy i' i with h | h | h
                  · obtain ⟨d', hd', nd'⟩ := hi'.1
                    exact absurd (hg i' d' h hd') nd'
                  · exact h
                  · exact absurd (hi'.2 i d h hd) bad
                subst this
                exact q _ dx (same_put s5 (none_of s5 nd)) upd_same
              · exact absurd (hall d (List.mem_of_getElem? hd)) bad
        · intro σ H' hp
          obtain ⟨s2, hg, x2, x3, rfl⟩ := hp
          rcases q with ⟨i', hi', q⟩ | ⟨hall, q⟩
          · obtain ⟨d', hd', nd'⟩ := hi'.1
            exact absurd (hg i' d' (by rw [hxl]; exact (List.getElem?_eq_some_iff.mp hd').1) hd') nd'
          · exact q H' s2
      · refine .inr ⟨_, rfl, a, xs, rfl, SqT.of (s1 _ _ hx), for_it (walk_enumT (xs := xs)) (fun i σ H' => Same H H' ∧ GapsUp n ds i ∧ ∃ x2 x3, σ = [some (.int n), some (.ref a), x2, x3]) ⟨s1, hnl, none, none, rfl⟩ ?_ ?_ ?_⟩
        · intro i σ H' hi hp
          exact SqT.of (hp.1 _ _ hx)
        · intro i x σ H' H'' hi hp hy
          obtain ⟨s2, hg, x2, x3, rfl⟩ := hp
          obtain ⟨T, x, rfl, nT, rfl, hxi⟩ := hy
          obtain ⟨d, hd, hv⟩ := ha.get hxi
          have s3 := same_put s2 (none_of s2 nT) (o := .tup [.int (i : Nat), x])
          refine ⟨T, _, rfl, SqT.of upd_same, rfl, _, _, rfl, _, _, rfl, rfl, ?_⟩
          refine ⟨_, rfl, _, rfl, D, n, x, d, rfl, hv.sm s3, hll ds hr' d (List.mem_of_getElem? hd), fun H3 b s4 hb => ⟨_, rfl, ?_⟩⟩
          have s5 : Same H H3 := fun b o e => s4 b o (s3 b o e)
          cases b with
          | true =>
            refine iteF ⟨s5, fun j e hj he => ?_, _, _, rfl⟩
            rcases Nat.lt_succ_iff_lt_or_eq.mp hj with hj | rfl
            · exact hg j e hj he
            · rw [hd] at he
              cases he
              exact hb.mp rfl
          | false =>
            have bad : ¬ GapIs n d := fun z => absurd (hb.mpr z) (by decide)
            refine iteT ⟨_, rfl, .inr ⟨_, rfl, ?_⟩, fun dx nd => ?_⟩
            · show ((i : Nat) : Int).natAbs < 1000
              omega
            · rcases q with ⟨i', hi', q⟩ | ⟨hall, q⟩
              · have : i' = i := by
                  rcases Nat.lt_trichotomy i' i with h | h | h
                  · obtain ⟨d', hd', nd'⟩ := hi'.1
                    exact absurd (hg i' d' h hd') nd'
                  · exact h
                  · exact absurd (hi'.2 i d h hd) bad
                subst this
                exact q _ dx (same_put s5 (none_of s5 nd)) upd_same
              · exact absurd (hall d (List.mem_of_getElem? hd)) bad
        · intro σ H' hp
          obtain ⟨s2, hg, x2, x3, rfl⟩ := hp
          rcases q with ⟨i', hi', q⟩ | ⟨hall, q⟩
          · obtain ⟨d', hd', nd'⟩ := hi'.1
            exact absurd (hg i' d' (by rw [hxl]; exact (List.getElem?_eq_some_iff.mp hd').1) hd') nd'
          · exact q H' s2
end
end Lm
namespace Lm
open PySem PySem.Spec PyProof.Rows L2
/-- lots as they lie -/
def LotAt (H : Hp) (v : V) (l : List Int) : Prop := ∃ a, v = .ref a ∧ H a = some (.tup (l.map V.int))
inductive LsAt (H : Hp) : List V → Hm.Lots → Prop
  | nil : LsAt H [] []
  | cons {v : V} {vs : List V} {l : List Int} {ls : Hm.Lots} : LotAt H v l → LsAt H vs ls → LsAt H (v :: vs) (l :: ls)
theorem LotAt.sm {H H' : Hp} {v : V} {l : List Int} (h : LotAt H v l) (s : Same H H') : LotAt H' v l := by
  obtain ⟨a, rfl, h⟩ := h
  exact ⟨a, rfl, s _ _ h⟩
theorem LsAt.sm {H H' : Hp} (s : Same H H') : ∀ {vs : List V} {ls : Hm.Lots}, LsAt H vs ls → LsAt H' vs ls
  | _, _, .nil => .nil
  | _, _, .cons h t => .cons (h.sm s) (t.sm s)
theorem LsAt.len {H : Hp} : ∀ {vs : List V} {ls : Hm.Lots}, LsAt H vs ls → vs.length = ls.length
  | _, _, .nil => rfl
  | _, _, .cons _ t => congrArg Nat.succ t.len
theorem LsAt.get {H : Hp} : ∀ {vs : List V} {ls : Hm.Lots} {i : Nat} {v : V}, LsAt H vs ls → vs[i]? = some v → ∃ l, ls[i]? = some l ∧ LotAt H v l
  | _, _, _, _, .nil, e => by simp at e
  | _, _, 0, _, .cons h _, e => by
    simp at e
    subst e
    exact ⟨_, rfl, h⟩
  | _, _, i + 1, _, .cons _ t, e => by
    obtain ⟨l, a, b⟩ := LsAt.get (i := i) t (by simpa using e)
    exact ⟨l, by simpa using a, b⟩
theorem LsAt.snoc {H : Hp} {v : V} {l : List Int} (h : LotAt H v l) : ∀ {vs : List V} {ls : Hm.Lots}, LsAt H vs ls → LsAt H (vs ++ [v]) (ls ++ [l])
  | _, _, .nil => .cons h .nil
  | _, _, .cons a t => .cons a (t.snoc h)
theorem LotAt.off {H : Hp} {R : Addr} {o : HO} {v : V} {l : List Int} (h : ∀ l, H R ≠ some (.tup l)) (k : LotAt H v l) : LotAt (upd H R o) v l := by
  obtain ⟨a, rfl, e⟩ := k
  refine ⟨a, rfl, ?_⟩
  rw [upd_ne (fun z => h _ (z ▸ e))]
  exact e
theorem LsAt.off {H : Hp} {R : Addr} {o : HO} (h : ∀ l, H R ≠ some (.tup l)) : ∀ {vs : List V} {ls : Hm.Lots}, LsAt H vs ls → LsAt (upd H R o) vs ls
  | _, _, .nil => .nil
  | _, _, .cons a t => .cons (a.off h) (t.off h)
theorem no_tup {H : Hp} {R : Addr} {ys : List V} (h : H R = some (.lst ys)) : ∀ l, H R ≠ some (.tup l) := fun l z => by rw [h] at z; cases z
/-- few enough -/
structure Fit (ls : Hm.Lots) : Prop where
  many : ls.length ≤ 500
  each : ∀ l ∈ ls, l.length ≤ 500
theorem in_ints (x : Int) : ∀ l : List Int, inV (.int x) (l.map V.int) = decide (x ∈ l)
  | [] => rfl
  | a :: r => by
    show (eqV (.int a) (.int x) || inV (.int x) (r.map V.int)) = _
    rw [in_ints x r]
    show (decide (a = x) || _) = _
    by_cases h : a = x
    · subst h
      simp
    · have : ¬ x = a := fun z => h z.symm
      simp [h, this]
theorem flat_ints : ∀ l : List Int, (l.map V.int).all flatV = true
  | [] => rfl
  | _ :: r => by
    rw [List.map_cons, List.all_cons, flat_ints r]
    rfl
def retE : Stmt → Expr
  | .Return (some e) _ => e
  | _ => .Name "" ⟨0, 0, 0, 0⟩
def lcSc : Expr → Scope
  | .ListComp _ _ sc _ => sc
  | _ => defScope (.Pass ⟨0, 0, 0, 0⟩)
section
variable {P : Program} {w : World} {K : PySem.W.Frag} {mg : Str → Option Value} {base : Heap}
abbrev sWo : Stmt := topS 18
def nWo : List Str := ["lots", "gap", "lot"]
theorem scWo : FnScope nWo ["lots", "gap"] (defScope sWo) := ⟨rfl, rfl, rfl, by decide +kernel, rfl, by decide +kernel, by decide +kernel⟩
def spWo (f : Hm.Lots → Int → Hm.Lots) : Sp := fun vs H Q _ => ∃ (a : Addr) (xs : List V) (ls : Hm.Lots) (g : Int), vs = [.ref a, .int g] ∧ H a = some (.lst xs) ∧ LsAt H xs ls ∧ Fit ls ∧
  ∀ H' b ys, Same H H' → H b = none → H' b = some (.lst ys) → LsAt H' ys (f ls g) → Q (.ref b) H'
theorem ok_wo {f : Addr} {fd : FuncData} (F : Fun K "lots_without" "lots_without" sWo f fd) (N : Bl mg) : FnOk P w K mg base CX0 1 f fd ["lots", "gap"] (spWo Hm.woL) := by
  refine F.ok scWo (fun vs H Q E h => ?_) (fun cdv A outer s H vs Q E hr h => ?_)
  · obtain ⟨a, xs, ls, g, rfl, _⟩ := h
    rfl
  · obtain ⟨a, xs, ls, g, rfl, ha, hl, hf, q⟩ := h
    refine ⟨_, pss_one (ps_ret (pe_lc (own := [("lot", 2)]) (g := gName 2) rfl scWo.nd (pi_list (pv 0)) (blkOk_by (own := [("lot", 2)]) (N := nWo) (sc := defScope sWo) (by decide +kernel)) (fun _ _ _ _ _ => pg_name (i := 2) scWo.nd rfl (Or.inl rfl))
          (fun _ _ _ _ _ => pts_one (pt_cmpR (show OpR _ _ (rIn K true) from op_notIn_seq) (pv 1) (pv 2) (by rfl))) (fun _ _ _ _ _ => pv 2))), ?_⟩
    have hx := hl.len
    refine ⟨_, rfl, a, rfl, ⟨_, SqL.of ha⟩, fun R nR => lc_list (K := K) (a := a) (xs := xs) (fun i H' => Same H H' ∧ ∃ ys, H' R = some (.lst ys) ∧ LsAt H' ys (Hm.woL (ls.take i) g)) ⟨same_upd nR, [], upd_same, .nil⟩ (fun i H' _ h => SqL.of (h.1 _ _ ha)) ?_ ?_⟩
    · rintro i x H' hx ⟨s1, ys, hR, hy⟩
      obtain ⟨l, hli, b, rfl, hb⟩ := hl.get hx
      have hi : i < ls.length := (List.getElem?_eq_some_iff.mp hli).1
      refine ⟨rfl, _, rfl, _, rfl, b, _, rfl, .inr (SqT.of (s1 _ _ hb)), rfl, flat_ints l, _, rfl, ?_⟩
      have ht : ls.take (i + 1) = ls.take i ++ [l] := by
        rw [List.take_add_one, hli]
        rfl
      have hlen : ys.length ≤ 500 := by
        rw [hy.len]
        have h1 : (Hm.woL (ls.take i) g).length ≤ (ls.take i).length := List.length_filter_le _ _
        rw [List.length_take] at h1
        have := hf.many
        omega
      rw [in_ints]
      by_cases hg : g ∈ l
      · rw [decide_eq_true hg]
        refine iteF ⟨s1, ys, hR, ?_⟩
        have : Hm.woL (ls.take (i + 1)) g = Hm.woL (ls.take i) g := by
          rw [ht]
          unfold Hm.woL
          rw [List.filter_append]
          simp [hg]
        rw [this]
        exact hy
      · rw [decide_eq_false hg]
        refine iteT ⟨_, rfl, ys, hR, small1000 (by omega), same_put s1 nR, _, upd_same, ?_⟩
        have : Hm.woL (ls.take (i + 1)) g = Hm.woL (ls.take i) g ++ [l] := by
          rw [ht]
          unfold Hm.woL
          rw [List.filter_append]
          simp [hg]
        rw [this]
        exact LsAt.snoc (LotAt.off (no_tup hR) ⟨b, rfl, s1 _ _ hb⟩) (hy.off (no_tup hR))
    · rintro H1 ⟨s1, ys, hR, hy⟩
      rw [hx, List.take_length] at hy
      exact q H1 R ys s1 nR hR hy
end
end Lm
namespace Lm
open PySem PySem.Spec PyProof.Rows L2
theorem pi_listK {X : Cx} {tg l : Expr} {tl : TE} (K : PySem.W.Frag) (hl : PE X l tl) (hK : X.K = K := by rfl) : PI X tg l (iList K tl) := hK ▸ pi_list hl
theorem pi_tupK {X : Cx} {tg l : Expr} {tl : TE} (K : PySem.W.Frag) (hl : PE X l tl) (hK : X.K = K := by rfl) : PI X tg l (iTup K tl) := hK ▸ pi_tup hl
def rLen (K : PySem.W.Frag) : List V → Hp → VK → Prop := fun xs H Q => ∃ (p : Addr) (ys : List V), xs = [V.ref p] ∧ (SqL K H p ys ∨ SqT K H p ys) ∧ Q (.int ys.length) H
theorem call_lenK {X : Cx} (K : PySem.W.Frag) (hK : X.K = K := by rfl) : CallR X (.builtin "len") (rLen K) := hK ▸ call_len_seq
def rTupOf (K : PySem.W.Frag) : List V → Hp → VK → Prop := fun xs H Q => ∃ p ys, xs = [.ref p] ∧ ((SqL K H p ys ∧ ∀ l, H l = none → Q (.ref l) (upd H l (.tup ys))) ∨ (SqT K H p ys ∧ Q (.ref p) H))
theorem call_tupK {X : Cx} (K : PySem.W.Frag) (hK : X.K = K := by rfl) : CallR X (.type "tuple") (rTupOf K) := hK ▸ call_tuple_of
theorem filter_take_succ {α : Type} {p : α → Bool} {l : List α} {i : Nat} {x : α} (h : l[i]? = some x) : (l.take (i + 1)).filter p = (l.take i).filter p ++ (if p x = true then [x] else []) := by
  rw [List.take_add_one, h, List.filter_append]
  congr 1
  show [x].filter p = _
  rw [List.filter_cons, List.filter_nil]
section
variable {P : Program} {w : World} {K : PySem.W.Frag} {mg : Str → Option Value} {base : Heap}
abbrev sAbove : Stmt := topS 22
def nAb : List Str := ["lots", "gap", "lot", "other"]
theorem scAb : FnScope nAb ["lots", "gap"] (defScope sAbove) := ⟨rfl, rfl, rfl, by decide +kernel, rfl, by decide +kernel, by decide +kernel⟩
abbrev eAb : Expr := retE ((defBody sAbove).getD 0 (.Pass ⟨0, 0, 0, 0⟩))
theorem ok_above {f : Addr} {fd : FuncData} (F : Fun K "above" "above" sAbove f fd) (N : Bl mg) : FnOk P w K mg base CX0 1 f fd ["lots", "gap"] (spWo Hm.abvL) := by
  refine F.ok scAb (fun vs H Q E h => ?_) (fun cdv A outer s H vs Q E hr h => ?_)
  · obtain ⟨a, xs, ls, g, rfl, _⟩ := h
    rfl
  · obtain ⟨a, xs, ls, g, rfl, ha, hl, hf, q⟩ := h
    refine ⟨_, pss_one (ps_ret (pe_lc (own := [("lot", 2)]) (g := gName 2) (tt := tYes) rfl scAb.nd (pi_list (pv 0)) (blkOk_by (own := [("lot", 2)]) (N := nAb) (sc := defScope sAbove) (by decide +kernel)) (fun _ _ _ _ _ => pg_name (i := 2) scAb.nd rfl (Or.inl rfl))
          (fun _ _ _ _ _ => pts_nil) (fun _ _ _ _ _ => pe_callTy (call_tupK K) (by rfl) N.btup (by decide +kernel) (pa_cons
            (pe_lc (own := [("other", 3)]) (g := gName 3) rfl scAb.nd (pi_tupK K (pv 2)) (blkOk_by (by show blkC nAb ⟨.function, [(".0", .local), ("lot", .local), ("tuple", .globalImplicit), ("gap", .cell)], false, false, []⟩ _ [("other", 3)] = true; decide +kernel)) (fun _ _ _ _ _ => pg_name (i := 3) scAb.nd rfl (Or.inl rfl))
              (fun _ _ _ _ _ => pts_one (pt_cmpR op_gt (pv 3) (pv 1) (nomark _))) (fun _ _ _ _ _ => pv 3)) pa_nil)))), ?_⟩
    have hx := hl.len
    refine ⟨_, rfl, a, rfl, ⟨_, SqL.of ha⟩, fun R nR => lc_list (K := K) (a := a) (xs := xs) (fun i H' => Same H H' ∧ ∃ ys, H' R = some (.lst ys) ∧ LsAt H' ys (Hm.abvL (ls.take i) g)) ⟨same_upd nR, [], upd_same, .nil⟩ (fun i H' _ h => SqL.of (h.1 _ _ ha)) ?_ ?_⟩
    · rintro i x H' hx ⟨s1, ys, hR, hy⟩
      obtain ⟨l, hli, b, rfl, hb⟩ := hl.get hx
      have hi : i < ls.length := (List.getElem?_eq_some_iff.mp hli).1
      have hl5 := hf.each l (List.mem_of_getElem? hli)
      have hm5 := hf.many
      refine ⟨rfl, _, rfl, b, rfl, ⟨_, SqT.of (s1 _ _ hb)⟩, fun R2 nR2 => lc_tup (K := K) (a := b) (xs := l.map V.int) (fun j H2 => Same H' H2 ∧ H2 R2 = some (.lst (((l.take j).filter fun o => decide (g < o)).map V.int))) ⟨same_upd nR2, upd_same⟩ (fun j H2 _ h => SqT.of (h.1 _ _ (s1 _ _ hb))) ?_ ?_⟩
      · rintro j x H2 hxj ⟨s2, hR2⟩
        obtain ⟨z, hz, rfl⟩ := int_at hxj
        have hlen : ((l.take j).filter fun o => decide (g < o)).length ≤ 500 := Nat.le_trans (List.length_filter_le _ _) (by rw [List.length_take]; omega)
        have st := filter_take_succ (p := fun o => decide (g < o)) hz
        refine ⟨rfl, _, rfl, _, rfl, _, _, rfl, rfl, _, rfl, ?_⟩
        by_cases hg : g < z
        · rw [decide_eq_true hg]
          refine iteT ⟨_, rfl, _, hR2, small1000 (by rw [List.length_map]; omega), same_put s2 nR2, ?_⟩
          rw [if_pos (decide_eq_true hg)] at st
          rw [st, List.map_append]
          exact upd_same
        · rw [decide_eq_false hg]
          refine iteF ⟨s2, ?_⟩
          rw [if_neg (by simpa using hg), List.append_nil] at st
          rw [st]
          exact hR2
      · rintro H2 ⟨s2, hR2⟩
        rw [List.length_map, List.take_length] at hR2
        refine ⟨R2, _, rfl, .inl ⟨SqL.of hR2, fun T nT => ?_⟩⟩
        have s3 : Same H' (upd H2 T (.tup ((l.filter fun o => decide (g < o)).map V.int))) := same_put s2 (none_of s2 nT)
        have hRn : H R = none := nR
        have hR3 : (upd H2 T (.tup ((l.filter fun o => decide (g < o)).map V.int))) R = some (.lst ys) := s3 _ _ hR
        have hlen : ys.length ≤ 500 := by
          rw [hy.len]
          unfold Hm.abvL
          rw [List.length_map, List.length_take]
          omega
        refine ⟨ys, hR3, small1000 (by omega), same_put (fun b o e => s3 b o (s1 b o e)) nR, _, upd_same, ?_⟩
        have : Hm.abvL (ls.take (i + 1)) g = Hm.abvL (ls.take i) g ++ [l.filter fun o => decide (g < o)] := by
          rw [List.take_add_one, hli]
          unfold Hm.abvL
          rw [List.map_append]
          rfl
        rw [this]
        exact LsAt.snoc (LotAt.off (no_tup hR3) ⟨T, rfl, upd_same⟩) ((hy.sm s3).off (no_tup hR3))
    · rintro H1 ⟨s1, ys, hR, hy⟩
      rw [hx, List.take_length] at hy
      exact q H1 R ys s1 nR hR hy
end
end Lm
namespace Lm
open PySem PySem.Spec PyProof.Rows L2
theorem put_some (kvs : List (Key × V)) (k j : Key) (y : V) : (valV (putK kvs k y) j).isSome = (decide (j = k) || (valV kvs j).isSome) := by
  rw [valV_put]
  by_cases h : j = k
  · simp [h]
  · simp [h]
theorem merge_some (j : Key) : ∀ (more kvs : List (Key × V)), (valV (mergeK kvs more) j).isSome = ((valV kvs j).isSome || (valV more j).isSome)
  | [], kvs => by
    show (valV kvs j).isSome = _
    rw [valV_nil]
    simp
  | p :: r, kvs => by
    show (valV (mergeK (putK kvs p.1 p.2) r) j).isSome = _
    rw [merge_some j r, put_some]
    by_cases h : p.1 = j
    · rw [valV_pos h]
      simp [h.symm]
    · rw [valV_neg h]
      have : ¬ j = p.1 := fun z => h z.symm
      simp [this]
theorem none_keys (g : Int) : (valV ([] : List (Key × V)) (.inl g)).isSome = true ↔ ∃ c ∈ ([] : Hm.Lots), g ∈ c := by
  constructor
  · intro z
    cases z
  · rintro ⟨c, z, _⟩
    cases z
theorem none_keys2 (g : Int) : (valV ([] : List (Key × V)) (.inl g)).isSome = true ↔ g ∈ ([] : List Int) := by
  constructor
  · intro z
    cases z
  · intro z
    cases z
section
variable {P : Program} {w : World} {K : PySem.W.Frag} {mg : Str → Option Value} {base : Heap}
abbrev sApart : Stmt := topS 19
def nApart : List Str := ["lots", "taken", "count", "lot", "gap"]
theorem scApart : FnScope nApart ["lots"] (defScope sApart) := ⟨rfl, rfl, rfl, by decide +kernel, rfl, by decide +kernel, by decide +kernel⟩
/-- so many lots, no two of which share a gap -/
def Apart (ls cs : Hm.Lots) : Prop := (∀ c ∈ cs, c ∈ ls) ∧ cs.Pairwise fun a b => ∀ g ∈ a, g ∉ b
def spApart : Sp := fun vs H Q _ => ∃ (a : Addr) (xs : List V) (ls : Hm.Lots), vs = [.ref a] ∧ H a = some (.lst xs) ∧ LsAt H xs ls ∧ Fit ls ∧ ∀ H' cs, Same H H' → Apart ls cs → (ls ≠ [] → cs ≠ []) → Q (.int (cs.length : Nat)) H'
theorem ok_apart {f : Addr} {fd : FuncData} (F : Fun K "fewest_apart" "fewest_apart" sApart f fd) (N : Bl mg) : FnOk P w K mg base CX0 1 f fd ["lots"] spApart := by
  refine F.ok scApart (fun vs H Q E h => ?_) (fun cdv A outer s H vs Q E hr h => ?_)
  · obtain ⟨a, xs, ls, rfl, _⟩ := h
    rfl
  · obtain ⟨a, xs, ls, rfl, ha, hl, hf, q⟩ := h
    have hu := hu_of hr
    refine ⟨_, pss_cons (ps_set (i := 1) scApart.nd rfl (.inr rfl) pe_dnewK) (pss_cons (ps_set (i := 2) scApart.nd rfl (.inl rfl) pe_int)
      (pss_cons (ps_for PassesOwn.never rfl (pi_list (pv 0)) (pg_name (i := 3) scApart.nd rfl (Or.inl rfl))
        (pss_one (ps_if (pt_not (pt_val (pe_callB (cr_any rfl) (by rfl) N.bany (by decide +kernel) (pa_cons (pe_lc (own := [("gap", 4)]) (g := gName 4) (tt := tYes) rfl scApart.nd (pi_tup (pv 3)) (blkOk_by (own := [("gap", 4)]) (N := nApart) (sc := defScope sApart) (by decide +kernel)) (fun _ _ _ _ _ => pg_name (i := 4) scApart.nd rfl (Or.inl rfl))
          (fun _ _ _ _ _ => pts_nil) (fun _ _ _ _ _ => pe_cmp (pc_din hu (pv 4) (pv 1)))) pa_nil))))
          (pss_cons (ps_expr (pe_dupd (pv 1) (pe_dc (own := [("gap", 4)]) (g := gName 4) (tt := tYes) rfl scApart.nd (pi_tup (pv 3)) (blkOk_by (own := [("gap", 4)]) (N := nApart) (sc := defScope sApart) (by decide +kernel)) (fun _ _ _ _ _ => pg_name (i := 4) scApart.nd rfl (Or.inl rfl))
            (fun _ _ _ _ _ => pts_nil) (fun _ _ _ _ _ => pv 4) (fun _ _ _ _ _ => pe_bl)) ⟨rfl, rfl, rfl, rfl⟩))
            (pss_one (ps_set (i := 2) scApart.nd rfl (.inl rfl) (pe_op op_add (pv 2) pe_int)))) pss_nil)))
      (pss_one (ps_ret (pv 2))))), ?_⟩
    intro d hd
    have hd0 : H d = none := hd
    refine ⟨_, rfl, a, rfl, ⟨_, SqL.of (same_upd hd0 _ _ ha)⟩, for_list (xs := xs) (fun i σ H' => Same H H' ∧ ∃ (kvs : List (Key × V)) (cs : Hm.Lots) (x3 x4 : Option V), σ = [some (.ref a), some (.ref d), some (.int (cs.length : Nat)), x3, x4] ∧ H' d = some (.dK kvs) ∧ kvs.length ≤ 500 * i ∧ Apart ls cs ∧ (0 < i → cs ≠ []) ∧
      ∀ g : Int, (valV kvs (.inl g)).isSome = true ↔ ∃ c ∈ cs, g ∈ c) ⟨same_upd hd0, [], [], none, none, rfl, upd_same, Nat.zero_le _, ⟨fun _ z => (nomatch z), .nil⟩, (fun z => absurd z (Nat.lt_irrefl 0)), none_keys⟩ (fun i σ H' _ h => SqL.of (h.1 _ _ ha)) ?_ ?_⟩
    · rintro i x σ H' hxi ⟨s1, kvs, cs, x3, x4, rfl, hk, hkl, hap, hne, hkeys⟩
      obtain ⟨l, hli, b, rfl, hb⟩ := hl.get hxi
      have hi : i < ls.length := (List.getElem?_eq_some_iff.mp hli).1
      have hl5 := hf.each l (List.mem_of_getElem? hli)
      have hm5 := hf.many
      have hb1 := s1 _ _ hb
      refine ⟨_, rfl, b, rfl, ⟨_, SqT.of hb1⟩, fun R nR => lc_tup (K := K) (a := b) (xs := l.map V.int) (fun j H2 => Same H' H2 ∧ H2 R = some (.lst (((l.take j).map fun g => (valV kvs (.inl g)).isSome).map V.bl))) ⟨same_upd nR, upd_same⟩ (fun j H2 _ h => SqT.of (h.1 _ _ hb1)) ?_ ?_⟩
      · rintro j x H2 hxj ⟨s2, hR⟩
        obtain ⟨z, hz, rfl⟩ := int_at hxj
        refine ⟨rfl, _, rfl, _, rfl, d, _, rfl, DGet.k (k := .inl z) (s2 _ _ hk), _, hR, ?_, same_put s2 nR, ?_⟩
        · rw [List.length_map, List.length_map, List.length_take]
          exact small1000 (by omega)
        · rw [List.take_add_one, hz, List.map_append, List.map_append]
          exact upd_same
      · rintro H2 ⟨s2, hR⟩
        rw [List.length_map, List.take_length] at hR
        refine ⟨R, _, rfl, SqL.of hR, _, rfl, ?_⟩
        have e : (l.map fun g => (valV kvs (.inl g)).isSome).any id = true ↔ ∃ g ∈ l, ∃ c ∈ cs, g ∈ c := by
          rw [List.any_map, List.any_eq_true]
          constructor
          · rintro ⟨g, hg, h⟩
            exact ⟨g, hg, (hkeys g).mp h⟩
          · rintro ⟨g, hg, h⟩
            exact ⟨g, hg, (hkeys g).mpr h⟩
        have s12 : Same H H2 := fun b o e => s2 b o (s1 b o e)
        cases hany : (l.map fun g => (valV kvs (.inl g)).isSome).any id with
        | true =>
          obtain ⟨g0, _, c0, hc0, _⟩ := e.mp hany
          exact iteF ⟨s12, kvs, cs, _, _, rfl, s2 _ _ hk, by omega, hap, fun _ => List.ne_nil_of_mem hc0, hkeys⟩
        | false =>
          have hno : ∀ g ∈ l, ∀ c ∈ cs, g ∉ c := fun g hg c hc hgc => by
            rw [e.mpr ⟨g, hg, c, hc, hgc⟩] at hany
            cases hany
          refine iteT ⟨_, rfl, d, rfl, .inl ⟨_, .inl (s2 _ _ hk)⟩, _, rfl, b, rfl, ⟨_, SqT.of (s2 _ _ hb1)⟩, fun R2 nR2 => dc_tup (K := K) (a := b) (xs := l.map V.int) (fun j H3 => Same H2 H3 ∧ ∃ kv2, H3 R2 = some (.dK kv2) ∧ kv2.length ≤ j ∧ ∀ g : Int, (valV kv2 (.inl g)).isSome = true ↔ g ∈ l.take j)
            ⟨same_upd nR2, [], upd_same, Nat.le_refl _, none_keys2⟩ (fun j H3 _ h => SqT.of (h.1 _ _ (s2 _ _ hb1))) ?_ ?_⟩
          · rintro j x H3 hxj ⟨s3, kv2, h2, hlen2, hk2⟩
            obtain ⟨z, hz, rfl⟩ := int_at hxj
            have hj : j < l.length := (List.getElem?_eq_some_iff.mp hz).1
            refine ⟨rfl, _, rfl, kv2, .inl z, rfl, h2, small1000 (by omega), same_put s3 nR2, _, upd_same, ?_, fun g => ?_⟩
            · have := length_putK kv2 (.inl z) (.bl true)
              omega
            · rw [put_some, Bool.or_eq_true, hk2, List.take_add_one, hz, List.mem_append, decide_eq_true_iff]
              show (Sum.inl g = Sum.inl z) ∨ _ ↔ _ ∨ g ∈ [z]
              rw [List.mem_singleton, Sum.inl.injEq]
              exact Or.comm
          · rintro H3 ⟨s3, kv2, h2, hlen2, hk2⟩
            rw [List.length_map] at hlen2
            rw [List.length_map, List.take_length] at hk2
            have s13 : Same H H3 := fun b o e => s3 b o (s12 b o e)
            have hd3 := s3 _ _ (s2 _ _ hk)
            have hdR : d ≠ R2 := ne_of_none (s2 _ _ hk) nR2
            refine ⟨kvs, kv2, R2, hd3, rfl, h2, hdR, ?_, ?_⟩
            · exact Nat.le_trans (show kvs.length + kv2.length ≤ 500 * 500 + 500 by omega) (by unfold sizeLine; decide)
            · refine ⟨_, rfl, _, _, rfl, rfl, same_put s13 hd0, mergeK kvs kv2, cs ++ [l], some (.ref b), x4, ?_, upd_same, ?_, ?_, fun _ => by simp, fun g => ?_⟩
              · show [some (V.ref a), some (V.ref d), some (V.int ((cs.length : Nat) + 1)), some (V.ref b), x4] = _
                rw [List.length_append]
                rfl
              · have := length_mergeK kv2 kvs
                omega
              · refine ⟨fun c hc => ?_, List.pairwise_append.mpr ⟨hap.2, List.pairwise_singleton _ _, fun c hc c' hc' g hg => ?_⟩⟩
                · rcases List.mem_append.mp hc with hc | hc
                  · exact hap.1 c hc
                  · rw [List.mem_singleton.mp hc]
                    exact List.mem_of_getElem? hli
                · rw [List.mem_singleton.mp hc']
                  exact fun hgl => hno g hgl c hc hg
              · rw [merge_some, Bool.or_eq_true, hkeys, hk2]
                constructor
                · rintro (⟨c, hc, hg⟩ | hg)
                  · exact ⟨c, List.mem_append_left _ hc, hg⟩
                  · exact ⟨l, List.mem_append_right _ (List.mem_singleton.mpr rfl), hg⟩
                · rintro ⟨c, hc, hg⟩
                  rcases List.mem_append.mp hc with hc | hc
                  · exact .inl ⟨c, hc, hg⟩
                  · rw [List.mem_singleton.mp hc] at hg
                    exact .inr hg
    · rintro σ H' ⟨s1, kvs, cs, x3, x4, rfl, hk, hkl, hap, hne, hkeys⟩
      refine ⟨_, rfl, q H' cs s1 hap fun h0 => hne ?_⟩
      rw [hl.len]
      exact List.length_pos_iff.mpr h0
end
end Lm
namespace Lm
open PySem PySem.Spec PyProof.Rows L2
theorem LsAt.mem {H : Hp} : ∀ {vs : List V} {ls : Hm.Lots} {i : Nat} {v : V}, LsAt H vs ls → vs[i]? = some v → ∃ l, l ∈ ls ∧ ls[i]? = some l ∧ LotAt H v l := fun h e => by
  obtain ⟨l, a, b⟩ := h.get e
  exact ⟨l, List.mem_of_getElem? a, a, b⟩
theorem cut_len {ls : Hm.Lots} {g : Int} : (Hm.cutL ls g).length = ls.length := List.length_map ..
theorem fit_cut {ls : Hm.Lots} {g : Int} (h : Fit ls) : Fit (Hm.cutL ls g) := by
  refine ⟨by rw [cut_len]; exact h.many, fun l hl => ?_⟩
  obtain ⟨l', hl', rfl⟩ := List.mem_map.mp hl
  exact Nat.le_trans (List.length_filter_le _ _) (h.each l' hl')
theorem fit_wo {ls : Hm.Lots} {g : Int} (h : Fit ls) : Fit (Hm.woL ls g) :=
  ⟨Nat.le_trans (List.length_filter_le _ _) h.many, fun l hl => h.each l (Hm.mem_wo.mp hl).1⟩
theorem fit_abv {ls : Hm.Lots} {g : Int} (h : Fit ls) : Fit (Hm.abvL ls g) := by
  refine ⟨by unfold Hm.abvL; rw [List.length_map]; exact h.many, fun l hl => ?_⟩
  obtain ⟨l', hl', rfl⟩ := List.mem_map.mp hl
  exact Nat.le_trans (List.length_filter_le _ _) (h.each l' hl')
theorem fit_cuts {gs : List Int} : ∀ {ls : Hm.Lots}, Fit ls → Fit (Hm.cutsL ls gs) := by
  induction gs with
  | nil => intro ls h; exact h
  | cons g r ih => intro ls h; exact ih (fit_cut h)
theorem lens_of {K : PySem.W.Frag} {H : Hp} {xs : List V} {ls : Hm.Lots} (h : LsAt H xs ls) : ∃ L : Nat → Nat, ∀ (i : Nat) (v : V), xs[i]? = some v → ∃ (b : Addr) (ys : List V), v = .ref b ∧ SqT K H b ys ∧ ys.length = L i := by
  refine ⟨fun i => (ls.getD i []).length, fun i v hv => ?_⟩
  obtain ⟨l, hl, b, rfl, hb⟩ := h.get hv
  refine ⟨b, _, rfl, SqT.of hb, ?_⟩
  rw [List.length_map]
  show l.length = (ls.getD i []).length
  rw [List.getD_eq_getElem?_getD, hl]
  rfl
section
variable {P : Program} {w : World} {K : PySem.W.Frag} {mg : Str → Option Value} {base : Heap}
abbrev sCan : Stmt := topS 20
def nCan : List Str := ["lots", "number", "shortest", "gap", "lot", "other"]
theorem scCan : FnScope nCan ["lots", "number"] (defScope sCan) := ⟨rfl, rfl, rfl, by decide +kernel, rfl, by decide +kernel, by decide +kernel⟩
def spCan (n : Nat) : Sp := fun vs H Q _ => ∃ (a : Addr) (xs : List V) (ls : Hm.Lots) (m : Nat), vs = [.ref a, .int (m : Nat)] ∧ m ≤ n ∧ H a = some (.lst xs) ∧ LsAt H xs ls ∧ Fit ls ∧ ∀ H' b, Same H H' → (b = true ↔ Hm.Can ls m) → Q (.bl b) H'
def spCanBelow : Nat → Sp
  | 0 => fun _ _ _ _ => False
  | n + 1 => spCan n
theorem ok_can_no {f : Addr} {fd : FuncData} (F : Fun K "can_hit" "can_hit" sCan f fd) (j : Nat) : FnOk P w K mg base CX0 (j + 1) f fd ["lots", "number"] (spCanBelow 0) :=
  F.ok scCan (fun vs H Q E h => h.elim) (fun cdv A outer s H vs Q E hr h => h.elim)
def rTupCut (K : PySem.W.Frag) : Prop := True
theorem ok_can {f : Addr} {fd : FuncData} (F : Fun K "can_hit" "can_hit" sCan f fd) (N : Bl mg) (n : Nat) (GW : Has P w K mg base CX0 1 "lots_without" ["lots", "gap"] (spWo Hm.woL)) (GA : Has P w K mg base CX0 1 "fewest_apart" ["lots"] spApart)
    (GC : Has P w K mg base CX0 (n + 2) "can_hit" ["lots", "number"] (spCanBelow n)) : FnOk P w K mg base CX0 (n + 3) f fd ["lots", "number"] (spCan n) := by
  refine F.ok scCan (fun vs H Q E h => ?_) (fun cdv A outer s H vs Q E hr h => ?_)
  · obtain ⟨a, xs, ls, m, rfl, _⟩ := h
    rfl
  · obtain ⟨a, xs, ls, m, rfl, hmn, ha, hl, hf, q⟩ := h
    refine ⟨_, pss_cons (ps_if (pt_not (pt_truth (pv 0) (fun _ => rfl))) (pss_one (ps_ret pe_bl)) pss_nil)
      (pss_cons (ps_set (i := 2) scCan.nd rfl (.inl rfl) (pe_minLen rfl (by rfl) N.bmin (by decide +kernel) (by rfl) N.blen (pv 0)))
      (pss_cons (ps_if (pw_or (pt_not (pt_truth (pv 2) (fun _ => rfl))) (pw_or1 (pt_cmpR op_gt (pe_h GA hr (by omega) (by rfl) pass0 (pa_cons (pv 0) pa_nil)) (pv 1) (nomark _)))).pt (pss_one (ps_ret pe_bl)) pss_nil)
      (pss_cons (ps_for PassesOwn.never rfl (pi_tup (pv 2)) (pg_name (i := 3) scCan.nd rfl (.inr rfl))
        (pss_cons (ps_if (pt_val (pe_h GC hr (by omega) (by rfl) pass0 (pa_cons (pe_h GW hr (by omega) (by rfl) pass0 (pa_cons (pv 0) (pa_cons (pv 3) pa_nil))) (pa_cons (pe_op op_sub (pv 1) pe_int) pa_nil)))) (pss_one (ps_ret pe_bl)) pss_nil)
        (pss_one (ps_setLc (i := 0) (own := [("lot", 4)]) (g := gName 4) (tt := tYes) (by rfl) scCan.nd rfl rfl (sw_true rfl rfl rfl (by decide +kernel)) (pi_list (pv 0))
          (blkOk_by (own := [("lot", 4)]) (N := nCan) (sc := defScope sCan) (by decide +kernel)) (fun _ _ _ _ _ => pg_name (i := 4) scCan.nd rfl (Or.inl rfl))
          (fun _ _ _ _ _ => pts_nil) (fun _ _ _ _ _ => pe_callTy (call_tupK K) (by rfl) N.btup (by decide +kernel) (pa_cons
            (pe_lc (own := [("other", 5)]) (g := gName 5) rfl scCan.nd (pi_tupK K (pv 4)) (blkOk_by (by show blkC nCan ⟨.function, [(".0", .local), ("lot", .local), ("tuple", .globalImplicit), ("gap", .cell)], false, false, []⟩ _ [("other", 5)] = true; decide +kernel)) (fun _ _ _ _ _ => pg_name (i := 5) scCan.nd rfl (Or.inl rfl))
              (fun _ _ _ _ _ => pts_one (pt_cmpR op_ne (pv 5) (pv 3) (nomark _))) (fun _ _ _ _ _ => pv 5)) pa_nil))))))
      (pss_one (ps_ret pe_bl))))), ?_⟩
    have hx := hl.len
    refine ⟨.ref a, rfl, !xs.isEmpty, .inl ⟨xs, SqL.of ha, rfl⟩, ?_⟩
    cases xs with
    | nil =>
      have e0 : ls = [] := List.length_eq_zero_iff.mp hx.symm
      subst e0
      exact iteT (q H true (fun _ _ z => z) ⟨fun _ => Hm.can_nil m, fun _ => rfl⟩)
    | cons x0 xr =>
      refine iteF ?_
      obtain ⟨L, hL⟩ := lens_of (K := K) hl
      refine ⟨.ref a, rfl, a, _, L, rfl, SqL.of ha, Nat.succ_pos _, hL, fun i v hv => ?_⟩
      obtain ⟨l, hlm, hli, b, rfl, hb⟩ := hl.mem hv
      have hne : ls ≠ [] := List.ne_nil_of_mem hlm
      have no : ∀ {H'}, Same H H' → ¬ Hm.Can ls m → Q (.bl false) H' := fun s n => q _ false s ⟨fun z => absurd z (by decide), fun z => absurd z n⟩
      cases hl0 : l with
      | nil =>
        subst hl0
        exact ⟨.ref b, rfl, false, .inr (.inl ⟨_, SqT.of hb, rfl⟩), iteT (iteT (no (fun _ _ z => z) (Hm.can_empty hlm)))⟩
      | cons g0 gr =>
        refine ⟨.ref b, rfl, true, .inr (.inl ⟨_, SqT.of hb, by rw [hl0]; rfl⟩), ?_⟩
        refine iteF ⟨_, rfl, a, _, ls, rfl, ha, hl, hf, fun H1 cs s1 hap hcs => ?_⟩
        have hcn := hcs hne
        refine ⟨_, rfl, _, _, rfl, rfl, _, rfl, ?_⟩
        by_cases hgt : (m : Int) < ((cs.length : Nat) : Int)
        · rw [decide_eq_true hgt]
          refine iteT (no s1 fun z => ?_)
          have := Hm.apart_can hap.1 hap.2 z
          omega
        · rw [decide_eq_false hgt]
          refine iteF ?_
          obtain ⟨m', rfl⟩ : ∃ m', m = m' + 1 := by
            have : 0 < cs.length := List.length_pos_iff.mpr hcn
            exact ⟨m - 1, by omega⟩
          obtain ⟨n', rfl⟩ : ∃ n', n = n' + 1 := ⟨n - 1, by omega⟩
          refine ⟨_, rfl, b, rfl, ⟨_, SqT.of (s1 _ _ hb)⟩, for_tup (K := K) (a := b) (xs := l.map V.int) (fun i σ H' => Same H H' ∧ (Hm.Can ls (m' + 1) → Hm.Can (Hm.cutsL ls (l.take i)) (m' + 1)) ∧
            ∃ a' ys x3 x4 x5, σ = [some (.ref a'), some (.int ((m' + 1 : Nat) : Int)), some (.ref b), x3, x4, x5] ∧ H' a' = some (.lst ys) ∧ LsAt H' ys (Hm.cutsL ls (l.take i))) ⟨s1, id, a, _, none, none, none, rfl, s1 _ _ ha, hl.sm s1⟩ (fun i σ H' _ h => SqT.of (h.1 _ _ hb)) ?_ ?_⟩
          · rintro i x σ H' hxi ⟨s2, hc, a', ys, x3, x4, x5, rfl, ha', hy⟩
            obtain ⟨g, hg, rfl⟩ := int_at hxi
            have fit := fit_cuts (gs := l.take i) hf
            refine ⟨_, rfl, _, rfl, a', ys, _, g, rfl, ha', hy, fit, fun H3 c zs s3 nc hc3 hz => ?_⟩
            refine ⟨_, rfl, _, _, rfl, rfl, c, zs, _, m', ?_, by omega, hc3, hz, fit_wo fit, fun H4 r s4 hr4 => ?_⟩
            · show [V.ref c, V.int (((m' + 1 : Nat) : Int) - 1)] = _
              rw [show ((m' + 1 : Nat) : Int) - 1 = (m' : Int) by omega]
            · have t4 : Same H H4 := fun b o e => s4 b o (s3 b o (s2 b o e))
              refine ⟨r, rfl, ?_⟩
              cases r with
              | true => exact iteT (q H4 true t4 ⟨fun _ => Hm.cuts_can (Hm.can_take (hr4.mp rfl)), fun _ => rfl⟩)
              | false =>
                have nwo : ¬ Hm.Can (Hm.woL (Hm.cutsL ls (l.take i)) g) m' := fun z => absurd (hr4.mpr z) (by decide)
                have ha4 := s4 _ _ (s3 _ _ ha')
                have hy4 := (hy.sm s3).sm s4
                have htk : l.take (i + 1) = l.take i ++ [g] := by rw [List.take_add_one, hg]; rfl
                refine iteF ⟨_, rfl, a', rfl, ⟨_, SqL.of ha4⟩, fun R nR => lc_list (K := K) (a := a') (xs := ys) (fun j H5 => Same H4 H5 ∧ ∃ us, H5 R = some (.lst us) ∧ LsAt H5 us (Hm.cutL ((Hm.cutsL ls (l.take i)).take j) g)) ⟨same_upd nR, [], upd_same, .nil⟩ (fun j H5 _ h => SqL.of (h.1 _ _ ha4)) ?_ ?_⟩
                · rintro j x H5 hxj ⟨s5, us, hR, hu⟩
                  obtain ⟨l', hl'm, hl'i, b', rfl, hb'⟩ := hy4.mem hxj
                  have hj : j < (Hm.cutsL ls (l.take i)).length := (List.getElem?_eq_some_iff.mp hl'i).1
                  have hl5 := fit.each l' hl'm
                  have hm5 := fit.many
                  refine ⟨rfl, _, rfl, b', rfl, ⟨_, SqT.of (s5 _ _ hb')⟩, fun R2 nR2 => lc_tup (K := K) (a := b') (xs := l'.map V.int) (fun k H6 => Same H5 H6 ∧ H6 R2 = some (.lst (((l'.take k).filter fun o => decide (o ≠ g)).map V.int))) ⟨same_upd nR2, upd_same⟩ (fun k H6 _ h => SqT.of (h.1 _ _ (s5 _ _ hb'))) ?_ ?_⟩
                  · rintro k x H6 hxk ⟨s6, hR2⟩
                    obtain ⟨z, hz, rfl⟩ := int_at hxk
                    have hlen : ((l'.take k).filter fun o => decide (o ≠ g)).length ≤ 500 := Nat.le_trans (List.length_filter_le _ _) (by rw [List.length_take]; omega)
                    have st := filter_take_succ (p := fun o => decide (o ≠ g)) hz
                    refine ⟨rfl, _, rfl, _, rfl, rfl, _, rfl, ?_⟩
                    by_cases hg : z = g
                    · subst hg
                      rw [decide_eq_true (show V.int z = V.int z from rfl)]
                      refine iteF ⟨s6, ?_⟩
                      rw [if_neg (by simp), List.append_nil] at st
                      rw [st]
                      exact hR2
                    · rw [decide_eq_false (show ¬ V.int z = V.int g from fun e => hg (V.int.inj e))]
                      refine iteT ⟨_, rfl, _, hR2, small1000 (by rw [List.length_map]; omega), same_put s6 nR2, ?_⟩
                      rw [if_pos (decide_eq_true hg)] at st
                      rw [st, List.map_append]
                      exact upd_same
                  · rintro H6 ⟨s6, hR2⟩
                    rw [List.length_map, List.take_length] at hR2
                    refine ⟨R2, _, rfl, .inl ⟨SqL.of hR2, fun T nT => ?_⟩⟩
                    have s7 : Same H5 (upd H6 T (.tup ((l'.filter fun o => decide (o ≠ g)).map V.int))) := same_put s6 (none_of s6 nT)
                    have hR3 : (upd H6 T (.tup ((l'.filter fun o => decide (o ≠ g)).map V.int))) R = some (.lst us) := s7 _ _ hR
                    have hlen : us.length ≤ 500 := by
                      rw [hu.len, cut_len, List.length_take]
                      omega
                    refine ⟨us, hR3, small1000 (by omega), same_put (fun b o e => s7 b o (s5 b o e)) nR, _, upd_same, ?_⟩
                    have : Hm.cutL ((Hm.cutsL ls (l.take i)).take (j + 1)) g = Hm.cutL ((Hm.cutsL ls (l.take i)).take j) g ++ [l'.filter fun o => decide (o ≠ g)] := by
                      rw [List.take_add_one, hl'i]
                      unfold Hm.cutL
                      rw [List.map_append]
                      rfl
                    rw [this]
                    exact LsAt.snoc (LotAt.off (no_tup hR3) ⟨T, rfl, upd_same⟩) ((hu.sm s7).off (no_tup hR3))
                · rintro H5 ⟨s5, us, hR, hu⟩
                  rw [hy4.len, List.take_length, ← Hm.cutsL_snoc, ← htk] at hu
                  refine ⟨fun b o e => s5 b o (t4 b o e), fun hcan => ?_, R, us, _, _, _, rfl, hR, hu⟩
                  rw [htk, Hm.cutsL_snoc]
                  exact (Hm.can_split (hc hcan)).resolve_left nwo
          · rintro σ H' ⟨s2, hc, a', ys, x3, x4, x5, rfl, ha', hy⟩
            refine no s2 fun z => ?_
            have := hc z
            rw [List.length_map, List.take_length] at this
            exact Hm.cuts_all hlm this
end
end Lm
namespace Lm
open PySem PySem.Spec PyProof.Rows L2
/-- lots of gaps below many -/
def LotsOk (many : Int) (ls : Hm.Lots) : Prop := ∀ l ∈ ls, ∀ x ∈ l, 0 ≤ x ∧ x < many
section
variable {P : Program} {w : World} {K : PySem.W.Frag} {mg : Str → Option Value} {base : Heap}
abbrev sFew : Stmt := topS 21
def nFew : List Str := ["many", "lots", "number"]
theorem scFew : FnScope nFew ["many", "lots"] (defScope sFew) := ⟨rfl, rfl, rfl, by decide +kernel, rfl, by decide +kernel, by decide +kernel⟩
def spFew : Sp := fun vs H Q _ => ∃ (a : Addr) (xs : List V) (ls : Hm.Lots) (many : Nat), vs = [.int (many : Nat), .ref a] ∧ many ≤ 16 ∧ H a = some (.lst xs) ∧ LsAt H xs ls ∧ Fit ls ∧ LotsOk many ls ∧
  ∀ H' v, Same H H' → ((v = .non ∧ [] ∈ ls) ∨ ∃ n : Nat, v = .int (n : Nat) ∧ n ≤ many ∧ Hm.Can ls n ∧ ∀ m, m < n → ¬ Hm.Can ls m) → Q v H'
theorem ok_few {f : Addr} {fd : FuncData} (F : Fun K "fewest_hits" "fewest_hits" sFew f fd) (N : Bl mg) (GC : Has P w K mg base CX0 19 "can_hit" ["lots", "number"] (spCan 16)) : FnOk P w K mg base CX0 20 f fd ["many", "lots"] spFew := by
  refine F.ok scFew (fun vs H Q E h => ?_) (fun cdv A outer s H vs Q E hr h => ?_)
  · obtain ⟨a, xs, ls, many, rfl, _⟩ := h
    rfl
  · obtain ⟨a, xs, ls, many, rfl, hm, ha, hl, hf, hk, q⟩ := h
    refine ⟨_, pss_cons (ps_for PassesOwn.never rfl (pi_range1 (by rfl) N.brng (pa_cons (pe_op op_add (pv 0) pe_int) pa_nil)) (pg_name (i := 2) scFew.nd rfl (.inl rfl))
        (pss_one (ps_if (pt_val (pe_h GC hr (by decide) (by rfl) pass0 (pa_cons (pv 1) (pa_cons (pv 2) pa_nil)))) (pss_one (ps_ret (pv 2))) pss_nil)))
      (pss_one (ps_ret pe_non)), ?_⟩
    refine ⟨_, rfl, _, _, rfl, rfl, _, rfl, by omega, by omega, for_range (fun i σ H' => Same H H' ∧ (∀ m, m < i → ¬ Hm.Can ls m) ∧ ∃ x2, σ = [some (.int (many : Nat)), some (.ref a), x2]) ⟨(fun _ _ z => z), (fun m z => absurd z (Nat.not_lt_zero m)), none, rfl⟩ ?_ ?_⟩
    · rintro i σ H' hi ⟨s1, hno, x2, rfl⟩
      refine ⟨_, rfl, _, rfl, a, xs, ls, i, ?_, by omega, s1 _ _ ha, hl.sm s1, hf, fun H2 b s2 hb => ⟨b, rfl, ?_⟩⟩
      · show [V.ref a, V.int (0 + (i : Int))] = _
        rw [Int.zero_add]
      · have t2 : Same H H2 := fun b o e => s2 b o (s1 b o e)
        cases b with
        | true =>
          refine iteT ⟨_, rfl, q H2 _ t2 (.inr ⟨i, ?_, by omega, hb.mp rfl, hno⟩)⟩
          rw [Int.zero_add]
        | false =>
          refine iteF ⟨t2, fun m hm' => ?_, _, rfl⟩
          rcases Nat.lt_succ_iff_lt_or_eq.mp hm' with z | rfl
          · exact hno m z
          · exact fun z => absurd (hb.mpr z) (by decide)
    · rintro σ H' ⟨s1, hno, x2, rfl⟩
      refine q H' _ s1 (.inl ⟨rfl, ?_⟩)
      by_cases h0 : [] ∈ ls
      · exact h0
      · exact absurd (Hm.can_many h0 hk) (hno many (by omega))
/-! ### first_hits -/
abbrev sFst : Stmt := topS 23
def nFst : List Str := ["many", "lots", "number", "found", "gap"]
theorem scFst : FnScope nFst ["many", "lots"] (defScope sFst) := ⟨rfl, rfl, rfl, by decide +kernel, rfl, by decide +kernel, by decide +kernel⟩
def FirstV (ls : Hm.Lots) (many : Int) (H' : Hp) (v : V) : Prop := (v = .non ∧ [] ∈ ls) ∨ ∃ p f, v = .ref p ∧ H' p = some (.tup (f.map V.int)) ∧ Hm.First ls many f
def spFst : Sp := fun vs H Q _ => ∃ (a : Addr) (xs : List V) (ls : Hm.Lots) (many : Nat), vs = [.int (many : Nat), .ref a] ∧ many ≤ 16 ∧ H a = some (.lst xs) ∧ LsAt H xs ls ∧ Fit ls ∧ LotsOk many ls ∧
  ∀ H' v, Same H H' → FirstV ls many H' v → Q v H'
theorem ok_fst {f : Addr} {fd : FuncData} (F : Fun K "first_hits" "first_hits" sFst f fd) (N : Bl mg) (GC : Has P w K mg base CX0 19 "can_hit" ["lots", "number"] (spCan 16)) (GF : Has P w K mg base CX0 20 "fewest_hits" ["many", "lots"] spFew)
    (GA : Has P w K mg base CX0 1 "above" ["lots", "gap"] (spWo Hm.abvL)) (GW : Has P w K mg base CX0 1 "lots_without" ["lots", "gap"] (spWo Hm.woL)) : FnOk P w K mg base CX0 21 f fd ["many", "lots"] spFst := by
  refine F.ok scFst (fun vs H Q E h => ?_) (fun cdv A outer s H vs Q E hr h => ?_)
  · obtain ⟨a, xs, ls, many, rfl, _⟩ := h
    rfl
  · obtain ⟨a, xs, ls, many, rfl, hm, ha, hl, hf, hk, q⟩ := h
    refine ⟨_, pss_cons (ps_set (i := 2) scFst.nd rfl (.inl rfl) (pe_h GF hr (by decide) (by rfl) pass0 (pa_cons (pv 0) (pa_cons (pv 1) pa_nil))))
      (pss_cons (ps_if (pt_cmpR op_isN (pv 2) pe_non (nomark _)) (pss_one (ps_ret pe_non)) pss_nil)
      (pss_cons (ps_set (i := 3) scFst.nd rfl (.inl rfl) (pe_lst pa_nil))
      (pss_cons (ps_for PassesOwn.never rfl (pi_range1 (by rfl) N.brng (pa_cons (pv 0) pa_nil)) (pg_name (i := 4) scFst.nd rfl (.inl rfl))
        (pss_one (ps_if (pw_and (pt_cmpR op_lt (pe_callB call_len_seq (by rfl) N.blen PySem.boot_len (pa_cons (pv 3) pa_nil)) (pv 2) (nomark _))
            (pw_and1 (pt_val (pe_h GC hr (by decide) (by rfl) pass0 (pa_cons (pe_h GA hr (by decide) (by rfl) pass0 (pa_cons (pe_h GW hr (by decide) (by rfl) pass0 (pa_cons (pv 1) (pa_cons (pv 4) pa_nil))) (pa_cons (pv 4) pa_nil)))
              (pa_cons (pe_op op_sub (pe_op op_sub (pv 2) (pe_callB call_len_seq (by rfl) N.blen PySem.boot_len (pa_cons (pv 3) pa_nil))) pe_int) pa_nil)))))).pt
          (pss_cons (ps_expr (pe_bm PySem.F.plainAttrs_list PySem.F.slot_list_append PySem.F.type_list_append mt_append (pv 3) (pa_cons (pv 4) pa_nil)))
            (pss_one (ps_set (i := 1) scFst.nd rfl (.inl rfl) (pe_h GW hr (by decide) (by rfl) pass0 (pa_cons (pv 1) (pa_cons (pv 4) pa_nil)))))) pss_nil)))
      (pss_one (ps_ret (pe_callTy call_tuple_of (by rfl) N.btup (by decide +kernel) (pa_cons (pv 3) pa_nil))))))), ?_⟩
    refine ⟨_, rfl, _, rfl, a, xs, ls, many, rfl, hm, ha, hl, hf, hk, fun H1 v s1 hv => ⟨v, rfl, rfl, _, rfl, ?_⟩⟩
    rcases hv with ⟨rfl, h0⟩ | ⟨n, rfl, hnm, hcan, hmin⟩
    · exact iteT (q H1 _ s1 (.inl ⟨rfl, h0⟩))
    · refine iteF ⟨Nat.zero_le _, fun p np => ?_⟩
      have t1 : Same H1 (upd H1 p (.lst [])) := same_upd np
      have np0 : H p = none := none_of s1 np
      have hap : a ≠ p := fun z => by rw [← z, s1 _ _ ha] at np; cases np
      have I0 : Hm.Inv ls n ((0 : Nat) : Int) [] ls := Hm.inv_start hcan fun l hl x hx => (hk l hl x hx).1
      refine ⟨_, rfl, _, rfl, by omega, by omega, for_range (fun i σ H' => Same H H' ∧ ∃ (a' : Addr) (ys : List V) (f : List Int) (L : Hm.Lots) (x4 : Option V), σ = [some (.int (many : Nat)), some (.ref a'), some (.int (n : Nat)), some (.ref p), x4] ∧ H' p = some (.lst (f.map V.int)) ∧
        H' a' = some (.lst ys) ∧ LsAt H' ys L ∧ Fit L ∧ a' ≠ p ∧ Hm.Inv ls n (i : Nat) f L) ⟨fun b o e => t1 _ _ (s1 b o e), a, xs, [], ls, none, rfl, upd_same, t1 _ _ (s1 _ _ ha), (hl.sm s1).sm t1, hf, hap, I0⟩ ?_ ?_⟩
      · rintro i σ H' hi ⟨s2, a', ys, f, L, x4, rfl, hp, ha', hy, fit, hne, I⟩
        have fl : f.length ≤ n := I.len
        refine ⟨_, rfl, p, _, rfl, .inl (SqL.of hp), _, rfl, _, _, rfl, rfl, _, rfl, ?_⟩
        rw [List.length_map]
        by_cases hlt : ((f.length : Nat) : Int) < (n : Nat)
        · rw [decide_eq_true hlt]
          have z0 : V.int (0 + (i : Int)) = V.int (i : Nat) := by rw [Int.zero_add]
          refine iteT ⟨_, rfl, _, rfl, a', ys, L, 0 + (i : Int), rfl, ha', hy, fit, fun H3 b zs s3 nb hb hz => ?_⟩
          refine ⟨_, rfl, b, zs, _, 0 + (i : Int), rfl, hb, hz, fit_wo fit, fun H4 c us s4 nc hc hu => ?_⟩
          have t4 : Same H' H4 := fun b o e => s4 b o (s3 b o e)
          have hp4 := t4 _ _ hp
          refine ⟨_, rfl, _, rfl, p, _, rfl, .inl (SqL.of hp4), _, _, rfl, rfl, _, _, rfl, rfl, c, us, _, n - f.length - 1, ?_, by omega, hc, hu, fit_abv (fit_wo fit), fun H5 r s5 hr5 => ⟨r, rfl, ?_⟩⟩
          · rw [List.length_map]
            show [V.ref c, V.int ((n : Int) - (f.length : Nat) - 1)] = _
            rw [show ((n : Int) - (f.length : Nat) - 1) = ((n - f.length - 1 : Nat) : Int) by omega]
          · rw [Int.zero_add] at hr5
            have t5 : Same H' H5 := fun b o e => s5 b o (t4 b o e)
            have hp5 := t5 _ _ hp
            have e1 : ((i + 1 : Nat) : Int) = (i : Int) + 1 := by omega
            cases r with
            | true =>
              refine iteT ⟨_, rfl, .inl ⟨rfl, _, SqL.of hp5⟩, _, rfl, p, _, _, rfl, rfl, hp5, ?_, ?_⟩
              · rw [List.length_map]
                exact small1000 (by omega)
              · have t6 : Same H (upd H5 p (.lst (f.map V.int ++ [V.int (0 + (i : Int))]))) := same_put (fun b o e => t5 b o (s2 b o e)) np0
                have hy6 := ((hy.sm t5).off (no_tup hp5) (o := .lst (f.map V.int ++ [V.int (0 + (i : Int))])))
                have ha6 : (upd H5 p (.lst (f.map V.int ++ [V.int (0 + (i : Int))]))) a' = some (.lst ys) := by rw [upd_ne hne]; exact t5 _ _ ha'
                refine ⟨_, rfl, _, rfl, a', ys, L, 0 + (i : Int), rfl, ha6, hy6, fit, fun H7 d ws s7 nd hd hw => ?_⟩
                refine ⟨fun b o e => s7 b o (t6 b o e), d, ws, f ++ [(i : Int)], Hm.woL L i, _, rfl, ?_, hd, ?_, fit_wo fit, ?_, ?_⟩
                · rw [s7 _ _ upd_same, Int.zero_add, List.map_append]
                  rfl
                · rw [Int.zero_add] at hw
                  exact hw
                · intro z
                  rw [z, upd_same] at nd
                  cases nd
                · rw [e1]
                  exact Hm.inv_take I (by omega) (by omega) (hr5.mp rfl)
            | false =>
              refine iteF ⟨fun b o e => t5 b o (s2 b o e), a', ys, f, L, _, rfl, hp5, t5 _ _ ha', hy.sm t5, fit, hne, ?_⟩
              rw [e1]
              exact Hm.inv_skip I (by omega) fun z => absurd (hr5.mpr z) (by decide)
        · rw [decide_eq_false hlt]
          refine iteF ⟨s2, a', ys, f, L, _, rfl, hp, ha', hy, fit, hne, ?_⟩
          have e1 : ((i + 1 : Nat) : Int) = (i : Int) + 1 := by omega
          rw [e1]
          exact Hm.inv_full I (by omega)
      · rintro σ H' ⟨s2, a', ys, f, L, x4, rfl, hp, ha', hy, fit, hne, I⟩
        refine ⟨_, rfl, p, _, rfl, .inl ⟨SqL.of hp, fun T nT => q _ _ (same_put s2 (none_of s2 nT)) (.inr ⟨T, f, rfl, upd_same, ?_⟩)⟩⟩
        have e2 : (((many : Int)).toNat : Int) = (many : Int) := by omega
        rw [Int.toNat_natCast] at I
        exact Hm.inv_end I (fun l hl x hx => (hk l hl x hx).2) hmin
end
end Lm
namespace Lm
open PySem PySem.Spec PyProof.Rows L2
def lotD (l : List Int) : PyData := .tuple (l.map .int)
theorem asc_len : ∀ {l : List Int} {lo hi : Int}, Hm.Asc l → (∀ x ∈ l, lo ≤ x ∧ x < hi) → (l.length : Int) ≤ max 0 (hi - lo)
  | [], _, _, _, _ => by simp; omega
  | a :: r, lo, hi, h, k => by
    obtain ⟨h1, h2⟩ := List.pairwise_cons.mp h
    have ka := k a (List.mem_cons_self ..)
    have ih := asc_len (l := r) (lo := a + 1) (hi := hi) h2 fun x hx => ⟨by have := h1 x hx; omega, (k x (List.mem_cons_of_mem _ hx)).2⟩
    rw [List.length_cons]
    omega
def GapsOk (n : Int) (ls : Hm.Lots) : Prop := ∀ l ∈ ls, (∀ x ∈ l, 0 ≤ x ∧ x < n) ∧ Hm.Asc l
theorem gaps_of {n : Int} : ∀ {ds : List PyData}, (∀ d ∈ ds, GapIs n d) → ∃ ls : Hm.Lots, ds = ls.map lotD ∧ GapsOk n ls
  | [], _ => ⟨[], rfl, fun _ z => nomatch z⟩
  | d :: r, h => by
    obtain ⟨l, rfl, h1, h2⟩ := h d (List.mem_cons_self ..)
    obtain ⟨ls, rfl, h3⟩ := gaps_of fun d hd => h d (List.mem_cons_of_mem _ hd)
    refine ⟨l :: ls, rfl, fun x hx => ?_⟩
    rcases List.mem_cons.mp hx with rfl | hx
    · exact ⟨h1, h2⟩
    · exact h3 x hx
theorem gaps_fit {n : Int} {ls : Hm.Lots} (h : GapsOk n ls) (hn : n ≤ 16) (hl : ls.length ≤ 500) : Fit ls ∧ LotsOk n ls := by
  refine ⟨⟨hl, fun l hm => ?_⟩, fun l hm => (h l hm).1⟩
  have := asc_len (h l hm).2 (h l hm).1
  omega
theorem da_lot {D : DrA} {H : Hp} {v : V} {l : List Int} (h : Da D H v (lotD l)) : LotAt H v l := by
  unfold lotD at h
  cases h with
  | tup h1 n1 n2 ha =>
    rw [daAll_ints ha] at h1
    exact ⟨_, rfl, h1⟩
theorem da_lots {D : DrA} {H : Hp} : ∀ {ls : Hm.Lots} {vs : List V}, DaAll D H vs (ls.map lotD) → LsAt H vs ls
  | [], _, h => by cases h; exact .nil
  | l :: r, _, h => by
    cases h with
    | cons h1 h2 => exact .cons (da_lot h1) (da_lots h2)
/-- what check_lots asks, and what a good one gives -/
def Asked (BM BL : Addr) (H : Hp) (m l : PyData) (E : XK) (good : Int → Hm.Lots → Prop) : Prop :=
  ((¬ ManyIs m ∧ ∀ H', Same H H' → E (.ref BM) none H') ∨
  (ManyIs m ∧ (∀ ds, rowsD l = some ds → 400 < ds.length) ∧ ∀ H' dx, Same H H' → H' dx = some (.xd [("at", .non)]) → E (.ref BL) (some dx) H') ∨
  ∃ (n : Int) (ds : List PyData), m = .int n ∧ 1 ≤ n ∧ n ≤ 16 ∧ rowsD l = some ds ∧ ds.length ≤ 400 ∧
    ((∃ i : Nat, BadAt n ds i ∧ ∀ H' dx, Same H H' → H' dx = some (.xd [("at", .int i)]) → E (.ref BL) (some dx) H') ∨
    ((∀ d ∈ ds, GapIs n d) ∧ ∀ ls, ds = ls.map lotD → GapsOk n ls → good n ls)))
def Sized (l : PyData) : Prop := lenD l ≤ 1000 ∧ ∀ ds, rowsD l = some ds → ∀ d ∈ ds, lenD d ≤ 1000
def spLeast (BM BL : Addr) : Sp := fun vs H Q E => ∃ (D : DrA) (v1 v2 : V) (m l : PyData), vs = [v1, v2] ∧ Da D H v1 m ∧ Da D H v2 l ∧ Sized l ∧ Asked BM BL H m l E fun n ls => ∀ H' v, Same H H' → FirstV ls n H' v → Q v H'
/-- of a def that says check_lots first, where that refuses -/
def spRef (BM BL : Addr) (k : Nat) : Sp := fun vs H Q E => ∃ (D : DrA) (v1 v2 : V) (m l : PyData) (ws : List V), vs = v1 :: v2 :: ws ∧ ws.length = k ∧ Da D H v1 m ∧ Da D H v2 l ∧ Sized l ∧ Asked BM BL H m l E fun _ _ => False
def spNo : Sp := fun _ _ _ _ => False
section
variable {P : Program} {w : World} {K : PySem.W.Frag} {mg : Str → Option Value} {base : Heap}
theorem asked_check {BM BL : Addr} {D : DrA} {v1 v2 : V} {m l : PyData} {H : Hp} {E : XK} {Q : VK} {good : Int → Hm.Lots → Prop} (h1 : Da D H v1 m) (h2 : Da D H v2 l) (hs : Sized l) (h : Asked BM BL H m l E good)
    (q : ∀ (n : Int) (ls : Hm.Lots), m = .int n → 1 ≤ n → n ≤ 16 → rowsD l = some (ls.map lotD) → ls.length ≤ 400 → GapsOk n ls → good n ls → ∀ H', Same H H' → Q .non H') : spCheck BM BL [v1, v2] H Q E := by
  refine ⟨D, v1, v2, m, l, rfl, h1, h2, hs.1, hs.2, ?_⟩
  rcases h with h | h | ⟨n, ds, rfl, n1, n2, hr, hl, h⟩
  · exact .inl h
  · exact .inr (.inl h)
  · refine .inr (.inr ⟨n, ds, rfl, n1, n2, hr, hl, ?_⟩)
    rcases h with h | ⟨hg, g⟩
    · exact .inl h
    · obtain ⟨ls, rfl, hk⟩ := gaps_of hg
      rw [List.length_map] at hl
      exact .inr ⟨hg, q n ls rfl n1 n2 hr hl hk (g ls rfl hk)⟩
abbrev sLeast : Stmt := topS 24
def nLeast : List Str := ["many", "lots"]
theorem scLeast : FnScope nLeast ["many", "lots"] (defScope sLeast) := ⟨rfl, rfl, rfl, by decide +kernel, rfl, by decide +kernel, by decide +kernel⟩
theorem ok_least {BM BL : Addr} {f : Addr} {fd : FuncData} (F : Fun K "least_hits" "least_hits" sLeast f fd) (N : Bl mg) (GK : Has P w K mg base (L2.CX P w) 5 "check_lots" ["many", "lots"] (spCheck BM BL)) (GF : Has P w K mg base CX0 21 "first_hits" ["many", "lots"] spFst) :
    FnOk P w K mg base (L2.CX P w) 22 f fd ["many", "lots"] (spLeast BM BL) := by
  refine F.okX scLeast (fun vs H Q E h => ?_) (fun cdv A outer s H vs Q E hr h => ?_)
  · obtain ⟨D, v1, v2, m, l, rfl, _⟩ := h
    rfl
  · obtain ⟨D, v1, v2, m, l, rfl, h1, h2, hs, h⟩ := h
    refine ⟨_, pss_cons (ps_expr (pe_h GK hr (by decide) (by rfl) passE (pa_cons (pv 0) (pa_cons (pv 1) pa_nil))))
      (pss_one (ps_ret (pe_h GF hr (by decide) (by rfl) (E := C8.E0) pass0 (pa_cons (pv 0) (pa_cons (pe_callTy call_list_of (by rfl) N.blist (by decide +kernel) (pa_cons (pv 1) pa_nil)) pa_nil))))), ?_⟩
    refine ⟨_, rfl, _, rfl, ?_⟩
    dsimp only [tNil]
    refine asked_check h1 h2 hs h fun n ls e n1 n2 hr' hl hk q H1 s1 => ?_
    subst e
    cases h1
    obtain ⟨a, xs, rfl, ha, hx⟩ := rows_at h2 hr'
    obtain ⟨fit, lk⟩ := gaps_fit hk n2 (by omega)
    have hls := da_lots ha
    obtain ⟨n', rfl⟩ : ∃ n' : Nat, n = (n' : Int) := ⟨n.toNat, by omega⟩
    refine ⟨_, rfl, _, rfl, a, xs, rfl, ?_, fun b nb => ?_⟩
    · rcases hx with hx | hx
      · exact .inl (SqL.of (s1 _ _ hx))
      · exact .inr (SqT.of (s1 _ _ hx))
    · have t2 := same_upd (o := .lst xs) nb
      exact ⟨b, xs, ls, n', rfl, by omega, upd_same, (hls.sm s1).sm t2, fit, lk, fun H3 v s3 hv => q H3 v (fun b o e => s3 b o (t2 b o (s1 b o e))) hv⟩
abbrev sCkN : Stmt := topS 25
theorem scCkN : FnScope ["number"] ["number"] (defScope sCkN) := ⟨rfl, rfl, rfl, by decide +kernel, rfl, by decide +kernel, by decide +kernel⟩
theorem ok_ckN {f : Addr} {fd : FuncData} (F : Fun K "check_number" "check_number" sCkN f fd) : FnOk P w K mg base CX0 1 f fd ["number"] spNo :=
  F.ok scCkN (fun vs H Q E h => h.elim) (fun cdv A outer s H vs Q E hr h => h.elim)
abbrev sNew : Stmt := topS 29
theorem scNew : FnScope ["lots", "number"] ["lots", "number"] (defScope sNew) := ⟨rfl, rfl, rfl, by decide +kernel, rfl, by decide +kernel, by decide +kernel⟩
theorem ok_new {f : Addr} {fd : FuncData} (F : Fun K "new_tree" "new_tree" sNew f fd) : FnOk P w K mg base CX0 1 f fd ["lots", "number"] spNo :=
  F.ok scNew (fun vs H Q E h => h.elim) (fun cdv A outer s H vs Q E hr h => h.elim)
abbrev sIsB : Stmt := topS 31
def nIsB : List Str := ["lots", "taken", "number", "thing", "lot", "gap"]
theorem scIsB : FnScope nIsB ["lots", "taken", "number", "thing"] (defScope sIsB) := ⟨rfl, rfl, rfl, by decide +kernel, rfl, by decide +kernel, by decide +kernel⟩
theorem ok_isB {f : Addr} {fd : FuncData} (F : Fun K "is_tree_behind" "is_tree_behind" sIsB f fd) : FnOk P w K mg base CX0 1 f fd ["lots", "taken", "number", "thing"] spNo :=
  F.ok scIsB (fun vs H Q E h => h.elim) (fun cdv A outer s H vs Q E hr h => h.elim)
abbrev sTree : Stmt := topS 28
def nTree : List Str := ["many", "lots", "number"]
theorem scTree : FnScope nTree ["many", "lots", "number"] (defScope sTree) := ⟨rfl, rfl, rfl, by decide +kernel, rfl, by decide +kernel, by decide +kernel⟩
theorem ok_tree {BM BL : Addr} {f : Addr} {fd : FuncData} (F : Fun K "hit_tree" "hit_tree" sTree f fd) (N : Bl mg) (GK : Has P w K mg base (L2.CX P w) 5 "check_lots" ["many", "lots"] (spCheck BM BL)) (GN : Has P w K mg base CX0 1 "check_number" ["number"] spNo) (GT : Has P w K mg base CX0 1 "new_tree" ["lots", "number"] spNo) :
    FnOk P w K mg base (L2.CX P w) 6 f fd ["many", "lots", "number"] (spRef BM BL 1) := by
  refine F.okX scTree (fun vs H Q E h => ?_) (fun cdv A outer s H vs Q E hr h => ?_)
  · obtain ⟨D, v1, v2, m, l, ws, rfl, hw, _⟩ := h
    match ws, hw with
    | [_], _ => rfl
  · obtain ⟨D, v1, v2, m, l, ws, rfl, hw, h1, h2, hs, h⟩ := h
    obtain ⟨w1, rfl⟩ : ∃ w1, ws = [w1] := match ws, hw with
      | [w1], _ => ⟨w1, rfl⟩
    refine ⟨_, pss_cons (ps_expr (pe_h GK hr (by decide) (by rfl) passE (pa_cons (pv 0) (pa_cons (pv 1) pa_nil))))
      (pss_cons (ps_expr (pe_h GN hr (by decide) (by rfl) (E := C8.E0) pass0 (pa_cons (pv 2) pa_nil)))
      (pss_one (ps_ret (pe_h GT hr (by decide) (by rfl) (E := C8.E0) pass0 (pa_cons (pe_callTy call_list_of (by rfl) N.blist (by decide +kernel) (pa_cons (pv 1) pa_nil)) (pa_cons (pv 2) pa_nil)))))), ?_⟩
    refine ⟨_, rfl, _, rfl, ?_⟩
    dsimp only [tNil]
    exact asked_check h1 h2 hs h fun n ls e n1 n2 hr' hl hk q H1 s1 => q.elim
abbrev sIsT : Stmt := topS 30
def nIsT : List Str := ["many", "lots", "number", "thing"]
theorem scIsT : FnScope nIsT ["many", "lots", "number", "thing"] (defScope sIsT) := ⟨rfl, rfl, rfl, by decide +kernel, rfl, by decide +kernel, by decide +kernel⟩
theorem ok_isT {BM BL : Addr} {f : Addr} {fd : FuncData} (F : Fun K "is_hit_tree" "is_hit_tree" sIsT f fd) (N : Bl mg) (GK : Has P w K mg base (L2.CX P w) 5 "check_lots" ["many", "lots"] (spCheck BM BL)) (GN : Has P w K mg base CX0 1 "check_number" ["number"] spNo) (GT : Has P w K mg base CX0 1 "is_tree_behind" ["lots", "taken", "number", "thing"] spNo) :
    FnOk P w K mg base (L2.CX P w) 6 f fd ["many", "lots", "number", "thing"] (spRef BM BL 2) := by
  refine F.okX scIsT (fun vs H Q E h => ?_) (fun cdv A outer s H vs Q E hr h => ?_)
  · obtain ⟨D, v1, v2, m, l, ws, rfl, hw, _⟩ := h
    match ws, hw with
    | [_, _], _ => rfl
  · obtain ⟨D, v1, v2, m, l, ws, rfl, hw, h1, h2, hs, h⟩ := h
    obtain ⟨w1, w2, rfl⟩ : ∃ w1 w2, ws = [w1, w2] := match ws, hw with
      | [w1, w2], _ => ⟨w1, w2, rfl⟩
    refine ⟨_, pss_cons (ps_expr (pe_h GK hr (by decide) (by rfl) passE (pa_cons (pv 0) (pa_cons (pv 1) pa_nil))))
      (pss_cons (ps_expr (pe_h GN hr (by decide) (by rfl) (E := C8.E0) pass0 (pa_cons (pv 2) pa_nil)))
      (pss_one (ps_ret (pe_h GT hr (by decide) (by rfl) (E := C8.E0) pass0 (pa_cons (pv 1) (pa_cons (pe_lst pa_nil) (pa_cons (pv 2) (pa_cons (pv 3) pa_nil)))))))), ?_⟩
    refine ⟨_, rfl, _, rfl, ?_⟩
    dsimp only [tNil]
    exact asked_check h1 h2 hs h fun n ls e n1 n2 hr' hl hk q H1 s1 => q.elim
end
end Lm
/-! Gaps that hit lots: changes of the lots, stretches, arcs, packings: mathematics. -/
namespace Hm
/-- the fewest -/
def Num (ls : Lots) (n : Nat) : Prop := Can ls n ∧ ∀ k, k < n → ¬ Can ls k
theorem num_uniq {ls : Lots} {a b : Nat} (h : Num ls a) (k : Num ls b) : a = b := by
  rcases Nat.lt_trichotomy a b with e | e | e
  · exact absurd h.1 (k.2 a e)
  · exact e
  · exact absurd k.1 (h.2 b e)
theorem num_le {ls ls' : Lots} {a b : Nat} (h : Num ls a) (k : Num ls' b) (i : ∀ n, Can ls' n → Can ls n) : a ≤ b := by
  by_cases e : a ≤ b
  · exact e
  · exact absurd (i b k.1) (h.2 b (by omega))
theorem num_same {ls ls' : Lots} {a b : Nat} (h : Num ls a) (k : Num ls' b) (i : ∀ n, Can ls n ↔ Can ls' n) : a = b :=
  Nat.le_antisymm (num_le h k fun n => (i n).mpr) (num_le k h fun n => (i n).mp)
theorem can_imp {ls ls' : Lots} {n : Nat} (i : ∀ t, hitsL ls t → hitsL ls' t) : Can ls n → Can ls' n := fun ⟨gs, a, b⟩ => ⟨gs, a, i gs b⟩
theorem First.num {ls : Lots} {m : Int} {f : List Int} (F : First ls m f) : Num ls f.length :=
  ⟨⟨f, Nat.le_refl _, F.hit⟩, fun k hk ⟨gs, a, b⟩ => by have := F.few gs b; omega⟩
theorem lt_of_Lt' {f t : List Int} (h : Lt f t) : f < t := by
  obtain ⟨p, x, y, r, s, rfl, rfl, h⟩ := h
  induction p with
  | nil => exact List.cons_lt_cons_iff.mpr (.inl h)
  | cons a p ih => exact List.cons_lt_cons_iff.mpr (.inr ⟨rfl, ih⟩)
theorem first_same {ls ls' : Lots} {m m' : Int} {f g : List Int} (F : First ls m f) (G : First ls' m' g) (i : ∀ t, hitsL ls t ↔ hitsL ls' t) : f = g := by
  have h1 := F.few g ((i g).mpr G.hit)
  have h2 := G.few f ((i f).mp F.hit)
  have e : f.length = g.length := Nat.le_antisymm h1 h2
  rcases F.least g G.asc e.symm (fun x hx => (G.low x hx).1) ((i g).mpr G.hit) with h | h
  · exact h.symm
  · rcases G.least f F.asc e (fun x hx => (F.low x hx).1) ((i f).mp F.hit) with k | k
    · exact k
    · exact absurd (lt_of_Lt' h) (List.lt_asymm (lt_of_Lt' k))
/-! ### ascending lists -/
theorem asc_sub : ∀ {a b : List Int}, Asc a → Asc b → (∀ x ∈ a, x ∈ b) → a.Sublist b
  | [], b, _, _, _ => List.nil_sublist b
  | x :: r, [], _, _, h => by
    have := h x (List.mem_cons_self ..)
    cases this
  | x :: r, y :: s, ha, hb, h => by
    obtain ⟨a1, a2⟩ := List.pairwise_cons.mp ha
    obtain ⟨b1, b2⟩ := List.pairwise_cons.mp hb
    have rest : ∀ z ∈ r, z ∈ s := fun z hz => by
      rcases List.mem_cons.mp (h z (List.mem_cons_of_mem _ hz)) with e | e
      · rcases List.mem_cons.mp (h x (List.mem_cons_self ..)) with e2 | e2
        · have := a1 z hz
          omega
        · have := b1 x e2
          have := a1 z hz
          omega
      · exact e
    rcases List.mem_cons.mp (h x (List.mem_cons_self ..)) with rfl | hx
    · exact (asc_sub a2 b2 rest).cons_cons x
    · exact (asc_sub ha b2 fun z hz => by
        rcases List.mem_cons.mp hz with rfl | hz
        · exact hx
        · exact rest z hz).cons y
theorem asc_less {a b : List Int} (ha : Asc a) (hb : Asc b) (h : ∀ x ∈ a, x ∈ b) (n : a ≠ b) : a.length < b.length := by
  have s := asc_sub ha hb h
  rcases Nat.lt_or_eq_of_le s.length_le with k | k
  · exact k
  · exact absurd (s.eq_of_length k) n
/-! ### lots within which another one lies -/
def Min (ls : Lots) (l : List Int) : Prop := ∀ o ∈ ls, o ≠ l → ¬ ∀ x ∈ o, x ∈ l
theorem min_in {ls : Lots} (ha : ∀ l ∈ ls, Asc l) : ∀ (n : Nat) (l : List Int), l.length ≤ n → l ∈ ls → ∃ o ∈ ls, Min ls o ∧ ∀ x ∈ o, x ∈ l
  | n, l, hn, hl => by
    by_cases h : Min ls l
    · exact ⟨l, hl, h, fun _ z => z⟩
    · have : ∃ o ∈ ls, o ≠ l ∧ ∀ x ∈ o, x ∈ l := by
        by_cases e : ∃ o ∈ ls, o ≠ l ∧ ∀ x ∈ o, x ∈ l
        · exact e
        · exact absurd (fun o ho no hs => e ⟨o, ho, no, hs⟩) h
      obtain ⟨o, ho, no, hs⟩ := this
      have less := asc_less (ha o ho) (ha l hl) hs no
      cases n with
      | zero => omega
      | succ n =>
        obtain ⟨p, h1, h2, h3⟩ := min_in ha n o (by omega) ho
        exact ⟨p, h1, h2, fun x hx => hs x (h3 x hx)⟩
theorem hits_min {ls ms : Lots} (ha : ∀ l ∈ ls, Asc l) (hm : ∀ l, l ∈ ms ↔ l ∈ ls ∧ Min ls l) (t : List Int) : hitsL ms t ↔ hitsL ls t := by
  constructor
  · intro h l hl
    obtain ⟨o, h1, h2, h3⟩ := min_in ha l.length l (Nat.le_refl _) hl
    obtain ⟨x, k1, k2⟩ := h o ((hm o).mpr ⟨h1, h2⟩)
    exact ⟨x, h3 x k1, k2⟩
  · intro h l hl
    exact h l ((hm l).mp hl).1
/-! ### one lot less, one lot wider, other numbers -/
theorem can_less {ls rs : Lots} {l : List Int} {n : Nat} (hl : ∀ o, o ∈ ls → o ∈ rs ∨ o = l) (h0 : l ≠ []) (h : Can rs n) : Can ls (n + 1) := by
  obtain ⟨gs, a, b⟩ := h
  cases l with
  | nil => exact absurd rfl h0
  | cons x r =>
    refine ⟨x :: gs, Nat.succ_le_succ a, fun o ho => ?_⟩
    rcases hl o ho with k | rfl
    · obtain ⟨y, k1, k2⟩ := b o k
      exact ⟨y, k1, List.mem_cons_of_mem _ k2⟩
    · exact ⟨x, List.mem_cons_self .., List.mem_cons_self ..⟩
/-- the lots ms tell the lots ls in the numbers φ -/
structure Ren (φ : Int → Int) (ls ms : Lots) : Prop where
  to : ∀ l ∈ ls, ∃ k ∈ ms, ∀ x, x ∈ k ↔ ∃ y ∈ l, φ y = x
  of : ∀ k ∈ ms, ∃ l ∈ ls, ∀ x, x ∈ k ↔ ∃ y ∈ l, φ y = x
theorem Ren.can {φ ψ : Int → Int} {ls ms : Lots} (R : Ren φ ls ms) (i : ∀ l ∈ ls, ∀ y ∈ l, ψ (φ y) = y) (n : Nat) : Can ls n ↔ Can ms n := by
  constructor
  · rintro ⟨gs, a, b⟩
    refine ⟨gs.map φ, by rw [List.length_map]; exact a, fun k hk => ?_⟩
    obtain ⟨l, hl, h⟩ := R.of k hk
    obtain ⟨y, k1, k2⟩ := b l hl
    exact ⟨φ y, (h _).mpr ⟨y, k1, rfl⟩, List.mem_map.mpr ⟨y, k2, rfl⟩⟩
  · rintro ⟨gs, a, b⟩
    refine ⟨gs.map ψ, by rw [List.length_map]; exact a, fun l hl => ?_⟩
    obtain ⟨k, hk, h⟩ := R.to l hl
    obtain ⟨x, k1, k2⟩ := b k hk
    obtain ⟨y, hy, rfl⟩ := (h x).mp k1
    exact ⟨y, hy, List.mem_map.mpr ⟨φ y, k2, i l hl y hy⟩⟩
/-! ### stretches -/
/-- those of a row that are taken: each begins behind the end of the last one taken -/
def gre : List (Int × Int) → Int → List (Int × Int)
  | [], _ => []
  | p :: r, last => if p.1 > last then p :: gre r p.2 else gre r last
theorem gre_mem : ∀ {ps : List (Int × Int)} {last : Int} {q : Int × Int}, q ∈ gre ps last → q ∈ ps ∧ last < q.1 ∨ q ∈ ps
  | [], _, _, h => by cases h
  | p :: r, last, q, h => by
    unfold gre at h
    split at h
    · rcases List.mem_cons.mp h with rfl | h
      · exact .inr (List.mem_cons_self ..)
      · rcases gre_mem h with k | k
        · exact .inr (List.mem_cons_of_mem _ k.1)
        · exact .inr (List.mem_cons_of_mem _ k)
    · rcases gre_mem h with k | k
      · exact .inr (List.mem_cons_of_mem _ k.1)
      · exact .inr (List.mem_cons_of_mem _ k)
theorem gre_in {ps : List (Int × Int)} {last : Int} {q : Int × Int} (h : q ∈ gre ps last) : q ∈ ps := (gre_mem h).elim (·.1) id
theorem gre_gt : ∀ {ps : List (Int × Int)} {last : Int}, (∀ p ∈ ps, p.1 ≤ p.2) → ∀ q ∈ gre ps last, last < q.1
  | [], _, _, _, h => by cases h
  | p :: r, last, w, q, h => by
    unfold gre at h
    split at h
    · rename_i c
      rcases List.mem_cons.mp h with rfl | h
      · exact c
      · have := gre_gt (fun x hx => w x (List.mem_cons_of_mem _ hx)) q h
        have := w p (List.mem_cons_self ..)
        omega
    · exact gre_gt (fun x hx => w x (List.mem_cons_of_mem _ hx)) q h
theorem gre_apart : ∀ {ps : List (Int × Int)} {last : Int}, (∀ p ∈ ps, p.1 ≤ p.2) → (gre ps last).Pairwise fun a b => a.2 < b.1
  | [], _, _ => .nil
  | p :: r, last, w => by
    have w' : ∀ x ∈ r, x.1 ≤ x.2 := fun x hx => w x (List.mem_cons_of_mem _ hx)
    unfold gre
    split
    · exact List.pairwise_cons.mpr ⟨fun q hq => gre_gt w' q hq, gre_apart w'⟩
    · exact gre_apart w'
theorem gre_hit : ∀ {ps : List (Int × Int)} {last : Int}, ps.Pairwise (fun a b => a.2 ≤ b.2) → (∀ p ∈ ps, p.1 ≤ p.2 ∧ last ≤ p.2) → ∀ p ∈ ps, p.1 ≤ last ∨ ∃ q ∈ gre ps last, p.1 ≤ q.2 ∧ q.2 ≤ p.2
  | [], _, _, _, _, h => by cases h
  | p :: r, last, s, w, x, hx => by
    obtain ⟨s1, s2⟩ := List.pairwise_cons.mp s
    have wp := w p (List.mem_cons_self ..)
    unfold gre
    by_cases c : p.1 > last
    · rw [if_pos c]
      rcases List.mem_cons.mp hx with rfl | hx
      · exact .inr ⟨x, List.mem_cons_self .., wp.1, Int.le_refl _⟩
      · have wx := w x (List.mem_cons_of_mem _ hx)
        rcases gre_hit (last := p.2) s2 (fun y hy => ⟨(w y (List.mem_cons_of_mem _ hy)).1, s1 y hy⟩) x hx with k | ⟨q, k1, k2⟩
        · exact .inr ⟨p, List.mem_cons_self .., k, s1 x hx⟩
        · exact .inr ⟨q, List.mem_cons_of_mem _ k1, k2⟩
    · rw [if_neg c]
      rcases List.mem_cons.mp hx with rfl | hx
      · exact .inl (by omega)
      · exact gre_hit s2 (fun y hy => w y (List.mem_cons_of_mem _ hy)) x hx
/-- the lots ls are the stretches ps, one by one -/
def Str (ps : List (Int × Int)) (ls : Lots) : Prop := (∀ p ∈ ps, ∃ l ∈ ls, ∀ x, x ∈ l ↔ p.1 ≤ x ∧ x ≤ p.2) ∧ ∀ l ∈ ls, ∃ p ∈ ps, ∀ x, x ∈ l ↔ p.1 ≤ x ∧ x ≤ p.2
theorem can_lots {ls ms : Lots} {n : Nat} (h : ∀ l ∈ ls, ∃ k ∈ ms, ∀ x ∈ k, x ∈ l) (c : Can ms n) : Can ls n := by
  obtain ⟨gs, a, b⟩ := c
  refine ⟨gs, a, fun l hl => ?_⟩
  obtain ⟨k, hk, h⟩ := h l hl
  obtain ⟨x, k1, k2⟩ := b k hk
  exact ⟨x, h x k1, k2⟩
def rgP (p : Int × Int) : List Int := (List.range (p.2 + 1 - p.1).toNat).map fun i : Nat => p.1 + (i : Int)
theorem mem_rgP {p : Int × Int} {x : Int} : x ∈ rgP p ↔ p.1 ≤ x ∧ x ≤ p.2 := by
  unfold rgP
  rw [List.mem_map]
  constructor
  · rintro ⟨i, hi, rfl⟩
    have := List.mem_range.mp hi
    omega
  · rintro ⟨a, b⟩
    exact ⟨(x - p.1).toNat, List.mem_range.mpr (by omega), by omega⟩
/-- as many as were taken are the fewest -/
theorem str_num {ps ss : List (Int × Int)} {ls : Lots} (hp : ∀ p, p ∈ ss ↔ p ∈ ps) (so : ss.Pairwise fun a b => a.2 ≤ b.2) (w : ∀ p ∈ ps, 0 ≤ p.1 ∧ p.1 ≤ p.2) (S : Str ps ls) : Num ls (gre ss (-1)).length := by
  have ws : ∀ p ∈ ss, p.1 ≤ p.2 := fun p h => (w p ((hp p).mp h)).2
  constructor
  · refine ⟨(gre ss (-1)).map (·.2), by rw [List.length_map]; exact Nat.le_refl _, fun l hl => ?_⟩
    obtain ⟨p, h1, h2⟩ := S.2 l hl
    have wp := w p h1
    rcases gre_hit (last := -1) so (fun y hy => ⟨ws y hy, by have := w y ((hp y).mp hy); omega⟩) p ((hp p).mpr h1) with k | ⟨q, k1, k2⟩
    · omega
    · exact ⟨q.2, (h2 _).mpr k2, List.mem_map.mpr ⟨q, k1, rfl⟩⟩
  · intro k hk c
    have c2 : Can ((gre ss (-1)).map rgP) k := can_lots (ms := ls) (fun l hl => by
      obtain ⟨q, hq, rfl⟩ := List.mem_map.mp hl
      obtain ⟨o, h1, h2⟩ := S.1 q ((hp q).mp (gre_in hq))
      exact ⟨o, h1, fun x hx => mem_rgP.mpr ((h2 x).mp hx)⟩) c
    have := apart_can (ls := (gre ss (-1)).map rgP) (cs := (gre ss (-1)).map rgP) (fun _ h => h) (by
      rw [List.pairwise_map]
      refine (gre_apart ws).imp fun {a b} hab g ha hb => ?_
      have h1 := mem_rgP.mp ha
      have h2 := mem_rgP.mp hb
      omega) c2
    rw [List.length_map] at this
    omega
/-! ### arcs -/
def InArc (m : Int) (p : Int × Int) (x : Int) : Prop := (0 ≤ x ∧ x < m) ∧ (if p.1 ≤ p.2 then p.1 ≤ x ∧ x ≤ p.2 else p.1 ≤ x ∨ x ≤ p.2)
instance (m : Int) (p : Int × Int) (x : Int) : Decidable (InArc m p x) := by unfold InArc; exact inferInstance
def rot (m g x : Int) : Int := (x + m - g) % m
def unrot (m g x : Int) : Int := (x + g) % m
theorem rot_at {m g x : Int} (hg : 0 ≤ g ∧ g < m) (hx : 0 ≤ x ∧ x < m) : rot m g x = if g ≤ x then x - g else x + m - g := by
  unfold rot
  split
  · rw [show x + m - g = (x - g) + m by omega, Int.add_emod_right, Int.emod_eq_of_lt (by omega) (by omega)]
  · rw [Int.emod_eq_of_lt (by omega) (by omega)]
theorem unrot_at {m g x : Int} (hg : 0 ≤ g ∧ g < m) (hx : 0 ≤ x ∧ x < m) : unrot m g x = if x + g < m then x + g else x + g - m := by
  unfold unrot
  split
  · rw [Int.emod_eq_of_lt (by omega) (by omega)]
  · rw [show x + g = (x + g - m) + m by omega, Int.add_emod_right, Int.emod_eq_of_lt (by omega) (by omega)]
    omega
theorem rot_rng {m g x : Int} (hg : 0 ≤ g ∧ g < m) (hx : 0 ≤ x ∧ x < m) : 0 ≤ rot m g x ∧ rot m g x < m := by
  rw [rot_at hg hx]
  split <;> omega
theorem unrot_rot {m g x : Int} (hg : 0 ≤ g ∧ g < m) (hx : 0 ≤ x ∧ x < m) : unrot m g (rot m g x) = x := by
  rw [unrot_at hg (rot_rng hg hx), rot_at hg hx]
  split <;> split <;> omega
theorem rot_unrot {m g x : Int} (hg : 0 ≤ g ∧ g < m) (hx : 0 ≤ x ∧ x < m) : rot m g (unrot m g x) = x := by
  have h : 0 ≤ unrot m g x ∧ unrot m g x < m := by
    rw [unrot_at hg hx]
    split <;> omega
  rw [rot_at hg h, unrot_at hg hx]
  split <;> split <;> omega
/-- an arc without g is a stretch of the ring that is cut there -/
theorem arc_cut {m g : Int} {p : Int × Int} (hg : 0 ≤ g ∧ g < m) (h1 : 0 ≤ p.1 ∧ p.1 < m) (h2 : 0 ≤ p.2 ∧ p.2 < m) (n : ¬ InArc m p g) :
    (0 ≤ rot m g p.1 ∧ rot m g p.1 ≤ rot m g p.2) ∧ ∀ x, 0 ≤ x ∧ x < m → (InArc m p x ↔ rot m g p.1 ≤ rot m g x ∧ rot m g x ≤ rot m g p.2) := by
  unfold InArc at n
  have n : ¬ (if p.1 ≤ p.2 then p.1 ≤ g ∧ g ≤ p.2 else p.1 ≤ g ∨ g ≤ p.2) := fun z => n ⟨hg, z⟩
  rw [rot_at hg h1, rot_at hg h2]
  constructor
  · split at n <;> split <;> split <;> omega
  · intro x hx
    rw [rot_at hg hx]
    unfold InArc
    split at n <;> rename_i c
    · rw [if_pos c]
      split <;> split <;> split <;> omega
    · rw [if_neg c]
      split <;> split <;> split <;> omega
end Hm
/-! Arcs cut, packings, lots beside one another: mathematics. -/
namespace Hm
theorem can_rest {ls : Lots} {g : Int} {gs : List Int} {k : Nat} (hg : g ∈ gs) (a : gs.length ≤ k) (b : hitsL ls gs) : Can (woL ls g) (k - 1) := by
  refine ⟨gs.filter fun o => decide (o ≠ g), ?_, fun l hl => ?_⟩
  · have := filter_less (p := fun o => decide (o ≠ g)) hg (by simp)
    omega
  · obtain ⟨h1, h2⟩ := mem_wo.mp hl
    obtain ⟨x, k1, k2⟩ := b l h1
    exact ⟨x, k1, List.mem_filter.mpr ⟨k2, decide_eq_true fun z => h2 (z ▸ k1)⟩⟩
theorem cut_num {ls : Lots} {l : List Int} (hl : l ∈ ls) {c : Int → Nat} (hc : ∀ g ∈ l, Num (woL ls g) (c g)) {d : Nat} (hd : ∃ g ∈ l, d = 1 + c g) (hm : ∀ g ∈ l, d ≤ 1 + c g) : Num ls d := by
  constructor
  · obtain ⟨g, hg, rfl⟩ := hd
    rw [Nat.add_comm]
    exact can_take (hc g hg).1
  · rintro k hk ⟨gs, a, b⟩
    obtain ⟨g, h1, h2⟩ := b l hl
    have c1 := can_rest h2 a b
    have := hm g h1
    exact (hc g h1).2 (k - 1) (by have : 0 < gs.length := List.length_pos_of_mem h2; omega) c1
def Dis (a b : List Int) : Prop := ∀ g ∈ a, g ∉ b
theorem Dis.symm {a b : List Int} (h : Dis a b) : Dis b a := fun g hb ha => h g ha hb
/-- lots that lie apart stand in a part of the row -/
theorem sub_pack : ∀ {ls cs : Lots}, (∀ c ∈ cs, c ∈ ls ∧ c ≠ []) → cs.Pairwise Dis → ∃ s : Lots, s.Sublist ls ∧ s.Pairwise Dis ∧ s.length = cs.length ∧ ∀ c ∈ s, c ∈ cs
  | [], cs, h, _ => by
    cases cs with
    | nil => exact ⟨[], List.Sublist.refl _, .nil, rfl, fun _ z => z⟩
    | cons c r => exact absurd (h c (List.mem_cons_self ..)).1 (by intro z; cases z)
  | l :: r, cs, h, hp => by
    by_cases hl : l ∈ cs
    · obtain ⟨a, b, rfl⟩ := List.append_of_mem hl
      obtain ⟨p1, p2, p3⟩ := List.pairwise_append.mp hp
      obtain ⟨p4, p5⟩ := List.pairwise_cons.mp p2
      have dis : ∀ c ∈ a ++ b, Dis l c := fun c hc => by
        rcases List.mem_append.mp hc with hc | hc
        · exact (p3 c hc l (List.mem_cons_self ..)).symm
        · exact p4 c hc
      have hsub : (a ++ b).Sublist (a ++ l :: b) := List.Sublist.append (List.Sublist.refl a) (List.sublist_cons_self l b)
      obtain ⟨s, s1, s2, s3, s4⟩ := sub_pack (ls := r) (cs := a ++ b) (fun c hc => by
        obtain ⟨k1, k2⟩ := h c (hsub.subset hc)
        refine ⟨?_, k2⟩
        rcases List.mem_cons.mp k1 with rfl | k1
        · exfalso
          cases c with
          | nil => exact k2 rfl
          | cons x q => exact dis _ hc x (List.mem_cons_self ..) (List.mem_cons_self ..)
        · exact k1) (hp.sublist hsub)
      refine ⟨l :: s, s1.cons_cons l, List.pairwise_cons.mpr ⟨fun c hc => dis c (s4 c hc), s2⟩, ?_, fun c hc => ?_⟩
      · rw [List.length_cons, s3, List.length_append, List.length_append, List.length_cons]
        omega
      · rcases List.mem_cons.mp hc with rfl | hc
        · exact hl
        · exact hsub.subset (s4 c hc)
    · obtain ⟨s, s1, s2, s3, s4⟩ := sub_pack (ls := r) (cs := cs) (fun c hc => by
        obtain ⟨k1, k2⟩ := h c hc
        rcases List.mem_cons.mp k1 with rfl | k1
        · exact absurd hc hl
        · exact ⟨k1, k2⟩) hp
      exact ⟨s, s1.cons l, s2, s3, s4⟩
theorem choose_row {α : Type} {ls : Lots} {R : α → List Int → Prop} {S : α → α → Prop} {T : List Int → List Int → Prop} (st : ∀ q q' l l', S q q' → R q l → R q' l' → T l l') : ∀ {qs : List α}, (∀ q ∈ qs, ∃ l ∈ ls, R q l) → qs.Pairwise S →
    ∃ cs : Lots, cs.length = qs.length ∧ (∀ c ∈ cs, c ∈ ls ∧ ∃ q ∈ qs, R q c) ∧ cs.Pairwise T
  | [], _, _ => ⟨[], rfl, (fun _ z => nomatch z), List.Pairwise.nil⟩
  | q :: r, h, p => by
    obtain ⟨p1, p2⟩ := List.pairwise_cons.mp p
    obtain ⟨l, hl, hr⟩ := h q (List.mem_cons_self ..)
    obtain ⟨cs, c1, c2, c3⟩ := choose_row st (qs := r) (fun x hx => h x (List.mem_cons_of_mem _ hx)) p2
    refine ⟨l :: cs, congrArg Nat.succ c1, fun c hc => ?_, List.pairwise_cons.mpr ⟨fun c hc => ?_, c3⟩⟩
    · rcases List.mem_cons.mp hc with rfl | hc
      · exact ⟨hl, q, List.mem_cons_self .., hr⟩
      · obtain ⟨k1, x, k2, k3⟩ := c2 c hc
        exact ⟨k1, x, List.mem_cons_of_mem _ k2, k3⟩
    · obtain ⟨_, x, k2, k3⟩ := c2 c hc
      exact st q x l c (p1 x k2) hr k3
/-- the lots ls are the arcs ps, one by one -/
def Arcs (m : Int) (ps : List (Int × Int)) (ls : Lots) : Prop := (∀ p ∈ ps, (0 ≤ p.1 ∧ p.1 < m) ∧ 0 ≤ p.2 ∧ p.2 < m) ∧ (∀ p ∈ ps, ∃ l ∈ ls, ∀ x, x ∈ l ↔ InArc m p x) ∧ ∀ l ∈ ls, ∃ p ∈ ps, ∀ x, x ∈ l ↔ InArc m p x
def rotP (m g : Int) (p : Int × Int) : Int × Int := (rot m g p.1, rot m g p.2)
/-- what a cut tells: the fewest of the arcs without g, and as many that lie apart -/
theorem cut_arcs {m g : Int} {ps cs ss : List (Int × Int)} {ls : Lots} (A : Arcs m ps ls) (hg : 0 ≤ g ∧ g < m) (hc : ∀ q, q ∈ cs ↔ ∃ p ∈ ps, ¬ InArc m p g ∧ q = rotP m g p) (hs : ∀ q, q ∈ ss ↔ q ∈ cs) (so : ss.Pairwise fun a b => a.2 ≤ b.2) :
    Num (woL ls g) (gre ss (-1)).length ∧ ∃ ks : Lots, ks.length = (gre ss (-1)).length ∧ (∀ c ∈ ks, c ∈ ls ∧ c ≠ []) ∧ ks.Pairwise Dis := by
  obtain ⟨A1, A2, A3⟩ := A
  have w : ∀ q ∈ cs, 0 ≤ q.1 ∧ q.1 ≤ q.2 := fun q hq => by
    obtain ⟨p, h1, h2, rfl⟩ := (hc q).mp hq
    exact (arc_cut hg (A1 p h1).1 (A1 p h1).2 h2).1
  have inA : ∀ {p : Int × Int} {l : List Int}, (∀ x, x ∈ l ↔ InArc m p x) → ∀ x ∈ l, 0 ≤ x ∧ x < m := fun h x hx => ((h x).mp hx).1
  -- the rotated lots
  have R : Ren (rot m g) (woL ls g) ((woL ls g).map fun l => l.map (rot m g)) := by
    constructor
    · intro l hl
      exact ⟨l.map (rot m g), List.mem_map.mpr ⟨l, hl, rfl⟩, fun x => List.mem_map⟩
    · intro k hk
      obtain ⟨l, hl, rfl⟩ := List.mem_map.mp hk
      exact ⟨l, hl, fun x => List.mem_map⟩
  have back : ∀ l ∈ woL ls g, ∀ y ∈ l, unrot m g (rot m g y) = y := fun l hl y hy => by
    obtain ⟨p, _, h⟩ := A3 l (mem_wo.mp hl).1
    exact unrot_rot hg (inA h y hy)
  have key : ∀ {p : Int × Int}, p ∈ ps → ¬ InArc m p g → ∀ {l : List Int}, (∀ x, x ∈ l ↔ InArc m p x) → ∀ x, x ∈ l.map (rot m g) ↔ (rotP m g p).1 ≤ x ∧ x ≤ (rotP m g p).2 := by
    intro p hp hn l h x
    obtain ⟨⟨c1, c2⟩, c3⟩ := arc_cut hg (A1 p hp).1 (A1 p hp).2 hn
    have r2 := rot_rng hg (A1 p hp).2
    rw [List.mem_map]
    constructor
    · rintro ⟨y, hy, rfl⟩
      have iy := (h y).mp hy
      exact (c3 y iy.1).mp iy
    · rintro ⟨h1, h2⟩
      have h1 : rot m g p.1 ≤ x := h1
      have h2 : x ≤ rot m g p.2 := h2
      have rx : 0 ≤ x ∧ x < m := by omega
      have ur : 0 ≤ unrot m g x ∧ unrot m g x < m := by
        rw [unrot_at hg rx]
        split <;> omega
      refine ⟨unrot m g x, (h _).mpr ((c3 _ ur).mpr ?_), rot_unrot hg rx⟩
      rw [rot_unrot hg rx]
      exact ⟨h1, h2⟩
  have S : Str cs ((woL ls g).map fun l => l.map (rot m g)) := by
    constructor
    · intro q hq
      obtain ⟨p, h1, h2, rfl⟩ := (hc q).mp hq
      obtain ⟨l, hl, h⟩ := A2 p h1
      exact ⟨l.map (rot m g), List.mem_map.mpr ⟨l, mem_wo.mpr ⟨hl, fun z => h2 ((h g).mp z)⟩, rfl⟩, key h1 h2 h⟩
    · intro k hk
      obtain ⟨l, hl, rfl⟩ := List.mem_map.mp hk
      obtain ⟨h1, h2⟩ := mem_wo.mp hl
      obtain ⟨p, hp, h⟩ := A3 l h1
      have hn : ¬ InArc m p g := fun z => h2 ((h g).mpr z)
      exact ⟨rotP m g p, (hc _).mpr ⟨p, hp, hn, rfl⟩, key hp hn h⟩
  have N := str_num hs so w S
  refine ⟨⟨(R.can back _).mpr N.1, fun k hk c => N.2 k hk ((R.can back k).mp c)⟩, ?_⟩
  obtain ⟨ks, k1, k2, k3⟩ := choose_row (ls := ls) (R := fun (q : Int × Int) l => q.1 ≤ q.2 ∧ 0 ≤ q.1 ∧ q.2 < m ∧ ∀ x, 0 ≤ x ∧ x < m → (x ∈ l ↔ q.1 ≤ rot m g x ∧ rot m g x ≤ q.2)) (S := fun a b => a.2 < b.1) (T := fun a b => (∀ x ∈ a, 0 ≤ x ∧ x < m) → Dis a b)
    (fun q q' l l' s r r' ha x hx hx' => by
      have h1 := (r.2.2.2 x (ha x hx)).mp hx
      have h2 := (r'.2.2.2 x (ha x hx)).mp hx'
      omega) (qs := gre ss (-1)) (fun q hq => by
      have hq := (hs q).mp (gre_in hq)
      obtain ⟨p, h1, h2, rfl⟩ := (hc q).mp hq
      obtain ⟨l, hl, h⟩ := A2 p h1
      obtain ⟨⟨c1, c2⟩, c3⟩ := arc_cut hg (A1 p h1).1 (A1 p h1).2 h2
      exact ⟨l, hl, c2, c1, (rot_rng hg (A1 p h1).2).2, fun x hx => (h x).trans (c3 x hx)⟩) (gre_apart fun p h => (w p ((hs p).mp h)).2)
  have low : ∀ c ∈ ks, ∀ x ∈ c, 0 ≤ x ∧ x < m := fun c hc x hx => by
    obtain ⟨p, _, h⟩ := A3 c (k2 c hc).1
    exact inA h x hx
  refine ⟨ks, k1, fun c hc => ⟨(k2 c hc).1, fun e => ?_⟩, ?_⟩
  · obtain ⟨q, _, q1, q2, q3, q4⟩ := (k2 c hc).2
    have rq : 0 ≤ q.1 ∧ q.1 < m := by omega
    have ur : 0 ≤ unrot m g q.1 ∧ unrot m g q.1 < m := by
      rw [unrot_at hg rq]
      split <;> omega
    have := (q4 (unrot m g q.1) ur).mpr (by rw [rot_unrot hg rq]; omega)
    rw [e] at this
    cases this
  · exact List.Pairwise.imp_of_mem (fun {a b} ha _ h => h (low a ha)) k3
/-! ### lots beside one another -/
theorem filter_two (p : Int → Bool) : ∀ t : List Int, (t.filter p).length + (t.filter fun x => !p x).length = t.length
  | [] => rfl
  | x :: r => by
    have ih := filter_two p r
    by_cases h : p x = true
    · rw [List.filter_cons_of_pos h, List.filter_cons_of_neg (by simp [h])]
      simp only [List.length_cons]
      omega
    · rw [List.filter_cons_of_neg h, List.filter_cons_of_pos (by simpa using h)]
      simp only [List.length_cons]
      omega
theorem asc_split (a : Int) : ∀ {t : List Int}, Asc t → t = t.filter (fun x => decide (x < a)) ++ t.filter (fun x => !decide (x < a))
  | [], _ => rfl
  | x :: r, h => by
    obtain ⟨h1, h2⟩ := List.pairwise_cons.mp h
    by_cases c : x < a
    · rw [List.filter_cons_of_pos (p := fun x => decide (x < a)) (decide_eq_true c), List.filter_cons_of_neg (p := fun x => !decide (x < a)) (by simp [c]), List.cons_append, ← asc_split a h2]
    · have none_ : r.filter (fun x => decide (x < a)) = [] := by
        rw [List.filter_eq_nil_iff]
        intro y hy z
        have := h1 y hy
        have := of_decide_eq_true z
        omega
      have all_ : r.filter (fun x => !decide (x < a)) = r := by
        rw [List.filter_eq_self]
        intro y hy
        have := h1 y hy
        simp
        omega
      rw [List.filter_cons_of_neg (p := fun x => decide (x < a)) (by simpa using c), List.filter_cons_of_pos (p := fun x => !decide (x < a)) (by simpa using c), none_, all_]
      rfl
theorem Lt.front {f t : List Int} (h : Lt f t) (u v : List Int) : Lt (f ++ u) (t ++ v) := by
  obtain ⟨p, x, y, r, s, rfl, rfl, h⟩ := h
  exact ⟨p, x, y, r ++ u, s ++ v, by simp, by simp, h⟩
theorem Lt.back {f t : List Int} (h : Lt f t) (u : List Int) : Lt (u ++ f) (u ++ t) := by
  obtain ⟨p, x, y, r, s, rfl, rfl, h⟩ := h
  exact ⟨u ++ p, x, y, r, s, by simp, by simp, h⟩
theorem Lt.plus {f t : List Int} (h : Lt f t) (a : Int) : Lt (f.map (· + a)) (t.map (· + a)) := by
  obtain ⟨p, x, y, r, s, rfl, rfl, h⟩ := h
  exact ⟨p.map (· + a), x + a, y + a, r.map (· + a), s.map (· + a), by simp, by simp, by omega⟩
def movL (a : Int) (ls : Lots) : Lots := ls.map fun l => l.map (· + a)
theorem mov_hit {a : Int} {ls : Lots} {t : List Int} : hitsL (movL a ls) t ↔ hitsL ls (t.map (· - a)) := by
  constructor
  · intro h l hl
    obtain ⟨x, h1, h2⟩ := h _ (List.mem_map.mpr ⟨l, hl, rfl⟩)
    obtain ⟨y, hy, rfl⟩ := List.mem_map.mp h1
    exact ⟨y, hy, List.mem_map.mpr ⟨y + a, h2, by omega⟩⟩
  · intro h k hk
    obtain ⟨l, hl, rfl⟩ := List.mem_map.mp hk
    obtain ⟨x, h1, h2⟩ := h l hl
    obtain ⟨y, hy, rfl⟩ := List.mem_map.mp h2
    exact ⟨y, List.mem_map.mpr ⟨y - a, h1, by omega⟩, hy⟩
theorem first_add {one two : Lots} {a b : Int} {f g : List Int} (a0 : 0 ≤ a) (b0 : 0 ≤ b) (F : First one a f) (G : First two b g) (h1 : ∀ l ∈ one, ∀ x ∈ l, 0 ≤ x ∧ x < a) (h2 : ∀ l ∈ two, ∀ x ∈ l, 0 ≤ x ∧ x < b) : First (one ++ movL a two) (a + b) (f ++ g.map (· + a)) := by
  have s1 : ∀ {t : List Int}, hitsL (one ++ movL a two) t → hitsL one (t.filter fun x => decide (x < a)) := fun {t} h l hl => by
    obtain ⟨x, k1, k2⟩ := h l (List.mem_append_left _ hl)
    exact ⟨x, k1, List.mem_filter.mpr ⟨k2, decide_eq_true (h1 l hl x k1).2⟩⟩
  have s2 : ∀ {t : List Int}, hitsL (one ++ movL a two) t → hitsL two ((t.filter fun x => !decide (x < a)).map (· - a)) := fun {t} h => mov_hit.mp fun k hk => by
    obtain ⟨x, k1, k2⟩ := h k (List.mem_append_right _ hk)
    refine ⟨x, k1, List.mem_filter.mpr ⟨k2, ?_⟩⟩
    obtain ⟨l, hl, rfl⟩ := List.mem_map.mp hk
    obtain ⟨y, hy, rfl⟩ := List.mem_map.mp k1
    have := h2 l hl y hy
    simp
    omega
  have len : ∀ t : List Int, (t.filter fun x => decide (x < a)).length + ((t.filter fun x => !decide (x < a)).map (· - a)).length = t.length := fun t => by
    rw [List.length_map]
    exact filter_two _ t
  refine ⟨?_, ?_, ?_, fun t ht => ?_, fun t ta tl tp th => ?_⟩
  · unfold Asc
    rw [List.pairwise_append]
    refine ⟨F.asc, ?_, fun x hx y hy => ?_⟩
    · rw [List.pairwise_map]
      exact G.asc.imp fun h => by omega
    · obtain ⟨z, hz, rfl⟩ := List.mem_map.mp hy
      have := (F.low x hx).2
      have := (G.low z hz).1
      show x < z + a
      omega
  · intro x hx
    rcases List.mem_append.mp hx with hx | hx
    · have := F.low x hx
      omega
    · obtain ⟨z, hz, rfl⟩ := List.mem_map.mp hx
      have := G.low z hz
      show 0 ≤ z + a ∧ z + a < a + b
      omega
  · intro l hl
    rcases List.mem_append.mp hl with hl | hl
    · obtain ⟨x, k1, k2⟩ := F.hit l hl
      exact ⟨x, k1, List.mem_append_left _ k2⟩
    · have : hitsL (movL a two) (g.map (· + a)) := mov_hit.mpr (by
        have e : (g.map (· + a)).map (· - a) = g := by
          rw [List.map_map]
          have : ((fun x : Int => x - a) ∘ fun x => x + a) = id := by
            funext x
            show x + a - a = x
            omega
          rw [this, List.map_id]
        rw [e]
        exact G.hit)
      obtain ⟨x, k1, k2⟩ := this l hl
      exact ⟨x, k1, List.mem_append_right _ k2⟩
  · have l1 := F.few _ (s1 ht)
    have l2 := G.few _ (s2 ht)
    have := len t
    rw [List.length_append, List.length_map]
    omega
  · have l1 := F.few _ (s1 th)
    have l2 := G.few _ (s2 th)
    have lt := len t
    rw [List.length_append, List.length_map] at tl
    have e := asc_split a ta
    have a1 : Asc (t.filter fun x => decide (x < a)) := ta.sublist List.filter_sublist
    have a2 : Asc ((t.filter fun x => !decide (x < a)).map (· - a)) := by
      unfold Asc
      rw [List.pairwise_map]
      exact (List.Pairwise.sublist List.filter_sublist ta).imp fun h => by omega
    have u : (t.filter fun x => !decide (x < a)) = ((t.filter fun x => !decide (x < a)).map (· - a)).map (· + a) := by
      rw [List.map_map]
      have : ((fun x : Int => x + a) ∘ fun x => x - a) = id := by
        funext x
        show x - a + a = x
        omega
      rw [this, List.map_id]
    rcases F.least _ a1 (by omega) (fun x hx => tp x (List.mem_filter.mp hx).1) (s1 th) with k | k
    · rcases G.least _ a2 (by omega) (fun x hx => by
        obtain ⟨y, hy, rfl⟩ := List.mem_map.mp hx
        have := of_decide_eq_true (show decide (¬ y < a) = true by simpa using (List.mem_filter.mp hy).2)
        show 0 ≤ y - a
        omega) (s2 th) with j | j
      · left
        rw [e, k, u, j]
      · right
        rw [e, k, u]
        exact (j.plus a).back f
    · right
      rw [e]
      exact k.front _ _
end Hm
/-! Trees of gaps: what a tree's dict is asked; the first lot that is left. -/
namespace Lm
open PySem PySem.Spec PyProof.Rows L2
/-- the least of a list of data: one of them -/
def rMinD (K : PySem.W.Frag) : List V → Hp → VK → Prop := fun vs H Q => ∃ (a : Addr) (xs : List V) (d : PyData) (ds : List PyData), vs = [.ref a] ∧ SqL K H a xs ∧ DpAll K H xs (d :: ds) ∧ PySem.W.AlikeAll (d :: ds) ∧ PyData.depthAll (d :: ds) ≤ 8 ∧ ∀ (i : Nat) (v : V), xs[i]? = some v → Q v H
theorem cr_minD {X : Cx} (K : PySem.W.Frag) (hc : X.calm = true) (hu : X.A.units + 64 < cLine) (hK : X.K = K := by rfl) : CallR X (.builtin "min") (rMinD K) := by
  subst hK
  intro pins s σ H vs us Q I r h
  obtain ⟨a, xs, d, ds, rfl, hs, hd, ha, dp, q⟩ := h
  obtain ⟨u, rfl, rx⟩ := vals1 r
  obtain rfl : u = Value.ref a := rx
  obtain ⟨its, rv, hl, hz⟩ := I.list hs
  obtain ⟨as, rd⟩ := Dp.readsAll I (d :: ds) xs its hd rv
  refine PySem.W.min_list_data (I.ok.hd hc) hl.isList (by simpa using rd) ha (by omega) fun i v h' tk bs hv _ hk => ?_
  have hv : its[i]? = some v := by simpa using hv
  have hlen := rv.length
  have hi : i < xs.length := by
    rw [hlen]
    exact (List.getElem?_eq_some_iff.mp hv).1
  obtain ⟨u, hu', ru⟩ := rv.get (List.getElem?_eq_getElem hi)
  rw [hv] at hu'
  cases hu'
  exact ⟨xs[i], H, I.kept (t' := tk) hk, ru, q i _ (List.getElem?_eq_getElem hi)⟩
section
variable {P : Program} {w : World} {K : PySem.W.Frag} {mg : Str → Option Value} {base : Heap}
/-! ### is_tuple_of -/
abbrev sTupOf : Stmt := topS 9
theorem scTupOf : FnScope ["thing", "count"] ["thing", "count"] (defScope sTupOf) := ⟨rfl, rfl, rfl, by decide +kernel, rfl, by decide +kernel, by decide +kernel⟩
def spTupOf : Sp := fun vs H Q _ => ∃ (a : Addr) (xs : List V) (n : Int), vs = [.ref a, .int n] ∧ H a = some (.tup xs) ∧ Q (.bl (decide ((xs.length : Int) = n))) H
theorem ok_tupOf {f : Addr} {fd : FuncData} (F : Fun K "is_tuple_of" "is_tuple_of" sTupOf f fd) (N : Bl mg) : FnOk P w K mg base CX0 1 f fd ["thing", "count"] spTupOf := by
  refine F.ok scTupOf (fun vs H Q E h => ?_) (fun cdv A outer s H vs Q E hr h => ?_)
  · obtain ⟨a, xs, n, rfl, _⟩ := h
    rfl
  · obtain ⟨a, xs, n, rfl, ha, q⟩ := h
    refine ⟨_, pss_one (ps_ret (pe_and (pe_callB call_isi (by rfl) N.bisi (by decide +kernel) (pa_cons (pv 0) (pa_cons (pe_bltn (v := .ty "tuple") (by rfl) N.btup (by decide +kernel) rfl) pa_nil)))
      (pe_one (pe_cmpR op_eq (pe_callB call_len_seq (by rfl) N.blen PySem.boot_len (pa_cons (pv 0) pa_nil)) (pv 1) (nomark _))))), ?_⟩
    exact ⟨_, rfl, .ref a, .ty "tuple", _, _, true, rfl, .ty "tuple", .base (.tup ha), kit_ty (show kitB "tuple" "tuple" = some true by decide +kernel), true, rfl, iteT ⟨_, rfl, a, xs, rfl, .inr (SqT.of ha), _, rfl, rfl, by rw [dec_int]; exact q⟩⟩
/-! ### has_bool, of a number -/
abbrev sHasB : Stmt := topS 11
theorem scHasB : FnScope ["thing", "item"] ["thing"] (defScope sHasB) := ⟨rfl, rfl, rfl, by decide +kernel, rfl, by decide +kernel, by decide +kernel⟩
def spHasB : Sp := fun vs H Q _ => ∃ z : Int, vs = [.int z] ∧ Q (.bl false) H
theorem ok_hasB_no {f : Addr} {fd : FuncData} (F : Fun K "has_bool" "has_bool" sHasB f fd) : FnOk P w K mg base CX0 1 f fd ["thing"] spNo :=
  F.ok scHasB (fun vs H Q E h => h.elim) (fun cdv A outer s H vs Q E hr h => h.elim)
theorem ok_hasB {f : Addr} {fd : FuncData} (F : Fun K "has_bool" "has_bool" sHasB f fd) (N : Bl mg) (GH : Has P w K mg base CX0 1 "has_bool" ["thing"] spNo) : FnOk P w K mg base CX0 3 f fd ["thing"] spHasB := by
  refine F.ok scHasB (fun vs H Q E h => ?_) (fun cdv A outer s H vs Q E hr h => ?_)
  · obtain ⟨z, rfl, _⟩ := h
    rfl
  · obtain ⟨z, rfl, q⟩ := h
    refine ⟨_, pss_cons (ps_if (pt_val (pe_callB call_isi (by rfl) N.bisi (by decide +kernel) (pa_cons (pv 0) (pa_cons (pe_bltn (v := .ty "tuple") (by rfl) N.btup (by decide +kernel) rfl) pa_nil))))
        (pss_one (ps_ret (pe_callB (cr_any rfl) (by rfl) N.bany (by decide +kernel) (pa_cons (pe_lc (own := [("item", 1)]) (g := gName 1) (tt := tYes) rfl scHasB.nd (pi_tupK K (pv 0)) (blkOk_by (own := [("item", 1)]) (N := ["thing", "item"]) (sc := defScope sHasB) (by decide +kernel)) (fun _ _ _ _ _ => pg_name (i := 1) scHasB.nd rfl (Or.inl rfl))
          (fun _ _ _ _ _ => pts_nil) (fun _ _ _ _ _ => pe_h GH (hr.mono (by decide : 1 ≤ 2)) (by decide) (by rfl) pass0 (pa_cons (pv 1) pa_nil))) pa_nil)))) pss_nil)
      (pss_one (ps_ret (pe_callB call_isi (by rfl) N.bisi (by decide +kernel) (pa_cons (pv 0) (pa_cons (pe_bltn (v := .ty "bool") (by rfl) N.bbool (by decide +kernel) rfl) pa_nil))))), ?_⟩
    exact ⟨_, rfl, .int z, .ty "tuple", _, _, false, rfl, .ty "tuple", .base (.int z), kit_ty (show kitB "int" "tuple" = some false by decide +kernel), false, rfl, iteF ⟨_, rfl, .int z, .ty "bool", _, _, false, rfl, .ty "bool", .base (.int z), kit_ty (show kitB "int" "bool" = some false by decide +kernel), q⟩⟩
/-! ### has_just_keys, of a dict whose keys are the gaps of a lot -/
theorem upd_eqself {H : Hp} {a : Addr} {o : HO} (h : H a = some o) : upd H a o = H := by
  funext b
  unfold upd
  by_cases e : b = a
  · subst e; rw [if_pos rfl, h]
  · rw [if_neg e]
/-- a dict with just these gaps as keys -/
def KeysAre (kvs : List (Key × V)) (l : List Int) : Prop := kvs.map (·.1) = l.map Sum.inl
theorem keys_val {l : List Int} : ∀ {kvs : List (Key × V)}, KeysAre kvs l → ∀ g ∈ l, (valV kvs (.inl g)).isSome = true := by
  induction l with
  | nil => intro kvs _ g hg; cases hg
  | cons a r ih =>
    intro kvs h g hg
    cases kvs with
    | nil => cases h
    | cons p q =>
      unfold KeysAre at h
      rw [List.map_cons, List.map_cons] at h
      injection h with h1 h2
      by_cases e : p.1 = .inl g
      · rw [valV_pos e]
        rfl
      · rw [valV_neg e]
        rcases List.mem_cons.mp hg with rfl | hg
        · exact absurd h1 e
        · exact ih h2 g hg
abbrev sJust : Stmt := topS 12
def nJust : List Str := ["thing", "keys", "key"]
theorem scJust : FnScope nJust ["thing", "keys"] (defScope sJust) := ⟨rfl, rfl, rfl, by decide +kernel, rfl, by decide +kernel, by decide +kernel⟩
def spJust : Sp := fun vs H Q _ => ∃ (d a : Addr) (kvs : List (Key × V)) (l : List Int), vs = [.ref d, .ref a] ∧ H d = some (.dK kvs) ∧ H a = some (.tup (l.map V.int)) ∧ KeysAre kvs l ∧ l.length ≤ 1000 ∧ Q (.bl true) H
theorem ok_just {f : Addr} {fd : FuncData} (F : Fun K "has_just_keys" "has_just_keys" sJust f fd) (N : Bl mg) (GH : Has P w K mg base CX0 3 "has_bool" ["thing"] spHasB) (hdict : mg "dict" = none) : FnOk P w K mg base CX0 4 f fd ["thing", "keys"] spJust := by
  refine F.ok scJust (fun vs H Q E h => ?_) (fun cdv A outer s H vs Q E hr h => ?_)
  · obtain ⟨d, a, kvs, l, rfl, _⟩ := h
    rfl
  · obtain ⟨d, a, kvs, l, rfl, hd, ha, hk, hl, q⟩ := h
    have hu := hu_of hr
    refine ⟨_, pss_cons (ps_if (pw_or (pt_not (pt_val (pe_callB call_isi (by rfl) N.bisi (by decide +kernel) (pa_cons (pv 0) (pa_cons (pe_bltn (v := .ty "dict") (by rfl) hdict (by decide +kernel) rfl) pa_nil)))))
          (pw_or1 (pt_cmpR op_ne (pe_callB call_lenD (by rfl) N.blen PySem.boot_len (pa_cons (pv 0) pa_nil)) (pe_callB call_len_seq (by rfl) N.blen PySem.boot_len (pa_cons (pv 1) pa_nil)) (nomark _)))).pt (pss_one (ps_ret pe_bl)) pss_nil)
      (pss_cons (ps_lock (ps_for PassesOwn.never rfl (pi_keys (pv 0)) (pg_name (i := 2) scJust.nd rfl (.inl rfl)) (pss_one (ps_if (pt_val (pe_h GH hr (by decide) (by rfl) pass0 (pa_cons (pv 2) pa_nil))) (pss_one (ps_ret pe_bl)) pss_nil))))
      (pss_cons (ps_for PassesOwn.never rfl (pi_tup (pv 1)) (pg_name (i := 2) scJust.nd rfl (.inl rfl)) (pss_one (ps_if (pt_cmp (pc_dnotin hu (pv 2) (pv 0)) (by rfl)) (pss_one (ps_ret pe_bl)) pss_nil)))
      (pss_one (ps_ret pe_bl)))), ?_⟩
    have len : kvs.length = l.length := by
      have := congrArg List.length hk
      simpa using this
    refine ⟨_, rfl, .ref d, .ty "dict", _, _, true, rfl, .ty "dict", .base (.dK hd), kit_ty (show kitB "dict" "dict" = some true by decide +kernel), true, rfl, ?_⟩
    refine iteF ⟨_, rfl, d, kvs, rfl, hd, _, rfl, a, _, rfl, .inr (SqT.of ha), rfl, ?_⟩
    have e1 : (V.int (kvs.length : Int)) = V.int ((l.map V.int).length : Int) := by rw [List.length_map, len]
    refine ⟨_, rfl, ?_⟩
    rw [decide_eq_true e1]
    refine iteF ?_
    refine ⟨d, _, hd, trivial, fun od => ?_⟩
    have ups : upd (upd H d (.frz od (.dK kvs))) d (.dK kvs) = H := by rw [upd_upd]; exact upd_eqself hd
    refine ⟨_, rfl, d, od, rfl, .inl ⟨kvs, upd_same, for_it walk_keys (fun i σ H' => H' = upd H d (.frz od (.dK kvs)) ∧ ∃ x1, σ = [some (.ref d), some (.ref a), x1]) ⟨rfl, _, rfl⟩ (fun i σ H' _ h => by rw [h.1]; exact upd_same) ?_ ?_⟩⟩
    · rintro i x σ H1 H2 hi ⟨rfl, x1, rfl⟩ ⟨rfl, k, v, hkv, rfl⟩
      have h1 : (kvs.map (·.1))[i]? = some k := by rw [List.getElem?_map, hkv]; rfl
      rw [hk, List.getElem?_map] at h1
      obtain ⟨z, hz, rfl⟩ : ∃ z, l[i]? = some z ∧ Sum.inl z = k := by
        cases hzz : l[i]? with
        | none => rw [hzz] at h1; cases h1
        | some z => rw [hzz] at h1; exact ⟨z, rfl, by injection h1⟩
      exact ⟨_, rfl, z, rfl, _, rfl, iteF ⟨rfl, _, rfl⟩⟩
    · rintro σ H' ⟨rfl, x1, rfl⟩
      refine ⟨upd_same, ?_⟩
      rw [ups]
      refine ⟨_, rfl, a, rfl, ⟨_, SqT.of ha⟩, for_tup (xs := l.map V.int) (fun i σ H' => H' = H ∧ ∃ x1, σ = [some (.ref d), some (.ref a), x1]) ⟨rfl, _, rfl⟩ (fun i σ H' _ h => by rw [h.1]; exact SqT.of ha) ?_ ?_⟩
      · rintro i x σ H' hx ⟨rfl, x1, rfl⟩
        obtain ⟨z, hz, rfl⟩ := int_at hx
        have := keys_val hk z (List.mem_of_getElem? hz)
        refine ⟨_, rfl, _, rfl, d, _, rfl, .inl ⟨kvs, .inl z, .inl hd, rfl, rfl⟩, _, rfl, ?_⟩
        rw [this]
        exact iteF ⟨rfl, _, rfl⟩
      · rintro σ H' ⟨rfl, x1, rfl⟩
        exact q
end
end Lm
namespace Lm
open PySem PySem.Spec PyProof.Rows L2
section
variable {P : Program} {w : World} {K : PySem.W.Frag} {mg : Str → Option Value} {base : Heap}
/-! ### mixed -/
abbrev sMixed : Stmt := topS 34
theorem scMixed : FnScope ["state", "found", "turn", "prime", "blend", "cell"] ["state"] (defScope sMixed) := ⟨rfl, rfl, rfl, by decide +kernel, rfl, by decide +kernel, by decide +kernel⟩
def spMixed : Sp := fun vs H Q _ => ∃ (D : DrA) (n : Nat), vs = [.ref D.d] ∧ DrawAt D n H ∧ n + 1 ≤ B ∧
  ∀ H' z, DrawAt D (n + 1) H' → Fr D H H' → Q (.int z) H'
theorem ok_mixed {f : Addr} {fd : FuncData} (F : Fun K "_law_mixed_up" "_law_mixed_up" sMixed f fd) (N : Bl mg) : FnOk P w K mg base CX0 1 f fd ["state"] spMixed := by
  refine F.ok scMixed (fun vs H Q E h => ?_) (fun cdv A outer s H vs Q E hr h => ?_)
  · obtain ⟨D, n, rfl, _⟩ := h
    rfl
  · obtain ⟨D, n, rfl, ⟨ws, cs, r, t, h1, h2, h3, h4, h5, h6⟩, hn, q⟩ := h
    have hu := hu_of hr
    have mi := N.bint
    refine ⟨_, pss_cons (ps_dput hu (pv 0) pe_str (pe_op op_add (pe_dget hu (pv 0) pe_str (fun _ _ => rfl)) pe_int) rfl)
      (pss_cons (ps_par (i := 1) (j := 2) rfl scMixed.nd rfl rfl (by decide) rfl rfl (pa_cons pe_int (pa_cons (pe_dget hu (pv 0) pe_str (fun _ _ => rfl)) pa_nil)) rfl)
      (pss_cons (ps_for PassesOwn.never rfl (pi_list (pe_lst (pa_cons pe_int (pa_cons pe_int (pa_cons pe_int (pa_cons pe_int (pa_cons pe_int (pa_cons pe_int pa_nil)))))))) (pg_name (i := 3) scMixed.nd rfl (.inl rfl))
        (pss_cons (ps_set (i := 4) scMixed.nd rfl (.inl rfl) (pe_op op_add (pe_op op_mul pe_int (pv 2)) (pe_op op_fdiv (pv 3) pe_int)))
        (pss_cons (ps_for PassesOwn.never rfl (pi_list (pe_dget hu (pv 0) pe_str (fun _ _ => rfl))) (pg_name (i := 5) scMixed.nd rfl (.inl rfl))
          (pss_one (ps_set (i := 4) scMixed.nd rfl (.inl rfl) (pe_op op_mod (pe_callTy call_int1 (by rfl) mi (by decide +kernel) (pa_cons (pe_op op_add (pe_op op_mul (pv 4) pe_int) (pv 5)) pa_nil)) (pv 3)))))
        (pss_one (ps_set (i := 1) scMixed.nd rfl (.inl rfl) (pe_op op_add (pe_op op_mul (pv 1) pe_int) (pe_op op_mod (pe_callTy call_int1 (by rfl) mi (by decide +kernel) (pa_cons (pe_op op_pow (pv 4) pe_int) pa_nil)) (pv 3))))))))
      (pss_one (ps_ret (pv 1))))), ?_⟩
    refine ⟨_, rfl, D.d, _, rfl, DGet.k (k := .inr "turn") h1, _, _, rfl, rfl, _, rfl, D.d, _, rfl, DPut.k (k := .inr "turn") h1 (by show 4 < sizeLine; decide), ?_⟩
    rw [drF_putT]
    have h1' : (upd H D.d (.dK (drF D r (t + 1)))) D.d = some (.dK (drF D r (t + 1))) := upd_same
    have ewd : D.w ≠ D.d := ne_of h2 h1 (fun z => by cases z)
    have ecd : D.c ≠ D.d := ne_of h3 h1 (fun z => by cases z)
    have h2' : (upd H D.d (.dK (drF D r (t + 1)))) D.w = some (.lst (ws.map V.int)) := by rw [upd_ne ewd]; exact h2
    have h3' : (upd H D.d (.dK (drF D r (t + 1)))) D.c = some (.lst (cs.map V.int)) := by rw [upd_ne ecd]; exact h3
    have fr1 : Fr D H (upd H D.d (.dK (drF D r (t + 1)))) := fun b o e n1 n2 => by rw [upd_ne n1]; exact e
    generalize upd H D.d (.dK (drF D r (t + 1))) = H1 at *
    refine ⟨_, rfl, D.d, _, rfl, DGet.k (k := .inr "turn") h1', _, _, rfl, by show 6 ≤ sizeLine; decide, fun p np => ?_⟩
    have s2 : Same H1 (upd H1 p (.lst [.int 2147483629, .int 2147483587, .int 2147483579, .int 2147483563, .int 2147483549, .int 2147483543])) := same_upd np
    have hp : (upd H1 p (.lst [.int 2147483629, .int 2147483587, .int 2147483579, .int 2147483563, .int 2147483549, .int 2147483543])) p = some _ := upd_same
    have k1 := s2 _ _ h1'
    have k2 := s2 _ _ h2'
    have k3 := s2 _ _ h3'
    generalize upd H1 p (.lst [.int 2147483629, .int 2147483587, .int 2147483579, .int 2147483563, .int 2147483549, .int 2147483543]) = H2 at *
    refine ⟨p, rfl, ⟨_, .inl (.inl hp)⟩, for_list (K := K) (a := p) (xs := [.int 2147483629, .int 2147483587, .int 2147483579, .int 2147483563, .int 2147483549, .int 2147483543])
      (fun i σ H' => H' = H2 ∧ ∃ fo x3 x4 x5, σ = [some (.ref D.d), some (.int fo), some (.int (t + 1)), x3, x4, x5]) ⟨rfl, _, _, _, _, rfl⟩ (fun i σ H' _ h => by rw [h.1]; exact .inl (.inl hp)) ?_ ?_⟩
    · rintro i x σ H' hx ⟨rfl, fo, x3, x4, x5, rfl⟩
      obtain ⟨pr, rfl, p0, p1⟩ : ∃ pr : Int, x = .int pr ∧ 0 < pr ∧ pr < 2 ^ 31 := by
        match i, hx with
        | 0, hx => cases hx; exact ⟨_, rfl, by decide, by decide⟩
        | 1, hx => cases hx; exact ⟨_, rfl, by decide, by decide⟩
        | 2, hx => cases hx; exact ⟨_, rfl, by decide, by decide⟩
        | 3, hx => cases hx; exact ⟨_, rfl, by decide, by decide⟩
        | 4, hx => cases hx; exact ⟨_, rfl, by decide, by decide⟩
        | 5, hx => cases hx; exact ⟨_, rfl, by decide, by decide⟩
        | i + 6, hx => simp at hx
      refine ⟨_, rfl, _, _, rfl, rfl, .inl (by constructor <;> decide), _, rfl, _, _, rfl, rfl, (by constructor <;> decide), _, _, rfl, rfl, ?_⟩
      refine ⟨_, rfl, D.d, _, rfl, DGet.k (k := .inr "cells") k1, ?_⟩
      refine ⟨D.c, rfl, ⟨_, .inl (.inl k3)⟩, for_list (K := K) (a := D.c) (xs := cs.map V.int)
        (fun i σ H'' => H'' = H' ∧ ∃ bl x5, σ = [some (.ref D.d), some (.int fo), some (.int (t + 1)), some (.int pr), some (.int bl), x5] ∧ 0 ≤ bl ∧ bl < 2 ^ 63) ⟨rfl, _, _, rfl, ?_, ?_⟩ (fun i σ H' _ h => by rw [h.1]; exact .inl (.inl k3)) ?_ ?_⟩
      · omega
      · unfold B at hn; omega
      · rintro j y σ H'' hy ⟨rfl, bl, x5, rfl, b0, b1⟩
        obtain ⟨g, _, rfl⟩ := int_at hy
        refine ⟨_, rfl, _, _, rfl, rfl, .inr (by constructor <;> decide), _, rfl, _, _, rfl, rfl, .inl ⟨_, rfl, _, rfl, _, _, rfl, rfl, p0, rfl, _, _, rfl, ?_, ?_⟩⟩
        · exact Int.emod_nonneg _ (by omega)
        · have := Int.emod_lt_of_pos (bl * 48271 + g) p0
          omega
      · rintro σ H'' ⟨rfl, bl, x5, rfl, b0, b1⟩
        refine ⟨_, rfl, _, _, rfl, rfl, .inr (by constructor <;> decide), _, rfl, _, _, rfl, rfl, ⟨by decide, by decide, by omega⟩, .inl ⟨_, rfl, _, rfl, _, _, rfl, rfl, p0, _, _, rfl, rfl, rfl, _, _, _, _, rfl⟩⟩
    · rintro σ H' ⟨rfl, fo, x3, x4, x5, rfl⟩
      refine ⟨_, rfl, q _ _ ⟨ws, cs, r, t + 1, k1, k2, k3, h4, by omega, by omega⟩ (fr1.trans (.of s2))⟩
/-! ### take -/
abbrev sTake : Stmt := topS 35
theorem scTake : FnScope ["state", "size_here", "found"] ["state", "size_here"] (defScope sTake) := ⟨rfl, rfl, rfl, by decide +kernel, rfl, by decide +kernel, by decide +kernel⟩
def spTake : Sp := fun vs H Q _ => ∃ (D : DrA) (n : Nat) (z : Int), vs = [.ref D.d, .int z] ∧ DrawAt D n H ∧ n + 1 ≤ B ∧ 0 < z ∧ z < 1073741824 ∧
  ∀ H' v, DrawAt D (n + 1) H' → Fr D H H' → 0 ≤ v → v < z → Q (.int v) H'
theorem ok_take {f : Addr} {fd : FuncData} (F : Fun K "_law_draw" "_law_draw" sTake f fd) (N : Bl mg) (GM : Has P w K mg base CX0 1 "_law_mixed_up" ["state"] spMixed) : FnOk P w K mg base CX0 2 f fd ["state", "size_here"] spTake := by
  refine F.ok scTake (fun vs H Q E h => ?_) (fun cdv A outer s H vs Q E hr h => ?_)
  · obtain ⟨D, n, z, rfl, _⟩ := h
    rfl
  · obtain ⟨D, n, z, rfl, h, hn, z0, z1, q⟩ := h
    have hu := hu_of hr
    have hu64 : (A.deeper (envOfC "_law_draw" (defScope sTake) s.heap.objs.size f cdv)).units + 64 < cLine := by
      have := hr.un
      omega
    refine ⟨_, C8.pss_cut (ps_if (pt_cmpR op_eq (pe_dget hu (pv 0) pe_str (fun _ _ => rfl)) pe_int (nomark _))
        (pss_one (ps_dput hu (pv 0) pe_str (pe_ifExp (pt_cmpR (op_neD hu64) (pe_dget hu (pv 0) pe_str (fun _ _ => rfl)) (pe_lst pa_nil) (nomark _))
          (pe_bm PySem.F.plainAttrs_list PySem.F.slot_list_pop PySem.F.type_list_pop mt_popAt (pe_dget hu (pv 0) pe_str (fun _ _ => rfl)) (pa_cons pe_int pa_nil))
          (pe_h GM hr (by decide) (by rfl) pass0 (pa_cons (pv 0) pa_nil))) rfl)) pss_nil)
      (pss_cons (ps_set (i := 2) scTake.nd rfl (.inl rfl) (pe_op op_mod (pe_callTy call_int1 (by rfl) N.bint (by decide +kernel) (pa_cons (pe_dget hu (pv 0) pe_str (fun _ _ => rfl)) pa_nil)) (pv 1)))
      (pss_cons (ps_dput hu (pv 0) pe_str (pe_op op_fdiv (pe_dget hu (pv 0) pe_str (fun _ _ => rfl)) (pv 1)) rfl)
      (pss_one (ps_ret (pv 2))))), ?_⟩
    refine ⟨fun σ H1 => σ = [some (.ref D.d), some (.int z), none] ∧ DrawAt D (n + 1) H1 ∧ Fr D H H1, ?_, ?_⟩
    · obtain ⟨ws, cs, r, t, h1, h2, h3, h4, h5, h6⟩ := id h
      refine ⟨_, rfl, D.d, _, rfl, DGet.k (k := .inr "rest") h1, rfl, _, rfl, ite2 (fun e => ?_) (fun e => ?_)⟩
      · -- draw['wide'] != []
        refine ⟨_, rfl, D.d, _, rfl, DGet.k (k := .inr "wide") h1, Nat.zero_le _, fun p np => ?_⟩
        have s1 : Same H (upd H p (.lst [])) := same_upd np
        have d1 : DrawAt D n (upd H p (.lst [])) := h.new np
        have hp : (upd H p (.lst [])) p = some (.lst []) := upd_same
        have k1 := s1 _ _ h1
        have k2 := s1 _ _ h2
        have k3 := s1 _ _ h3
        generalize upd H p (.lst []) = H1 at *
        refine ⟨.list (ws.map .int), .list [], .lst (SqL.of k2) (dp_ints ws), .lst (SqL.of hp) .nil, shaped_ints ws, by decide +kernel, _, rfl, ?_⟩
        cases ws with
        | nil =>
          refine iteF ?_
          refine ⟨_, rfl, D, n, rfl, d1, hn, fun H2 v d2 f2 => ?_⟩
          obtain ⟨ws', cs', r', t', g1, g2, g3, g4, g5, g6⟩ := d2
          refine ⟨_, rfl, D.d, _, rfl, DPut.k (k := .inr "rest") g1 (by show 4 < sizeLine; decide), rfl, ?_, ?_⟩
          · rw [drF_putR]
            exact ⟨ws', cs', v, t', upd_same, by rw [upd_ne (ne_of g2 g1 (fun z => by cases z))]; exact g2, by rw [upd_ne (ne_of g3 g1 (fun z => by cases z))]; exact g3, g4, g5, g6⟩
          · intro b o eb n1 n2
            rw [upd_ne n1]
            exact f2 b o (s1 b o eb) n1 n2
        | cons y ys =>
          refine iteT ?_
          refine ⟨_, rfl, D.d, _, rfl, DGet.k (k := .inr "wide") k1, .inl ⟨rfl, _, .inl (.inl k2)⟩, D.w, _, 0, 0, .int y, rfl, rfl, k2, by decide, by decide, by simp [seqIndex?], rfl, ?_⟩
          have ewd : D.w ≠ D.d := ne_of k2 k1 (fun z => by cases z)
          have k1' : (upd H1 D.w (.lst (ys.map V.int))) D.d = some (.dK (drF D r t)) := by rw [upd_ne ewd.symm]; exact k1
          refine ⟨_, rfl, D.d, _, rfl, DPut.k (k := .inr "rest") k1' (by show 4 < sizeLine; decide), rfl, ?_, ?_⟩
          · rw [drF_putR]
            refine ⟨ys, cs, y, t, upd_same, ?_, ?_, h4, h5, by omega⟩
            · rw [upd_ne ewd]
              exact upd_same
            · rw [upd_ne (ne_of k3 k1 (fun z => by cases z)), upd_ne h4.2]
              exact k3
          · intro b o eb n1 n2
            rw [upd_ne n1, upd_ne n2]
            exact s1 b o eb
      · exact ⟨rfl, h.mono (by omega), Fr.refl D H⟩
    · rintro σ H1 ⟨rfl, ⟨ws, cs, r, t, h1, h2, h3, h4, h5, h6⟩, f1⟩
      refine ⟨_, rfl, D.d, _, rfl, DGet.k (k := .inr "rest") h1, .inl ⟨_, rfl, _, rfl, _, _, rfl, rfl, z0, ?_⟩⟩
      refine ⟨_, rfl, D.d, _, rfl, DGet.k (k := .inr "rest") h1, _, rfl, _, _, rfl, rfl, ⟨z0, z1⟩, _, rfl, D.d, _, rfl, DPut.k (k := .inr "rest") h1 (by show 4 < sizeLine; decide), ?_⟩
      rw [drF_putR]
      refine ⟨_, rfl, q _ _ ⟨ws, cs, _, t, upd_same, by rw [upd_ne (ne_of h2 h1 (fun z => by cases z))]; exact h2, by rw [upd_ne (ne_of h3 h1 (fun z => by cases z))]; exact h3, h4, h5, h6⟩ ?_ ?_ ?_⟩
      · intro b o eb n1 n2
        rw [upd_ne n1]
        exact f1 b o eb n1 n2
      · exact Int.emod_nonneg _ (by omega)
      · exact Int.emod_lt_of_pos _ z0
/-! ### _law_begun -/
abbrev sBegun : Stmt := topS 33
theorem scBegun : FnScope ["script", "wide", "cell"] ["script"] (defScope sBegun) := ⟨rfl, rfl, rfl, by decide +kernel, rfl, by decide +kernel, by decide +kernel⟩
def spBegun (K : PySem.W.Frag) : Sp := fun vs H Q _ => ∃ (a : Addr) (ns : List Int), vs = [.ref a] ∧ SqL K H a (ns.map V.int) ∧ ns.length ≤ 63 ∧
  ∀ (H' : Hp) (D : DrA), Same H H' → DrawAt D 0 H' → H D.d = none → H D.w = none → Q (.ref D.d) H'
theorem ok_begun {f : Addr} {fd : FuncData} (F : Fun K "_law_begun" "_law_begun" sBegun f fd) (N : Bl mg) : FnOk P w K mg base CX0 1 f fd ["script"] (spBegun K) := by
  refine F.ok scBegun (fun vs H Q E h => ?_) (fun cdv A outer s H vs Q E hr h => ?_)
  · obtain ⟨a, ns, rfl, _⟩ := h
    rfl
  · obtain ⟨a, ns, rfl, hS, hl, q⟩ := h
    refine ⟨_, pss_cons (ps_setLc (i := 1) (own := [("cell", 2)]) (g := gName 2) (by rfl) scBegun.nd rfl rfl (sw_true rfl rfl rfl (by decide +kernel)) (pi_list (pv 0))
        (blkOk_by (own := [("cell", 2)]) (N := ["script", "wide", "cell"]) (sc := defScope sBegun) (by decide +kernel)) (fun _ _ _ _ _ => pg_name (i := 2) scBegun.nd rfl (Or.inl rfl))
        (fun _ _ _ _ _ => pts_one (pt_cmpR op_ge (pe_callB call_abs (by rfl) N.babs (by decide +kernel) (pa_cons (pv 2) pa_nil)) (pe_op op_pow pe_int pe_int) (nomark _)))
        (fun _ _ _ _ _ => pe_op op_sub (pe_callB call_abs (by rfl) N.babs (by decide +kernel) (pa_cons (pv 2) pa_nil)) (pe_op op_pow pe_int pe_int)))
      (pss_one (ps_ret (pe_disp (pps_cons pe_str (pv 1) (pps_cons pe_str (pe_lc (own := [("cell", 2)]) (g := gName 2) (tt := tYes) rfl scBegun.nd (pi_list (pv 0))
          (blkOk_by (own := [("cell", 2)]) (N := ["script", "wide", "cell"]) (sc := defScope sBegun) (by decide +kernel)) (fun _ _ _ _ _ => pg_name (i := 2) scBegun.nd rfl (Or.inl rfl)) (fun _ _ _ _ _ => pts_nil)
          (fun _ _ _ _ _ => pe_op op_mod (pe_callTy call_int1 (by rfl) N.bint (by decide +kernel) (pa_cons (pe_callB call_abs (by rfl) N.babs (by decide +kernel) (pa_cons (pv 2) pa_nil)) pa_nil)) pe_int))
        (pps_cons pe_str pe_int (pps_cons pe_str pe_int pps_nil)))) (by rfl) (by rfl) (fun z => by cases z) (by decide)))), ?_⟩
    refine ⟨.ref a, rfl, a, rfl, ⟨_, hS⟩, fun W nW => lc_list (K := K) (a := a) (xs := ns.map V.int)
      (fun i H' => Same H H' ∧ ∃ acc : List Int, H' W = some (.lst (acc.map V.int)) ∧ acc.length ≤ i) ⟨same_upd nW, [], upd_same, Nat.zero_le _⟩ (fun i H' _ h => h.1.seq hS) ?_ ?_⟩
    · rintro i x H' hx ⟨sm, acc, hW, hi⟩
      obtain ⟨z, _, rfl⟩ := int_at hx
      refine ⟨rfl, _, rfl, z, rfl, _, _, rfl, rfl, ⟨by decide, by decide, by decide⟩, _, _, rfl, rfl, _, rfl, ite2 (fun c => ?_) (fun c => ?_)⟩
      · refine ⟨_, rfl, z, rfl, _, _, rfl, rfl, ⟨by decide, by decide, by decide⟩, _, _, rfl, rfl, acc.map V.int, hW, ?_, same_put sm nW, acc ++ [(if z < 0 then -z else z) - 10 ^ Int.toNat 18], ?_, ?_⟩
        · rw [List.length_map]
          have hi' : i < (ns.map V.int).length := (List.getElem?_eq_some_iff.mp hx).1
          rw [List.length_map] at hi'
          exact small1000 (by omega)
        · rw [List.map_append]
          exact upd_same
        · rw [List.length_append]
          exact Nat.add_le_add_right hi 1
      · exact ⟨sm, acc, hW, by omega⟩
    · rintro H1 ⟨sm, acc, hW, hi⟩
      intro p np
      have hpW : p ≠ W := fun z => by rw [z, hW] at np; cases np
      refine ⟨.ref W, rfl, .ref a, rfl, a, rfl, ⟨_, (sm.trans (same_upd np)).seq hS⟩, fun C nC => lc_list (K := K) (a := a) (xs := ns.map V.int)
        (fun i H' => Same (upd H1 p (.dK [])) H' ∧ ∃ acc : List Int, H' C = some (.lst (acc.map V.int)) ∧ acc.length ≤ i ∧ ∀ x ∈ acc, 0 ≤ x ∧ x < 2147483629) ⟨same_upd nC, [], upd_same, Nat.zero_le _, (fun x hx => by cases hx)⟩ (fun i H' _ h => (sm.trans ((same_upd np).trans h.1)).seq hS) ?_ ?_⟩
      · rintro i x H' hx ⟨sm2, acc2, hC, hi2, hb⟩
        obtain ⟨z, _, rfl⟩ := int_at hx
        refine ⟨rfl, _, rfl, z, rfl, .inl ⟨_, rfl, _, _, rfl, rfl, (by show (0 : Int) < 2147483629; decide), acc2.map V.int, hC, ?_, same_put sm2 nC, acc2 ++ [(if z < 0 then -z else z) % 2147483629], ?_, ?_, ?_⟩⟩
        · rw [List.length_map]
          have hi' : i < (ns.map V.int).length := (List.getElem?_eq_some_iff.mp hx).1
          rw [List.length_map] at hi'
          exact small1000 (by omega)
        · rw [List.map_append]
          exact upd_same
        · rw [List.length_append]
          exact Nat.add_le_add_right hi2 1
        · intro x hx
          rcases List.mem_append.mp hx with hx | hx
          · exact hb x hx
          · rw [List.mem_singleton.mp hx]
            exact ⟨Int.emod_nonneg _ (by decide), Int.emod_lt_of_pos _ (by decide)⟩
      · rintro H2 ⟨sm2, acc2, hC, hi2, hb⟩
        have hp : H2 p = some (.dK []) := sm2 _ _ upd_same
        have hW2 : H2 W = some (.lst (acc.map V.int)) := sm2 _ _ (by rw [upd_ne hpW.symm]; exact hW)
        refine ⟨hp, drF ⟨p, W, C⟩ 0 0, rfl, (by show 4 ≤ 15; decide), ?_⟩
        have e : mergeK [] (drF ⟨p, W, C⟩ 0 0) = drF ⟨p, W, C⟩ 0 0 := rfl
        rw [e]
        have nCW : C ≠ W := by
          intro z
          rw [z, upd_ne hpW.symm, hW] at nC
          cases nC
        have nCp : C ≠ p := by
          intro z
          rw [z, upd_same] at nC
          cases nC
        have np0 : H p = none := by
          cases e : H p with
          | none => rfl
          | some o => rw [sm _ _ e] at np; cases np
        refine q _ ⟨p, W, C⟩ ?_ ⟨acc, acc2, 0, 0, upd_same, ?_, ?_, ⟨hb, nCW⟩, by decide, by decide⟩ np0 nW
        · exact same_put (sm.trans ((same_upd np).trans sm2)) np0
        · rw [upd_ne hpW.symm]
          exact hW2
        · rw [upd_ne nCp]
          exact hC
end
end Lm
namespace Lm
open PySem PySem.Spec PyProof.Rows L2
/-! ### lots as data -/
theorem dp_lot {K : PySem.W.Frag} {H : Hp} {v : V} {l : List Int} (h : LotAt H v l) : Dp K H v (lotD l) := by
  obtain ⟨a, rfl, h⟩ := h
  exact .tup (SqT.of h) (dp_ints l)
theorem dp_lots {K : PySem.W.Frag} {H : Hp} : ∀ {vs : List V} {ls : Hm.Lots}, LsAt H vs ls → DpAll K H vs (ls.map lotD)
  | _, _, .nil => .nil
  | _, _, .cons h t => .cons (dp_lot h) (dp_lots t)
theorem canLay_lots : ∀ ls : Hm.Lots, PyData.canLayAll0 (ls.map lotD) = true
  | [] => by simp [PyData.canLayAll0]
  | l :: r => by
    have h1 : PyData.canLayAll0 (l.map PyData.int) = true := by
      induction l with
      | nil => simp [PyData.canLayAll0]
      | cons n r ih => simp [PyData.canLayAll0, PyData.canLay0, ih]
    simp [PyData.canLayAll0, PyData.canLay0, lotD, h1, canLay_lots r]
theorem depth_lots : ∀ ls : Hm.Lots, PyData.depthAll (ls.map lotD) ≤ 2
  | [] => by simp [PyData.depthAll]
  | l :: r => by
    have h2 : PyData.depthAll (l.map PyData.int) ≤ 1 := by
      induction l with
      | nil => simp [PyData.depthAll]
      | cons n r ih =>
        simp [PyData.depthAll, PyData.depth]
        omega
    have ih := depth_lots r
    simp [PyData.depthAll, PyData.depth, lotD]
    omega
theorem shaped_lots (ls : Hm.Lots) : SeqAt.shaped (.list (ls.map lotD)) = true := by
  have h1 := canLay_lots ls
  have h2 := depth_lots ls
  unfold SeqAt.shaped
  simp [PyData.canLay0, PyData.depth, h1]
  omega
theorem shaped_lot (l : List Int) : SeqAt.shaped (lotD l) = true := by
  have h1 := canLay_lots [l]
  have h2 := depth_lots [l]
  simp [PyData.canLayAll0, PyData.depthAll] at h1 h2
  unfold SeqAt.shaped
  rw [h1]
  simp
  omega
theorem eqv_nil_ints (ns : List Int) : PyData.eqv (.list (ns.map .int)) (.list []) = ns.isEmpty := by
  cases ns with
  | nil => simp [PyData.eqv, PyData.eqvAll]
  | cons n r => simp [PyData.eqv, PyData.eqvAll]
theorem eqv_nil_lots (ls : Hm.Lots) : PyData.eqv (.list (ls.map lotD)) (.list []) = ls.isEmpty := by
  cases ls with
  | nil => simp [PyData.eqv, PyData.eqvAll]
  | cons n r => simp [PyData.eqv, PyData.eqvAll]
/-- a lot that the gaps do not hit -/
def missL (gs l : List Int) : Bool := (l.filter fun g => decide (g ∈ gs)).isEmpty
theorem missL_iff {gs l : List Int} : missL gs l = true ↔ ¬ ∃ g, g ∈ l ∧ g ∈ gs := by
  unfold missL
  rw [List.isEmpty_iff, List.filter_eq_nil_iff]
  constructor
  · rintro h ⟨g, h1, h2⟩
    exact h g h1 (decide_eq_true h2)
  · intro h g h1 h2
    exact h ⟨g, h1, of_decide_eq_true h2⟩
theorem hits_iff {gs : List Int} {ls : Hm.Lots} : (ls.filter (missL gs)).isEmpty = true ↔ Hm.hitsL ls gs := by
  rw [List.isEmpty_iff, List.filter_eq_nil_iff]
  constructor
  · intro h l hl
    by_cases z : ∃ g, g ∈ l ∧ g ∈ gs
    · exact z
    · exact absurd (missL_iff.mpr z) (h l hl)
  · intro h l hl z
    exact missL_iff.mp z (h l hl)
theorem LsAt.take {H : Hp} (n : Nat) : ∀ {vs : List V} {ls : Hm.Lots}, LsAt H vs ls → LsAt H (vs.take n) (ls.take n) := by
  induction n with
  | zero => intro vs ls _; exact .nil
  | succ n ih =>
    intro vs ls h
    cases h with
    | nil => exact .nil
    | cons a b => exact .cons a (ih b)
end Lm
/-! check_number, first_left. -/
namespace Lm
open PySem PySem.Spec PyProof.Rows L2
/-- an index of the lots and the length of a lot there -/
inductive PrAt (K : PySem.W.Frag) (H : Hp) (ok : Nat → Prop) : List V → List PyData → Prop
  | nil : PrAt K H ok [] []
  | cons {a : Addr} {vs : List V} {n : Int} {i : Nat} {ds : List PyData} : H a = some (.tup [.int n, .int (i : Nat)]) → ok i → PrAt K H ok vs ds → PrAt K H ok (.ref a :: vs) (.tuple [.int n, .int (i : Nat)] :: ds)
theorem PrAt.dp {K : PySem.W.Frag} {H : Hp} {ok : Nat → Prop} : ∀ {vs : List V} {ds : List PyData}, PrAt K H ok vs ds → DpAll K H vs ds
  | _, _, .nil => .nil
  | _, _, .cons h _ t => .cons (.tup (SqT.of h) (.cons (.int _) (.cons (.int _) .nil))) t.dp
theorem PrAt.is {K : PySem.W.Frag} {H : Hp} {ok : Nat → Prop} : ∀ {vs : List V} {ds : List PyData}, PrAt K H ok vs ds → ∀ d ∈ ds, ∃ (n i : Int), d = .tuple [.int n, .int i]
  | _, _, .nil => fun _ z => nomatch z
  | _, _, .cons _ _ t => fun d hd => by
    rcases List.mem_cons.mp hd with rfl | hd
    · exact ⟨_, _, rfl⟩
    · exact t.is d hd
theorem PrAt.alike {K : PySem.W.Frag} {H : Hp} {ok : Nat → Prop} {vs : List V} {ds : List PyData} (h : PrAt K H ok vs ds) : PySem.W.AlikeAll ds := by
  refine ⟨fun x hx y hy => ?_, fun x hx => ?_⟩
  · obtain ⟨_, _, rfl⟩ := h.is x hx
    obtain ⟨_, _, rfl⟩ := h.is y hy
    rfl
  · obtain ⟨_, _, rfl⟩ := h.is x hx
    intro z
    cases z
theorem PrAt.depth {K : PySem.W.Frag} {H : Hp} {ok : Nat → Prop} : ∀ {vs : List V} {ds : List PyData}, PrAt K H ok vs ds → PyData.depthAll ds ≤ 3
  | _, _, .nil => by decide
  | _, _, .cons _ _ t => by
    have := t.depth
    simp only [PyData.depthAll, PyData.depth]
    omega
theorem PrAt.sm {K : PySem.W.Frag} {H H' : Hp} {ok : Nat → Prop} (s : Same H H') : ∀ {vs : List V} {ds : List PyData}, PrAt K H ok vs ds → PrAt K H' ok vs ds
  | _, _, .nil => .nil
  | _, _, .cons h i t => .cons (s _ _ h) i (t.sm s)
theorem PrAt.off {K : PySem.W.Frag} {H : Hp} {ok : Nat → Prop} {R : Addr} {o : HO} (h : ∀ l, H R ≠ some (.tup l)) : ∀ {vs : List V} {ds : List PyData}, PrAt K H ok vs ds → PrAt K (upd H R o) ok vs ds
  | _, _, .nil => .nil
  | _, _, .cons e i t => .cons (by rw [upd_ne (fun z => h _ (z ▸ e))]; exact e) i (t.off h)
theorem PrAt.get {K : PySem.W.Frag} {H : Hp} {ok : Nat → Prop} : ∀ {vs : List V} {ds : List PyData} {i : Nat} {v : V}, PrAt K H ok vs ds → vs[i]? = some v → ∃ a n j, v = .ref a ∧ H a = some (.tup [.int n, .int (j : Nat)]) ∧ ok j
  | _, _, _, _, .nil, e => by simp at e
  | _, _, 0, _, .cons h i _, e => by
    simp at e
    subst e
    exact ⟨_, _, _, rfl, h, i⟩
  | _, _, k + 1, _, .cons _ _ t, e => PrAt.get (i := k) t (by simpa using e)
theorem PrAt.snoc {K : PySem.W.Frag} {H : Hp} {ok : Nat → Prop} {a : Addr} {n : Int} {i : Nat} (h : H a = some (.tup [.int n, .int (i : Nat)])) (o : ok i) : ∀ {vs : List V} {ds : List PyData}, PrAt K H ok vs ds → PrAt K H ok (vs ++ [.ref a]) (ds ++ [.tuple [.int n, .int (i : Nat)]])
  | _, _, .nil => .cons h o .nil
  | _, _, .cons e k t => .cons e k (t.snoc h o)
theorem PrAt.len {K : PySem.W.Frag} {H : Hp} {ok : Nat → Prop} : ∀ {vs : List V} {ds : List PyData}, PrAt K H ok vs ds → vs.length = ds.length
  | _, _, .nil => rfl
  | _, _, .cons _ _ t => congrArg Nat.succ t.len
/-- at i stands a lot that no taken gap hits -/
def LeftAt (ls : Hm.Lots) (ts : List Int) (i : Nat) : Prop := ∃ l, ls[i]? = some l ∧ missL ts l = true
theorem any_in {l ts : List Int} : ((ts.map fun t => decide (t ∈ l)).any id) = !missL ts l := by
  rw [Bool.eq_iff_iff, List.any_map, List.any_eq_true, Bool.not_eq_true']
  constructor
  · rintro ⟨t, ht, hl⟩
    have hl : t ∈ l := of_decide_eq_true hl
    cases h : missL ts l with
    | false => rfl
    | true => exact absurd ⟨t, hl, ht⟩ (missL_iff.mp h)
  · intro h
    have : ¬ ¬ ∃ g, g ∈ l ∧ g ∈ ts := fun z => by rw [missL_iff.mpr z] at h; cases h
    obtain ⟨g, a, b⟩ := Classical.not_not.mp this
    exact ⟨g, b, decide_eq_true a⟩
theorem cr_anyK {X : Cx} (K : PySem.W.Frag) (hc : X.calm = true) (hK : X.K = K := by rfl) : CallR X (.builtin "any") (rAny K) := hK ▸ cr_any hc
theorem cr_allK {X : Cx} (K : PySem.W.Frag) (hc : X.calm = true) (hK : X.K = K := by rfl) : CallR X (.builtin "all") (rAll K) := hK ▸ cr_all hc
section
variable {P : Program} {w : World} {K : PySem.W.Frag} {mg : Str → Option Value} {base : Heap}
def spCkNum : Sp := fun vs H Q _ => ∃ (z : Int), vs = [.int z] ∧ 0 ≤ z ∧ z ≤ 16 ∧ Q .non H
/-- a statement that is not come to -/
theorem ps_no {X : Cx} {st : Stmt} : PS X st (fun _ _ _ => False) := ⟨fun _ _ _ _ _ _ h => h.elim⟩
theorem ok_ckNum {f : Addr} {fd : FuncData} {tm : Tok} (F : Fun K "check_number" "check_number" sCkN f fd) (MG : mg "MOST_GAPS" = some (.int 16 tm))
    (GB : Has P w K mg base CX0 2 "is_between" ["thing", "low", "high"] spBtw) : FnOk P w K mg base CX0 5 f fd ["number"] spCkNum := by
  refine F.ok scCkN (fun vs H Q E h => ?_) (fun cdv A outer s H vs Q E hr h => ?_)
  · obtain ⟨z, rfl, _⟩ := h
    rfl
  · obtain ⟨z, rfl, z0, z1, q⟩ := h
    refine ⟨_, pss_one (ps_if (pt_not (pt_val (pe_h GB hr (by decide) (by rfl) pass0 (pa_cons (pv 0) (pa_cons pe_int (pa_cons (pe_glob (v := .int 16) (by rfl) MG ⟨tm, rfl⟩) pa_nil)))))) (pss_one ps_no) pss_nil), ?_⟩
    refine ⟨_, rfl, ⟨f, f, f⟩, .int z, .int z, 0, 16, rfl, .int z, btw 0 16 (.int z), rfl, ?_⟩
    rw [btw_of z0 z1]
    exact iteF q
/-! ### first_left -/
abbrev sFL : Stmt := topS 26
def nFL : List Str := ["lots", "taken", "left", "at", "lot", "gap"]
theorem scFL : FnScope nFL ["lots", "taken"] (defScope sFL) := ⟨rfl, rfl, rfl, by decide +kernel, rfl, by decide +kernel, by decide +kernel⟩
def spFL : Sp := fun vs H Q _ => ∃ (a t : Addr) (xs : List V) (ls : Hm.Lots) (ts : List Int), vs = [.ref a, .ref t] ∧ H a = some (.lst xs) ∧ LsAt H xs ls ∧ Fit ls ∧ H t = some (.lst (ts.map V.int)) ∧ ts.length ≤ 100 ∧
  (∃ i, LeftAt ls ts i) ∧ ∀ H' i, Same H H' → LeftAt ls ts i → Q (.int (i : Nat)) H'
theorem ok_fl {f : Addr} {fd : FuncData} (F : Fun K "first_left" "first_left" sFL f fd) (N : Bl mg) : FnOk P w K mg base CX0 2 f fd ["lots", "taken"] spFL := by
  refine F.ok scFL (fun vs H Q E h => ?_) (fun cdv A outer s H vs Q E hr h => ?_)
  · obtain ⟨a, t, xs, ls, ts, rfl, _⟩ := h
    rfl
  · obtain ⟨a, t, xs, ls, ts, rfl, ha, hl, hf, ht, htl, hex, q⟩ := h
    have hu64 : (A.deeper (envOfC "first_left" (defScope sFL) s.heap.objs.size f cdv)).units + 64 < cLine := by
      have := hr.un
      omega
    refine ⟨_, pss_cons (ps_setLc (i := 2) (own := [("at", 3), ("lot", 4)]) (g := gTup K 2 (gCons (gName 3) (gCons (gName 4) gNil))) (by rfl) scFL.nd rfl rfl (sw_true rfl rfl rfl (by decide +kernel)) (pi_enum (by rfl) N.benu (pa_cons (pv 0) pa_nil))
        (blkOk_by (own := [("at", 3), ("lot", 4)]) (N := nFL) (sc := defScope sFL) (by decide +kernel)) (fun _ _ _ _ _ => pg_tup rfl (pgs_cons (pg_name (i := 3) scFL.nd rfl (.inl rfl)) (pgs_cons (pg_name (i := 4) scFL.nd rfl (.inr rfl)) pgs_nil)))
        (fun _ _ _ _ _ => pts_one (pt_not (pt_val (pe_callB (cr_anyK K rfl) (by rfl) N.bany (by decide +kernel) (pa_cons
          (pe_lc (own := [("gap", 5)]) (g := gName 5) (tt := tYes) rfl scFL.nd (pi_listK K (pv 1)) (blkOk_by (by show blkC nFL ⟨.function, [(".0", .local), ("at", .local), ("lot", .cell), ("any", .globalImplicit), ("len", .globalImplicit), ("taken", .cell)], false, false, []⟩ _ [("gap", 5)] = true; decide +kernel)) (fun _ _ _ _ _ => pg_name (i := 5) scFL.nd rfl (Or.inl rfl))
            (fun _ _ _ _ _ => pts_nil) (fun _ _ _ _ _ => pe_cmpR (show OpR _ _ (rIn K false) from op_in_seq) (pv 5) (pv 4) (by rfl))) pa_nil)))))
        (fun _ _ _ _ _ => pe_tup (pa_cons (pe_callB (call_lenK K) (by rfl) N.blen PySem.boot_len (pa_cons (pv 4) pa_nil)) (pa_cons (pv 3) pa_nil))))
      (pss_one (ps_ret (pe_ix ix_tup (pe_callB (cr_minD K rfl hu64) (by rfl) N.bmin (by decide +kernel) (pa_cons (pv 2) pa_nil)) pe_int (fun _ _ => rfl)))), ?_⟩
    have hx := hl.len
    obtain ⟨i0, hi0⟩ := hex
    have hi0' : i0 < ls.length := by
      obtain ⟨l, e, _⟩ := hi0
      exact (List.getElem?_eq_some_iff.mp e).1
    refine ⟨_, rfl, a, xs, rfl, SqL.of ha, fun R nR => lc_it (walk_enumL (K := K) (a := a) (xs := xs)) (fun i H' => Same H H' ∧ ∃ ys ds, H' R = some (.lst ys) ∧ PrAt K H' (LeftAt ls ts) ys ds ∧ ys.length ≤ i ∧ ∀ j, j < i → LeftAt ls ts j → ys ≠ [])
      ⟨same_upd nR, [], [], upd_same, .nil, Nat.le_refl _, fun j hj => absurd hj (Nat.not_lt_zero _)⟩ (fun i H' _ h => SqL.of (h.1 _ _ ha)) ?_ ?_⟩
    · rintro i x H1 H2 hi ⟨s1, ys, ds, hR, hp, hyl, hne⟩ ⟨T, x, rfl, nT, rfl, hxi⟩
      obtain ⟨l, hli, b, rfl, hb⟩ := hl.get hxi
      have hm5 := hf.many
      have hil : i < ls.length := (List.getElem?_eq_some_iff.mp hli).1
      have s2 : Same H (upd H1 T (.tup [.int (i : Nat), .ref b])) := same_put s1 (none_of s1 nT)
      have s12 : Same H1 (upd H1 T (.tup [.int (i : Nat), .ref b])) := same_upd nT
      have hR2 := s12 _ _ hR
      have hp2 := hp.sm s12
      have hT : (upd H1 T (.tup [.int (i : Nat), .ref b])) T = some (.tup [.int (i : Nat), .ref b]) := upd_same
      generalize upd H1 T (.tup [.int (i : Nat), .ref b]) = H2 at *
      have hne1 : missL ts l = false → ∀ j, j < i + 1 → LeftAt ls ts j → ys ≠ [] := fun hm j hj hjl => by
        rcases Nat.lt_succ_iff_lt_or_eq.mp hj with hj | rfl
        · exact hne j hj hjl
        · obtain ⟨l', e', m'⟩ := hjl
          rw [hli] at e'
          cases e'
          rw [hm] at m'
          cases m'
      refine ⟨T, _, rfl, SqT.of hT, rfl, _, _, rfl, _, _, rfl, rfl, rfl, ?_⟩
      refine ⟨_, rfl, t, rfl, ⟨_, SqL.of (s2 _ _ ht)⟩, fun R2 nR2 => lc_list (K := K) (a := t) (xs := ts.map V.int) (fun j H3 => Same H2 H3 ∧ H3 R2 = some (.lst (((ts.take j).map fun g => decide (g ∈ l)).map V.bl))) ⟨same_upd nR2, upd_same⟩ (fun j H3 _ h => SqL.of (h.1 _ _ (s2 _ _ ht))) ?_ ?_⟩
      · rintro j x H3 hxj ⟨s3, hR3⟩
        obtain ⟨z, hz, rfl⟩ := int_at hxj
        have hj : j < ts.length := (List.getElem?_eq_some_iff.mp hz).1
        refine ⟨rfl, _, rfl, _, rfl, b, _, rfl, .inr (SqT.of (s3 _ _ (s2 _ _ hb))), rfl, flat_ints l, _, hR3, ?_, same_put s3 nR2, ?_⟩
        · rw [List.length_map, List.length_map, List.length_take]
          exact small1000 (by omega)
        · rw [in_ints, List.take_add_one, hz]
          show upd H3 R2 _ R2 = _
          rw [upd_same, List.map_append, List.map_append]
          rfl
      · rintro H3 ⟨s3, hR3⟩
        rw [List.length_map, List.take_length] at hR3
        have s4 : Same H H3 := fun b o e => s3 b o (s2 b o e)
        refine ⟨R2, _, rfl, SqL.of hR3, _, rfl, ?_⟩
        rw [any_in]
        cases hm : missL ts l with
        | false => exact iteF ⟨s4, ys, ds, s3 _ _ hR2, hp2.sm s3, by omega, hne1 hm⟩
        | true =>
          refine iteT ⟨_, rfl, b, _, rfl, .inr (SqT.of (s4 _ _ hb)), _, rfl, (by show 2 ≤ sizeLine; decide), fun p np => ?_⟩
          have s5 : Same H3 (upd H3 p (.tup [.int ((l.map V.int).length : Nat), .int (i : Nat)])) := same_upd np
          refine ⟨ys, s5 _ _ (s3 _ _ hR2), small1000 (by omega), same_put (fun b o e => s5 b o (s4 b o e)) nR, _, _, upd_same, PrAt.off (no_tup (s5 _ _ (s3 _ _ hR2))) (PrAt.snoc upd_same ⟨l, hli, hm⟩ ((hp2.sm s3).sm s5)), ?_, ?_⟩
          · rw [List.length_append]
            show _ + 1 ≤ _
            omega
          · intro j hj hjl z
            have := congrArg List.length z
            rw [List.length_append] at this
            exact absurd this (Nat.succ_ne_zero _)
    · rintro H1 ⟨s1, ys, ds, hR, hp, hyl, hne⟩
      have h0 : ys ≠ [] := hne i0 (by omega) hi0
      have hal := hp.alike
      have hdep := hp.depth
      cases hp with
      | nil => exact absurd rfl h0
      | cons hh hk ht =>
        have hp' := PrAt.cons hh hk ht
        refine ⟨_, rfl, R, _, _, _, rfl, SqL.of hR, hp'.dp, hal, by omega, fun i v hv => ?_⟩
        obtain ⟨p, n, j, rfl, hpj, okj⟩ := hp'.get hv
        exact ⟨p, _, 1, .int (j : Nat), rfl, rfl, SqT.of hpj, rfl, q _ _ s1 okj⟩
end
end Lm
/-! Trees, and how they are made. -/
namespace Lm
open PySem PySem.Spec PyProof.Rows L2
/-- what is new in H' -/
def New (H H' : Hp) : Hp := fun b => match H b with
  | some _ => none
  | none => H' b
theorem New.of {H H' : Hp} {b : Addr} {o : HO} (n : H b = none) (h : H' b = some o) : New H H' b = some o := by
  unfold New
  rw [n]
  exact h
theorem New.old {H H' : Hp} {b : Addr} {o : HO} (h : New H H' b = some o) : H b = none ∧ H' b = some o := by
  unfold New at h
  cases e : H b with
  | none => rw [e] at h; exact ⟨rfl, h⟩
  | some u => rw [e] at h; cases h
/-- without what stands at D -/
def Hid (D : Addr) (H : Hp) : Hp := fun b => if b = D then none else H b
theorem Hid.sub {D : Addr} {H : Hp} {b : Addr} {o : HO} (h : Hid D H b = some o) : b ≠ D ∧ H b = some o := by
  unfold Hid at h
  by_cases e : b = D
  · rw [if_pos e] at h; cases h
  · rw [if_neg e] at h; exact ⟨e, h⟩
theorem Hid.of {D : Addr} {H : Hp} {b : Addr} {o : HO} (n : b ≠ D) (h : H b = some o) : Hid D H b = some o := by
  unfold Hid
  rw [if_neg n]
  exact h
/-- a tree for n behind taken gaps -/
def TreeAt (ls : Hm.Lots) (H : Hp) : Nat → List Int → V → Prop
  | 0, ts, v => ∃ (a : Addr) (i : Nat), v = .ref a ∧ H a = some (.tup [.str "end", .int (i : Nat)]) ∧ LeftAt ls ts i
  | n + 1, ts, v => ∃ (a d : Addr) (i : Nat) (l : List Int) (kvs : List (Key × V)), v = .ref a ∧ H a = some (.tup [.str "part", .int (i : Nat), .ref d]) ∧ ls[i]? = some l ∧ missL ts l = true ∧ H d = some (.dK kvs) ∧ KeysAre kvs l ∧
      ∀ g ∈ l, ∀ x, valV kvs (.inl g) = some x → TreeAt ls H n (ts ++ [g]) x
theorem TreeAt.mono {ls : Hm.Lots} {H H' : Hp} (s : Same H H') : ∀ {n : Nat} {ts : List Int} {v : V}, TreeAt ls H n ts v → TreeAt ls H' n ts v
  | 0, _, _, ⟨a, i, e, h, k⟩ => ⟨a, i, e, s _ _ h, k⟩
  | n + 1, _, _, ⟨a, d, i, l, kvs, e, h, h1, h2, h3, h4, h5⟩ => ⟨a, d, i, l, kvs, e, s _ _ h, h1, h2, s _ _ h3, h4, fun g hg x hx => (h5 g hg x hx).mono s⟩
theorem miss_add {ts l : List Int} {g : Int} : missL (ts ++ [g]) l = (missL ts l && !decide (g ∈ l)) := by
  rw [Bool.eq_iff_iff, Bool.and_eq_true, missL_iff, missL_iff, Bool.not_eq_true', decide_eq_false_iff_not]
  constructor
  · intro h
    exact ⟨fun ⟨x, a, b⟩ => h ⟨x, a, List.mem_append_left _ b⟩, fun z => h ⟨g, z, List.mem_append_right _ (List.mem_singleton.mpr rfl)⟩⟩
  · rintro ⟨h1, h2⟩ ⟨x, a, b⟩
    rcases List.mem_append.mp b with b | b
    · exact h1 ⟨x, a, b⟩
    · rw [List.mem_singleton] at b
      subst b
      exact h2 a
theorem left_add {ls : Hm.Lots} {ts : List Int} {g : Int} : ls.filter (missL (ts ++ [g])) = Hm.woL (ls.filter (missL ts)) g := by
  unfold Hm.woL
  rw [List.filter_filter]
  congr 1
  funext l
  rw [miss_add, Bool.and_comm]
/-- no n further gaps hit the lots -/
def Lacks (ls : Hm.Lots) (ts : List Int) (n : Nat) : Prop := ¬ Hm.Can (ls.filter (missL ts)) n
theorem Lacks.left {ls : Hm.Lots} {ts : List Int} {n : Nat} (h : Lacks ls ts n) : ∃ i, LeftAt ls ts i := by
  cases e : ls.filter (missL ts) with
  | nil => exact absurd (by rw [e]; exact Hm.can_nil n) h
  | cons l r =>
    have : l ∈ ls.filter (missL ts) := by rw [e]; exact List.mem_cons_self ..
    obtain ⟨h1, h2⟩ := List.mem_filter.mp this
    obtain ⟨i, hi⟩ := List.mem_iff_getElem?.mp h1
    exact ⟨i, l, hi, h2⟩
theorem Lacks.add {ls : Hm.Lots} {ts : List Int} {n : Nat} (g : Int) (h : Lacks ls ts (n + 1)) : Lacks ls (ts ++ [g]) n := fun c => h (by rw [left_add] at c; exact Hm.can_take c)
section
variable {P : Program} {w : World} {K : PySem.W.Frag} {mg : Str → Option Value} {base : Heap}
abbrev sTB : Stmt := topS 27
def nTB : List Str := ["lots", "taken", "number", "index", "gap"]
theorem scTB : FnScope nTB ["lots", "taken", "number"] (defScope sTB) := ⟨rfl, rfl, rfl, by decide +kernel, rfl, by decide +kernel, by decide +kernel⟩
def spTB (n : Nat) : Sp := fun vs H Q _ => ∃ (a t : Addr) (xs : List V) (ls : Hm.Lots) (ts : List Int) (m : Nat), vs = [.ref a, .ref t, .int (m : Nat)] ∧ m ≤ n ∧ H a = some (.lst xs) ∧ LsAt H xs ls ∧ Fit ls ∧ (∀ l ∈ ls, Hm.Asc l) ∧
  H t = some (.lst (ts.map V.int)) ∧ ts.length + m ≤ 100 ∧ Lacks ls ts m ∧ ∀ H' v, Same H H' → TreeAt ls (New H H') m ts v → Q v H'
def spTBBelow : Nat → Sp
  | 0 => fun _ _ _ _ => False
  | n + 1 => spTB n
theorem ok_tb_no {f : Addr} {fd : FuncData} (F : Fun K "tree_behind" "tree_behind" sTB f fd) (j : Nat) : FnOk P w K mg base CX0 (j + 1) f fd ["lots", "taken", "number"] (spTBBelow 0) :=
  F.ok scTB (fun vs H Q E h => h.elim) (fun cdv A outer s H vs Q E hr h => h.elim)
theorem ok_tb {f : Addr} {fd : FuncData} (F : Fun K "tree_behind" "tree_behind" sTB f fd) (n : Nat) (GF : Has P w K mg base CX0 2 "first_left" ["lots", "taken"] spFL)
    (GT : Has P w K mg base CX0 (n + 2) "tree_behind" ["lots", "taken", "number"] (spTBBelow n)) : FnOk P w K mg base CX0 (n + 3) f fd ["lots", "taken", "number"] (spTB n) := by
  refine F.ok scTB (fun vs H Q E h => ?_) (fun cdv A outer s H vs Q E hr h => ?_)
  · obtain ⟨a, t, xs, ls, ts, m, rfl, _⟩ := h
    rfl
  · obtain ⟨a, t, xs, ls, ts, m, rfl, hmn, ha, hl, hf, has, ht, htl, hc, q⟩ := h
    refine ⟨_, pss_cons (ps_set (i := 3) scTB.nd rfl (.inl rfl) (pe_h GF hr (by omega) (by rfl) pass0 (pa_cons (pv 0) (pa_cons (pv 1) pa_nil))))
      (pss_cons (ps_if (pt_cmpR op_eq (pv 2) pe_int (nomark _)) (pss_one (ps_ret (pe_tup (pa_cons pe_str (pa_cons (pv 3) pa_nil))))) pss_nil)
      (pss_one (ps_ret (pe_tup (pa_cons pe_str (pa_cons (pv 3) (pa_cons
        (pe_dc (own := [("gap", 4)]) (g := gName 4) (tt := tYes) rfl scTB.nd (pi_tup (pe_ix ix_list (pv 0) (pv 3) (fun _ _ => rfl))) (blkOk_by (own := [("gap", 4)]) (N := nTB) (sc := defScope sTB) (by decide +kernel)) (fun _ _ _ _ _ => pg_name (i := 4) scTB.nd rfl (Or.inl rfl))
            (fun _ _ _ _ _ => pts_nil) (fun _ _ _ _ _ => pv 4) (fun _ _ _ _ _ => pe_h GT (hr.mono (Nat.le_refl (n + 2))) (by omega) (by rfl) pass0 (pa_cons (pv 0) (pa_cons (pe_op op_cat (pv 1) (pe_lst (pa_cons (pv 4) pa_nil))) (pa_cons (pe_op op_sub (pv 2) pe_int) pa_nil))))) pa_nil))))))), ?_⟩
    refine ⟨_, rfl, _, rfl, a, t, xs, ls, ts, rfl, ha, hl, hf, ht, by omega, hc.left, fun H1 i s1 hi => ?_⟩
    obtain ⟨l, hli, hlm⟩ := hi
    cases m with
    | zero =>
      refine ⟨_, rfl, rfl, _, rfl, ?_⟩
      rw [dec_int]
      refine iteT ⟨_, rfl, (by show 2 ≤ sizeLine; decide), fun p np => ?_⟩
      exact q _ _ (same_put s1 (none_of s1 np)) ⟨p, i, rfl, New.of (none_of s1 np) upd_same, l, hli, hlm⟩
    | succ m =>
      refine ⟨_, rfl, rfl, _, rfl, ?_⟩
      rw [dec_int, show (((m + 1 : Nat) : Int) == 0) = false by rw [beq_eq_false_iff_ne]; omega]
      obtain ⟨v0, hv0, hla⟩ : ∃ v0, xs[i]? = some v0 ∧ LotAt H v0 l := by
        have hi : i < xs.length := by
          rw [hl.len]
          exact (List.getElem?_eq_some_iff.mp hli).1
        obtain ⟨l', e, h⟩ := hl.get (List.getElem?_eq_getElem hi)
        rw [hli] at e
        cases e
        exact ⟨_, List.getElem?_eq_getElem hi, h⟩
      obtain ⟨b, rfl, hb⟩ := hla
      have hl5 := hf.each l (List.mem_of_getElem? hli)
      have hasl := has l (List.mem_of_getElem? hli)
      obtain ⟨n, rfl⟩ : ∃ n', n = n' + 1 := ⟨n - 1, by omega⟩
      refine iteF ⟨_, rfl, _, rfl, _, rfl, a, xs, _, _, rfl, rfl, SqL.of (s1 _ _ ha), atI_nat hv0, b, rfl, ⟨_, SqT.of (s1 _ _ hb)⟩, fun D nD => ?_⟩
      have nD0 : H D = none := none_of s1 nD
      refine dc_tup (K := K) (a := b) (xs := l.map V.int) (fun j H' => Same H H' ∧ ∃ kvs : List (Key × V), H' D = some (.dK kvs) ∧ KeysAre kvs (l.take j) ∧ ∀ g x, valV kvs (.inl g) = some x → TreeAt ls (Hid D (New H H')) m (ts ++ [g]) x)
        ⟨same_put s1 nD0, [], upd_same, rfl, fun g x z => by cases z⟩ (fun j H' _ h => SqT.of (h.1 _ _ hb)) ?_ ?_
      · rintro j x H1 hxj ⟨s2, kvs, hD, hk, htr⟩
        obtain ⟨z, hz, rfl⟩ := int_at hxj
        have hj : j < l.length := (List.getElem?_eq_some_iff.mp hz).1
        have kl : kvs.length ≤ 500 := by
          have := congrArg List.length hk
          rw [List.length_map, List.length_map, List.length_take] at this
          omega
        have tk : l.take (j + 1) = l.take j ++ [z] := by rw [List.take_add_one, hz]; rfl
        have znot : z ∉ l.take j := fun hm => by
          have h1 : Hm.Asc (l.take (j + 1)) := hasl.sublist (List.take_sublist _ _)
          rw [tk] at h1
          have := (List.pairwise_append.mp h1).2.2 z hm z (List.mem_singleton.mpr rfl)
          omega
        have vnone : valV kvs (.inl z) = none := by
          have : (kvs.any fun kv => decide (kv.1 = .inl z)) = false := by
            rw [List.any_eq_false]
            intro p hp e
            have e : p.1 = .inl z := of_decide_eq_true e
            have h1 : p.1 ∈ kvs.map (·.1) := List.mem_map.mpr ⟨p, hp, rfl⟩
            rw [hk] at h1
            obtain ⟨y, hy, ey⟩ := List.mem_map.mp h1
            rw [e] at ey
            injection ey with ey
            exact znot (ey ▸ hy)
          rw [valV_any] at this
          cases hv : valV kvs (.inl z) with
          | none => rfl
          | some y => rw [hv] at this; cases this
        refine ⟨rfl, _, rfl, _, rfl, _, rfl, _, rfl, (by show 1 ≤ sizeLine; decide), fun p np => ?_⟩
        have s3 : Same H1 (upd H1 p (.lst [.int z])) := same_upd np
        refine ⟨t, p, _, [.int z], rfl, rfl, s3 _ _ (s2 _ _ ht), upd_same, ?_, fun p2 np2 => ?_⟩
        · rw [List.length_map]
          show ts.length + 1 ≤ sizeLine
          rw [sizeLine_eq]
          omega
        have s4 : Same H1 (upd (upd H1 p (.lst [.int z])) p2 (.lst (ts.map V.int ++ [.int z]))) := fun b o e => same_upd np2 _ _ (s3 b o e)
        have hp2 : (upd (upd H1 p (.lst [.int z])) p2 (.lst (ts.map V.int ++ [.int z]))) p2 = some (.lst ((ts ++ [z]).map V.int)) := by rw [upd_same, List.map_append]; rfl
        generalize upd (upd H1 p (.lst [.int z])) p2 (.lst (ts.map V.int ++ [.int z])) = H2 at s4 hp2 ⊢
        have s5 : Same H H2 := fun b o e => s4 b o (s2 b o e)
        refine ⟨_, rfl, _, _, rfl, rfl, a, p2, xs, ls, ts ++ [z], m, ?_, by omega, s5 _ _ ha, hl.sm s5, hf, has, hp2, ?_, hc.add z, fun H3 v s6 hv => ?_⟩
        · show [V.ref a, V.ref p2, V.int (((m + 1 : Nat) : Int) - 1)] = _
          rw [show ((m + 1 : Nat) : Int) - 1 = (m : Nat) by omega]
        · rw [List.length_append]
          show ts.length + 1 + m ≤ 100
          omega
        have s7 : Same H1 H3 := fun b o e => s6 b o (s4 b o e)
        have s8 : Same H H3 := fun b o e => s6 b o (s5 b o e)
        have up : ∀ (kv : List (Key × V)), ∀ b o, Hid D (New H H1) b = some o → Hid D (New H (upd H3 D (.dK kv))) b = some o := fun kv b o e => by
          obtain ⟨e0, e⟩ := Hid.sub e
          obtain ⟨e1, e2⟩ := New.old e
          exact Hid.of e0 (New.of e1 (by rw [upd_ne e0]; exact s7 _ _ e2))
        have up2 : ∀ (kv : List (Key × V)), ∀ b o, New H2 H3 b = some o → Hid D (New H (upd H3 D (.dK kv))) b = some o := fun kv b o e => by
          obtain ⟨e1, e2⟩ := New.old e
          have e0 : b ≠ D := fun z => by rw [z, s4 _ _ hD] at e1; cases e1
          exact Hid.of e0 (New.of (none_of s5 e1) (by rw [upd_ne e0]; exact e2))
        refine ⟨kvs, .inl z, rfl, s7 _ _ hD, ?_, same_put s8 nD0, _, upd_same, ?_, fun g x hx => ?_⟩
        · rw [sizeLine_eq]
          omega
        · rw [putK_new _ vnone, tk]
          unfold KeysAre
          rw [List.map_append, List.map_append, hk]
          rfl
        · rw [valV_put] at hx
          by_cases e : (Sum.inl g : Key) = .inl z
          · rw [if_pos e] at hx
            cases hx
            injection e with e
            subst e
            exact hv.mono (up2 _)
          · rw [if_neg e] at hx
            exact (htr g x hx).mono (up _)
      · rintro H1 ⟨s2, kvs, hD, hk, htr⟩
        rw [List.length_map, List.take_length] at hk
        refine ⟨(by show 3 ≤ sizeLine; decide), fun p np => ?_⟩
        refine q _ _ (same_put s2 (none_of s2 np)) ⟨p, D, i, l, kvs, rfl, New.of (none_of s2 np) upd_same, hli, hlm, New.of nD0 (same_upd np _ _ hD), hk, fun g hg x hx => (htr g x hx).mono fun b o e => ?_⟩
        obtain ⟨_, e⟩ := Hid.sub e
        obtain ⟨e1, e2⟩ := New.old e
        exact New.of e1 (same_upd np _ _ e2)
end
end Lm
/-! What is asked with lots that are right: check_lots, least_hits, new_tree, hit_tree. -/
namespace Lm
open PySem PySem.Spec PyProof.Rows L2
/-- a list of lots, at v, apart from the state of the draws -/
def LotsD (D : DrA) (H : Hp) (v : V) (n : Int) (ls : Hm.Lots) : Prop := ∃ (a : Addr) (xs : List V), v = .ref a ∧ H a = some (.lst xs) ∧ Da D H v (.list (ls.map lotD)) ∧ DaAll D H xs (ls.map lotD) ∧ GapsOk n ls ∧ 1 ≤ n ∧ n ≤ 16 ∧ ls.length ≤ 400
theorem LotsD.sm {D : DrA} {H H' : Hp} {v : V} {n : Int} {ls : Hm.Lots} (h : LotsD D H v n ls) (s : Same H H') : LotsD D H' v n ls := by
  obtain ⟨a, xs, h0, h1, h2, h3, h4⟩ := h
  exact ⟨a, xs, h0, s _ _ h1, h2.sm s, h3.sm s, h4⟩
theorem GapsOk.is {n : Int} {ls : Hm.Lots} (h : GapsOk n ls) : ∀ l ∈ ls, GapIs n (lotD l) := fun l hl => ⟨l, rfl, (h l hl).1, (h l hl).2⟩
section
variable {P : Program} {w : World} {K : PySem.W.Frag} {mg : Str → Option Value} {base : Heap}
def spCk0 : Sp := fun vs H Q _ => ∃ (D : DrA) (n : Int) (v : V) (ls : Hm.Lots), vs = [.int n, v] ∧ LotsD D H v n ls ∧ ∀ H', Same H H' → Q .non H'
theorem ok_ck0 {f : Addr} {fd : FuncData} {tm tl : Tok} (F : Fun K "check_lots" "check_lots" sCheck f fd) (N : Bl mg) (MG : mg "MOST_GAPS" = some (.int 16 tm)) (ML : mg "MOST_LOTS" = some (.int 400 tl))
    (GB : Has P w K mg base CX0 2 "is_between" ["thing", "low", "high"] spBtw) (GL : Has P w K mg base CX0 1 "is_listing" ["thing"] spListing) (GG : Has P w K mg base CX0 3 "is_gap_tuple" ["many", "thing"] spGap) : FnOk P w K mg base CX0 5 f fd ["many", "lots"] spCk0 := by
  refine F.ok scCheck (fun vs H Q E h => ?_) (fun cdv A outer s H vs Q E hr h => ?_)
  · obtain ⟨D, n, v, ls, rfl, _⟩ := h
    rfl
  · obtain ⟨D, n, v, ls, rfl, ⟨a, xs, rfl, ha, hda, hdx, hg, n1, n2, hlen⟩, q⟩ := h
    refine ⟨_, pss_cons (ps_if (pt_not (pt_val (pe_h GB hr (by decide) (by rfl) pass0 (pa_cons (pv 0) (pa_cons pe_int (pa_cons (pe_glob (v := .int 16) (by rfl) MG ⟨tm, rfl⟩) pa_nil)))))) (pss_one ps_no) pss_nil)
        (pss_cons (ps_if (pw_or (pt_not (pt_val (pe_h GL hr (by decide) (by rfl) pass0 (pa_cons (pv 1) pa_nil))))
            (pw_or1 (pt_cmpR op_gt (pe_callB call_len_seq (by rfl) N.blen PySem.boot_len (pa_cons (pv 1) pa_nil)) (pe_glob (v := .int 400) (by rfl) ML ⟨tl, rfl⟩) (nomark _)))).pt
          (pss_one ps_no) pss_nil)
        (pss_one (ps_for PassesOwn.never rfl (pi_enum (by rfl) N.benu (pa_cons (pv 1) pa_nil)) (pg_tup rfl (pgs_cons (pg_name (i := 2) scCheck.nd rfl (.inl rfl)) (pgs_cons (pg_name (i := 3) scCheck.nd rfl (.inl rfl)) pgs_nil)))
          (pss_one (ps_if (pt_not (pt_val (pe_h GG hr (by decide) (by rfl) pass0 (pa_cons (pv 0) (pa_cons (pv 3) pa_nil))))) (pss_one ps_no) pss_nil))))), ?_⟩
    refine ⟨_, rfl, D, .int n, .int n, 1, 16, rfl, .int n, btw 1 16 (.int n), rfl, ?_⟩
    rw [btw_of n1 n2]
    refine iteF ⟨_, rfl, D, .ref a, _, rfl, hda, fun H1 s1 => ⟨_, rfl, ?_⟩⟩
    refine iteF ⟨_, rfl, a, xs, rfl, .inl (SqL.of (s1 _ _ ha)), _, _, rfl, rfl, _, rfl, ?_⟩
    have hxl := hdx.length
    rw [List.length_map] at hxl
    rw [decide_eq_false (show ¬ (400 : Int) < (xs.length : Int) by omega)]
    refine iteF ⟨_, rfl, a, xs, rfl, SqL.of (s1 _ _ ha), for_it (walk_enumL (xs := xs)) (fun i σ H' => Same H H' ∧ ∃ x2 x3, σ = [some (.int n), some (.ref a), x2, x3]) ⟨s1, none, none, rfl⟩ (fun i σ H' _ hp => SqL.of (hp.1 _ _ ha)) ?_ ?_⟩
    · intro i x σ H' H'' hi hp hy
      obtain ⟨s2, x2, x3, rfl⟩ := hp
      obtain ⟨T, x, rfl, nT, rfl, hxi⟩ := hy
      obtain ⟨d, hd, hv⟩ := hdx.get hxi
      have s3 := same_put s2 (none_of s2 nT) (o := .tup [.int (i : Nat), x])
      obtain ⟨l, hl, rfl⟩ : ∃ l ∈ ls, lotD l = d := List.mem_map.mp (List.mem_of_getElem? hd)
      refine ⟨T, _, rfl, SqT.of upd_same, rfl, _, _, rfl, _, _, rfl, rfl, ?_⟩
      refine ⟨_, rfl, _, rfl, D, n, x, lotD l, rfl, hv.sm s3, ?_, fun H3 b s4 hb => ⟨_, rfl, ?_⟩⟩
      · show (l.map PyData.int).length ≤ 1000
        rw [List.length_map]
        have := asc_len (hg l hl).2 (hg l hl).1
        omega
      · rw [hb.mpr (hg.is l hl)]
        exact iteF ⟨fun b o e => s4 b o (s3 b o e), _, _, rfl⟩
    · intro σ H' hp
      exact q H' hp.1
/-! ### least_hits -/
def spLeast0 : Sp := fun vs H Q _ => ∃ (D : DrA) (n : Int) (v : V) (ls : Hm.Lots), vs = [.int n, v] ∧ LotsD D H v n ls ∧ ∀ H' v', Same H H' → FirstV ls n H' v' → Q v' H'
theorem ok_least0 {f : Addr} {fd : FuncData} (F : Fun K "least_hits" "least_hits" sLeast f fd) (N : Bl mg) (GK : Has P w K mg base CX0 5 "check_lots" ["many", "lots"] spCk0) (GF : Has P w K mg base CX0 21 "first_hits" ["many", "lots"] spFst) :
    FnOk P w K mg base CX0 22 f fd ["many", "lots"] spLeast0 := by
  refine F.ok scLeast (fun vs H Q E h => ?_) (fun cdv A outer s H vs Q E hr h => ?_)
  · obtain ⟨D, n, v, ls, rfl, _⟩ := h
    rfl
  · obtain ⟨D, n, v, ls, rfl, hL, q⟩ := h
    refine ⟨_, pss_cons (ps_expr (pe_h GK hr (by decide) (by rfl) pass0 (pa_cons (pv 0) (pa_cons (pv 1) pa_nil))))
      (pss_one (ps_ret (pe_h GF hr (by decide) (by rfl) pass0 (pa_cons (pv 0) (pa_cons (pe_callTy call_list_of (by rfl) N.blist (by decide +kernel) (pa_cons (pv 1) pa_nil)) pa_nil))))), ?_⟩
    refine ⟨_, rfl, _, rfl, D, n, v, ls, rfl, hL, fun H1 s1 => ?_⟩
    obtain ⟨a, xs, rfl, ha, hda, hdx, hg, n1, n2, hlen⟩ := hL
    obtain ⟨fit, lk⟩ := gaps_fit hg n2 (by omega)
    have hls := da_lots hdx
    obtain ⟨n', rfl⟩ : ∃ n' : Nat, n = (n' : Int) := ⟨n.toNat, by omega⟩
    refine ⟨_, rfl, _, rfl, a, xs, rfl, .inl (SqL.of (s1 _ _ ha)), fun b nb => ?_⟩
    have t2 := same_upd (o := .lst xs) nb
    exact ⟨b, xs, ls, n', rfl, by omega, upd_same, (hls.sm s1).sm t2, fit, lk, fun H3 v s3 hv => q H3 v (fun b o e => s3 b o (t2 b o (s1 b o e))) hv⟩
/-! ### new_tree -/
def TreeV (ls : Hm.Lots) (m : Nat) (H : Hp) (v : V) : Prop := (Hm.Can ls m ∧ v = .non) ∨ (¬ Hm.Can ls m ∧ TreeAt ls H m [] v)
def spNewT : Sp := fun vs H Q _ => ∃ (a : Addr) (xs : List V) (ls : Hm.Lots) (m : Nat), vs = [.ref a, .int (m : Nat)] ∧ m ≤ 16 ∧ H a = some (.lst xs) ∧ LsAt H xs ls ∧ Fit ls ∧ (∀ l ∈ ls, Hm.Asc l) ∧ ∀ H' v, Same H H' → TreeV ls m H' v → Q v H'
theorem miss_nil (ls : Hm.Lots) : ls.filter (missL []) = ls := by
  rw [List.filter_eq_self]
  intro l _
  rw [missL_iff]
  rintro ⟨g, _, h⟩
  cases h
theorem ok_newT {f : Addr} {fd : FuncData} (F : Fun K "new_tree" "new_tree" sNew f fd) (GC : Has P w K mg base CX0 19 "can_hit" ["lots", "number"] (spCan 16)) (GT : Has P w K mg base CX0 19 "tree_behind" ["lots", "taken", "number"] (spTB 16)) :
    FnOk P w K mg base CX0 20 f fd ["lots", "number"] spNewT := by
  refine F.ok scNew (fun vs H Q E h => ?_) (fun cdv A outer s H vs Q E hr h => ?_)
  · obtain ⟨a, xs, ls, m, rfl, _⟩ := h
    rfl
  · obtain ⟨a, xs, ls, m, rfl, hm, ha, hl, hf, has, q⟩ := h
    refine ⟨_, pss_cons (ps_if (pt_val (pe_h GC hr (by decide) (by rfl) pass0 (pa_cons (pv 0) (pa_cons (pv 1) pa_nil)))) (pss_one (ps_ret pe_non)) pss_nil)
      (pss_one (ps_ret (pe_h GT hr (by decide) (by rfl) pass0 (pa_cons (pv 0) (pa_cons (pe_lst pa_nil) (pa_cons (pv 1) pa_nil)))))), ?_⟩
    refine ⟨_, rfl, _, rfl, a, xs, ls, m, rfl, hm, ha, hl, hf, fun H1 b s1 hb => ⟨_, rfl, ?_⟩⟩
    cases b with
    | true => exact iteT (q H1 .non s1 (.inl ⟨hb.mp rfl, rfl⟩))
    | false =>
      have nc : ¬ Hm.Can ls m := fun z => absurd (hb.mpr z) (by decide)
      refine iteF ⟨_, rfl, (by show 0 ≤ sizeLine; decide), fun p np => ⟨_, rfl, ?_⟩⟩
      have s2 := same_upd (o := .lst []) np
      have s3 : Same H (upd H1 p (.lst [])) := fun b o e => s2 b o (s1 b o e)
      refine ⟨a, p, xs, ls, [], m, rfl, hm, s3 _ _ ha, hl.sm s3, hf, has, upd_same, by show 0 + m ≤ 100; omega, ?_, fun H4 v s4 hv => ?_⟩
      · unfold Lacks
        rw [miss_nil]
        exact nc
      · exact q H4 v (fun b o e => s4 b o (s3 b o e)) (.inr ⟨nc, hv.mono fun b o e => (New.old e).2⟩)
/-! ### hit_tree -/
def spHitT : Sp := fun vs H Q _ => ∃ (D : DrA) (n : Int) (v : V) (ls : Hm.Lots) (m : Nat), vs = [.int n, v, .int (m : Nat)] ∧ LotsD D H v n ls ∧ m ≤ 16 ∧ ∀ H' v', Same H H' → TreeV ls m H' v' → Q v' H'
theorem ok_hitT {f : Addr} {fd : FuncData} (F : Fun K "hit_tree" "hit_tree" sTree f fd) (N : Bl mg) (GK : Has P w K mg base CX0 5 "check_lots" ["many", "lots"] spCk0) (GN : Has P w K mg base CX0 5 "check_number" ["number"] spCkNum) (GT : Has P w K mg base CX0 20 "new_tree" ["lots", "number"] spNewT) :
    FnOk P w K mg base CX0 21 f fd ["many", "lots", "number"] spHitT := by
  refine F.ok scTree (fun vs H Q E h => ?_) (fun cdv A outer s H vs Q E hr h => ?_)
  · obtain ⟨D, n, v, ls, m, rfl, _⟩ := h
    rfl
  · obtain ⟨D, n, v, ls, m, rfl, hL, hm, q⟩ := h
    refine ⟨_, pss_cons (ps_expr (pe_h GK hr (by decide) (by rfl) pass0 (pa_cons (pv 0) (pa_cons (pv 1) pa_nil))))
      (pss_cons (ps_expr (pe_h GN hr (by decide) (by rfl) pass0 (pa_cons (pv 2) pa_nil)))
      (pss_one (ps_ret (pe_h GT hr (by decide) (by rfl) pass0 (pa_cons (pe_callTy call_list_of (by rfl) N.blist (by decide +kernel) (pa_cons (pv 1) pa_nil)) (pa_cons (pv 2) pa_nil)))))), ?_⟩
    refine ⟨_, rfl, _, rfl, D, n, v, ls, rfl, hL, fun H1 s1 => ?_⟩
    refine ⟨_, rfl, _, rfl, by omega, by omega, ?_⟩
    obtain ⟨a, xs, rfl, ha, hda, hdx, hg, n1, n2, hlen⟩ := hL
    obtain ⟨fit, lk⟩ := gaps_fit hg n2 (by omega)
    have hls := da_lots hdx
    refine ⟨_, rfl, a, xs, rfl, .inl (SqL.of (s1 _ _ ha)), fun b nb => ⟨_, rfl, ?_⟩⟩
    have t2 := same_upd (o := .lst xs) nb
    exact ⟨b, xs, ls, m, rfl, hm, upd_same, (hls.sm s1).sm t2, fit, fun l hl => (hg l hl).2, fun H3 v s3 hv => q H3 v (fun b o e => s3 b o (t2 b o (s1 b o e))) hv⟩
end
end Lm
/-! Trees judged: a tree for k is one for k, and none for k + 1. -/
namespace Lm
open PySem PySem.Spec PyProof.Rows L2
theorem ix_tupK {X : Cx} (K : PySem.W.Frag) (hK : X.K = K := by rfl) : IxR X (rIxT K) := hK ▸ ix_tup
theorem LsAt.at {H : Hp} : ∀ {vs : List V} {ls : Hm.Lots} {i : Nat} {l : List Int}, LsAt H vs ls → ls[i]? = some l → ∃ b, vs[i]? = some (.ref b) ∧ H b = some (.tup (l.map V.int)) := fun {vs ls i l} h e => by
  have hi : i < vs.length := by
    rw [h.len]
    exact (List.getElem?_eq_some_iff.mp e).1
  obtain ⟨l', e', b, eb, hb⟩ := h.get (List.getElem?_eq_getElem hi)
  rw [e] at e'
  cases e'
  exact ⟨b, by rw [List.getElem?_eq_getElem hi, eb], hb⟩
def offN (b : Bool) : Nat := if b = true then 0 else 1
theorem any_miss {K : PySem.W.Frag} {H : Hp} {Q : VK} {x0 x2 x3 x5 : Option V} {t bb : Addr} {ts l : List Int} (ht : H t = some (.lst (ts.map V.int))) (hb : H bb = some (.tup (l.map V.int))) (h100 : ts.length ≤ 100)
    (q : ∀ H', Same H H' → Q (.bl (!missL ts l)) H') : tCB (rAny K) (tCons (tLc (iList K (tVar 1)) (gName 5) tYes (tOp (rIn K false) (tVar 5) (tVar 4)) [5]) tNil) [x0, some (.ref t), x2, x3, some (.ref bb), x5] H Q := by
  refine ⟨_, rfl, t, rfl, ⟨_, SqL.of ht⟩, fun R nR => lc_list (K := K) (a := t) (xs := ts.map V.int) (fun j H3 => Same H H3 ∧ H3 R = some (.lst (((ts.take j).map fun g => decide (g ∈ l)).map V.bl))) ⟨same_upd nR, upd_same⟩ (fun j H3 _ h => SqL.of (h.1 _ _ ht)) ?_ ?_⟩
  · rintro j x H3 hxj ⟨s3, hR3⟩
    obtain ⟨z, hz, rfl⟩ := int_at hxj
    have hj : j < ts.length := (List.getElem?_eq_some_iff.mp hz).1
    refine ⟨rfl, _, rfl, _, rfl, bb, _, rfl, .inr (SqT.of (s3 _ _ hb)), rfl, flat_ints l, _, hR3, ?_, same_put s3 nR, ?_⟩
    · rw [List.length_map, List.length_map, List.length_take]
      exact small1000 (by omega)
    · rw [in_ints, List.take_add_one, hz]
      show upd H3 R _ R = _
      rw [upd_same, List.map_append, List.map_append]
      rfl
  · rintro H3 ⟨s3, hR3⟩
    rw [List.length_map, List.take_length] at hR3
    refine ⟨R, _, rfl, SqL.of hR3, ?_⟩
    rw [any_in]
    exact q H3 s3
section
variable {P : Program} {w : World} {K : PySem.W.Frag} {mg : Str → Option Value} {base : Heap}
def spITB (n : Nat) : Sp := fun vs H Q _ => ∃ (a t : Addr) (xs : List V) (ls : Hm.Lots) (ts : List Int) (k : Nat) (x : V) (b : Bool), vs = [.ref a, .ref t, .int ((k + offN b : Nat) : Int), x] ∧ k + offN b ≤ n ∧ H a = some (.lst xs) ∧ LsAt H xs ls ∧ Fit ls ∧
  (b = false → [] ∉ ls) ∧ H t = some (.lst (ts.map V.int)) ∧ ts.length + (k + offN b) ≤ 100 ∧ TreeAt ls H k ts x ∧ ∀ H', Same H H' → Q (.bl b) H'
def spITBBelow : Nat → Sp
  | 0 => fun _ _ _ _ => False
  | n + 1 => spITB n
theorem ok_itb_no {f : Addr} {fd : FuncData} (F : Fun K "is_tree_behind" "is_tree_behind" sIsB f fd) (j : Nat) : FnOk P w K mg base CX0 (j + 1) f fd ["lots", "taken", "number", "thing"] (spITBBelow 0) :=
  F.ok scIsB (fun vs H Q E h => h.elim) (fun cdv A outer s H vs Q E hr h => h.elim)
theorem ok_itb {f : Addr} {fd : FuncData} (F : Fun K "is_tree_behind" "is_tree_behind" sIsB f fd) (N : Bl mg) (n : Nat) (GO : Has P w K mg base CX0 1 "is_tuple_of" ["thing", "count"] spTupOf) (GB : Has P w K mg base CX0 2 "is_between" ["thing", "low", "high"] spBtw)
    (GJ : Has P w K mg base CX0 4 "has_just_keys" ["thing", "keys"] spJust) (GT : Has P w K mg base CX0 (n + 4) "is_tree_behind" ["lots", "taken", "number", "thing"] (spITBBelow n)) : FnOk P w K mg base CX0 (n + 5) f fd ["lots", "taken", "number", "thing"] (spITB n) := by
  refine F.ok scIsB (fun vs H Q E h => ?_) (fun cdv A outer s H vs Q E hr h => ?_)
  · obtain ⟨a, t, xs, ls, ts, k, x, b, rfl, _⟩ := h
    rfl
  · obtain ⟨a, t, xs, ls, ts, k, x, b, rfl, hn, ha, hl, hf, hne, ht, htl, hx, q⟩ := h
    have hu := hu_of hr
    refine ⟨_, pss_cons (ps_if (pw_or (pt_not (pt_val (pe_h GO hr (by omega) (by rfl) pass0 (pa_cons (pv 3) (pa_cons (pe_ifExp (pt_cmpR op_eq (pv 2) pe_int (nomark _)) pe_int pe_int) pa_nil)))))
          (pw_or1 (pt_not (pt_val (pe_h GB hr (by omega) (by rfl) pass0 (pa_cons (pe_ix ix_tup (pv 3) pe_int (fun _ _ => rfl)) (pa_cons pe_int (pa_cons (pe_op op_sub (pe_callB call_len_seq (by rfl) N.blen PySem.boot_len (pa_cons (pv 0) pa_nil)) pe_int) pa_nil)))))))).pt
        (pss_one (ps_ret pe_bl)) pss_nil)
      (pss_cons (ps_set (i := 4) scIsB.nd rfl (.inr rfl) (pe_ix ix_list (pv 0) (pe_ix ix_tup (pv 3) pe_int (fun _ _ => rfl)) (fun _ _ => rfl)))
      (pss_cons (ps_if (pt_val (pe_callB (cr_anyK K rfl) (by rfl) N.bany (by decide +kernel) (pa_cons
          (pe_lc (own := [("gap", 5)]) (g := gName 5) (tt := tYes) rfl scIsB.nd (pi_listK K (pv 1)) (blkOk_by (own := [("gap", 5)]) (N := nIsB) (sc := defScope sIsB) (by decide +kernel)) (fun _ _ _ _ _ => pg_name (i := 5) scIsB.nd rfl (Or.inl rfl))
            (fun _ _ _ _ _ => pts_nil) (fun _ _ _ _ _ => pe_cmpR (show OpR _ _ (rIn K false) from op_in_seq) (pv 5) (pv 4) (by rfl))) pa_nil))) (pss_one (ps_ret pe_bl)) pss_nil)
      (pss_cons (ps_if (pt_cmpR op_eq (pv 2) pe_int (nomark _)) (pss_one (ps_ret (pe_cmpR op_eq (pe_ix ix_tup (pv 3) pe_int (fun _ _ => rfl)) pe_str (nomark _)))) pss_nil)
      (pss_cons (ps_if (pw_or (pt_cmpR op_ne (pe_ix ix_tup (pv 3) pe_int (fun _ _ => rfl)) pe_str (nomark _)) (pw_or1 (pt_not (pt_val (pe_h GJ hr (by omega) (by rfl) pass0 (pa_cons (pe_ix ix_tup (pv 3) pe_int (fun _ _ => rfl)) (pa_cons (pv 4) pa_nil))))))).pt (pss_one (ps_ret pe_bl)) pss_nil)
      (pss_one (ps_ret (pe_callB (cr_allK K rfl) (by rfl) N.ball (by decide +kernel) (pa_cons
          (pe_lc (own := [("gap", 5)]) (g := gName 5) (tt := tYes) rfl scIsB.nd (pi_tupK K (pv 4)) (blkOk_by (own := [("gap", 5)]) (N := nIsB) (sc := defScope sIsB) (by decide +kernel)) (fun _ _ _ _ _ => pg_name (i := 5) scIsB.nd rfl (Or.inl rfl))
            (fun _ _ _ _ _ => pts_nil) (fun _ _ _ _ _ => pe_h GT (hr.mono (Nat.le_refl (n + 4))) (by omega) (by rfl) pass0 (pa_cons (pv 0) (pa_cons (pe_op op_cat (pv 1) (pe_lst (pa_cons (pv 5) pa_nil))) (pa_cons (pe_op op_sub (pv 2) pe_int)
              (pa_cons (pe_dget hu (pe_ix (ix_tupK K) (pv 3) pe_int (fun _ _ => rfl)) (pv 5) (fun _ _ => rfl)) pa_nil)))))) pa_nil)))))))), ?_⟩
    have hxl := hl.len
    by_cases hz : k = 0 ∧ b = false
    · obtain ⟨rfl, rfl⟩ := hz
      obtain ⟨p, i, rfl, hp, l, hli, hlm⟩ := hx
      refine ⟨_, rfl, _, rfl, rfl, _, rfl, ?_⟩
      rw [dec_int]
      refine iteF ⟨p, _, 3, rfl, hp, _, rfl, ?_⟩
      refine iteT ?_
      refine iteT ?_
      exact q H (fun _ _ z => z)
    obtain ⟨p, zs, i, l, rfl, hp, hz1, hzl, hli, hlm, hx'⟩ : ∃ (p : Addr) (zs : List V) (i : Nat) (l : List Int), x = .ref p ∧ H p = some (.tup zs) ∧ zs[1]? = some (.int (i : Nat)) ∧ ((zs.length : Int) = if ((k + offN b : Nat) : Int) == 0 then 2 else 3) ∧ ls[i]? = some l ∧ missL ts l = true ∧
        ((k = 0 ∧ b = true ∧ zs[0]? = some (.str "end")) ∨ ∃ k' d kvs, k = k' + 1 ∧ zs[0]? = some (.str "part") ∧ zs[2]? = some (.ref d) ∧ H d = some (.dK kvs) ∧ KeysAre kvs l ∧ ∀ g ∈ l, ∀ x, valV kvs (.inl g) = some x → TreeAt ls H k' (ts ++ [g]) x) := by
      cases k with
      | zero =>
        cases b with
        | false => exact absurd ⟨rfl, rfl⟩ hz
        | true =>
          obtain ⟨p, i, rfl, hp, l, hli, hlm⟩ := hx
          exact ⟨p, _, i, l, rfl, hp, rfl, rfl, hli, hlm, .inl ⟨rfl, rfl, rfl⟩⟩
      | succ k =>
        obtain ⟨p, d, i, l, kvs, rfl, hp, hli, hlm, hd, hk, hh⟩ := hx
        refine ⟨p, _, i, l, rfl, hp, rfl, ?_, hli, hlm, .inr ⟨k, d, kvs, rfl, rfl, rfl, hd, hk, hh⟩⟩
        rw [show (((k + 1 + offN b : Nat) : Int) == 0) = false by rw [beq_eq_false_iff_ne]; omega]
        rfl
    obtain ⟨bb, hbx, hbb⟩ := hl.at hli
    have hil : i < ls.length := (List.getElem?_eq_some_iff.mp hli).1
    have hl5 := hf.each l (List.mem_of_getElem? hli)
    have bt : btw 0 ((xs.length : Nat) - 1 : Int) (.int (i : Nat)) = true := btw_of (by omega) (by omega)
    refine ⟨_, rfl, _, rfl, rfl, _, rfl, ?_⟩
    rw [dec_int]
    cases hb0 : (((k + offN b : Nat) : Int) == 0) with
    | true =>
      rw [hb0] at hzl
      have hzl : (zs.length : Int) = 2 := hzl
      refine iteT ⟨p, zs, _, rfl, hp, _, rfl, ?_⟩
      rw [decide_eq_true hzl]
      refine iteF ⟨_, rfl, p, _, 1, .int (i : Nat), rfl, rfl, SqT.of hp, atI_nat (j := 1) hz1, _, rfl, a, xs, rfl, .inl (SqL.of ha), _, _, rfl, rfl, ⟨f, f, f⟩, _, _, 0, _, rfl, .int _, _, rfl, ?_⟩
      rw [bt]
      refine iteF ⟨_, rfl, _, rfl, p, _, 1, .int (i : Nat), rfl, rfl, SqT.of hp, atI_nat (j := 1) hz1, a, xs, _, _, rfl, rfl, SqL.of ha, atI_nat hbx, ?_⟩
      refine any_miss ht hbb (by omega) fun H1 s1 => ⟨_, rfl, ?_⟩
      rw [hlm]
      refine iteF ⟨_, rfl, rfl, _, rfl, ?_⟩
      rw [dec_int, hb0]
      rcases hx' with ⟨rfl, rfl, hz0⟩ | ⟨k', d, kvs, rfl, _⟩
      · refine iteT ⟨_, rfl, p, _, 0, .str "end", rfl, rfl, SqT.of (s1 _ _ hp), atI_nat (j := 0) hz0, rfl, ?_⟩
        rw [decide_eq_true rfl]
        exact q H1 s1
      · rw [beq_iff_eq] at hb0
        omega
    | false =>
      rw [hb0] at hzl
      have hzl : (zs.length : Int) = 3 := hzl
      refine iteF ⟨p, zs, _, rfl, hp, _, rfl, ?_⟩
      rw [decide_eq_true hzl]
      refine iteF ⟨_, rfl, p, _, 1, .int (i : Nat), rfl, rfl, SqT.of hp, atI_nat (j := 1) hz1, _, rfl, a, xs, rfl, .inl (SqL.of ha), _, _, rfl, rfl, ⟨f, f, f⟩, _, _, 0, _, rfl, .int _, _, rfl, ?_⟩
      rw [bt]
      refine iteF ⟨_, rfl, _, rfl, p, _, 1, .int (i : Nat), rfl, rfl, SqT.of hp, atI_nat (j := 1) hz1, a, xs, _, _, rfl, rfl, SqL.of ha, atI_nat hbx, ?_⟩
      refine any_miss ht hbb (by omega) fun H1 s1 => ⟨_, rfl, ?_⟩
      rw [hlm]
      refine iteF ⟨_, rfl, rfl, _, rfl, ?_⟩
      rw [dec_int, hb0]
      rcases hx' with ⟨rfl, rfl, hz0⟩ | ⟨k', d, kvs, rfl, hz0, hz2, hd, hk, hh⟩
      · cases hb0
      · obtain ⟨n, rfl⟩ : ∃ n', n = n' + 1 := ⟨n - 1, by omega⟩
        refine iteF ⟨_, rfl, p, _, 0, .str "part", rfl, rfl, SqT.of (s1 _ _ hp), atI_nat (j := 0) hz0, rfl, _, rfl, ?_⟩
        rw [decide_eq_true rfl]
        refine iteF ⟨_, rfl, p, _, 2, .ref d, rfl, rfl, SqT.of (s1 _ _ hp), atI_nat (j := 2) hz2, _, rfl, d, bb, kvs, l, rfl, s1 _ _ hd, s1 _ _ hbb, hk, by omega, _, rfl, ?_⟩
        refine iteF ?_
        refine ⟨_, rfl, bb, rfl, ⟨_, SqT.of (s1 _ _ hbb)⟩, fun R nR => lc_tup (K := K) (a := bb) (xs := l.map V.int) (fun j H' => Same H1 H' ∧ H' R = some (.lst ((List.replicate j b).map V.bl))) ⟨same_upd nR, upd_same⟩ (fun j H' _ h => SqT.of (h.1 _ _ (s1 _ _ hbb))) ?_ ?_⟩
        · rintro j x H2 hxj ⟨s2, hR⟩
          obtain ⟨z, hz, rfl⟩ := int_at hxj
          have hj : j < l.length := (List.getElem?_eq_some_iff.mp hz).1
          have hzm : z ∈ l := List.mem_of_getElem? hz
          obtain ⟨y, hy⟩ := Option.isSome_iff_exists.mp (keys_val hk z hzm)
          have s12 : Same H H2 := fun b o e => s2 b o (s1 b o e)
          refine ⟨rfl, _, rfl, _, rfl, _, rfl, (by show 1 ≤ sizeLine; decide), fun p1 np1 => ?_⟩
          have s3 : Same H2 (upd H2 p1 (.lst [.int z])) := same_upd np1
          refine ⟨t, p1, _, [.int z], rfl, rfl, s3 _ _ (s12 _ _ ht), upd_same, ?_, fun p2 np2 => ?_⟩
          · rw [List.length_map]
            show ts.length + 1 ≤ sizeLine
            rw [sizeLine_eq]
            omega
          have s4 : Same H2 (upd (upd H2 p1 (.lst [.int z])) p2 (.lst (ts.map V.int ++ [.int z]))) := fun b o e => same_upd np2 _ _ (s3 b o e)
          have hp2 : (upd (upd H2 p1 (.lst [.int z])) p2 (.lst (ts.map V.int ++ [.int z]))) p2 = some (.lst ((ts ++ [z]).map V.int)) := by rw [upd_same, List.map_append]; rfl
          generalize upd (upd H2 p1 (.lst [.int z])) p2 (.lst (ts.map V.int ++ [.int z])) = H3 at s4 hp2 ⊢
          have s5 : Same H H3 := fun b o e => s4 b o (s12 b o e)
          refine ⟨_, rfl, _, _, rfl, rfl, _, rfl, p, _, 2, .ref d, rfl, rfl, SqT.of (s5 _ _ hp), atI_nat (j := 2) hz2, _, rfl, d, y, rfl, .inl ⟨kvs, .inl z, .inl (s5 _ _ hd), rfl, hy.symm⟩, ?_⟩
          refine ⟨a, p2, xs, ls, ts ++ [z], k', y, b, ?_, by omega, s5 _ _ ha, hl.sm s5, hf, hne, hp2, ?_, (hh z hzm y hy).mono s5, fun H4 s6 => ?_⟩
          · show [V.ref a, V.ref p2, V.int (((k' + 1 + offN b : Nat) : Int) - 1), y] = _
            rw [show ((k' + 1 + offN b : Nat) : Int) - 1 = ((k' + offN b : Nat) : Int) by omega]
          · rw [List.length_append]
            show ts.length + 1 + (k' + offN b) ≤ 100
            omega
          · refine ⟨_, s6 _ _ (s4 _ _ hR), ?_, same_put (fun b o e => s6 b o (s4 b o (s2 b o e))) nR, ?_⟩
            · rw [List.length_map, List.length_replicate]
              exact small1000 (by omega)
            · rw [List.replicate_succ', List.map_append]
              exact upd_same
        · rintro H2 ⟨s2, hR⟩
          rw [List.length_map] at hR
          refine ⟨R, _, rfl, SqL.of hR, ?_⟩
          have e : (List.replicate l.length b).all id = b := by
            cases b with
            | true => simp
            | false =>
              cases l with
              | nil => exact absurd (List.mem_of_getElem? hli) (hne rfl)
              | cons y r => rfl
          rw [e]
          exact q H2 (fun b o e => s2 b o (s1 b o e))
/-! ### is_hit_tree -/
def spIsHT : Sp := fun vs H Q _ => ∃ (D : DrA) (n : Int) (v : V) (ls : Hm.Lots) (k : Nat) (x : V) (b : Bool), vs = [.int n, v, .int ((k + offN b : Nat) : Int), x] ∧ LotsD D H v n ls ∧ k + offN b ≤ 16 ∧ (b = false → [] ∉ ls) ∧ TreeAt ls H k [] x ∧ ∀ H', Same H H' → Q (.bl b) H'
theorem ok_isHT {f : Addr} {fd : FuncData} (F : Fun K "is_hit_tree" "is_hit_tree" sIsT f fd) (N : Bl mg) (GK : Has P w K mg base CX0 5 "check_lots" ["many", "lots"] spCk0) (GN : Has P w K mg base CX0 5 "check_number" ["number"] spCkNum)
    (GT : Has P w K mg base CX0 21 "is_tree_behind" ["lots", "taken", "number", "thing"] (spITB 16)) : FnOk P w K mg base CX0 22 f fd ["many", "lots", "number", "thing"] spIsHT := by
  refine F.ok scIsT (fun vs H Q E h => ?_) (fun cdv A outer s H vs Q E hr h => ?_)
  · obtain ⟨D, n, v, ls, k, x, b, rfl, _⟩ := h
    rfl
  · obtain ⟨D, n, v, ls, k, x, b, rfl, hL, hk, hne, hx, q⟩ := h
    refine ⟨_, pss_cons (ps_expr (pe_h GK hr (by decide) (by rfl) pass0 (pa_cons (pv 0) (pa_cons (pv 1) pa_nil))))
      (pss_cons (ps_expr (pe_h GN hr (by decide) (by rfl) pass0 (pa_cons (pv 2) pa_nil)))
      (pss_one (ps_ret (pe_h GT hr (by decide) (by rfl) pass0 (pa_cons (pv 1) (pa_cons (pe_lst pa_nil) (pa_cons (pv 2) (pa_cons (pv 3) pa_nil)))))))), ?_⟩
    refine ⟨_, rfl, _, rfl, D, n, v, ls, rfl, hL, fun H1 s1 => ?_⟩
    refine ⟨_, rfl, _, rfl, by omega, by omega, ?_⟩
    obtain ⟨a, xs, rfl, ha, hda, hdx, hg, n1, n2, hlen⟩ := hL
    obtain ⟨fit, lk⟩ := gaps_fit hg n2 (by omega)
    have hls := da_lots hdx
    refine ⟨_, rfl, (by show 0 ≤ sizeLine; decide), fun p np => ⟨_, rfl, _, rfl, ?_⟩⟩
    have s2 := same_upd (o := .lst []) np
    have s3 : Same H (upd H1 p (.lst [])) := fun b o e => s2 b o (s1 b o e)
    exact ⟨a, p, xs, ls, [], k, x, b, rfl, hk, s3 _ _ ha, hls.sm s3, fit, hne, upd_same, by show 0 + (k + offN b) ≤ 100; omega, hx.mono s3, fun H4 s4 => q H4 (fun b o e => s4 b o (s3 b o e))⟩
end
end Lm
namespace Lm
open PySem PySem.Spec PyProof.Rows L2
theorem LotAt.fr {D : DrA} {n : Nat} {H H' : Hp} {v : V} {l : List Int} (h : LotAt H v l) (dr : DrawAt D n H) (f : Fr D H H') : LotAt H' v l := by
  obtain ⟨a, rfl, e⟩ := h
  obtain ⟨ws, cs, r, t, h1, h2, _⟩ := dr
  exact ⟨a, rfl, f _ _ e (ne_of e h1 (fun z => by cases z)) (ne_of e h2 (fun z => by cases z))⟩
theorem LsAt.fr {D : DrA} {n : Nat} {H H' : Hp} (dr : DrawAt D n H) (f : Fr D H H') : ∀ {vs : List V} {ls : Hm.Lots}, LsAt H vs ls → LsAt H' vs ls
  | _, _, .nil => .nil
  | _, _, .cons h t => .cons (h.fr dr f) (t.fr dr f)
theorem LotAt.da {D : DrA} {n : Nat} {H : Hp} {v : V} {l : List Int} (h : LotAt H v l) (dr : DrawAt D n H) : Da D H v (lotD l) := by
  obtain ⟨a, rfl, e⟩ := h
  obtain ⟨ws, cs, r, t, h1, h2, _⟩ := dr
  exact .tup e (ne_of e h1 (fun z => by cases z)) (ne_of e h2 (fun z => by cases z)) (.ints l)
theorem LsAt.da {D : DrA} {n : Nat} {H : Hp} (dr : DrawAt D n H) : ∀ {vs : List V} {ls : Hm.Lots}, LsAt H vs ls → DaAll D H vs (ls.map lotD)
  | _, _, .nil => .nil
  | _, _, .cons h t => .cons (h.da dr) (t.da dr)
theorem draw_put {D : DrA} {n m : Nat} {H H' : Hp} {f : Addr} {o : HO} (d0 : DrawAt D n H) (nf : H f = none) (dr : DrawAt D m H') : DrawAt D m (upd H' f o) := by
  obtain ⟨_, _, _, _, k1, k2, k3, _⟩ := d0
  obtain ⟨ws, cs, r, t, h1, h2, h3, h4, h5, h6⟩ := dr
  exact ⟨ws, cs, r, t, by rw [upd_ne (ne_of_none k1 nf)]; exact h1, by rw [upd_ne (ne_of_none k2 nf)]; exact h2, by rw [upd_ne (ne_of_none k3 nf)]; exact h3, h4, h5, h6⟩
theorem fr_put {D : DrA} {H H' : Hp} {f : Addr} {o : HO} (fr : Fr D H H') (nf : H f = none) : Fr D H (upd H' f o) := fun b x e n1 n2 => by
  rw [upd_ne (ne_of_none e nf)]
  exact fr b x e n1 n2
theorem asc_snoc {l : List Int} {z : Int} (h : Hm.Asc l) (k : ∀ x ∈ l, x < z) : Hm.Asc (l ++ [z]) :=
  List.pairwise_append.mpr ⟨h, List.pairwise_singleton _ _, fun x hx y hy => by rw [List.mem_singleton.mp hy]; exact k x hx⟩
theorem rg_ints (a b : Int) : rgV a b = ((List.range (b - a).toNat).map fun i => a + (i : Nat)).map V.int := by
  unfold rgV
  rw [List.map_map]
  rfl
theorem rg_gap {a b many : Int} (h0 : 0 ≤ a) (h1 : b ≤ many) : (∀ x ∈ (List.range (b - a).toNat).map (fun i : Nat => a + (i : Nat)), 0 ≤ x ∧ x < many) ∧ Hm.Asc ((List.range (b - a).toNat).map fun i : Nat => a + (i : Nat)) := by
  refine ⟨fun x hx => ?_, ?_⟩
  · obtain ⟨i, hi, rfl⟩ := List.mem_map.mp hx
    have := List.mem_range.mp hi
    show 0 ≤ a + (i : Int) ∧ a + (i : Int) < many
    omega
  · unfold Hm.Asc
    rw [List.pairwise_map]
    refine List.pairwise_lt_range.imp fun h => ?_
    omega
section
variable {P : Program} {w : World} {K : PySem.W.Frag} {mg : Str → Option Value} {base : Heap}
abbrev sDrawn : Stmt := topS 36
def nDrawn : List Str := ["state", "many_here", "found", "turn", "one", "two", "way", "lot", "gap"]
theorem scDrawn : FnScope nDrawn ["state", "many_here"] (defScope sDrawn) := ⟨rfl, rfl, rfl, by decide +kernel, rfl, by decide +kernel, by decide +kernel⟩
def spDrawn : Sp := fun vs H Q _ => ∃ (D : DrA) (n : Nat) (many : Int), vs = [.ref D.d, .int many] ∧ DrawAt D n H ∧ n + 100 ≤ B ∧ 1 ≤ many ∧ many ≤ 8 ∧
  ∀ (H' : Hp) (f : Addr) (ys : List V) (ls : Hm.Lots), H f = none → H' f = some (.lst ys) → LsAt H' ys ls → ls.length ≤ 7 → GapsOk many ls → DrawAt D (n + 100) H' → Fr D H H' → Q (.ref f) H'
theorem ok_drawn {f : Addr} {fd : FuncData} (F : Fun K "_law_drawn_lots" "_law_drawn_lots" sDrawn f fd) (N : Bl mg) (GT : Has P w K mg base CX0 2 "_law_draw" ["state", "size_here"] spTake) : FnOk P w K mg base CX0 3 f fd ["state", "many_here"] spDrawn := by
  refine F.ok scDrawn (fun vs H Q E h => ?_) (fun cdv A outer s H vs Q E hr h => ?_)
  · obtain ⟨D, n, many, rfl, _⟩ := h
    rfl
  · obtain ⟨D, n, many, rfl, dr, hn, m1, m8, q⟩ := h
    have hu64 : (A.deeper (envOfC "_law_drawn_lots" (defScope sDrawn) s.heap.objs.size f cdv)).units + 64 < cLine := by
      have := hr.un
      omega
    refine ⟨_, pss_cons (ps_set (i := 2) scDrawn.nd rfl (.inl rfl) (pe_lst pa_nil))
      (pss_cons (ps_for PassesOwn.never rfl (pi_range1 (by rfl) N.brng (pa_cons (pe_h GT hr (by decide) (by rfl) pass0 (pa_cons (pv 0) (pa_cons pe_int pa_nil))) pa_nil)) (pg_name (i := 3) scDrawn.nd rfl (.inl rfl))
        (pss_cons (ps_asg (pe_tup (pa_cons (pe_h GT hr (by decide) (by rfl) pass0 (pa_cons (pv 0) (pa_cons (pv 1) pa_nil))) (pa_cons (pe_h GT hr (by decide) (by rfl) pass0 (pa_cons (pv 0) (pa_cons (pv 1) pa_nil))) (pa_cons (pe_h GT hr (by decide) (by rfl) pass0 (pa_cons (pv 0) (pa_cons pe_int pa_nil))) pa_nil))))
            (pg_tup rfl (pgs_cons (pg_name (i := 4) scDrawn.nd rfl (.inr rfl)) (pgs_cons (pg_name (i := 5) scDrawn.nd rfl (.inr rfl)) (pgs_cons (pg_name (i := 6) scDrawn.nd rfl (.inl rfl)) pgs_nil)))))
        (pss_cons (ps_setLc (i := 7) (own := [("gap", 8)]) (g := gName 8) (by rfl) scDrawn.nd rfl rfl (sw_true rfl rfl rfl (by decide +kernel)) (pi_range1 (by rfl) N.brng (pa_cons (pv 1) pa_nil))
            (blkOk_by (own := [("gap", 8)]) (N := nDrawn) (sc := defScope sDrawn) (by decide +kernel)) (fun _ _ _ _ _ => pg_name (i := 8) scDrawn.nd rfl (Or.inl rfl))
            (fun _ _ _ _ _ => pts_one (pt_cmpR op_eq (pe_h GT (hr.mono (by decide : 2 ≤ 2)) (by decide) (by rfl) pass0 (pa_cons (pv 0) (pa_cons pe_int pa_nil))) pe_int (nomark _))) (fun _ _ _ _ _ => pv 8))
        (C8.pss_cut (ps_if (pt_cmpR op_eq (pv 6) pe_int (nomark _))
            (pss_one (ps_set (i := 7) scDrawn.nd rfl (.inl rfl) (pe_listRg rfl (by rfl) N.blist (prg_2 (by rfl) N.brng (pe_callB (call_min2 rfl) (by rfl) N.bmin (by decide +kernel) (pa_cons (pv 4) (pa_cons (pv 5) pa_nil)))
              (pe_op op_add (pe_callB (call_max2 rfl) (by rfl) N.bmax (by decide +kernel) (pa_cons (pv 4) (pa_cons (pv 5) pa_nil))) pe_int)))))
            (pss_one (ps_if (pt_cmpR op_eq (pv 6) pe_int (nomark _))
              (pss_one (ps_setLc (i := 7) (own := [("gap", 8)]) (g := gName 8) (by rfl) scDrawn.nd rfl rfl (sw_true rfl rfl rfl (by decide +kernel)) (pi_range1 (by rfl) N.brng (pa_cons (pv 1) pa_nil))
                (blkOk_by (own := [("gap", 8)]) (N := nDrawn) (sc := defScope sDrawn) (by decide +kernel)) (fun _ _ _ _ _ => pg_name (i := 8) scDrawn.nd rfl (Or.inl rfl))
                (fun _ _ _ _ _ => pts_one (pw_or (pt_cmpR op_ge (pv 8) (pv 4) (nomark _)) (pw_or1 (pt_cmpR op_le (pv 8) (pv 5) (nomark _)))).pt) (fun _ _ _ _ _ => pv 8))) pss_nil)))
        (pss_one (ps_expr (pe_bm PySem.F.plainAttrs_list PySem.F.slot_list_append PySem.F.type_list_append mt_append (pv 2) (pa_cons (pe_callTy call_tuple_of (by rfl) N.btup (by decide +kernel) (pa_cons
            (pe_ifExp (pw_or (pt_cmpR (op_neD hu64) (pv 7) (pe_lst pa_nil) (nomark _)) (pw_or1 (pt_cmpR op_eq (pe_h GT hr (by decide) (by rfl) pass0 (pa_cons (pv 0) (pa_cons pe_int pa_nil))) pe_int (nomark _)))).pt (pv 7) (pe_lst (pa_cons (pv 4) pa_nil))) pa_nil)) pa_nil))))))))
      (pss_one (ps_ret (pv 2)))), ?_⟩
    refine ⟨Nat.zero_le _, fun p np => ?_⟩
    have op := dr.off np
    have d0 : DrawAt D n (upd H p (.lst [])) := dr.new np
    have s0 : Same H (upd H p (.lst [])) := same_upd np
    refine ⟨_, rfl, D, n, 8, rfl, d0, by omega, by decide, by decide, fun H1 u d1 f1 u0 u8 => ?_⟩
    have hp1 := f1 _ _ upd_same op.1 op.2
    have f01 : Fr D H H1 := (Fr.of s0).trans f1
    refine ⟨u, rfl, by omega, by omega, for_range (fun i σ H' => Fr D H H' ∧ DrawAt D (n + 1 + 12 * i) H' ∧ ∃ (ys : List V) (ls : Hm.Lots) (x3 x4 x5 x6 x7 x8 : Option V), σ = [some (.ref D.d), some (.int many), some (.ref p), x3, x4, x5, x6, x7, x8] ∧ H' p = some (.lst ys) ∧
      LsAt H' ys ls ∧ ls.length = i ∧ GapsOk many ls) ⟨f01, d1, [], [], none, none, none, none, none, none, rfl, hp1, .nil, rfl, (fun _ z => nomatch z)⟩ ?_ ?_⟩
    · rintro i σ H' hi ⟨fr, d2, ys, ls, x3, x4, x5, x6, x7, x8, rfl, hp, hy, hlen, hk⟩
      have hi7 : i < 7 := by omega
      refine ⟨_, rfl, _, rfl, D, _, many, rfl, d2, by omega, by omega, by omega, fun H2 one d3 f3 o0 o1 => ?_⟩
      refine ⟨_, rfl, _, rfl, D, _, many, rfl, d3, by omega, by omega, by omega, fun H3 two d4 f4 t0 t1 => ?_⟩
      refine ⟨_, rfl, D, _, 4, rfl, d4, by omega, by decide, by decide, fun H4 way d5 f5 w0 w1 => ?_⟩
      refine ⟨by show 3 ≤ sizeLine; decide, fun T nT => ⟨T, _, rfl, SqT.of upd_same, rfl, _, _, rfl, _, _, rfl, _, _, rfl, rfl, ?_⟩⟩
      have f24 : Fr D H' (upd H4 T (.tup [.int one, .int two, .int way])) := (f3.trans (f4.trans f5)).trans (.of (same_upd nT))
      have d6 := d5.new nT (o := .tup [.int one, .int two, .int way])
      have hp6 := f24 _ _ hp op.1 op.2
      have hy6 := hy.fr d2 f24
      have fr6 := fr.trans f24
      generalize upd H4 T (.tup [.int one, .int two, .int way]) = H6 at *
      refine ⟨_, rfl, _, rfl, by omega, by omega, fun R nR => lc_range (fun j H' => Fr D H6 H' ∧ DrawAt D (n + 1 + 12 * i + 3 + j) H' ∧ ∃ acc : List Int, H' R = some (.lst (acc.map V.int)) ∧ Hm.Asc acc ∧ ∀ x ∈ acc, 0 ≤ x ∧ x < (j : Int)) ⟨.of (same_upd nR), d6.new nR, [], upd_same, .nil, (fun _ z => nomatch z)⟩ ?_ ?_⟩
      · rintro j H7 hj ⟨f7, d7, acc, hR, ha, hb⟩
        have oR := d6.off nR
        refine ⟨rfl, _, rfl, D, _, 3, rfl, d7, by omega, by decide, by decide, fun H8 v d8 f8 v0 v3 => ?_⟩
        have hR8 := f8 _ _ hR oR.1 oR.2
        refine ⟨rfl, _, rfl, ite2 (fun c => ?_) (fun c => ?_)⟩
        · refine ⟨_, rfl, _, hR8, ?_, fr_put (f7.trans f8) nR, draw_put d6 nR d8, acc ++ [0 + (j : Int)], ?_, asc_snoc ha fun x hx => ?_, fun x hx => ?_⟩
          · rw [List.length_map]
            have := asc_len ha hb
            exact small1000 (by omega)
          · rw [List.map_append]
            exact upd_same
          · have := (hb x hx).2
            omega
          · rcases List.mem_append.mp hx with hx | hx
            · have := hb x hx
              omega
            · rw [List.mem_singleton.mp hx]
              omega
        · refine ⟨f7.trans f8, d8, acc, hR8, ha, fun x hx => ?_⟩
          have := hb x hx
          omega
      · rintro H7 ⟨f7, d7, acc, hR, ha, hb⟩
        have e8 : (many.toNat : Int) = many := by omega
        have oR := d6.off nR
        have hp7 := f7 _ _ hp6 op.1 op.2
        have hy7 := hy6.fr d6 f7
        have fr7 := fr6.trans f7
        have hb7 : ∀ x ∈ acc, 0 ≤ x ∧ x < many := fun x hx => by have := hb x hx; omega
        refine ⟨fun σ H8 => ∃ (x7 x8 : Option V) (L : Addr) (l : List Int), σ = [some (.ref D.d), some (.int many), some (.ref p), some (.int (0 + (i : Int))), some (.int one), some (.int two), some (.int way), x7, x8] ∧ x7 = some (.ref L) ∧ Same H7 H8 ∧ H8 L = some (.lst (l.map V.int)) ∧ (∀ x ∈ l, 0 ≤ x ∧ x < many) ∧ Hm.Asc l ∧ L ≠ D.d ∧ L ≠ D.w, ?_, ?_⟩
        · refine ⟨_, rfl, rfl, _, rfl, ite2 (fun c => ?_) (fun c => ?_)⟩
          · refine ⟨_, rfl, _, rfl, _, _, rfl, _, rfl, _, rfl, _, _, rfl, _, _, rfl, rfl, ?_⟩
            have lo0 : 0 ≤ (if two < one then two else one) := by split <;> omega
            have lo1 : (if two < one then two else one) ≤ 16777216 := by split <;> omega
            have hi1 : (if two > one then two else one) + 1 ≤ many := by split <;> omega
            have hi0 : 0 ≤ (if two > one then two else one) + 1 := by split <;> omega
            refine ⟨_, _, rfl, rfl, RgOk.of_le lo0 (by omega) lo1 hi0, fun L nL => ⟨_, _, L, _, rfl, rfl, same_upd nL, ?_, (rg_gap lo0 hi1).1, (rg_gap lo0 hi1).2, (d7.off nL).1, (d7.off nL).2⟩⟩
            rw [rg_ints]
            exact upd_same
          · refine ⟨_, rfl, rfl, _, rfl, ite2 (fun c => ?_) (fun c => ?_)⟩
            · refine ⟨_, rfl, _, rfl, by omega, by omega, fun R2 nR2 => lc_range (fun j H9 => Same H7 H9 ∧ ∃ ac2 : List Int, H9 R2 = some (.lst (ac2.map V.int)) ∧ Hm.Asc ac2 ∧ ∀ x ∈ ac2, 0 ≤ x ∧ x < (j : Int)) ⟨same_upd nR2, [], upd_same, .nil, (fun _ z => nomatch z)⟩ ?_ ?_⟩
              · rintro j H9 hj ⟨s9, ac2, hR2, ha2, hb2⟩
                have yes : some (HO.lst (ac2.map V.int)) = some (HO.lst (ac2.map V.int)) → (∃ ac : List V, H9 R2 = some (.lst ac) ∧ ac.length < sizeLine ∧ Same H7 (upd H9 R2 (.lst (ac ++ [V.int (0 + (j : Int))]))) ∧ ∃ ac3 : List Int, (upd H9 R2 (.lst (ac ++ [V.int (0 + (j : Int))]))) R2 = some (.lst (ac3.map V.int)) ∧ Hm.Asc ac3 ∧ ∀ x ∈ ac3, 0 ≤ x ∧ x < ((j + 1 : Nat) : Int)) := fun _ => by
                  refine ⟨_, hR2, ?_, same_put s9 nR2, ac2 ++ [0 + (j : Int)], ?_, asc_snoc ha2 fun x hx => ?_, fun x hx => ?_⟩
                  · rw [List.length_map]
                    have := asc_len ha2 hb2
                    exact small1000 (by omega)
                  · rw [List.map_append]
                    exact upd_same
                  · have := (hb2 x hx).2
                    omega
                  · rcases List.mem_append.mp hx with hx | hx
                    · have := hb2 x hx
                      omega
                    · rw [List.mem_singleton.mp hx]
                      omega
                have non : Same H7 H9 ∧ ∃ ac3 : List Int, H9 R2 = some (.lst (ac3.map V.int)) ∧ Hm.Asc ac3 ∧ ∀ x ∈ ac3, 0 ≤ x ∧ x < ((j + 1 : Nat) : Int) := ⟨s9, ac2, hR2, ha2, fun x hx => by have := hb2 x hx; omega⟩
                refine ⟨rfl, _, rfl, _, rfl, _, _, rfl, rfl, _, rfl, ite2 (fun c => ?_) (fun c => ?_)⟩
                · exact iteT ⟨_, rfl, yes rfl⟩
                · refine ⟨_, rfl, _, rfl, _, _, rfl, rfl, _, rfl, ite2 (fun c => ?_) (fun c => ?_)⟩
                  · exact ⟨_, rfl, yes rfl⟩
                  · exact non
              · rintro H9 ⟨s9, ac2, hR2, ha2, hb2⟩
                exact ⟨_, _, R2, ac2, rfl, rfl, s9, hR2, (fun x hx => by have := hb2 x hx; omega), ha2, (d7.off nR2).1, (d7.off nR2).2⟩
            · exact ⟨_, _, R, acc, rfl, rfl, (fun _ _ z => z), hR, hb7, ha, oR.1, oR.2⟩
        · rintro σ H8 ⟨x7, x8, L, l, rfl, rfl, s8, hL, hl, al, Ld, Lw⟩
          have fin : ∀ (H9 : Hp) (T2 : Addr) (l' : List Int) (m' : Nat), Fr D H H9 → DrawAt D m' H9 → m' ≤ n + 1 + 12 * (i + 1) → H9 p = some (.lst ys) → LsAt H9 ys ls → H9 T2 = none → (∀ x ∈ l', 0 ≤ x ∧ x < many) → Hm.Asc l' →
              (upd H9 T2 (.tup (l'.map V.int))) p = some (.lst ys) ∧ ys.length < sizeLine ∧ Fr D H (upd (upd H9 T2 (.tup (l'.map V.int))) p (.lst (ys ++ [V.ref T2]))) ∧ DrawAt D (n + 1 + 12 * (i + 1)) (upd (upd H9 T2 (.tup (l'.map V.int))) p (.lst (ys ++ [V.ref T2]))) ∧
              LsAt (upd (upd H9 T2 (.tup (l'.map V.int))) p (.lst (ys ++ [V.ref T2]))) (ys ++ [V.ref T2]) (ls ++ [l']) ∧ (ls ++ [l']).length = i + 1 ∧ GapsOk many (ls ++ [l']) := by
            intro H9 T2 l' m' fr9 d9 hm9 hp9 hy9 nT2 k1 k2
            have s10 := same_upd (o := .tup (l'.map V.int)) nT2
            have hp10 := s10 _ _ hp9
            refine ⟨hp10, small1000 (by rw [hy9.len]; omega), fr_put (fr9.trans (.of s10)) np, draw_put dr np ((d9.new nT2).mono hm9), LsAt.snoc (LotAt.off (no_tup hp10) ⟨T2, rfl, upd_same⟩) ((hy9.sm s10).off (no_tup hp10)), by rw [List.length_append, hlen]; rfl, fun l hl => ?_⟩
            rcases List.mem_append.mp hl with hl | hl
            · exact hk l hl
            · rw [List.mem_singleton.mp hl]
              exact ⟨k1, k2⟩
          have fr8 := fr7.trans (.of s8)
          have d8 := d7.sm s8
          have hp8 := s8 _ _ hp7
          have hy8 := hy7.sm s8
          refine ⟨_, rfl, .inl ⟨rfl, _, SqL.of hp8⟩, _, rfl, Nat.zero_le _, fun Z nZ => ?_⟩
          have sZ := same_upd (o := .lst []) nZ
          refine ⟨_, _, .lst (SqL.of (sZ _ _ hL)) (dp_ints l), .lst (SqL.of upd_same) .nil, shaped_ints l, by decide +kernel, _, rfl, ?_⟩
          rw [eqv_nil_ints]
          have fr9 := fr8.trans (.of sZ)
          have d9 := d8.new nZ (o := .lst [])
          have hp9 := sZ _ _ hp8
          have hy9 := hy8.sm sZ
          have hL9 := sZ _ _ hL
          generalize upd H8 Z (.lst []) = H9 at *
          have one9 : (∀ x ∈ [one], 0 ≤ x ∧ x < many) ∧ Hm.Asc [one] := ⟨fun x hx => by rw [List.mem_singleton.mp hx]; omega, List.pairwise_singleton _ _⟩
          cases l with
          | cons z0 zr =>
            refine iteT (iteT ⟨_, rfl, L, _, rfl, .inl ⟨SqL.of hL9, fun T2 nT2 => ?_⟩⟩)
            obtain ⟨a1, a2, a3, a4, a5, a6, a7⟩ := fin H9 T2 _ _ fr9 d9 (by omega) hp9 hy9 nT2 hl al
            exact ⟨p, ys, _, rfl, rfl, a1, a2, a3, a4, _, _, _, _, _, _, _, _, rfl, upd_same, a5, a6, a7⟩
          | nil =>
            refine iteF ⟨_, rfl, D, _, 6, rfl, d9, by omega, by decide, by decide, fun H10 v d10 f10 v0 v6 => ?_⟩
            have fr10 := fr9.trans f10
            have hp10 := f10 _ _ hp9 op.1 op.2
            have hy10 := hy9.fr d9 f10
            refine ⟨rfl, _, rfl, ite2 (fun c => ?_) (fun c => ?_)⟩
            · refine ⟨_, rfl, L, _, rfl, .inl ⟨SqL.of (f10 _ _ hL9 Ld Lw), fun T2 nT2 => ?_⟩⟩
              obtain ⟨a1, a2, a3, a4, a5, a6, a7⟩ := fin H10 T2 [] _ fr10 d10 (by omega) hp10 hy10 nT2 hl al
              exact ⟨p, ys, _, rfl, rfl, a1, a2, a3, a4, _, _, _, _, _, _, _, _, rfl, upd_same, a5, a6, a7⟩
            · refine ⟨_, rfl, by show 1 ≤ sizeLine; decide, fun Y nY => ⟨Y, _, rfl, .inl ⟨SqL.of upd_same, fun T2 nT2 => ?_⟩⟩⟩
              have sY := same_upd (o := .lst [.int one]) nY
              obtain ⟨a1, a2, a3, a4, a5, a6, a7⟩ := fin _ T2 [one] _ (fr10.trans (.of sY)) (d10.new nY) (by omega) (sY _ _ hp10) (hy10.sm sY) nT2 one9.1 one9.2
              exact ⟨p, ys, _, rfl, rfl, a1, a2, a3, a4, _, _, _, _, _, _, _, _, rfl, upd_same, a5, a6, a7⟩
    · rintro σ H' ⟨fr, d2, ys, ls, x3, x4, x5, x6, x7, x8, rfl, hp, hy, hlen, hk⟩
      exact ⟨_, rfl, q H' p ys ls np hp hy (by omega) hk (d2.mono (by omega)) fr⟩
end
end Lm
/-! The law's size, lies_in. -/
namespace Lm
open PySem PySem.Spec PyProof.Rows L2
theorem First.isNum {ls : Hm.Lots} {m : Int} {f : List Int} (F : Hm.First ls m f) : Hm.Num ls f.length := Hm.First.num F
section
variable {P : Program} {w : World} {K : PySem.W.Frag} {mg : Str → Option Value} {base : Heap}
abbrev sSize : Stmt := topS 37
theorem scSize : FnScope ["many_here", "lots"] ["many_here", "lots"] (defScope sSize) := ⟨rfl, rfl, rfl, by decide +kernel, rfl, by decide +kernel, by decide +kernel⟩
def spSize : Sp := fun vs H Q _ => ∃ (D : DrA) (n : Int) (v : V) (ls : Hm.Lots), vs = [.int n, v] ∧ LotsD D H v n ls ∧ [] ∉ ls ∧ ∀ H' (m : Nat), Same H H' → Hm.Num ls m → Q (.int m) H'
theorem ok_size {f : Addr} {fd : FuncData} (F : Fun K "_law_size" "_law_size" sSize f fd) (N : Bl mg) (GL : Has P w K mg base CX0 22 "least_hits" ["many", "lots"] spLeast0) : FnOk P w K mg base CX0 23 f fd ["many_here", "lots"] spSize := by
  refine F.ok scSize (fun vs H Q E h => ?_) (fun cdv A outer s H vs Q E hr h => ?_)
  · obtain ⟨D, n, v, ls, rfl, _⟩ := h
    rfl
  · obtain ⟨D, n, v, ls, rfl, hL, hne, q⟩ := h
    refine ⟨_, pss_one (ps_ret (pe_callB call_len_seq (by rfl) N.blen PySem.boot_len (pa_cons (pe_h GL hr (by decide) (by rfl) pass0 (pa_cons (pv 0) (pa_cons (pv 1) pa_nil))) pa_nil))), ?_⟩
    refine ⟨_, rfl, _, rfl, D, n, v, ls, rfl, hL, fun H1 u s1 hu => ?_⟩
    rcases hu with ⟨rfl, h0⟩ | ⟨p, g, rfl, hp, hF⟩
    · exact absurd h0 hne
    · refine ⟨p, _, rfl, .inr (SqT.of hp), ?_⟩
      rw [List.length_map]
      exact q H1 _ s1 hF.num
abbrev sLies : Stmt := topS 43
def nLies : List Str := ["one", "two", "gap"]
theorem scLies : FnScope nLies ["one", "two"] (defScope sLies) := ⟨rfl, rfl, rfl, by decide +kernel, rfl, by decide +kernel, by decide +kernel⟩
def spLies : Sp := fun vs H Q _ => ∃ (a b : Addr) (l k : List Int), vs = [.ref a, .ref b] ∧ H a = some (.tup (l.map V.int)) ∧ H b = some (.tup (k.map V.int)) ∧ l.length ≤ 500 ∧ ∀ H', Same H H' → Q (.bl (decide (∀ x ∈ l, x ∈ k))) H'
theorem ok_lies {f : Addr} {fd : FuncData} (F : Fun K "_law_lies_in" "_law_lies_in" sLies f fd) : FnOk P w K mg base CX0 1 f fd ["one", "two"] spLies := by
  refine F.ok scLies (fun vs H Q E h => ?_) (fun cdv A outer s H vs Q E hr h => ?_)
  · obtain ⟨a, b, l, k, rfl, _⟩ := h
    rfl
  · obtain ⟨a, b, l, k, rfl, ha, hb, hl, q⟩ := h
    have hu64 : (A.deeper (envOfC "_law_lies_in" (defScope sLies) s.heap.objs.size f cdv)).units + 64 < cLine := by
      have := hr.un
      omega
    refine ⟨_, pss_one (ps_ret (pe_cmpR (op_eqD hu64) (pe_lc (own := [("gap", 2)]) (g := gName 2) rfl scLies.nd (pi_tup (pv 0))
        (blkOk_by (own := [("gap", 2)]) (N := nLies) (sc := defScope sLies) (by decide +kernel)) (fun _ _ _ _ _ => pg_name (i := 2) scLies.nd rfl (Or.inl rfl))
        (fun _ _ _ _ _ => pts_one (pt_cmpR (show OpR _ _ (rIn K true) from op_notIn_seq) (pv 2) (pv 1) (by rfl))) (fun _ _ _ _ _ => pv 2)) (pe_lst pa_nil) (nomark _))), ?_⟩
    refine ⟨_, rfl, a, rfl, ⟨_, SqT.of ha⟩, fun R nR => lc_tup (K := K) (a := a) (xs := l.map V.int) (fun j H2 => Same H H2 ∧ H2 R = some (.lst (((l.take j).filter fun g => !decide (g ∈ k)).map V.int))) ⟨same_upd nR, upd_same⟩ (fun j H2 _ h => SqT.of (h.1 _ _ ha)) ?_ ?_⟩
    · rintro j x H2 hxj ⟨s2, hR⟩
      obtain ⟨z, hz, rfl⟩ := int_at hxj
      have hlen : ((l.take j).filter fun g => !decide (g ∈ k)).length ≤ 500 := Nat.le_trans (List.length_filter_le _ _) (by rw [List.length_take]; omega)
      have st := filter_take_succ (p := fun g => !decide (g ∈ k)) hz
      refine ⟨rfl, _, rfl, _, rfl, b, _, rfl, .inr (SqT.of (s2 _ _ hb)), rfl, flat_ints k, _, rfl, ?_⟩
      rw [in_ints]
      by_cases hg : z ∈ k
      · rw [decide_eq_true hg]
        refine iteF ⟨s2, ?_⟩
        rw [if_neg (by simpa using hg), List.append_nil] at st
        rw [st]
        exact hR
      · rw [decide_eq_false hg]
        refine iteT ⟨_, rfl, _, hR, small1000 (by rw [List.length_map]; omega), same_put s2 nR, ?_⟩
        rw [if_pos (by simpa using hg)] at st
        rw [st, List.map_append]
        exact upd_same
    · rintro H2 ⟨s2, hR⟩
      rw [List.length_map, List.take_length] at hR
      refine ⟨Nat.zero_le _, fun Z nZ => ?_⟩
      have s3 : Same H2 (upd H2 Z (.lst [])) := same_upd nZ
      refine ⟨_, _, .lst (SqL.of (s3 _ _ hR)) (dp_ints _), .lst (SqL.of upd_same) .nil, shaped_ints _, by decide +kernel, ?_⟩
      rw [eqv_nil_ints]
      have e : (l.filter fun g => !decide (g ∈ k)).isEmpty = decide (∀ x ∈ l, x ∈ k) := by
        rw [Bool.eq_iff_iff, List.isEmpty_iff, List.filter_eq_nil_iff, decide_eq_true_iff]
        constructor
        · intro h x hx
          have := h x hx
          simpa using this
        · intro h x hx
          simpa using h x hx
      rw [e]
      exact q _ (fun b o e => s3 b o (s2 b o e))
end
end Lm
/-! What the law asks of any lots: where its statements run. -/
namespace Lm
open PySem PySem.Spec PyProof.Rows L2
/-! ### one statement after the other -/
def sx (x : Nat → Option V) (i : Nat) (v : Option V) : Nat → Option V := fun j => if j = i then v else x j
def StepS (X : Cx) (st : List Stmt) (I J : L2.St → Hp → Prop) : Prop := ∃ t, PSs X st t ∧ ∀ D σ H, I σ H → (∀ σ' H', J σ' H' → D.nx σ' H') → t D σ H
theorem steps_nil {X : Cx} {I : L2.St → Hp → Prop} : StepS X [] I I := ⟨_, pss_nil, fun D σ H h q => q σ H h⟩
def Step (X : Cx) (st : Stmt) (I J : L2.St → Hp → Prop) : Prop := ∃ t, PS X st t ∧ ∀ D σ H, I σ H → (∀ σ' H', J σ' H' → D.nx σ' H') → t D σ H
theorem steps_cons {X : Cx} {st : Stmt} {r : List Stmt} {I J L : L2.St → Hp → Prop} (h1 : Step X st I J) (h2 : StepS X r J L) : StepS X (st :: r) I L := by
  obtain ⟨t1, p1, q1⟩ := h1
  obtain ⟨t2, p2, q2⟩ := h2
  exact ⟨_, pss_cons p1 p2, fun D σ H h q => q1 _ σ H h fun σ' H' h' => q2 _ σ' H' h' q⟩
theorem steps_all {ι : Type} {X : Cx} {st : List Stmt} {I J : ι → L2.St → Hp → Prop} (h : ∀ i, StepS X st (I i) (J i)) :
    ∃ t, PSs X st t ∧ ∀ i D σ H, I i σ H → (∀ σ' H', J i σ' H' → D.nx σ' H') → t D σ H :=
  ⟨fun D σ H => ∃ i, Classical.choose (h i) D σ H, ⟨fun pins s σ H D I ⟨i, q⟩ => (Classical.choose_spec (h i)).1.run pins s σ H D I q⟩, fun i D σ H hI hN => ⟨i, (Classical.choose_spec (h i)).2 D σ H hI hN⟩⟩
/-! ### data of lots -/
theorem eqvAll_ints : ∀ a b : List Int, PyData.eqvAll (a.map .int) (b.map .int) = decide (a = b)
  | [], [] => by simp [PyData.eqvAll]
  | [], _ :: _ => by simp [PyData.eqvAll]
  | _ :: _, [] => by simp [PyData.eqvAll]
  | x :: xs, y :: ys => by
    show PyData.eqvAll (.int x :: xs.map .int) (.int y :: ys.map .int) = _
    rw [PyData.eqvAll, eqvAll_ints xs ys]
    by_cases h : x = y
    · simp [PyData.eqv, h]
    · simp [PyData.eqv, h]
theorem eqv_lots (a b : List Int) : PyData.eqv (lotD a) (lotD b) = decide (a = b) := by
  unfold lotD
  simp only [PyData.eqv]
  exact eqvAll_ints a b
theorem dp_tup {K : PySem.W.Frag} {H : Hp} {p : Addr} {l : List Int} (h : H p = some (.tup (l.map V.int))) : Dp K H (.ref p) (lotD l) := dp_lot ⟨p, rfl, h⟩
theorem lots_at {D : DrA} {k : Nat} {H : Hp} {b : Addr} {ys : List V} {n : Int} {ms : Hm.Lots} (dr : DrawAt D k H) (hb : H b = some (.lst ys)) (hl : LsAt H ys ms) (b1 : b ≠ D.d) (b2 : b ≠ D.w) (g : GapsOk n ms) (n1 : 1 ≤ n) (n2 : n ≤ 16) (h4 : ms.length ≤ 400) : LotsD D H (.ref b) n ms :=
  ⟨b, ys, rfl, hb, .lst hb b1 b2 (hl.da dr), hl.da dr, g, n1, n2, h4⟩
/-! ### set(tuple of ints) -/
def rSetTI (K : PySem.W.Frag) (w : World) : List V → Hp → VK → Prop := fun vs H Q => ∃ (l : Addr) (ns : List Int), vs = [V.ref l] ∧ SqT K H l (ns.map V.int) ∧ ns.length < 60 ∧ ∀ a c, H a = none → c ≤ ns.length → Q (.ref a) (upd H a (SetO w a (fun j => decide (j ∈ ns)) c))
theorem cr_setTI {X : Cx} (hc : X.calm = true) : CallR X (.type "set") (rSetTI X.K X.w) := by
  intro pins s σ H xs us Q I r h
  obtain ⟨l, ns, rfl, hl, h6, q⟩ := h
  obtain rfl := Vals.ref1 r
  obtain ⟨its, rv, ht, _⟩ := I.tuple hl
  refine call_set_tupI ns (I.ok.hd hc) ht (by simpa using ints_of_vals rv) (by unfold scanBound; omega) fun h' tk c R hc' kp => ?_
  exact ⟨.ref _, _, I.laid (t' := tk) kp (Nat.le_refl _) (setO_new R), rfl, q _ c (I.hok.fresh (Nat.le_refl _)) hc'⟩
theorem cr_setTIw {X : Cx} (K : PySem.W.Frag) (w : World) (hc : X.calm = true) (hK : X.K = K := by rfl) (hw : X.w = w := by rfl) : CallR X (.type "set") (rSetTI K w) := hK ▸ hw ▸ cr_setTI hc
theorem cr_sortedSetW {X : Cx} (w : World) (hc : X.calm = true) (hw : X.w = w := by rfl) : CallR X (.builtin "sorted") (rSortedSet w) := hw ▸ cr_sortedSet hc
/-! ### lots_right -/
section
variable {P : Program} {w : World} {K : PySem.W.Frag} {mg : Str → Option Value} {base : Heap}
abbrev sLR : Stmt := topS 44
def nLR : List Str := ["state", "many_here", "lots", "size_here", "spot", "least", "fewer", "wider", "about", "shift", "round_here", "proof", "gaps_here", "lot", "other", "gap"]
theorem scLR : FnScope nLR ["state", "many_here", "lots"] (defScope sLR) := ⟨rfl, rfl, rfl, by decide +kernel, rfl, by decide +kernel, by decide +kernel⟩
def stR (i : Nat) : Stmt := (defBody sLR).getD i (.Pass ⟨0, 0, 0, 0⟩)
def SR (x : Nat → Option V) : L2.St := [x 0, x 1, x 2, x 3, x 4, x 5, x 6, x 7, x 8, x 9, x 10, x 11, x 12, x 13, x 14, x 15]
abbrev XR (P : Program) (w : World) (K : PySem.W.Frag) (mg : Str → Option Value) (base : Heap) (f : Addr) (cdv : Value) (A : Around) (outer : List Env) (s : Shared) (H : Hp) (E : XK) : Cx := (cxOf C8.CX0 P w K mg base nLR "_law_lots_right" (defScope sLR) f cdv A outer s H E).nox
structure CalR (P : Program) (w : World) (K : PySem.W.Frag) (mg : Str → Option Value) (base : Heap) : Prop where
  N : Bl mg
  bset : mg "set" = none
  GT : Has P w K mg base CX0 2 "_law_draw" ["state", "size_here"] spTake
  GS : Has P w K mg base CX0 23 "_law_size" ["many_here", "lots"] spSize
  GL : Has P w K mg base CX0 22 "least_hits" ["many", "lots"] spLeast0
  GI : Has P w K mg base CX0 1 "_law_lies_in" ["one", "two"] spLies
  GH : Has P w K mg base CX0 21 "hit_tree" ["many", "lots", "number"] spHitT
  GJ : Has P w K mg base CX0 22 "is_hit_tree" ["many", "lots", "number", "thing"] spIsHT
end
/-- the lots that lots_right was given -/
structure LR (G0 : Hp) (D : DrA) (n : Nat) (many : Int) (a : Addr) (xs : List V) (ls : Hm.Lots) (m : Nat) (x : Nat → Option V) (H : Hp) : Prop where
  x0 : x 0 = some (.ref D.d)
  x1 : x 1 = some (.int many)
  x2 : x 2 = some (.ref a)
  x3 : x 3 = some (.int (m : Nat))
  ha : H a = some (.lst xs)
  hl : LsAt H xs ls
  gk : GapsOk many ls
  l8 : ls.length ≤ 8
  l0 : 0 < ls.length
  m1 : 1 ≤ many
  m16 : many ≤ 16
  ne : [] ∉ ls
  hm : Hm.Num ls m
  dr : DrawAt D n H
  ad : a ≠ D.d
  aw : a ≠ D.w
  fr0 : Fr D G0 H
section
variable {G0 : Hp} {D : DrA} {n : Nat} {many : Int} {a : Addr} {xs : List V} {ls : Hm.Lots} {m : Nat} {x : Nat → Option V} {H H' : Hp}
theorem LR.sm (I : LR G0 D n many a xs ls m x H) (s : Same H H') : LR G0 D n many a xs ls m x H' :=
  ⟨I.x0, I.x1, I.x2, I.x3, s _ _ I.ha, I.hl.sm s, I.gk, I.l8, I.l0, I.m1, I.m16, I.ne, I.hm, I.dr.sm s, I.ad, I.aw, I.fr0.trans (.of s)⟩
theorem LR.fr {n' : Nat} (I : LR G0 D n many a xs ls m x H) (f : Fr D H H') (d : DrawAt D n' H') : LR G0 D n' many a xs ls m x H' :=
  ⟨I.x0, I.x1, I.x2, I.x3, f _ _ I.ha I.ad I.aw, I.hl.fr I.dr f, I.gk, I.l8, I.l0, I.m1, I.m16, I.ne, I.hm, d, I.ad, I.aw, I.fr0.trans f⟩
theorem LR.set (I : LR G0 D n many a xs ls m x H) (i : Nat) (v : Option V) (hi : 4 ≤ i) : LR G0 D n many a xs ls m (sx x i v) H := by
  have e : ∀ j, j < 4 → sx x i v j = x j := fun j hj => if_neg (by omega)
  exact ⟨(e 0 (by omega)).trans I.x0, (e 1 (by omega)).trans I.x1, (e 2 (by omega)).trans I.x2, (e 3 (by omega)).trans I.x3, I.ha, I.hl, I.gk, I.l8, I.l0, I.m1, I.m16, I.ne, I.hm, I.dr, I.ad, I.aw, I.fr0⟩
theorem LR.lots (I : LR G0 D n many a xs ls m x H) : LotsD D H (.ref a) many ls := lots_at I.dr I.ha I.hl I.ad I.aw I.gk I.m1 I.m16 (by have := I.l8; omega)
theorem LR.fit (I : LR G0 D n many a xs ls m x H) : Fit ls := (gaps_fit I.gk I.m16 (by have := I.l8; omega)).1
end
section
variable {P : Program} {w : World} {K : PySem.W.Frag} {mg : Str → Option Value} {base : Heap} {f : Addr} {cdv : Value} {A : Around} {outer : List Env} {s : Shared} {H0 G0 : Hp} {E : XK} {D : DrA} {n : Nat} {many : Int} {a : Addr} {xs : List V} {ls : Hm.Lots}
abbrev RX (P : Program) (w : World) (K : PySem.W.Frag) (mg : Str → Option Value) (base : Heap) (f : Addr) (cdv : Value) (A : Around) (outer : List Env) (s : Shared) (H : Hp) (E : XK) (i : Nat) (I J : L2.St → Hp → Prop) : Prop := Step (XR P w K mg base f cdv A outer s H E) (stR i) I J
abbrev RoomR (A : Around) (s : Shared) (f : Addr) (cdv : Value) : Prop := Room 23 (A.deeper (envOfC "_law_lots_right" (defScope sLR) s.heap.objs.size f cdv))
def R1 (G0 : Hp) (D : DrA) (n : Nat) (many : Int) (a : Addr) (xs : List V) (ls : Hm.Lots) (B0 : Hm.Lots → Nat → (Nat → Option V) → Hp → Prop) : L2.St → Hp → Prop := fun σ H => ∃ x m k, σ = SR x ∧ LR G0 D n many a xs ls m x H ∧ x 4 = some (.int (k : Nat)) ∧ k < ls.length ∧ B0 ls k x H
theorem str0 (C : CalR P w K mg base) (hr : RoomR A s f cdv) (hn : n + 10 ≤ B) : RX P w K mg base f cdv A outer s H0 E 0
    (fun σ H => ∃ x, σ = SR x ∧ x 0 = some (.ref D.d) ∧ x 1 = some (.int many) ∧ x 2 = some (.ref a) ∧ H a = some (.lst xs) ∧ LsAt H xs ls ∧ GapsOk many ls ∧ ls.length ≤ 8 ∧ 0 < ls.length ∧ 1 ≤ many ∧ many ≤ 16 ∧ [] ∉ ls ∧ DrawAt D n H ∧ a ≠ D.d ∧ a ≠ D.w ∧ Fr D G0 H)
    (R1 G0 D (n + 1) many a xs ls fun _ _ _ _ => True) := by
  refine ⟨_, ps_par (i := 3) (j := 4) rfl scLR.nd rfl rfl (by decide) rfl rfl (pa_cons (pe_h C.GS hr (by decide) (by rfl) pass0 (pa_cons (pv 1) (pa_cons (pv 2) pa_nil)))
    (pa_cons (pe_h C.GT hr (by decide) (by rfl) pass0 (pa_cons (pv 0) (pa_cons (pe_callB call_len_seq (by rfl) C.N.blen PySem.boot_len (pa_cons (pv 2) pa_nil)) pa_nil))) pa_nil)) rfl, ?_⟩
  rintro Dn σ H ⟨x, rfl, h0, h1, h2, ha, hl, gk, l8, l0, m1, m16, ne, dr, ad, aw, fr0⟩ hN
  refine ⟨_, congrArg some h1, _, congrArg some h2, D, many, _, ls, rfl, lots_at dr ha hl ad aw gk m1 m16 (by omega), ne, fun H1 m s1 hm => ?_⟩
  have hx := hl.len
  refine ⟨_, congrArg some h0, _, congrArg some h2, a, xs, rfl, .inl (SqL.of (s1 _ _ ha)), D, n, _, rfl, dr.sm s1, by omega, by omega, by omega, fun H2 u d2 f2 u0 u1 => ?_⟩
  obtain ⟨k, rfl⟩ : ∃ k : Nat, u = (k : Int) := ⟨u.toNat, by omega⟩
  refine ⟨_, _, rfl, ?_⟩
  refine hN _ _ ⟨sx (sx x 3 (some (.int (m : Nat)))) 4 (some (.int (k : Nat))), m, k, rfl, ?_, rfl, by omega, trivial⟩
  exact ⟨h0, h1, h2, rfl, f2 _ _ (s1 _ _ ha) ad aw, (hl.sm s1).fr (dr.sm s1) f2, gk, l8, l0, m1, m16, ne, hm, d2, ad, aw, (fr0.trans (.of s1)).trans f2⟩
end
end Lm
/-! lots_right: the least lots, one lot less. -/
namespace Lm
open PySem PySem.Spec PyProof.Rows L2
def inB (l o : List Int) : Bool := !decide (o = l) && decide (∀ x ∈ o, x ∈ l)
def minB (ls : Hm.Lots) (l : List Int) : Bool := (ls.filter (inB l)).isEmpty
theorem minB_iff {ls : Hm.Lots} {l : List Int} : minB ls l = true ↔ Hm.Min ls l := by
  unfold minB Hm.Min
  rw [List.isEmpty_iff, List.filter_eq_nil_iff]
  constructor
  · intro h o ho hne hs
    apply h o ho
    unfold inB
    rw [decide_eq_false hne, decide_eq_true hs]
    rfl
  · intro h o ho hb
    unfold inB at hb
    rw [Bool.and_eq_true, Bool.not_eq_true', decide_eq_false_iff_not, decide_eq_true_iff] at hb
    exact h o ho hb.1 hb.2
theorem filt_one (p : List Int → Bool) (ls : Hm.Lots) : (ls.filter p).isEmpty = ((List.replicate (ls.filter p).length (1 : Int)).isEmpty) := by
  cases ls.filter p <;> rfl
section
variable {P : Program} {w : World} {K : PySem.W.Frag} {mg : Str → Option Value} {base : Heap} {f : Addr} {cdv : Value} {A : Around} {outer : List Env} {s : Shared} {H0 G0 : Hp} {E : XK} {D : DrA} {n : Nat} {many : Int} {a : Addr} {xs : List V} {ls : Hm.Lots}
/-- the least lots stand at 5 -/
def LeastAt (D : DrA) (ls : Hm.Lots) (k : Nat) (x : Nat → Option V) (H : Hp) : Prop := ∃ b ys ms, x 5 = some (.ref b) ∧ H b = some (.lst ys) ∧ LsAt H ys ms ∧ b ≠ D.d ∧ b ≠ D.w ∧ (∀ l, l ∈ ms ↔ l ∈ ls ∧ Hm.Min ls l) ∧ ms.length ≤ 8
theorem str1 (C : CalR P w K mg base) (hr : RoomR A s f cdv) : RX P w K mg base f cdv A outer s H0 E 1 (R1 G0 D n many a xs ls fun _ _ _ _ => True) (R1 G0 D n many a xs ls (LeastAt D)) := by
  refine ⟨_, ps_setLc (i := 5) (own := [("lot", 13)]) (g := gName 13) (by rfl) scLR.nd rfl rfl (sw_true rfl rfl rfl (by decide +kernel)) (pi_listK K (pv 2))
        (blkOk_by (own := [("lot", 13)]) (N := nLR) (sc := defScope sLR) (by decide +kernel)) (fun _ _ _ _ _ => pg_name (i := 13) scLR.nd rfl (Or.inr rfl))
        (fun _ _ _ _ _ => pts_one (pt_cmpR (show OpR _ _ (rEqD K) from op_eqD hr.units) (pe_lc (own := [("other", 14)]) (g := gName 14) rfl scLR.nd (pi_listK K (pv 2))
            (blkOk_by (by show blkC nLR ⟨.function, [(".0", .local), ("lot", .cell), ("lots", .cell)], false, false, []⟩ _ [("other", 14)] = true; decide +kernel)) (fun _ _ _ _ _ => pg_name (i := 14) scLR.nd rfl (Or.inl rfl))
            (fun _ _ _ _ _ => pts_one (pw_and (pt_cmpR (show OpR _ _ (rNeD K) from op_neD hr.units) (pv 14) (pv 13) (nomark _)) (pw_and1 (pt_val (pe_h C.GI (hr.mono (Nat.le_refl 23)) (by decide) (by rfl) pass0 (pa_cons (pv 14) (pa_cons (pv 13) pa_nil)))))).pt)
            (fun _ _ _ _ _ => pe_int)) (pe_lst pa_nil) (nomark _)))
        (fun _ _ _ _ _ => pv 13), ?_⟩
  rintro Dn σ H ⟨x, m, k, rfl, I, h4, hk, _⟩ hN
  have hx := I.hl.len
  have l8 := I.l8
  have each := I.fit.each
  refine ⟨_, congrArg some I.x2, a, rfl, ⟨_, SqL.of I.ha⟩, fun R nR => lc_list (K := K) (a := a) (xs := xs) (fun i H' => Same H H' ∧ ∃ ys, H' R = some (.lst ys) ∧ LsAt H' ys ((ls.take i).filter (minB ls))) ⟨same_upd nR, [], upd_same, .nil⟩ (fun i H' _ h => SqL.of (h.1 _ _ I.ha)) ?_ ?_⟩
  · rintro i v H' hxi ⟨s1, ys, hR, hy⟩
    obtain ⟨l, hli, b, rfl, hb⟩ := I.hl.get hxi
    have hyl : ys.length ≤ 8 := by
      rw [hy.len]
      refine Nat.le_trans (List.length_filter_le _ _) ?_
      rw [List.length_take]
      omega
    have st := filter_take_succ (p := minB ls) hli
    refine ⟨rfl, _, congrArg some I.x2, a, rfl, ⟨_, SqL.of (s1 _ _ I.ha)⟩, fun R2 nR2 => lc_list (K := K) (a := a) (xs := xs) (fun j H2 => Same H' H2 ∧ H2 R2 = some (.lst ((List.replicate ((ls.take j).filter (inB l)).length (1 : Int)).map V.int))) ⟨same_upd nR2, upd_same⟩ (fun j H2 _ h => SqL.of (h.1 _ _ (s1 _ _ I.ha))) ?_ ?_⟩
    · rintro j v H2 hxj ⟨s2, hR2⟩
      obtain ⟨o, hoj, c, rfl, hc⟩ := I.hl.get hxj
      have hlen : ((ls.take j).filter (inB l)).length ≤ 8 := Nat.le_trans (List.length_filter_le _ _) (by rw [List.length_take]; omega)
      have st2 := filter_take_succ (p := inB l) hoj
      have s12 : Same H H2 := fun b o e => s2 b o (s1 b o e)
      refine ⟨rfl, _, rfl, _, rfl, lotD o, lotD l, dp_tup (s12 _ _ hc), dp_tup (s12 _ _ hb), shaped_lot o, shaped_lot l, _, rfl, ?_⟩
      rw [eqv_lots]
      by_cases e : o = l
      · rw [decide_eq_true e]
        refine iteF ⟨s2, ?_⟩
        rw [if_neg (by unfold inB; rw [decide_eq_true e]; exact Bool.false_ne_true), List.append_nil] at st2
        rw [st2]
        exact hR2
      · rw [decide_eq_false e]
        refine iteT ⟨_, rfl, _, rfl, c, b, o, l, rfl, s12 _ _ hc, s12 _ _ hb, each o (List.mem_of_getElem? hoj), fun H3 s3 => ⟨_, rfl, ?_⟩⟩
        by_cases e2 : ∀ x ∈ o, x ∈ l
        · rw [decide_eq_true e2]
          refine iteT ⟨_, s3 _ _ hR2, small1000 (by rw [List.length_map, List.length_replicate]; omega), same_put (fun b o e => s3 b o (s2 b o e)) nR2, ?_⟩
          rw [if_pos (by unfold inB; rw [decide_eq_false e, decide_eq_true e2]; rfl)] at st2
          rw [st2, List.length_append]
          show upd H3 R2 _ R2 = some (.lst ((List.replicate (_ + 1) (1 : Int)).map V.int))
          rw [List.replicate_succ', List.map_append]
          exact upd_same
        · rw [decide_eq_false e2]
          refine iteF ⟨fun b o e => s3 b o (s2 b o e), ?_⟩
          rw [if_neg (by unfold inB; rw [decide_eq_false e, decide_eq_false e2]; decide), List.append_nil] at st2
          rw [st2]
          exact s3 _ _ hR2
    · rintro H2 ⟨s2, hR2⟩
      rw [hx, List.take_length] at hR2
      refine ⟨Nat.zero_le _, fun Z nZ => ?_⟩
      have s3 : Same H2 (upd H2 Z (.lst [])) := same_upd nZ
      have s13 : Same H (upd H2 Z (.lst [])) := fun b o e => s3 b o (s2 b o (s1 b o e))
      have hR3 := s3 _ _ (s2 _ _ hR)
      have hy3 := (hy.sm s2).sm s3
      refine ⟨_, _, .lst (SqL.of (s3 _ _ hR2)) (dp_ints _), .lst (SqL.of upd_same) .nil, shaped_ints _, by decide +kernel, _, rfl, ?_⟩
      rw [eqv_nil_ints, ← filt_one]
      show (if minB ls l = true then _ else _)
      cases hm : minB ls l with
      | true =>
        refine iteT ⟨_, rfl, ys, hR3, small1000 (by omega), same_put s13 nR, _, upd_same, ?_⟩
        rw [if_pos hm] at st
        rw [st]
        exact LsAt.snoc (LotAt.off (no_tup hR3) ⟨b, rfl, s13 _ _ hb⟩) (hy3.off (no_tup hR3))
      | false =>
        refine iteF ⟨s13, ys, hR3, ?_⟩
        rw [if_neg (by rw [hm]; decide), List.append_nil] at st
        rw [st]
        exact hy3
  · rintro H1 ⟨s1, ys, hR, hy⟩
    rw [hx, List.take_length] at hy
    have off := I.dr.off nR
    refine hN _ _ ⟨sx x 5 (some (.ref R)), m, k, rfl, (I.sm s1).set 5 _ (by decide), h4, hk, R, ys, _, rfl, hR, hy, off.1, off.2, fun l => ?_, ?_⟩
    · rw [List.mem_filter, minB_iff]
    · exact Nat.le_trans (List.length_filter_le _ _) l8
end
end Lm
/-! lots_right: what does not change, one lot less. -/
namespace Lm
open PySem PySem.Spec PyProof.Rows L2
theorem LsAt.drop {H : Hp} : ∀ (n : Nat) {vs : List V} {ls : Hm.Lots}, LsAt H vs ls → LsAt H (vs.drop n) (ls.drop n)
  | 0, _, _, h => h
  | n + 1, _, _, .nil => .nil
  | n + 1, _, _, .cons _ t => LsAt.drop n t
theorem LsAt.app {H : Hp} : ∀ {vs : List V} {ls : Hm.Lots} {us : List V} {ks : Hm.Lots}, LsAt H vs ls → LsAt H us ks → LsAt H (vs ++ us) (ls ++ ks)
  | _, _, _, _, .nil, h => h
  | _, _, _, _, .cons a t, h => .cons a (t.app h)
theorem cut_take (xs : List V) {k : Nat} (h : k ≤ xs.length) : cutV xs none (some (k : Int)) = xs.take k := by
  unfold cutV
  rw [HT.sIx_none, HT.sIx_nat, List.drop_zero, Nat.sub_zero, Nat.min_eq_left h]
theorem cut_drop (xs : List V) {k : Nat} (h : k ≤ xs.length) : cutV xs (some (k : Int)) none = xs.drop k := by
  unfold cutV
  rw [HT.sIx_none, HT.sIx_nat, Nat.min_eq_left h, List.take_of_length_le]
  rw [List.length_drop]
  omega
theorem hits_app {ls : Hm.Lots} (t : List Int) : Hm.hitsL (ls ++ ls) t ↔ Hm.hitsL ls t := by
  unfold Hm.hitsL
  constructor
  · intro h l hl
    exact h l (List.mem_append_left _ hl)
  · intro h l hl
    exact h l ((List.mem_append.mp hl).elim id id)
theorem first_of {ls : Hm.Lots} {n : Int} {H : Hp} {v : V} (h : FirstV ls n H v) (e : [] ∉ ls) : ∃ p g, v = .ref p ∧ H p = some (.tup (g.map V.int)) ∧ Hm.First ls n g := by
  rcases h with ⟨_, z⟩ | h
  · exact absurd z e
  · exact h
/-- the lots without the one at k -/
def lessL (ls : Hm.Lots) (k : Nat) : Hm.Lots := ls.take k ++ ls.drop (k + 1)
theorem less_mem {ls : Hm.Lots} {k : Nat} {l : List Int} (h : l ∈ lessL ls k) : l ∈ ls := by
  rcases List.mem_append.mp h with h | h
  · exact List.mem_of_mem_take h
  · exact List.mem_of_mem_drop h
theorem less_or {ls : Hm.Lots} {k : Nat} {l : List Int} (hk : ls[k]? = some l) : ∀ o, o ∈ ls → o ∈ lessL ls k ∨ o = l := by
  intro o ho
  obtain ⟨i, hi⟩ := List.mem_iff_getElem?.mp ho
  rcases Nat.lt_trichotomy i k with h | h | h
  · left
    refine List.mem_append_left _ (List.mem_of_getElem? (i := i) ?_)
    rw [List.getElem?_take, if_pos h, hi]
  · subst h
    rw [hk] at hi
    right
    exact (Option.some.inj hi).symm
  · left
    refine List.mem_append_right _ (List.mem_of_getElem? (i := i - (k + 1)) ?_)
    rw [List.getElem?_drop, show k + 1 + (i - (k + 1)) = i by omega, hi]
section
variable {P : Program} {w : World} {K : PySem.W.Frag} {mg : Str → Option Value} {base : Heap} {f : Addr} {cdv : Value} {A : Around} {outer : List Env} {s : Shared} {H0 G0 : Hp} {E : XK} {D : DrA} {n : Nat} {many : Int} {a : Addr} {xs : List V} {ls : Hm.Lots}
theorem str2 (C : CalR P w K mg base) (hr : RoomR A s f cdv) : RX P w K mg base f cdv A outer s H0 E 2 (R1 G0 D n many a xs ls (LeastAt D)) (R1 G0 D n many a xs ls fun _ _ _ _ => True) := by
  refine ⟨_, ps_if (pw_or (pt_cmpR (op_neD hr.units) (pe_h C.GL hr (by decide) (by rfl) pass0 (pa_cons (pv 1) (pa_cons (pv 5) pa_nil))) (pe_h C.GL hr (by decide) (by rfl) pass0 (pa_cons (pv 1) (pa_cons (pv 2) pa_nil))) (nomark _))
      (pw_or1 (pt_cmpR (op_neD hr.units) (pe_h C.GL hr (by decide) (by rfl) pass0 (pa_cons (pv 1) (pa_cons (pe_op op_cat (pv 2) (pv 2)) pa_nil))) (pe_h C.GL hr (by decide) (by rfl) pass0 (pa_cons (pv 1) (pa_cons (pv 2) pa_nil))) (nomark _)))).pt (pss_one (ps_ret pe_bl)) pss_nil, ?_⟩
  rintro Dn σ H ⟨x, m, k, rfl, I, h4, hk, b, ys, ms, h5, hb, hy, b1, b2, hms, h8⟩ hN
  have hx := I.hl.len
  have l8 := I.l8
  have nems : [] ∉ ms := fun z => I.ne ((hms _).mp z).1
  have gms : GapsOk many ms := fun l hl => I.gk l ((hms l).mp hl).1
  refine ⟨_, congrArg some I.x1, _, congrArg some h5, D, many, _, ms, rfl, lots_at I.dr hb hy b1 b2 gms I.m1 I.m16 (by omega), fun H1 v1 s1 hv1 => ?_⟩
  obtain ⟨p1, g1, rfl, hp1, F1⟩ := first_of hv1 nems
  have I1 := I.sm s1
  refine ⟨_, congrArg some I.x1, _, congrArg some I.x2, D, many, _, ls, rfl, I1.lots, fun H2 v2 s2 hv2 => ?_⟩
  obtain ⟨p2, g2, rfl, hp2, F2⟩ := first_of hv2 I.ne
  have I2 := I1.sm s2
  have e12 : g1 = g2 := Hm.first_same F1 F2 (Hm.hits_min (fun l hl => (I.gk l hl).2) hms)
  refine ⟨lotD g1, lotD g2, dp_tup (s2 _ _ hp1), dp_tup hp2, shaped_lot _, shaped_lot _, _, rfl, ?_⟩
  rw [eqv_lots, decide_eq_true e12]
  refine iteF ⟨_, congrArg some I.x1, _, congrArg some I.x2, _, congrArg some I.x2, a, a, xs, xs, rfl, rfl, I2.ha, I2.ha, (show xs.length + xs.length ≤ sizeLine from Nat.le_of_lt (small1000 (by omega))), fun q nq => ?_⟩
  have s3 := same_upd (o := .lst (xs ++ xs)) nq
  have I3 := I2.sm s3
  have off := I2.dr.off nq
  have ne2 : [] ∉ ls ++ ls := fun z => I.ne ((List.mem_append.mp z).elim id id)
  refine ⟨D, many, _, ls ++ ls, rfl, lots_at I3.dr upd_same (I3.hl.app I3.hl) off.1 off.2 (fun l hl => I.gk l ((List.mem_append.mp hl).elim id id)) I.m1 I.m16 (by rw [List.length_append]; omega), fun H4 v4 s4 hv4 => ?_⟩
  obtain ⟨p4, g4, rfl, hp4, F4⟩ := first_of hv4 ne2
  have I4 := I3.sm s4
  refine ⟨_, congrArg some I.x1, _, congrArg some I.x2, D, many, _, ls, rfl, I4.lots, fun H5 v5 s5 hv5 => ?_⟩
  obtain ⟨p5, g5, rfl, hp5, F5⟩ := first_of hv5 I.ne
  have I5 := I4.sm s5
  have e45 : g4 = g5 := Hm.first_same F4 F5 hits_app
  refine ⟨lotD g4, lotD g5, dp_tup (s5 _ _ hp4), dp_tup hp5, shaped_lot _, shaped_lot _, _, rfl, ?_⟩
  rw [eqv_lots, decide_eq_true e45]
  exact iteF (hN _ _ ⟨x, m, k, rfl, I5, h4, hk, trivial⟩)
/-- at 6 stands how many gaps the lots want without one of them -/
def FewerAt (ls : Hm.Lots) (k : Nat) (x : Nat → Option V) (H : Hp) : Prop := ∃ j : Nat, x 6 = some (.int (j : Nat)) ∧ Hm.Num (lessL ls k) j
theorem str3 (C : CalR P w K mg base) (hr : RoomR A s f cdv) : RX P w K mg base f cdv A outer s H0 E 3 (R1 G0 D n many a xs ls fun _ _ _ _ => True) (R1 G0 D n many a xs ls FewerAt) := by
  refine ⟨_, ps_set (i := 6) scLR.nd rfl (.inl rfl) (pe_h C.GS hr (by decide) (by rfl) pass0 (pa_cons (pv 1) (pa_cons (pe_op op_cat (pe_slice sl_list (pv 2) po_none (po_some (pv 4))) (pe_slice sl_list (pv 2) (po_some (pe_op op_add (pv 4) pe_int)) po_none)) pa_nil))), ?_⟩
  rintro Dn σ H ⟨x, m, k, rfl, I, h4, hk, _⟩ hN
  have hx := I.hl.len
  have l8 := I.l8
  refine ⟨_, congrArg some I.x1, _, congrArg some I.x2, _, congrArg some h4, _, rfl, a, xs, rfl, SqL.of I.ha, fun p np => ?_⟩
  rw [cut_take xs (by omega)]
  have s1 := same_upd (o := .lst (xs.take k)) np
  have I1 := I.sm s1
  refine ⟨_, congrArg some I.x2, _, congrArg some h4, _, _, rfl, rfl, _, rfl, a, xs, rfl, SqL.of I1.ha, fun p2 np2 => ?_⟩
  rw [show ((k : Nat) : Int) + 1 = ((k + 1 : Nat) : Int) by omega, cut_drop xs (by omega)]
  have s2 := same_upd (o := .lst (xs.drop (k + 1))) np2
  have I2 := I1.sm s2
  refine ⟨p, p2, _, _, rfl, rfl, s2 _ _ upd_same, upd_same, (show (xs.take k).length + (xs.drop (k + 1)).length ≤ sizeLine from Nat.le_of_lt (small1000 (by rw [List.length_take, List.length_drop]; omega))), fun p3 np3 => ?_⟩
  have s3 := same_upd (o := .lst (xs.take k ++ xs.drop (k + 1))) np3
  have I3 := I2.sm s3
  have off := I2.dr.off np3
  refine ⟨D, many, _, lessL ls k, rfl, lots_at I3.dr upd_same ((I3.hl.take k).app (I3.hl.drop (k + 1))) off.1 off.2 (fun l hl => I.gk l (less_mem hl)) I.m1 I.m16 ?_, fun z => I.ne (less_mem z), fun H4 j s4 hj => ?_⟩
  · unfold lessL
    rw [List.length_append, List.length_take, List.length_drop]
    omega
  · exact hN _ _ ⟨sx x 6 (some (.int (j : Nat))), m, k, rfl, (I3.sm s4).set 6 _ (by decide), h4, hk, j, rfl, hj⟩
theorem str4 (C : CalR P w K mg base) : RX P w K mg base f cdv A outer s H0 E 4 (R1 G0 D n many a xs ls FewerAt) (R1 G0 D n many a xs ls fun _ _ _ _ => True) := by
  refine ⟨_, ps_if (pt_not (pt_chain op_le op_le (pv 6) (pv 3) (pe_op op_add (pv 6) pe_int))) (pss_one (ps_ret pe_bl)) pss_nil, ?_⟩
  rintro Dn σ H ⟨x, m, k, rfl, I, h4, hk, j, h6, hj⟩ hN
  obtain ⟨l, hl⟩ : ∃ l, ls[k]? = some l := ⟨_, List.getElem?_eq_getElem hk⟩
  have h1 : j ≤ m := Hm.num_le hj I.hm fun n => Hm.can_imp fun t ht l hl => ht l (less_mem hl)
  have h2 : m ≤ j + 1 := by
    have c : Hm.Can ls (j + 1) := Hm.can_less (less_or hl) (fun z => I.ne (z ▸ List.mem_of_getElem? hl)) hj.1
    by_cases e : m ≤ j + 1
    · exact e
    · exact absurd c (I.hm.2 (j + 1) (by omega))
  refine ⟨_, congrArg some h6, _, congrArg some I.x3, _, _, rfl, rfl, _, rfl, ?_⟩
  rw [decide_eq_true (show ((j : Nat) : Int) ≤ (m : Nat) by omega)]
  refine iteT ⟨_, congrArg some h6, _, _, rfl, rfl, _, _, rfl, rfl, _, rfl, ?_⟩
  rw [decide_eq_true (show ((m : Nat) : Int) ≤ (j : Nat) + 1 by omega)]
  exact iteF (hN _ _ ⟨x, m, k, rfl, I, h4, hk, trivial⟩)
end
end Lm
/-! lots_right: a lot made wider. -/
namespace Lm
open PySem PySem.Spec PyProof.Rows L2
theorem none_fr {D : DrA} {G H : Hp} {b : Addr} (f : Fr D G H) (off : b ≠ D.d ∧ b ≠ D.w) (n : H b = none) : G b = none := by
  cases e : G b with
  | none => rfl
  | some o =>
    rw [f b o e off.1 off.2] at n
    cases n
theorem LsAt.set {H : Hp} {u : V} {w : List Int} (h : LotAt H u w) : ∀ {vs : List V} {ls : Hm.Lots} (k : Nat), LsAt H vs ls → LsAt H (vs.set k u) (ls.set k w)
  | _, _, _, .nil => .nil
  | _, _, 0, .cons _ t => .cons h t
  | _, _, k + 1, .cons a t => .cons a (t.set h k)
section
variable {P : Program} {w : World} {K : PySem.W.Frag} {mg : Str → Option Value} {base : Heap} {f : Addr} {cdv : Value} {A : Around} {outer : List Env} {s : Shared} {H0 G0 : Hp} {E : XK} {D : DrA} {n : Nat} {many : Int} {a : Addr} {xs : List V} {ls : Hm.Lots}
/-- the lots once more, at 7 -/
def AgainAt (G0 : Hp) (D : DrA) (a : Addr) (xs : List V) (ls : Hm.Lots) (k : Nat) (x : Nat → Option V) (H : Hp) : Prop := ∃ b G n0, x 7 = some (.ref b) ∧ H b = some (.lst xs) ∧ b ≠ D.d ∧ b ≠ D.w ∧ b ≠ a ∧ DrawAt D n0 G ∧ G b = none ∧ G0 b = none
theorem str5 (C : CalR P w K mg base) : RX P w K mg base f cdv A outer s H0 E 5 (R1 G0 D n many a xs ls fun _ _ _ _ => True) (R1 G0 D n many a xs ls (AgainAt G0 D a xs)) := by
  refine ⟨_, ps_set (i := 7) scLR.nd rfl (.inl rfl) (pe_callTy call_list_of (by rfl) C.N.blist (by decide +kernel) (pa_cons (pv 2) pa_nil)), ?_⟩
  rintro Dn σ H ⟨x, m, k, rfl, I, h4, hk, _⟩ hN
  refine ⟨_, congrArg some I.x2, a, xs, rfl, .inl (SqL.of I.ha), fun b nb => ?_⟩
  have off := I.dr.off nb
  exact hN _ _ ⟨sx x 7 (some (.ref b)), m, k, rfl, (I.sm (same_upd nb)).set 7 _ (by decide), h4, hk, b, H, n, rfl, upd_same, off.1, off.2, (fun z => by rw [z, I.ha] at nb; cases nb), I.dr, nb, none_fr I.fr0 off nb⟩
/-- at 7 the lots, one of them wider -/
def WiderAt (D : DrA) (many : Int) (ls : Hm.Lots) (k : Nat) (x : Nat → Option V) (H : Hp) : Prop := ∃ b ys l v, x 7 = some (.ref b) ∧ H b = some (.lst ys) ∧ b ≠ D.d ∧ b ≠ D.w ∧ LsAt H ys (ls.set k v) ∧ ls[k]? = some l ∧ (∀ y ∈ l, y ∈ v) ∧ Hm.Asc v ∧ (∀ y ∈ v, 0 ≤ y ∧ y < many)
theorem str6 (C : CalR P w K mg base) (hr : RoomR A s f cdv) (hn : n + 10 ≤ B) : RX P w K mg base f cdv A outer s H0 E 6 (R1 G0 D n many a xs ls (AgainAt G0 D a xs)) (R1 G0 D (n + 1) many a xs ls (WiderAt D many)) := by
  refine ⟨_, ps_asg (pe_callTy (call_tupK K) (by rfl) C.N.btup (by decide +kernel) (pa_cons (pe_callB (cr_sortedSetW w rfl) (by rfl) C.N.bsrt (by decide +kernel) (pa_cons (pe_callTy (cr_setTIw K w rfl) (by rfl) C.bset (by decide +kernel) (pa_cons
      (pe_op op_catA (pe_ix ix_list (pv 7) (pv 4) (fun _ _ => rfl)) (pe_tup (pa_cons (pe_h C.GT hr (by decide) (by rfl) pass0 (pa_cons (pv 0) (pa_cons (pv 1) pa_nil))) pa_nil))) pa_nil)) pa_nil)) pa_nil)) (pg_sub (pv 7) (pv 4) set_list), ?_⟩
  rintro Dn σ H ⟨x, m, k, rfl, I, h4, hk, b, G, n0, h7, hb, b1, b2, ba, dG, nG, n0b⟩ hN
  obtain ⟨l, hlk⟩ : ∃ l, ls[k]? = some l := ⟨_, List.getElem?_eq_getElem hk⟩
  obtain ⟨t, hxt, ht⟩ := I.hl.at hlk
  have hx := I.hl.len
  have hlm := List.mem_of_getElem? hlk
  have hgl := I.gk l hlm
  have m1 := I.m1
  have m16 := I.m16
  have l16 : l.length ≤ 16 := by
    have := asc_len hgl.2 hgl.1
    omega
  have lne : l ≠ [] := fun z => I.ne (z ▸ hlm)
  refine ⟨_, congrArg some h7, _, congrArg some h4, b, xs, _, _, rfl, rfl, SqL.of hb, atI_nat hxt, ?_⟩
  refine ⟨_, congrArg some I.x0, _, congrArg some I.x1, D, n, many, rfl, I.dr, by omega, by omega, by omega, fun H1 z d1 f1 z0 z1 => ?_⟩
  have I1 := I.fr f1 d1
  have hb1 := f1 _ _ hb b1 b2
  have ht1 : H1 t = some (.tup (l.map V.int)) := by
    obtain ⟨ws, cs, r, tt, e1, e2, _⟩ := I.dr
    exact f1 _ _ ht (ne_of ht e1 (fun z => by cases z)) (ne_of ht e2 (fun z => by cases z))
  refine ⟨(by show 1 ≤ sizeLine; decide), fun p np => ?_⟩
  have s2 := same_upd (o := .tup [.int z]) np
  refine ⟨t, p, _, _, rfl, rfl, SqT.of (s2 _ _ ht1), SqT.of upd_same, ?_, fun z => ?_, fun _ z => (nomatch z), fun _ _ q nq => ?_⟩
  · rw [List.length_map]
    exact Nat.le_of_lt (small1000 (by show l.length + 1 ≤ 1000; omega))
  · exact absurd (List.map_eq_nil_iff.mp z) lne
  have s3 := same_upd (o := .tup (l.map V.int ++ [.int z])) nq
  have hq : (upd (upd H1 p (.tup [.int z])) q (.tup (l.map V.int ++ [.int z]))) q = some (.tup ((l ++ [z]).map V.int)) := by rw [upd_same, List.map_append]; rfl
  have s13 : Same H1 (upd (upd H1 p (.tup [.int z])) q (.tup (l.map V.int ++ [.int z]))) := fun b o e => s3 b o (s2 b o e)
  generalize upd (upd H1 p (.tup [.int z])) q (.tup (l.map V.int ++ [.int z])) = H3 at s13 hq ⊢
  refine ⟨q, l ++ [z], rfl, SqT.of hq, by rw [List.length_append]; show l.length + 1 < 60; omega, fun c cn nc hc => ?_⟩
  have s4 := same_upd (o := SetO w c (fun j => decide (j ∈ l ++ [z])) cn) nc
  have hc60 : cn < 64 := by
    rw [List.length_append] at hc
    have hc : cn ≤ l.length + 1 := hc
    omega
  refine ⟨c, _, cn, rfl, upd_same, hc60, fun v e pw mem len ne => ?_⟩
  have s5 := same_upd (o := .lst (v.map V.int)) ne
  refine ⟨e, _, rfl, .inl ⟨SqL.of upd_same, fun u nu => ?_⟩⟩
  have s6 := same_upd (o := .tup (v.map V.int)) nu
  have hu := (upd_same : (upd (upd (upd H3 c (SetO w c (fun j => decide (j ∈ l ++ [z])) cn)) e (.lst (v.map V.int))) u (.tup (v.map V.int))) u = _)
  have s16 : Same H1 (upd (upd (upd H3 c (SetO w c (fun j => decide (j ∈ l ++ [z])) cn)) e (.lst (v.map V.int))) u (.tup (v.map V.int))) := fun b o h => s6 b o (s5 b o (s4 b o (s13 b o h)))
  generalize upd (upd (upd H3 c (SetO w c (fun j => decide (j ∈ l ++ [z])) cn)) e (.lst (v.map V.int))) u (.tup (v.map V.int)) = H6 at s16 hu ⊢
  have hb6 := s16 _ _ hb1
  have I6 := I1.sm s16
  have memv : ∀ y, y ∈ v ↔ y ∈ l ∨ y = z := fun y => by
    rw [mem, decide_eq_true_iff, List.mem_append, List.mem_singleton]
  have ixj : ixN xs.length ((k : Nat) : Int) = some k := by
    unfold ixN
    rw [if_pos (by omega), if_pos (by omega)]
    simp
  refine ⟨_, congrArg some h7, _, congrArg some h4, b, xs, _, k, rfl, rfl, hb6, ixj, ?_⟩
  have nt : ∀ l, H6 b ≠ some (.tup l) := no_tup hb6
  have I7 : LR G0 D (n + 1) many a xs ls m x (upd H6 b (.lst (xs.set k (.ref u)))) :=
    ⟨I.x0, I.x1, I.x2, I.x3, by rw [upd_ne ba.symm]; exact I6.ha, I6.hl.off nt, I.gk, I.l8, I.l0, I.m1, I.m16, I.ne, I.hm, draw_put dG nG I6.dr, I.ad, I.aw, fr_put I6.fr0 n0b⟩
  refine hN _ _ ⟨x, m, k, rfl, I7, h4, hk, b, _, l, v, h7, upd_same, b1, b2, LsAt.set (LotAt.off nt ⟨u, rfl, hu⟩) k (I6.hl.off nt), hlk, fun y hy => (memv y).mpr (.inl hy), pw, fun y hy => ?_⟩
  rcases (memv y).mp hy with h | rfl
  · exact hgl.1 y h
  · exact ⟨z0, z1⟩
theorem str7 (C : CalR P w K mg base) (hr : RoomR A s f cdv) : RX P w K mg base f cdv A outer s H0 E 7 (R1 G0 D n many a xs ls (WiderAt D many)) (R1 G0 D n many a xs ls fun _ _ _ _ => True) := by
  refine ⟨_, ps_if (pt_cmpR op_gt (pe_h C.GS hr (by decide) (by rfl) pass0 (pa_cons (pv 1) (pa_cons (pv 7) pa_nil))) (pv 3) (nomark _)) (pss_one (ps_ret pe_bl)) pss_nil, ?_⟩
  rintro Dn σ H ⟨x, m, k, rfl, I, h4, hk, b, ys, l, v, h7, hb, b1, b2, hy, hlk, hlv, hv1, hv2⟩ hN
  have l8 := I.l8
  have g : GapsOk many (ls.set k v) := fun o ho => by
    rcases List.mem_or_eq_of_mem_set ho with h | rfl
    · exact I.gk o h
    · exact ⟨hv2, hv1⟩
  have ne : [] ∉ ls.set k v := fun z => by
    rcases List.mem_or_eq_of_mem_set z with h | h
    · exact I.ne h
    · cases l with
      | nil => exact I.ne (List.mem_of_getElem? hlk)
      | cons y r =>
        have := hlv y (List.mem_cons_self ..)
        rw [← h] at this
        cases this
  refine ⟨_, congrArg some I.x1, _, congrArg some h7, D, many, _, ls.set k v, rfl, lots_at I.dr hb hy b1 b2 g I.m1 I.m16 (by rw [List.length_set]; omega), ne, fun H1 j s1 hj => ?_⟩
  have le : j ≤ m := Hm.num_le hj I.hm fun n c => Hm.can_lots (fun o ho => by
    rcases List.mem_or_eq_of_mem_set ho with h | rfl
    · exact ⟨o, h, fun _ z => z⟩
    · exact ⟨l, List.mem_of_getElem? hlk, hlv⟩) c
  refine ⟨_, congrArg some I.x3, _, _, rfl, rfl, _, rfl, ?_⟩
  rw [decide_eq_false (show ¬ ((m : Nat) : Int) < (j : Nat) by omega)]
  exact iteF (hN _ _ ⟨x, m, k, rfl, I.sm s1, h4, hk, trivial⟩)
end
end Lm
/-! lots_right: the gaps numbered otherwise. -/
namespace Lm
open PySem PySem.Spec PyProof.Rows L2
theorem cr_sortedIK {X : Cx} (K : PySem.W.Frag) (hK : X.K = K := by rfl) : CallR X (.builtin "sorted") (rSortedI K) := hK ▸ cr_sortedI
/-- lot for lot told in the numbers φ -/
inductive RenA (φ : Int → Int) : Hm.Lots → Hm.Lots → Prop
  | nil : RenA φ [] []
  | cons {l k : List Int} {ls ms : Hm.Lots} : (∀ x, x ∈ k ↔ ∃ y ∈ l, φ y = x) → Hm.Asc k → RenA φ ls ms → RenA φ (l :: ls) (k :: ms)
theorem RenA.snoc {φ : Int → Int} {l k : List Int} (h1 : ∀ x, x ∈ k ↔ ∃ y ∈ l, φ y = x) (h2 : Hm.Asc k) : ∀ {ls ms : Hm.Lots}, RenA φ ls ms → RenA φ (ls ++ [l]) (ms ++ [k])
  | _, _, .nil => .cons h1 h2 .nil
  | _, _, .cons a b t => .cons a b (t.snoc h1 h2)
theorem RenA.len {φ : Int → Int} : ∀ {ls ms : Hm.Lots}, RenA φ ls ms → ms.length = ls.length
  | _, _, .nil => rfl
  | _, _, .cons _ _ t => congrArg Nat.succ t.len
theorem RenA.to {φ : Int → Int} : ∀ {ls ms : Hm.Lots}, RenA φ ls ms → ∀ l ∈ ls, ∃ k ∈ ms, ∀ x, x ∈ k ↔ ∃ y ∈ l, φ y = x
  | _, _, .nil => fun _ z => nomatch z
  | _, _, .cons a b t => fun l hl => by
    rcases List.mem_cons.mp hl with rfl | hl
    · exact ⟨_, List.mem_cons_self .., a⟩
    · obtain ⟨k, h1, h2⟩ := t.to l hl
      exact ⟨k, List.mem_cons_of_mem _ h1, h2⟩
theorem RenA.of {φ : Int → Int} : ∀ {ls ms : Hm.Lots}, RenA φ ls ms → ∀ k ∈ ms, Hm.Asc k ∧ ∃ l ∈ ls, ∀ x, x ∈ k ↔ ∃ y ∈ l, φ y = x
  | _, _, .nil => fun _ z => nomatch z
  | _, _, .cons a b t => fun l hl => by
    rcases List.mem_cons.mp hl with rfl | hl
    · exact ⟨b, _, List.mem_cons_self .., a⟩
    · obtain ⟨h0, k, h1, h2⟩ := t.of l hl
      exact ⟨h0, k, List.mem_cons_of_mem _ h1, h2⟩
theorem RenA.ren {φ : Int → Int} {ls ms : Hm.Lots} (h : RenA φ ls ms) : Hm.Ren φ ls ms := ⟨h.to, fun k hk => (h.of k hk).2⟩
theorem RenA.gaps {φ : Int → Int} {ls ms : Hm.Lots} {n : Int} (h : RenA φ ls ms) (g : GapsOk n ls) (hφ : ∀ y, 0 ≤ y ∧ y < n → 0 ≤ φ y ∧ φ y < n) : GapsOk n ms := fun k hk => by
  obtain ⟨a, l, hl, hm⟩ := h.of k hk
  refine ⟨fun x hx => ?_, a⟩
  obtain ⟨y, hy, rfl⟩ := (hm x).mp hx
  exact hφ y ((g l hl).1 y hy)
theorem RenA.ne {φ : Int → Int} {ls ms : Hm.Lots} (h : RenA φ ls ms) (e : [] ∉ ls) : [] ∉ ms := fun z => by
  obtain ⟨_, l, hl, hm⟩ := h.of _ z
  cases l with
  | nil => exact e hl
  | cons y r =>
    have := (hm (φ y)).mpr ⟨y, List.mem_cons_self .., rfl⟩
    cases this
theorem asc_perm {φ ψ : Int → Int} {l v : List Int} (ha : Hm.Asc l) (hi : ∀ y ∈ l, ψ (φ y) = y) (hp : v.Perm (l.map φ)) (hs : v.Pairwise (· ≤ ·)) : Hm.Asc v := by
  have nd : (l.map φ).Pairwise (· ≠ ·) := by
    rw [List.pairwise_map]
    refine List.Pairwise.imp_of_mem (fun {a b} h1 h2 hlt e => ?_) ha
    have := hi a h1
    rw [e, hi b h2] at this
    omega
  have nv : v.Pairwise (· ≠ ·) := (hp.pairwise_iff (fun {a b} h => Ne.symm h)).mpr nd
  exact (hs.and nv).imp fun {a b} h => by omega
theorem mem_perm {φ : Int → Int} {l v : List Int} (hp : v.Perm (l.map φ)) (x : Int) : x ∈ v ↔ ∃ y ∈ l, φ y = x := by
  rw [hp.mem_iff, List.mem_map]
theorem eqv_listI (a b : List Int) : PyData.eqv (.list (a.map .int)) (.list (b.map .int)) = decide (a = b) := by
  simp only [PyData.eqv]
  exact eqvAll_ints a b
def rev (many y : Int) : Int := many - 1 - y
def shf (many sh y : Int) : Int := (y + sh) % many
theorem shf_at {many sh y : Int} (hs : 0 ≤ sh ∧ sh < many) (hy : 0 ≤ y ∧ y < many) : shf many sh y = if y + sh < many then y + sh else y + sh - many := by
  unfold shf
  split
  · exact Int.emod_eq_of_lt (by omega) (by omega)
  · have : (y + sh) % many = (y + sh - many) % many := by rw [Int.sub_emod_right]
    rw [this]
    exact Int.emod_eq_of_lt (by omega) (by omega)
theorem shf_in {many sh y : Int} (hs : 0 ≤ sh ∧ sh < many) (hy : 0 ≤ y ∧ y < many) : 0 ≤ shf many sh y ∧ shf many sh y < many := by
  rw [shf_at hs hy]
  split <;> omega
theorem shf_back {many sh y : Int} (hs : 0 ≤ sh ∧ sh < many) (hy : 0 ≤ y ∧ y < many) : shf many (many - sh) (shf many sh y) = y := by
  have h := shf_at hs hy
  unfold shf at h ⊢
  rw [h]
  split
  · have e : y + sh + (many - sh) = y + many := by omega
    rw [e, Int.add_emod_right]
    exact Int.emod_eq_of_lt hy.1 hy.2
  · have e : y + sh - many + (many - sh) = y := by omega
    rw [e]
    exact Int.emod_eq_of_lt hy.1 hy.2
section
variable {P : Program} {w : World} {K : PySem.W.Frag} {mg : Str → Option Value} {base : Heap} {f : Addr} {cdv : Value} {A : Around} {outer : List Env} {s : Shared} {H0 G0 : Hp} {E : XK} {D : DrA} {n : Nat} {many : Int} {a : Addr} {xs : List V} {ls : Hm.Lots}
/-- at i stand the lots in the numbers φ -/
def ToldAt (D : DrA) (φ : Int → Int) (i : Nat) (ls : Hm.Lots) (x : Nat → Option V) (H : Hp) : Prop := ∃ b ys ms, x i = some (.ref b) ∧ H b = some (.lst ys) ∧ LsAt H ys ms ∧ b ≠ D.d ∧ b ≠ D.w ∧ RenA φ ls ms
theorem ToldAt.sm {φ : Int → Int} {i : Nat} {x : Nat → Option V} {H H' : Hp} (h : ToldAt D φ i ls x H) (t : Same H H') : ToldAt D φ i ls x H' := by
  obtain ⟨b, ys, ms, h1, h2, h3, h4⟩ := h
  exact ⟨b, ys, ms, h1, t _ _ h2, h3.sm t, h4⟩
theorem ToldAt.fr {φ : Int → Int} {i k : Nat} {x : Nat → Option V} {H H' : Hp} (h : ToldAt D φ i ls x H) (d : DrawAt D k H) (t : Fr D H H') : ToldAt D φ i ls x H' := by
  obtain ⟨b, ys, ms, h1, h2, h3, h4, h5, h6⟩ := h
  exact ⟨b, ys, ms, h1, t _ _ h2 h4 h5, h3.fr d t, h4, h5, h6⟩
theorem ToldAt.set {φ : Int → Int} {i j : Nat} {x : Nat → Option V} {H : Hp} {v : Option V} (h : ToldAt D φ i ls x H) (e : i ≠ j) : ToldAt D φ i ls (sx x j v) H := by
  obtain ⟨b, ys, ms, h1, h2⟩ := h
  exact ⟨b, ys, ms, (if_neg e).trans h1, h2⟩
def J9 (G0 : Hp) (D : DrA) (n : Nat) (many : Int) (a : Addr) (xs : List V) (ls : Hm.Lots) (k : Nat) : L2.St → Hp → Prop := fun σ H => ∃ x m sh, σ = SR x ∧ LR G0 D n many a xs ls m x H ∧ ToldAt D (rev many) 8 ls x H ∧ (0 ≤ sh ∧ sh < many) ∧ (1 ≤ k → x 9 = some (.int sh)) ∧ (2 ≤ k → ToldAt D (shf many sh) 10 ls x H)
theorem str8 (C : CalR P w K mg base) : RX P w K mg base f cdv A outer s H0 E 8 (R1 G0 D n many a xs ls fun _ _ _ _ => True) (J9 G0 D n many a xs ls 0) := by
  refine ⟨_, ps_setLc (i := 8) (own := [("lot", 13)]) (g := gName 13) (tt := tYes) (by rfl) scLR.nd rfl rfl (sw_true rfl rfl rfl (by decide +kernel)) (pi_listK K (pv 2))
        (blkOk_by (own := [("lot", 13)]) (N := nLR) (sc := defScope sLR) (by decide +kernel)) (fun _ _ _ _ _ => pg_name (i := 13) scLR.nd rfl (Or.inl rfl)) (fun _ _ _ _ _ => pts_nil)
        (fun _ _ _ _ _ => pe_callTy (call_tupK K) (by rfl) C.N.btup (by decide +kernel) (pa_cons (pe_callB (cr_sortedIK K) (by rfl) C.N.bsrt (by decide +kernel) (pa_cons
            (pe_lc (own := [("gap", 15)]) (g := gName 15) (tt := tYes) rfl scLR.nd (pi_tupK K (pv 13)) (blkOk_by (by show blkC nLR ⟨.function, [(".0", .local), ("lot", .local), ("tuple", .globalImplicit), ("sorted", .globalImplicit), ("many_here", .cell)], false, false, []⟩ _ [("gap", 15)] = true; decide +kernel)) (fun _ _ _ _ _ => pg_name (i := 15) scLR.nd rfl (Or.inl rfl))
              (fun _ _ _ _ _ => pts_nil) (fun _ _ _ _ _ => pe_op op_sub (pe_op op_sub (pv 1) pe_int) (pv 15))) pa_nil)) pa_nil)), ?_⟩
  rintro Dn σ H ⟨x, m, k, rfl, I, h4, hk, _⟩ hN
  have hx := I.hl.len
  have l8 := I.l8
  have each := I.fit.each
  have mp : 0 < many := by have := I.m1; omega
  refine ⟨_, congrArg some I.x2, a, rfl, ⟨_, SqL.of I.ha⟩, fun R nR => lc_list (K := K) (a := a) (xs := xs) (fun i H' => Same H H' ∧ ∃ ys ms, H' R = some (.lst ys) ∧ LsAt H' ys ms ∧ RenA (rev many) (ls.take i) ms) ⟨same_upd nR, [], [], upd_same, .nil, by rw [List.take_zero]; exact .nil⟩ (fun i H' _ h => SqL.of (h.1 _ _ I.ha)) ?_ ?_⟩
  · rintro i v H' hxi ⟨s1, ys, ms, hR, hy, hr⟩
    obtain ⟨l, hli, b, rfl, hb⟩ := I.hl.get hxi
    have hlm := List.mem_of_getElem? hli
    have gl := I.gk l hlm
    have l5 := each l hlm
    refine ⟨rfl, _, rfl, b, rfl, ⟨_, SqT.of (s1 _ _ hb)⟩, fun R2 nR2 => lc_tup (K := K) (a := b) (xs := l.map V.int) (fun j H2 => Same H' H2 ∧ H2 R2 = some (.lst (((l.take j).map (rev many)).map V.int))) ⟨same_upd nR2, upd_same⟩ (fun j H2 _ h => SqT.of (h.1 _ _ (s1 _ _ hb))) ?_ ?_⟩
    · rintro j v H2 hxj ⟨s2, hR2⟩
      obtain ⟨z, hz, rfl⟩ := int_at hxj
      have e : ((l.take (j + 1)).map (rev many)).map V.int = ((l.take j).map (rev many)).map V.int ++ [.int (rev many z)] := by
        rw [List.take_add_one, hz, List.map_append, List.map_append]
        rfl
      refine ⟨rfl, _, congrArg some I.x1, _, _, rfl, rfl, _, rfl, _, _, rfl, rfl, _, hR2, small1000 (by rw [List.length_map, List.length_map, List.length_take]; omega), same_put s2 nR2, ?_⟩
      rw [e]
      exact upd_same
    · rintro H2 ⟨s2, hR2⟩
      rw [List.length_map, List.take_length] at hR2
      refine ⟨R2, l.map (rev many), rfl, SqL.of hR2, fun v p hp hs np => ?_⟩
      have s3 := same_upd (o := .lst (v.map V.int)) np
      refine ⟨p, _, rfl, .inl ⟨SqL.of upd_same, fun T nT => ?_⟩⟩
      have s4 := same_upd (o := .tup (v.map V.int)) nT
      have s14 : Same H' (upd (upd H2 p (.lst (v.map V.int))) T (.tup (v.map V.int))) := fun b o e => s4 b o (s3 b o (s2 b o e))
      have hT : (upd (upd H2 p (.lst (v.map V.int))) T (.tup (v.map V.int))) T = some (.tup (v.map V.int)) := upd_same
      generalize upd (upd H2 p (.lst (v.map V.int))) T (.tup (v.map V.int)) = H4 at s14 hT ⊢
      have hR4 := s14 _ _ hR
      have hyl : ys.length ≤ 8 := by
        rw [hy.len, hr.len, List.length_take]
        omega
      refine ⟨ys, hR4, small1000 (by omega), same_put (fun b o e => s14 b o (s1 b o e)) nR, _, _, upd_same, LsAt.snoc (LotAt.off (no_tup hR4) ⟨T, rfl, hT⟩) ((hy.sm s14).off (no_tup hR4)), ?_⟩
      rw [List.take_add_one, hli]
      exact hr.snoc (mem_perm hp) (asc_perm (ψ := rev many) gl.2 (fun y hy => by unfold rev; omega) hp hs)
  · rintro H1 ⟨s1, ys, ms, hR, hy, hr⟩
    rw [hx, List.take_length] at hr
    have off := I.dr.off nR
    exact hN _ _ ⟨sx x 8 (some (.ref R)), m, 0, rfl, (I.sm s1).set 8 _ (by decide), ⟨R, ys, ms, rfl, hR, hy, off.1, off.2, hr⟩, ⟨by omega, mp⟩, fun z => absurd z (by decide), fun z => absurd z (by decide)⟩
theorem str9 (C : CalR P w K mg base) (hr : RoomR A s f cdv) (hn : n + 10 ≤ B) : RX P w K mg base f cdv A outer s H0 E 9 (J9 G0 D n many a xs ls 0) (J9 G0 D (n + 1) many a xs ls 1) := by
  refine ⟨_, ps_set (i := 9) scLR.nd rfl (.inr rfl) (pe_h C.GT hr (by decide) (by rfl) pass0 (pa_cons (pv 0) (pa_cons (pv 1) pa_nil))), ?_⟩
  rintro Dn σ H ⟨x, m, sh, rfl, I, h8, _, _, _⟩ hN
  have m1 := I.m1
  have m16 := I.m16
  refine ⟨_, congrArg some I.x0, _, congrArg some I.x1, D, n, many, rfl, I.dr, by omega, by omega, by omega, fun H1 u d1 f1 u0 u1 => ?_⟩
  exact hN _ _ ⟨sx x 9 (some (.int u)), m, u, rfl, (I.fr f1 d1).set 9 _ (by decide), (h8.fr I.dr f1).set (by decide), ⟨u0, u1⟩, fun _ => rfl, fun z => absurd z (by decide)⟩
theorem str10 (C : CalR P w K mg base) : RX P w K mg base f cdv A outer s H0 E 10 (J9 G0 D n many a xs ls 1) (J9 G0 D n many a xs ls 2) := by
  refine ⟨_, ps_setLc (i := 10) (own := [("lot", 13)]) (g := gName 13) (tt := tYes) (by rfl) scLR.nd rfl rfl (sw_true rfl rfl rfl (by decide +kernel)) (pi_listK K (pv 2))
        (blkOk_by (own := [("lot", 13)]) (N := nLR) (sc := defScope sLR) (by decide +kernel)) (fun _ _ _ _ _ => pg_name (i := 13) scLR.nd rfl (Or.inl rfl)) (fun _ _ _ _ _ => pts_nil)
        (fun _ _ _ _ _ => pe_callTy (call_tupK K) (by rfl) C.N.btup (by decide +kernel) (pa_cons (pe_callB (cr_sortedIK K) (by rfl) C.N.bsrt (by decide +kernel) (pa_cons
            (pe_lc (own := [("gap", 15)]) (g := gName 15) (tt := tYes) rfl scLR.nd (pi_tupK K (pv 13)) (blkOk_by (by show blkC nLR ⟨.function, [(".0", .local), ("lot", .local), ("tuple", .globalImplicit), ("sorted", .globalImplicit), ("many_here", .cell), ("shift", .cell)], false, false, []⟩ _ [("gap", 15)] = true; decide +kernel)) (fun _ _ _ _ _ => pg_name (i := 15) scLR.nd rfl (Or.inl rfl))
              (fun _ _ _ _ _ => pts_nil) (fun _ _ _ _ _ => pe_op op_mod (pe_callTy call_int1 (by rfl) C.N.bint (by decide +kernel) (pa_cons (pe_op op_add (pv 15) (pv 9)) pa_nil)) (pv 1))) pa_nil)) pa_nil)), ?_⟩
  rintro Dn σ H ⟨x, m, sh, rfl, I, h8, hs0, h9, _⟩ hN
  have hx := I.hl.len
  have l8 := I.l8
  have each := I.fit.each
  have mp : 0 < many := by have := I.m1; omega
  refine ⟨_, congrArg some I.x2, a, rfl, ⟨_, SqL.of I.ha⟩, fun R nR => lc_list (K := K) (a := a) (xs := xs) (fun i H' => Same H H' ∧ ∃ ys ms, H' R = some (.lst ys) ∧ LsAt H' ys ms ∧ RenA (shf many sh) (ls.take i) ms) ⟨same_upd nR, [], [], upd_same, .nil, by rw [List.take_zero]; exact .nil⟩ (fun i H' _ h => SqL.of (h.1 _ _ I.ha)) ?_ ?_⟩
  · rintro i v H' hxi ⟨s1, ys, ms, hR, hy, hr⟩
    obtain ⟨l, hli, b, rfl, hb⟩ := I.hl.get hxi
    have hlm := List.mem_of_getElem? hli
    have gl := I.gk l hlm
    have l5 := each l hlm
    refine ⟨rfl, _, rfl, b, rfl, ⟨_, SqT.of (s1 _ _ hb)⟩, fun R2 nR2 => lc_tup (K := K) (a := b) (xs := l.map V.int) (fun j H2 => Same H' H2 ∧ H2 R2 = some (.lst (((l.take j).map (shf many sh)).map V.int))) ⟨same_upd nR2, upd_same⟩ (fun j H2 _ h => SqT.of (h.1 _ _ (s1 _ _ hb))) ?_ ?_⟩
    · rintro j v H2 hxj ⟨s2, hR2⟩
      obtain ⟨z, hz, rfl⟩ := int_at hxj
      have e : ((l.take (j + 1)).map (shf many sh)).map V.int = ((l.take j).map (shf many sh)).map V.int ++ [.int (shf many sh z)] := by
        rw [List.take_add_one, hz, List.map_append, List.map_append]
        rfl
      refine ⟨rfl, _, rfl, _, congrArg some (h9 (Nat.le_refl 1)), _, _, rfl, rfl, .inl ⟨_, rfl, _, congrArg some I.x1, _, _, rfl, rfl, mp, _, hR2, small1000 (by rw [List.length_map, List.length_map, List.length_take]; omega), same_put s2 nR2, ?_⟩⟩
      rw [e]
      exact upd_same
    · rintro H2 ⟨s2, hR2⟩
      rw [List.length_map, List.take_length] at hR2
      refine ⟨R2, l.map (shf many sh), rfl, SqL.of hR2, fun v p hp hs np => ?_⟩
      have s3 := same_upd (o := .lst (v.map V.int)) np
      refine ⟨p, _, rfl, .inl ⟨SqL.of upd_same, fun T nT => ?_⟩⟩
      have s4 := same_upd (o := .tup (v.map V.int)) nT
      have s14 : Same H' (upd (upd H2 p (.lst (v.map V.int))) T (.tup (v.map V.int))) := fun b o e => s4 b o (s3 b o (s2 b o e))
      have hT : (upd (upd H2 p (.lst (v.map V.int))) T (.tup (v.map V.int))) T = some (.tup (v.map V.int)) := upd_same
      generalize upd (upd H2 p (.lst (v.map V.int))) T (.tup (v.map V.int)) = H4 at s14 hT ⊢
      have hR4 := s14 _ _ hR
      have hyl : ys.length ≤ 8 := by
        rw [hy.len, hr.len, List.length_take]
        omega
      refine ⟨ys, hR4, small1000 (by omega), same_put (fun b o e => s14 b o (s1 b o e)) nR, _, _, upd_same, LsAt.snoc (LotAt.off (no_tup hR4) ⟨T, rfl, hT⟩) ((hy.sm s14).off (no_tup hR4)), ?_⟩
      rw [List.take_add_one, hli]
      exact hr.snoc (mem_perm hp) (asc_perm (ψ := shf many (many - sh)) gl.2 (fun y hy => shf_back hs0 (gl.1 y hy)) hp hs)
  · rintro H1 ⟨s1, ys, ms, hR, hy, hr⟩
    rw [hx, List.take_length] at hr
    have off := I.dr.off nR
    exact hN _ _ ⟨sx x 10 (some (.ref R)), m, sh, rfl, (I.sm s1).set 10 _ (by decide), (h8.sm s1).set (by decide), hs0, (fun _ => h9 (Nat.le_refl 1)), fun _ => ⟨R, ys, ms, rfl, hR, hy, off.1, off.2, hr⟩⟩
theorem str11 (C : CalR P w K mg base) (hr : RoomR A s f cdv) : RX P w K mg base f cdv A outer s H0 E 11 (J9 G0 D n many a xs ls 2) (fun σ H => ∃ x m, σ = SR x ∧ LR G0 D n many a xs ls m x H) := by
  refine ⟨_, ps_if (pt_cmpR (op_neD hr.units) (pe_lst (pa_cons (pe_h C.GS hr (by decide) (by rfl) pass0 (pa_cons (pv 1) (pa_cons (pv 8) pa_nil))) (pa_cons (pe_h C.GS hr (by decide) (by rfl) pass0 (pa_cons (pv 1) (pa_cons (pv 10) pa_nil))) pa_nil))) (pe_lst (pa_cons (pv 3) (pa_cons (pv 3) pa_nil))) (nomark _)) (pss_one (ps_ret pe_bl)) pss_nil, ?_⟩
  rintro Dn σ H ⟨x, m, sh, rfl, I, ⟨b, ys, ms, h8, hb, hy, b1, b2, hr1⟩, hs0, _, h10⟩ hN
  obtain ⟨c, zs, ks, h10, hc, hz, c1, c2, hr2⟩ := h10 (Nat.le_refl 2)
  have l8 := I.l8
  refine ⟨_, congrArg some I.x1, _, congrArg some h8, D, many, _, ms, rfl, lots_at I.dr hb hy b1 b2 (hr1.gaps I.gk fun y hy => by unfold rev; omega) I.m1 I.m16 (by rw [hr1.len]; omega), hr1.ne I.ne, fun H1 j1 s1 hj1 => ?_⟩
  have I1 := I.sm s1
  refine ⟨_, congrArg some I.x1, _, congrArg some h10, D, many, _, ks, rfl, lots_at I1.dr (s1 _ _ hc) (hz.sm s1) c1 c2 (hr2.gaps I.gk fun y hy => shf_in hs0 hy) I.m1 I.m16 (by rw [hr2.len]; omega), hr2.ne I.ne, fun H2 j2 s2 hj2 => ?_⟩
  have e1 : m = j1 := Hm.num_same I.hm hj1 fun n => hr1.ren.can (ψ := rev many) (fun l hl y hy => by unfold rev; omega) n
  have e2 : m = j2 := Hm.num_same I.hm hj2 fun n => hr2.ren.can (ψ := shf many (many - sh)) (fun l hl y hy => shf_back hs0 ((I.gk l hl).1 y hy)) n
  subst e1
  subst e2
  refine ⟨by show 2 ≤ sizeLine; decide, fun p np => ?_⟩
  have s3 := same_upd (o := .lst [.int (m : Nat), .int (m : Nat)]) np
  refine ⟨_, congrArg some I.x3, _, congrArg some I.x3, by show 2 ≤ sizeLine; decide, fun q nq => ?_⟩
  have s4 := same_upd (o := .lst [.int (m : Nat), .int (m : Nat)]) nq
  refine ⟨.list ([((m : Nat) : Int), (m : Nat)].map .int), .list ([((m : Nat) : Int), (m : Nat)].map .int), .lst (SqL.of (s4 _ _ upd_same)) (dp_ints [((m : Nat) : Int), (m : Nat)]), .lst (SqL.of upd_same) (dp_ints [((m : Nat) : Int), (m : Nat)]), shaped_ints _, shaped_ints _, _, rfl, ?_⟩
  rw [eqv_listI, decide_eq_true rfl]
  exact iteF (hN _ _ ⟨x, m, rfl, ((I1.sm s2).sm s3).sm s4⟩)
end
end Lm
/-! lots_right: trees, and the end. -/
namespace Lm
open PySem PySem.Spec PyProof.Rows L2
/-- statements that end with a value -/
def Fin (X : Cx) (st : List Stmt) (I : L2.St → Hp → Prop) (Z : V → Hp → Prop) : Prop := ∃ t, PSs X st t ∧ ∀ D σ H, I σ H → (∀ v H', Z v H' → D.rt v H') → t D σ H
theorem fin_cons {X : Cx} {st : Stmt} {r : List Stmt} {I J : L2.St → Hp → Prop} {Z : V → Hp → Prop} (h1 : Step X st I J) (h2 : Fin X r J Z) : Fin X (st :: r) I Z := by
  obtain ⟨t1, p1, q1⟩ := h1
  obtain ⟨t2, p2, q2⟩ := h2
  exact ⟨_, pss_cons p1 p2, fun D σ H h q => q1 _ σ H h fun σ' H' h' => q2 _ σ' H' h' q⟩
theorem num_pos {ls : Hm.Lots} {m : Nat} (h : Hm.Num ls m) (l0 : 0 < ls.length) : 0 < m := by
  rcases Nat.eq_zero_or_pos m with rfl | h'
  · have := Hm.can_zero.mp h.1
    rw [this] at l0
    exact absurd l0 (Nat.lt_irrefl 0)
  · exact h'
theorem num_many {ls : Hm.Lots} {m : Nat} {n : Int} (h : Hm.Num ls m) (g : GapsOk n ls) (ne : [] ∉ ls) (n0 : 0 ≤ n) : (m : Int) ≤ n := by
  obtain ⟨k, rfl⟩ : ∃ k : Nat, n = (k : Int) := ⟨n.toNat, by omega⟩
  have c := Hm.can_many (many := k) ne fun l hl x hx => (g l hl).1 x hx
  by_cases e : m ≤ k
  · omega
  · exact absurd c (h.2 k (by omega))
section
variable {P : Program} {w : World} {K : PySem.W.Frag} {mg : Str → Option Value} {base : Heap} {f : Addr} {cdv : Value} {A : Around} {outer : List Env} {s : Shared} {H0 G0 : Hp} {E : XK} {D : DrA} {n : Nat} {many : Int} {a : Addr} {xs : List V} {ls : Hm.Lots}
def J12 (G0 : Hp) (D : DrA) (n : Nat) (many : Int) (a : Addr) (xs : List V) (ls : Hm.Lots) : L2.St → Hp → Prop := fun σ H => ∃ x m, σ = SR x ∧ LR G0 D n many a xs ls m x H
theorem str12 (C : CalR P w K mg base) (hr : RoomR A s f cdv) : RX P w K mg base f cdv A outer s H0 E 12 (J12 G0 D n many a xs ls) (J12 G0 D n many a xs ls) := by
  refine ⟨_, ps_if (pt_cmpR op_notN (pe_h C.GH hr (by decide) (by rfl) pass0 (pa_cons (pv 1) (pa_cons (pv 2) (pa_cons (pv 3) pa_nil)))) pe_non (nomark _)) (pss_one (ps_ret pe_bl)) pss_nil, ?_⟩
  rintro Dn σ H ⟨x, m, rfl, I⟩ hN
  have hm := num_many I.hm I.gk I.ne (by have := I.m1; omega)
  have m16 := I.m16
  refine ⟨_, congrArg some I.x1, _, congrArg some I.x2, _, congrArg some I.x3, D, many, _, ls, m, rfl, I.lots, by omega, fun H1 v s1 hv => ?_⟩
  rcases hv with ⟨_, rfl⟩ | ⟨z, _⟩
  · exact ⟨rfl, _, rfl, iteF (hN _ _ ⟨x, m, rfl, I.sm s1⟩)⟩
  · exact absurd I.hm.1 z
theorem str13 (C : CalR P w K mg base) (hr : RoomR A s f cdv) : RX P w K mg base f cdv A outer s H0 E 13 (J12 G0 D n many a xs ls) (J12 G0 D n many a xs ls) := by
  refine ⟨_, ps_if (pt_cmpR op_lt (pv 3) pe_int (nomark _)) (pss_cons (ps_set (i := 11) scLR.nd rfl (.inl rfl) (pe_h C.GH hr (by decide) (by rfl) pass0 (pa_cons (pv 1) (pa_cons (pv 2) (pa_cons (pe_op op_sub (pv 3) pe_int) pa_nil)))))
    (pss_one (ps_if (pw_or (pt_cmpR op_notBl (pe_h C.GJ hr (by decide) (by rfl) pass0 (pa_cons (pv 1) (pa_cons (pv 2) (pa_cons (pe_op op_sub (pv 3) pe_int) (pa_cons (pv 11) pa_nil))))) pe_bl (nomark _))
      (pw_or1 (pt_val (pe_h C.GJ hr (by decide) (by rfl) pass0 (pa_cons (pv 1) (pa_cons (pv 2) (pa_cons (pv 3) (pa_cons (pv 11) pa_nil)))))))).pt (pss_one (ps_ret pe_bl)) pss_nil))) pss_nil, ?_⟩
  rintro Dn σ H ⟨x, m, rfl, I⟩ hN
  have hm := num_many I.hm I.gk I.ne (by have := I.m1; omega)
  have m16 := I.m16
  obtain ⟨k, rfl⟩ : ∃ k, m = k + 1 := ⟨m - 1, by have := num_pos I.hm I.l0; omega⟩
  refine ⟨_, congrArg some I.x3, _, _, rfl, rfl, _, rfl, ?_⟩
  by_cases h6 : ((k + 1 : Nat) : Int) < 6
  · rw [decide_eq_true h6]
    have e1 : ((k + 1 : Nat) : Int) - 1 = (k : Nat) := by omega
    refine iteT ⟨_, congrArg some I.x1, _, congrArg some I.x2, _, congrArg some I.x3, _, _, rfl, rfl, ?_⟩
    refine ⟨D, many, _, ls, k, congrArg (fun z : Int => [V.int many, V.ref a, V.int z]) e1, I.lots, by omega, fun H1 v s1 hv => ?_⟩
    rcases hv with ⟨z, _⟩ | ⟨nc, hv⟩
    · exact absurd z (I.hm.2 k (Nat.lt_succ_self k))
    · have I1 := I.sm s1
      refine ⟨_, congrArg some I.x1, _, congrArg some I.x2, _, congrArg some I.x3, _, _, rfl, rfl, v, rfl, ?_⟩
      refine ⟨D, many, _, ls, k, v, true, congrArg (fun z : Int => [V.int many, V.ref a, V.int z, v]) e1, I1.lots, by show k + 0 ≤ 16; omega, (fun z => by cases z), hv, fun H2 s2 => ?_⟩
      have I2 := I1.sm s2
      refine ⟨_, _, rfl, rfl, _, rfl, ?_⟩
      refine iteF ⟨_, congrArg some I.x1, _, congrArg some I.x2, _, congrArg some I.x3, v, rfl, ?_⟩
      refine ⟨D, many, _, ls, k, v, false, rfl, I2.lots, by show k + 1 ≤ 16; omega, fun _ => I.ne, hv.mono s2, fun H3 s3 => ⟨_, rfl, iteF (hN _ _ ⟨sx x 11 (some v), k + 1, rfl, (I2.sm s3).set 11 _ (by decide)⟩)⟩⟩
  · rw [decide_eq_false h6]
    exact iteF (hN _ _ ⟨x, k + 1, rfl, I⟩)
def J15 (G0 : Hp) (D : DrA) (n : Nat) (many : Int) (a : Addr) (xs : List V) (ls : Hm.Lots) : L2.St → Hp → Prop := fun σ H => ∃ x m p g, σ = SR x ∧ LR G0 D n many a xs ls m x H ∧ x 12 = some (.ref p) ∧ H p = some (.tup (g.map V.int)) ∧ Hm.hitsL ls g
theorem str14 (C : CalR P w K mg base) (hr : RoomR A s f cdv) : RX P w K mg base f cdv A outer s H0 E 14 (J12 G0 D n many a xs ls) (J15 G0 D n many a xs ls) := by
  refine ⟨_, ps_set (i := 12) scLR.nd rfl (.inr rfl) (pe_h C.GL hr (by decide) (by rfl) pass0 (pa_cons (pv 1) (pa_cons (pv 2) pa_nil))), ?_⟩
  rintro Dn σ H ⟨x, m, rfl, I⟩ hN
  refine ⟨_, congrArg some I.x1, _, congrArg some I.x2, D, many, _, ls, rfl, I.lots, fun H1 v s1 hv => ?_⟩
  obtain ⟨p, g, rfl, hp, F⟩ := first_of hv I.ne
  exact hN _ _ ⟨sx x 12 (some (.ref p)), m, p, g, rfl, (I.sm s1).set 12 _ (by decide), rfl, hp, F.hit⟩
theorem str15 (C : CalR P w K mg base) (hr : RoomR A s f cdv) : Fin (XR P w K mg base f cdv A outer s H0 E) [stR 15] (J15 G0 D n many a xs ls) (fun v H => v = .bl true ∧ DrawAt D n H ∧ Fr D G0 H) := by
  refine ⟨_, pss_one (ps_ret (pe_cmpR (op_eqD hr.units) (pe_lc (own := [("lot", 13)]) (g := gName 13) rfl scLR.nd (pi_listK K (pv 2))
        (blkOk_by (own := [("lot", 13)]) (N := nLR) (sc := defScope sLR) (by decide +kernel)) (fun _ _ _ _ _ => pg_name (i := 13) scLR.nd rfl (Or.inl rfl))
        (fun _ _ _ _ _ => pts_one (pt_cmpR (show OpR _ _ (rEqD K) from op_eqD hr.units) (pe_lc (own := [("gap", 15)]) (g := gName 15) rfl scLR.nd (pi_tupK K (pv 13))
            (blkOk_by (by show blkC nLR ⟨.function, [(".0", .local), ("lot", .local), ("gaps_here", .cell)], false, false, []⟩ _ [("gap", 15)] = true; decide +kernel)) (fun _ _ _ _ _ => pg_name (i := 15) scLR.nd rfl (Or.inl rfl))
            (fun _ _ _ _ _ => pts_one (pt_cmpR (show OpR _ _ (rIn K false) from op_in_seq) (pv 15) (pv 12) (by rfl))) (fun _ _ _ _ _ => pv 15)) (pe_lst pa_nil) (nomark _)))
        (fun _ _ _ _ _ => pv 13)) (pe_lst pa_nil) (nomark _))), ?_⟩
  rintro Dn σ H ⟨x, m, p, g, rfl, I, h12, hp, hh⟩ hN
  refine ⟨_, congrArg some I.x2, a, rfl, ⟨_, SqL.of I.ha⟩, fun R nR => lc_list (K := K) (a := a) (xs := xs) (fun i H' => Same H H' ∧ H' R = some (.lst [])) ⟨same_upd nR, upd_same⟩ (fun i H' _ h => SqL.of (h.1 _ _ I.ha)) ?_ ?_⟩
  · rintro i v H' hxi ⟨s1, hR⟩
    obtain ⟨l, hli, b, rfl, hb⟩ := I.hl.get hxi
    have hlm := List.mem_of_getElem? hli
    have l5 := I.fit.each l hlm
    have hit : missL g l = false := by
      cases hmiss : missL g l with
      | false => rfl
      | true => exact absurd (hh l hlm) (missL_iff.mp hmiss)
    refine ⟨rfl, _, rfl, b, rfl, ⟨_, SqT.of (s1 _ _ hb)⟩, fun R2 nR2 => lc_tup (K := K) (a := b) (xs := l.map V.int) (fun j H2 => Same H' H2 ∧ H2 R2 = some (.lst (((l.take j).filter fun z => decide (z ∈ g)).map V.int))) ⟨same_upd nR2, upd_same⟩ (fun j H2 _ h => SqT.of (h.1 _ _ (s1 _ _ hb))) ?_ ?_⟩
    · rintro j v H2 hxj ⟨s2, hR2⟩
      obtain ⟨z, hz, rfl⟩ := int_at hxj
      have hlen : ((l.take j).filter fun z => decide (z ∈ g)).length ≤ 500 := Nat.le_trans (List.length_filter_le _ _) (by rw [List.length_take]; omega)
      have st := filter_take_succ (p := fun z => decide (z ∈ g)) hz
      refine ⟨rfl, _, rfl, _, congrArg some h12, p, _, rfl, .inr (SqT.of (s2 _ _ (s1 _ _ hp))), rfl, flat_ints g, _, rfl, ?_⟩
      rw [if_neg (by decide), in_ints]
      by_cases hg : z ∈ g
      · rw [decide_eq_true hg]
        refine iteT ⟨_, rfl, _, hR2, small1000 (by rw [List.length_map]; omega), same_put s2 nR2, ?_⟩
        rw [if_pos (decide_eq_true hg)] at st
        rw [st, List.map_append]
        exact upd_same
      · rw [decide_eq_false hg]
        refine iteF ⟨s2, ?_⟩
        rw [if_neg (by simpa using hg), List.append_nil] at st
        rw [st]
        exact hR2
    · rintro H2 ⟨s2, hR2⟩
      rw [List.length_map, List.take_length] at hR2
      refine ⟨Nat.zero_le _, fun Z nZ => ?_⟩
      have s3 : Same H' (upd H2 Z (.lst [])) := same_put s2 (none_of s2 nZ)
      refine ⟨_, _, .lst (SqL.of ((same_upd nZ) _ _ hR2)) (dp_ints _), .lst (SqL.of upd_same) .nil, shaped_ints _, by decide +kernel, _, rfl, ?_⟩
      rw [eqv_nil_ints]
      show (if missL g l = true then _ else _)
      rw [hit]
      exact iteF ⟨fun b o e => s3 b o (s1 b o e), s3 _ _ hR⟩
  · rintro H1 ⟨s1, hR⟩
    refine ⟨Nat.zero_le _, fun Z nZ => ?_⟩
    have s2 : Same H (upd H1 Z (.lst [])) := same_put s1 (none_of s1 nZ)
    have I2 := I.sm s2
    exact ⟨.list [], .list [], .lst (SqL.of (same_upd nZ _ _ hR)) .nil, .lst (SqL.of upd_same) .nil, by decide +kernel, by decide +kernel, hN _ _ ⟨rfl, I2.dr, I2.fr0⟩⟩
def spLR : Sp := fun vs H Q _ => ∃ (D : DrA) (n : Nat) (many : Int) (a : Addr) (xs : List V) (ls : Hm.Lots), vs = [.ref D.d, .int many, .ref a] ∧ n + 20 ≤ B ∧ H a = some (.lst xs) ∧ LsAt H xs ls ∧ GapsOk many ls ∧ ls.length ≤ 8 ∧ 0 < ls.length ∧ 1 ≤ many ∧ many ≤ 16 ∧ [] ∉ ls ∧ DrawAt D n H ∧ a ≠ D.d ∧ a ≠ D.w ∧
  ∀ H', DrawAt D (n + 3) H' → Fr D H H' → Q (.bl true) H'
theorem ok_lr {fd : FuncData} (F : Fun K "_law_lots_right" "_law_lots_right" sLR f fd) (C : CalR P w K mg base) : FnOk P w K mg base CX0 24 f fd ["state", "many_here", "lots"] spLR := by
  refine F.ok scLR (fun vs H Q E h => ?_) (fun cdv A outer s H vs Q E hr h => ?_)
  · obtain ⟨D, n, many, a, xs, ls, rfl, _⟩ := h
    rfl
  · obtain ⟨D, n, many, a, xs, ls, rfl, hn, ha, hl, gk, l8, l0, m1, m16, ne, dr, ad, aw, q⟩ := h
    have body : Fin (XR P w K mg base f cdv A outer s H E) [stR 0, stR 1, stR 2, stR 3, stR 4, stR 5, stR 6, stR 7, stR 8, stR 9, stR 10, stR 11, stR 12, stR 13, stR 14, stR 15] _ (fun v H' => v = .bl true ∧ DrawAt D (n + 1 + 1 + 1) H' ∧ Fr D H H') :=
      fin_cons (str0 (G0 := H) (D := D) (n := n) (many := many) (a := a) (xs := xs) (ls := ls) C hr (by omega)) (fin_cons (str1 C hr) (fin_cons (str2 C hr) (fin_cons (str3 C hr) (fin_cons (str4 C) (fin_cons (str5 C) (fin_cons (str6 C hr (by omega)) (fin_cons (str7 C hr) (fin_cons (str8 C)
        (fin_cons (str9 C hr (by omega)) (fin_cons (str10 C) (fin_cons (str11 C hr) (fin_cons (str12 C hr) (fin_cons (str13 C hr) (fin_cons (str14 C hr) (str15 C hr)))))))))))))))
    obtain ⟨t, p, r⟩ := body
    refine ⟨t, p, r _ _ _ ⟨fun i => (L2.start nLR [V.ref D.d, .int many, .ref a]).getD i none, rfl, rfl, rfl, rfl, ha, hl, gk, l8, l0, m1, m16, ne, dr, ad, aw, .refl D H⟩ ?_⟩
    rintro v H' ⟨rfl, d, fr⟩
    exact q H' d fr
end
end Lm
/-! sorted(pairs, key=lambda x: x[1]); pairs stand as lots of two numbers. -/
namespace Lm
open PySem PySem.Spec PyProof.Rows L2 LamX
def keyP (l : List Int) : PyData := .int (l.getD 1 0)
theorem alike_keyP (a b : List Int) : PySem.W.alike (keyP a) (keyP b) = true := by
  unfold keyP
  simp [PySem.W.alike]
/-- pairs, as lots -/
def Two (ls : Hm.Lots) : Prop := ∀ l ∈ ls, l.length = 2
/-! ### the key, told of one pair -/
theorem key_callP {prog : Program} {w : World} {A : Around} {s : Shared} {mg : Str → Option Value} {f c' t : Addr} {qual x : Str} {params : Arguments} {scope : Scope} {pm ctv : Value} {p1 p2 p3 : Pos} {j4 : Nat} {its : Array Value} {z : Int} {tz : Tok}
    (hroom : A.depth < recursionLimit) (ho : s.heap.get? f = some (PySem.W.kla_obj "<lambda>" qual params (.Subscript (.Name x p1) (.Constant (.int 1) j4 p2) p3) scope [] pm c' ctv))
    (hcd : s.heap.CodeRec (.ref c') qual) (lim : s.heap.NoLimit) (hns : s.heap.Ns mainGlobals mg)
    (hk : scope.kind = .function) (hco : scope.isCoroutine = false) (hgen : scope.isGenerator = false) (hnm : scope.names = [(x, .local)]) (hx : (x == ("__debug__" : Str)) = false)
    (hbind : ∀ v, bindArgs (PySem.W.kla_fn "<lambda>" qual params (.Subscript (.Name x p1) (.Constant (.int 1) j4 p2) p3) scope [] pm (.ref c') ctv) ⟨[v], []⟩ = pure [(x, v)])
    (ht : IsTup s.heap t its) (hsz : its.size = 2) (hit : its[1]? = some (.int z tz)) :
    wpAny (model prog w) A (call (.ref f) [.ref t]) (PySem.W.KeyPure (.int z) s) (fun _ _ => False) s := by
  refine wpAny_call (PySem.W.kla_callFunE hroom ho rfl hco hgen rfl hcd ?_)
  rw [hbind]
  refine wpAny_pure (wpAny_newFunctionEnv (fun y hy => ?_) (fun y hy => ?_) (fun h₁ hns1 hsb => ⟨lim.fresh _ hsb, ?_⟩) hk)
  · have hy : y ∈ scope.names := hy
    rw [hnm] at hy
    simp at hy
    rcases hy with rfl
    intro e; cases e
  · obtain rfl := List.mem_singleton.mp hy
    show scope.names.lookup x = some .local
    rw [hnm]
    simp [List.lookup]
  · show codeAny _ _ (.expr _ (PySem.W.envX qual scope s.heap.objs.size f (.ref c') [])) _ _
    have kp : ∀ b o, s.heap.get? b = some o → h₁.get? b = some o := fun b o e => hsb.extBut b o (Nat.ne_of_lt (Heap.lt_size e)) (Heap.get?_push_of_some _ e)
    have kL : (PySem.W.envX qual scope s.heap.objs.size f (.ref c') []).kindOf x = some .local := by
      show scope.names.lookup x = some .local
      rw [hnm]
      simp [List.lookup]
    have hm1 : ([(x, Value.ref t)] : List (Str × Value)).reverse.lookup x = some (.ref t) := by simp [List.lookup]
    have ht1 := ht.keeps kp
    refine PySem.W.kla_codeExpr (Subscript_ (wpAny_Name (wpAny_loadName_local hk kL hns1 hm1 ?_) hx))
    refine wpAny_Constant_int ?_
    refine subscriptTail_builtinR (x := .int z tz) ht1.typeIs slot_tuple_getitem.lookup (getItem_tuple (j := 1) ht1 (by decide) (by decide) (by rw [hsz]; rfl) hit ⟨rfl, ?_⟩) (by intros; rfl)
    exact ⟨_, _, rfl, kp, .int z tz⟩
/-! ### the rule -/
/-- the raw value u is the lot b.1, which stands as b.2 -/
def LotR (h : Heap) (u : Value) (b : List Int × V) : Prop := ∃ (t : Addr) (its : Array Value), b.2 = .ref t ∧ u = .ref t ∧ IsTup h t its ∧ its.size = b.1.length ∧ b.1.length ≤ sizeLine ∧ Vals (b.1.map V.int) its.toList
theorem readsAll_ints {h : Heap} : ∀ {l : List Int} {us : List Value}, Vals (l.map V.int) us → ReadsAll h us (l.map .int) []
  | [], _, r => by cases r; exact .nil
  | x :: r, _, v => by
    cases v with
    | cons v1 v2 =>
      obtain ⟨t, rfl⟩ := v1
      exact .cons (.int x t) (readsAll_ints v2)
theorem lotR_of {P : Program} {w : World} {H : Hp} {h : Heap} {v : V} {u : Value} {l : List Int} (k : HOk P w H h) (a : LotAt H v l) (r : RelV v u) : LotR h u (l, v) := by
  obtain ⟨t, rfl, e⟩ := a
  obtain ⟨hz, its, rv, ht⟩ := k t _ e
  obtain rfl : u = Value.ref t := r
  have hl := rv.length
  rw [List.length_map] at hl hz
  refine ⟨t, its.toArray, rfl, rfl, ht, by rw [List.size_toArray]; exact hl.symm, hz, ?_⟩
  simpa using rv
theorem each_lots {P : Program} {w : World} {H : Hp} {h : Heap} (k : HOk P w H h) : ∀ {xs : List V} {ls : Hm.Lots} {its : List Value}, LsAt H xs ls → Vals xs its → PySem.W.EachIs (LotR h) its (ls.zip xs)
  | _, _, _, .nil, .nil => .nil
  | _, _, _, .cons a b, .cons c d => .cons (lotR_of k a c) (each_lots k b d)
theorem vals_lots {h : Heap} : ∀ {out : List Value} {bs : List (List Int × V)}, PySem.W.EachIs (LotR h) out bs → Vals (bs.map (·.2)) out
  | _, _, .nil => .nil
  | _, _, .cons a b => by
    refine .cons ?_ (vals_lots b)
    obtain ⟨t, its, e1, e2, _⟩ := a
    show L2.RelV (Prod.snd _) _
    rw [e1, e2]
    exact rfl
theorem zip_at {H : Hp} : ∀ {xs : List V} {ls : Hm.Lots}, LsAt H xs ls → ∀ b ∈ ls.zip xs, LotAt H b.2 b.1
  | _, _, .nil, _, hb => by cases hb
  | _, _, .cons a t, b, hb => by
    rcases List.mem_cons.mp hb with rfl | hb
    · exact a
    · exact zip_at t b hb
theorem at_zip {H : Hp} : ∀ {bs : List (List Int × V)}, (∀ b ∈ bs, LotAt H b.2 b.1) → LsAt H (bs.map (·.2)) (bs.map (·.1))
  | [], _ => .nil
  | b :: r, h => .cons (h b (List.mem_cons_self ..)) (at_zip fun c hc => h c (List.mem_cons_of_mem _ hc))
theorem second_of {its : Array Value} {z0 z1 : Int} (r : Vals ([z0, z1].map V.int) its.toList) : ∃ tz, its[1]? = some (.int z1 tz) := by
  obtain ⟨u, h1, h2⟩ := r.get (i := 1) (x := V.int z1) rfl
  obtain ⟨tz, rfl⟩ := h2
  exact ⟨tz, by simpa using h1⟩
/-- sorted(e, key=lambda x: x[1]), e pairs -/
def tSortP (K : PySem.W.Frag) (T : List (Addr × Str)) (te : TE) : TE := fun σ H Q => te σ H fun x H1 => Tabs T H1 ∧ ∀ H2, ExtN H1 H2 → Tabs T H2 → ∃ (a : Addr) (xs : List V) (ls : Hm.Lots), x = .ref a ∧ SqL K H2 a xs ∧ LsAt H2 xs ls ∧ Two ls ∧
  ∀ (p : Addr) (ys : List V) (ls' : Hm.Lots), H2 p = none → LsAt H2 ys ls' → ls'.Perm ls → ls'.Pairwise (fun a b => a.getD 1 0 ≤ b.getD 1 0) → Q (.ref p) (upd H2 p (.lst ys))
theorem pe_sortP {X : Cx} {T : List (Addr × Str)} {c Pt : Addr} {e : Expr} {te : TE} {x : Str} {params : Arguments} {scope : Scope} {j : Nat} {p pos p1 p2 p3 lpos kp : Pos} {j4 : Nat} (hg : Gl X "sorted") (hm : X.mg "sorted" = none) (hr : Room j X.A) (he : PE X e te)
    (TB : LamX.TabB X.base X.mg c Pt) (hcode : X.env.code = .ref c) (hmT : (Pt, X.env.qual ++ "<lambda>") ∈ T) (hu : ∀ p ∈ T, p.1 = Pt → p.2 = X.env.qual ++ "<lambda>") (hdef : defaultsOf params X.env = ([], []))
    (hk : scope.kind = .function) (hco : scope.isCoroutine = false) (hgen : scope.isGenerator = false) (hnm : scope.names = [(x, .local)]) (hx : (x == ("__debug__" : Str)) = false)
    (hbind : ∀ (q : Str) (pm cv ctv v : Value), bindArgs (PySem.W.kla_fn "<lambda>" q params (.Subscript (.Name x p1) (.Constant (.int 1) j4 p2) p3) scope [] pm cv ctv) ⟨[v], []⟩ = pure [(x, v)])
    (hs0 : starEach [e] X.env = (false, eval e X.env) :: starEach [] X.env := by rfl) (hst : backTo pos (starEach [e] X.env) = (false, eval e X.env) :: backTo pos (starEach [] X.env) := by rfl) (hpl : (backTo pos (starEach [e] X.env)).any (·.1) = false := by rfl)
    (hks : backToKw pos (keywordEach [⟨some (Str.ofString "key"), .Lambda params (.Subscript (.Name x p1) (.Constant (.int 1) j4 p2) p3) scope lpos, kp⟩] X.env) = [(some (Str.ofString "key"), do let v ← eval (.Lambda params (.Subscript (.Name x p1) (.Constant (.int 1) j4 p2) p3) scope lpos) X.env; standAt pos; pure v)] := by rfl) :
    PE X (.Call (.Name "sorted" p) [e] [⟨some (Str.ofString "key"), .Lambda params (.Subscript (.Name x p1) (.Constant (.int 1) j4 p2) p3) scope lpos, kp⟩] pos) (tSortP X.K T te) := by
  refine ⟨fun pins s σ H Q I h => ?_⟩
  refine wpAny_Call_Name_kw (ld_blt I hg hm (u := .builtin "sorted") (by decide +kernel) ?_)
  have ha : PA X [e] (tCons te tNil) := pa_cons he pa_nil hs0
  refine PyProof.Rows.callWith_kw (thn (ha.run pos pins s σ H (fun vs H1 => ∃ x, vs = [x] ∧ Tabs T H1 ∧ ∀ H2, ExtN H1 H2 → Tabs T H2 → ∃ (a : Addr) (xs : List V) (ls : Hm.Lots), x = .ref a ∧ SqL X.K H2 a xs ∧ LsAt H2 xs ls ∧ Two ls ∧
      ∀ (p : Addr) (ys : List V) (ls' : Hm.Lots), H2 p = none → LsAt H2 ys ls' → ls'.Perm ls → ls'.Pairwise (fun a b => a.getD 1 0 ≤ b.getD 1 0) → Q (.ref p) (upd H2 p (.lst ys))) I ?_) fun us s1 hh => ?_) hst hpl (by rw [hks]; rfl) (by rw [hks]; rfl)
  · show te σ H _
    refine cast (congrArg (te σ H) (funext fun x => funext fun H1 => propext ⟨fun k => ⟨x, rfl, k⟩, ?_⟩)) h
    rintro ⟨y, e, k⟩
    cases e
    exact k
  · obtain ⟨vs, H1, I1, r1, y, rfl, T1, k⟩ := hh
    rw [hks]
    have hfree : ∀ y ∈ scope.names, y.2 = .free → ∃ c, X.env.cells.lookup y.1 = some c := fun y hy e => by
      rw [hnm] at hy
      simp at hy
      rcases hy with rfl
      cases e
    have hclo : cloFrom X.env.cells scope.names [] = [] := by
      rw [hnm]
      rfl
    refine wpAny_evalAll_cons (wpAny_bind (lam_make2 I1 TB hcode hmT hu T1 hdef hfree fun f c' pm ctv H2 s2 I2 eN T2 hf hfn hfr hco2 => wpAny_bind (wpAny_standAt (wpAny_pure (wpAny_evalAll_nil ?_)))))
    rw [hclo] at hf
    obtain ⟨a, xs, ls, rfl, hq, hls, h2, q⟩ := k H2 eN T2
    obtain ⟨u, rfl, r⟩ := vals1 r1
    obtain rfl : u = Value.ref a := r
    obtain ⟨its, rv, hl, hz⟩ := I2.list hq
    obtain ⟨⟨oc, vs, tt, g1, g2, g3⟩, _, _⟩ := I2.hok c' _ hco2
    have hx1 : xs.length = ls.length := hls.len
    have each := each_lots I2.hok hls rv
    have hbl : (ls.zip xs).length = ls.length := by rw [List.length_zip]; omega
    obtain ⟨mb, b1, b2⟩ := I2.mod.blt
    have hun := hr.units
    have hn := line63
    refine PySem.W.sorted_key_data (b := false) (fun b : List Int × V => keyP b.1) hl.isList each (PySem.W.AllAlike.of fun b b' => alike_keyP b.1 b'.1) (PySem.W.Sortable.others fun b => ⟨(fun z => by unfold keyP at z; cases z), fun _ z => by unfold keyP at z; cases z⟩) (by rw [hbl, ← hx1]; exact hz) (fun b _ => ?_) (ksk_s1 _ _) (fun _ => ksk_l1 _ _) (fun _ => ksk_t1 _ _)
      (fun v b hR hmem h tk kp => ?_) fun out cc h' tk kp _ hD _ eo => ?_
    · have : (keyP b.1).depth = 0 := by unfold keyP; simp [PyData.depth]
      omega
    · obtain ⟨t, it, e1, e2, e3, e4, e5, e6⟩ := hR
      subst e2
      have l2 : b.1.length = 2 := h2 _ (List.of_mem_zip (show (b.1, b.2) ∈ ls.zip xs from hmem)).1
      obtain ⟨z0, z1, eb⟩ : ∃ z0 z1, b.1 = [z0, z1] := by
        match h : b.1, l2 with
        | [z0, z1], _ => exact ⟨z0, z1, rfl⟩
      obtain ⟨tz, hit⟩ : ∃ tz, it[1]? = some (.int z1 tz) := by
        rw [eb] at e6
        exact second_of e6
      have ek : keyP b.1 = .int z1 := by rw [eb]; rfl
      rw [ek]
      exact key_callP (mg := X.mg) (show X.A.depth < recursionLimit from hr.depth) (kp _ _ hf) ⟨c', oc, vs, tt, rfl, kp _ _ g1, g2, g3⟩ ((I2.mod.nolimit.keeps I2.bk).keeps kp) ((I2.mod.glob.keeps I2.bk).keeps kp) hk hco hgen hnm hx (fun v => hbind _ _ _ _ v) (e3.keeps kp) (by rw [e4, eb]; rfl) hit
    · have hpm : (List.mergeSort (ls.zip xs) (PySem.W.dataLe false fun b : List Int × V => keyP b.1)).Perm (ls.zip xs) := List.mergeSort_perm ..
      have hsn := PySem.W.sort_pairwise (PySem.W.sortLe_total (listOrd itemOrd) false fun b : List Int × V => PySem.W.keyToks (keyP b.1)) (ls.zip xs)
      generalize hbs : List.mergeSort (ls.zip xs) (PySem.W.dataLe false fun b : List Int × V => keyP b.1) = bs at *
      have rv2 := vals_lots eo
      have hlen : (bs.map (·.2)).length ≤ sizeLine := by
        rw [List.length_map, hpm.length_eq, hbl, ← hx1]
        exact hz
      refine ⟨.ref _, upd H2 (s2.heap.objs.size + 1) (.lst (bs.map (·.2))), I2.laid (t' := tk) kp (Nat.le_succ _) ⟨hlen, out, cc, rv2, hD⟩, rfl, q _ _ (bs.map (·.1)) (I2.hok.fresh (Nat.le_succ _)) (at_zip fun b hb => zip_at hls b (hpm.mem_iff.mp hb)) ?_ ?_⟩
      · have e := hpm.map (·.1)
        rwa [List.map_fst_zip (by omega)] at e
      · rw [List.pairwise_map]
        refine List.Pairwise.imp (fun {b b'} hbb => ?_) (hbs ▸ hsn)
        have hbb : (!PySem.W.dataLt (keyP b'.1) (keyP b.1)) = true := hbb
        unfold keyP at hbb
        rw [PySem.W.dataLt_int, Bool.not_eq_true', decide_eq_false_iff_not] at hbb
        omega
end Lm
/-! The law's stretch_size, arc_lot. -/
namespace Lm
open PySem PySem.Spec PyProof.Rows L2 LamX
def pairsL (ps : List (Int × Int)) : Hm.Lots := ps.map fun p => [p.1, p.2]
theorem two_pairs (ps : List (Int × Int)) : Two (pairsL ps) := fun l hl => by
  obtain ⟨p, _, rfl⟩ := List.mem_map.mp hl
  rfl
theorem pairs_of : ∀ {ls : Hm.Lots}, Two ls → ∃ ps, ls = pairsL ps
  | [], _ => ⟨[], rfl⟩
  | l :: r, h => by
    obtain ⟨ps, rfl⟩ := pairs_of (ls := r) fun k hk => h k (List.mem_cons_of_mem _ hk)
    have h2 := h l (List.mem_cons_self ..)
    match l, h2 with
    | [a, b], _ => exact ⟨(a, b) :: ps, rfl⟩
theorem mem_pairs {ps : List (Int × Int)} {p : Int × Int} : [p.1, p.2] ∈ pairsL ps ↔ p ∈ ps := by
  unfold pairsL
  rw [List.mem_map]
  constructor
  · rintro ⟨q, hq, e⟩
    injection e with e1 e2
    injection e2 with e2 _
    have : q = p := Prod.ext e1 e2
    exact this ▸ hq
  · intro h
    exact ⟨p, h, rfl⟩
theorem pair_at {ps : List (Int × Int)} {i : Nat} {l : List Int} (h : (pairsL ps)[i]? = some l) : ∃ p, ps[i]? = some p ∧ l = [p.1, p.2] := by
  unfold pairsL at h
  rw [List.getElem?_map] at h
  cases hp : ps[i]? with
  | none => rw [hp] at h; cases h
  | some p => rw [hp] at h; exact ⟨p, rfl, (Option.some.inj h).symm⟩
theorem LotAt.ext {H H' : Hp} {v : V} {l : List Int} (h : LotAt H v l) (e : ExtN H H') : LotAt H' v l := by
  obtain ⟨a, rfl, k⟩ := h
  exact ⟨a, rfl, e _ _ k fun _ z => by cases z⟩
theorem LsAt.ext {H H' : Hp} (e : ExtN H H') : ∀ {xs : List V} {ls : Hm.Lots}, LsAt H xs ls → LsAt H' xs ls
  | _, _, .nil => .nil
  | _, _, .cons a t => .cons (a.ext e) (t.ext e)
theorem Tabs.off {T : List (Addr × Str)} {H : Hp} {fa : Addr} {zs : List V} {o : HO} (h : H fa = some (.lst zs)) (t : Tabs T H) : Tabs T (upd H fa o) := by
  intro p hp
  obtain ⟨ps, e1, e2, e3⟩ := t p hp
  refine ⟨ps, by rw [upd_ne (ne_of e1 h (fun z => by cases z))]; exact e1, e2, fun pos cv hc => ?_⟩
  obtain ⟨c, a, b⟩ := e3 pos cv hc
  exact ⟨c, a, by rw [upd_ne (ne_of b h (fun z => by unfold CodeO at z; cases z))]; exact b⟩
theorem Tabs.fr {T : List (Addr × Str)} {D : DrA} {n : Nat} {H H' : Hp} (t : Tabs T H) (dr : DrawAt D n H) (f : Fr D H H') : Tabs T H' := by
  obtain ⟨ws, cs, r, tt, h1, h2, _⟩ := id dr
  intro p hp
  obtain ⟨ps, e1, e2, e3⟩ := t p hp
  refine ⟨ps, f _ _ e1 (ne_of e1 h1 (fun z => by cases z)) (ne_of e1 h2 (fun z => by cases z)), e2, fun pos cv hc => ?_⟩
  obtain ⟨c, a, b⟩ := e3 pos cv hc
  exact ⟨c, a, f _ _ b (ne_of b h1 (fun z => by unfold CodeO at z; cases z)) (ne_of b h2 (fun z => by unfold CodeO at z; cases z))⟩
section
variable {P : Program} {w : World} {K : PySem.W.Frag} {mg : Str → Option Value} {base : Heap}
abbrev sStr : Stmt := topS 38
def nStr : List Str := ["pairs", "found", "last", "pair"]
theorem scStr : FnScope nStr ["pairs"] (defScope sStr) := ⟨rfl, rfl, rfl, by decide +kernel, rfl, by decide +kernel, by decide +kernel⟩
def TOkS (T : List (Addr × Str)) (Pu : Addr) : Prop := (Pu, (envOfC "_law_stretch_size" (defScope sStr) 0 0 .none).qual ++ "<lambda>") ∈ T ∧ ∀ p ∈ T, p.1 = Pu → p.2 = (envOfC "_law_stretch_size" (defScope sStr) 0 0 .none).qual ++ "<lambda>"
def spStr (T : List (Addr × Str)) : Sp := fun vs H Q _ => ∃ (a : Addr) (xs : List V) (ps : List (Int × Int)), vs = [.ref a] ∧ H a = some (.lst xs) ∧ LsAt H xs (pairsL ps) ∧ ps.length ≤ 20 ∧ Tabs T H ∧
  ∀ (H' : Hp) (p f : Addr) (ys : List V) (ss : List (Int × Int)), ExtN H H' → Tabs T H' → H' p = some (.tup [.int ((Hm.gre ss (-1)).length : Nat), .ref f]) → H' f = some (.lst ys) → LsAt H' ys (pairsL (Hm.gre ss (-1))) → (∀ q, q ∈ ss ↔ q ∈ ps) → ss.Pairwise (fun a b => a.2 ≤ b.2) → Q (.ref p) H'
theorem ok_str {T : List (Addr × Str)} {f c Pu : Addr} {oc kV doc pm ct : Value} {od an : Option Addr} {osl : Array (Option Value)} (lk : K.lookup f = some ⟨oc, od, .func (PySem.W.fnOf "_law_stretch_size" "_law_stretch_size" (defArgs sStr) (defBody sStr) (defScope sStr) .none kV doc pm an (.ref c) ct), osl⟩) (hcd : PySem.W.codeIn K (.ref c) "_law_stretch_size" = true)
    (N : Bl mg) (TB : LamX.TabB base mg c Pu) (hT : TOkS T Pu) :
    FnOk P w K mg base CX0 4 f (PySem.W.fnOf "_law_stretch_size" "_law_stretch_size" (defArgs sStr) (defBody sStr) (defScope sStr) .none kV doc pm an (.ref c) ct) ["pairs"] (spStr T) := by
  refine fn_of lk hcd scStr (fun vs H Q E h => ?_) fun A outer s H vs Q E hr h => ?_
  · obtain ⟨a, xs, ps, rfl, _⟩ := h
    rfl
  · obtain ⟨a, xs, ps, rfl, ha, hl, h20, tb, q⟩ := h
    suffices hh : ∃ t, PSs (cxOf CX0 P w K mg base nStr "_law_stretch_size" (defScope sStr) f (.ref c) A outer s H E).nox (defBody sStr) t ∧ t { nx := fun _ H' => Q .non H', rt := Q } (L2.start nStr [.ref a]) H by
      obtain ⟨t, h1, h2⟩ := hh
      exact ⟨t, h1.nox, h2⟩
    refine ⟨_, pss_cons (ps_par (i := 1) (j := 2) rfl scStr.nd rfl rfl (by decide) rfl rfl (pa_cons (pe_lst pa_nil) (pa_cons (pe_un un_neg pe_int) pa_nil)) rfl)
      (pss_cons (ps_for PassesOwn.never rfl (pi_listK K (pe_sortP (T := T) (x := "pair") (by rfl) N.bsrt hr (pv 0) TB rfl hT.1 hT.2 rfl rfl rfl rfl rfl (by decide) (fun _ _ _ _ _ => rfl))) (pg_name (i := 3) scStr.nd rfl (.inl rfl))
        (pss_one (ps_if (pt_cmpR op_gt (pe_ix ix_tup (pv 3) pe_int (fun _ _ => rfl)) (pv 2) (nomark _))
          (pss_cons (ps_expr (pe_bm PySem.F.plainAttrs_list PySem.F.slot_list_append PySem.F.type_list_append mt_append (pv 1) (pa_cons (pv 3) pa_nil))) (pss_one (ps_set (i := 2) scStr.nd rfl (.inl rfl) (pe_ix ix_tup (pv 3) pe_int (fun _ _ => rfl))))) pss_nil)))
      (pss_one (ps_ret (pe_tup (pa_cons (pe_callB call_len_seq (by rfl) N.blen PySem.boot_len (pa_cons (pv 1) pa_nil)) (pa_cons (pv 1) pa_nil)))))), ?_⟩
    refine ⟨(by show 0 ≤ sizeLine; decide), fun fa nfa => ?_⟩
    have s1 := same_upd (o := .lst []) nfa
    have hf1 : (upd H fa (.lst [])) fa = some (.lst []) := upd_same
    have ha1 := s1 _ _ ha
    have hl1 := hl.sm s1
    have tb1 : Tabs T (upd H fa (.lst [])) := tb.ext s1
    have x1 : ExtN H (upd H fa (.lst [])) := fun b o e _ => s1 b o e
    generalize upd H fa (.lst []) = H1 at *
    refine ⟨_, rfl, _, _, rfl, _, rfl, tb1, fun H2 e2 T2 => ?_⟩
    have ha2 := e2 _ _ ha1 (fun _ z => by cases z)
    have hf2 := e2 _ _ hf1 (fun _ z => by cases z)
    have hl2 := hl1.ext e2
    refine ⟨a, xs, pairsL ps, rfl, SqL.of ha2, hl2, two_pairs ps, fun p2 ys ls' np2 hy hpm hpw => ?_⟩
    obtain ⟨ss, rfl⟩ := pairs_of (ls := ls') fun l h => two_pairs ps l (hpm.mem_iff.mp h)
    have mem : ∀ q, q ∈ ss ↔ q ∈ ps := fun q => by rw [← mem_pairs, hpm.mem_iff, mem_pairs]
    have pw : ss.Pairwise (fun a b => a.2 ≤ b.2) := by
      unfold pairsL at hpw
      rw [List.pairwise_map] at hpw
      exact hpw
    have hlen : ss.length = ps.length := by
      have := hpm.length_eq
      unfold pairsL at this
      rwa [List.length_map, List.length_map] at this
    have s3 := same_upd (o := .lst ys) np2
    have hp3 : (upd H2 p2 (.lst ys)) p2 = some (.lst ys) := upd_same
    have hf3 := s3 _ _ hf2
    have hy3 := hy.sm s3
    have x3 : ExtN H (upd H2 p2 (.lst ys)) := fun b o e k => s3 _ _ (e2 b o (x1 b o e k) k)
    have T3 := T2.ext s3
    have pf : p2 ≠ fa := fun z => by rw [z, hf2] at np2; cases np2
    generalize upd H2 p2 (.lst ys) = H3 at *
    refine ⟨p2, rfl, ⟨_, SqL.of hp3⟩, for_list (K := K) (a := p2) (xs := ys) (fun i σ H' => ExtN H H' ∧ Tabs T H' ∧ H' p2 = some (.lst ys) ∧ LsAt H' ys (pairsL ss) ∧ ∃ (zs : List V) (fd : List (Int × Int)) (last : Int) (x3 : Option V), σ = [some (.ref a), some (.ref fa), some (.int last), x3] ∧ H' fa = some (.lst zs) ∧ LsAt H' zs (pairsL fd) ∧ fd.length ≤ i ∧ Hm.gre ss (-1) = fd ++ Hm.gre (ss.drop i) last)
      ⟨x3, T3, hp3, hy3, [], [], -1, none, rfl, hf3, .nil, Nat.le_refl _, rfl⟩ (fun i σ H' _ h => SqL.of h.2.2.1) ?_ ?_⟩
    · rintro i v σ H' hvi ⟨xe, te, hp', hy', zs, fd, last, x3, rfl, hfa, hz, hfl, hg⟩
      obtain ⟨l, hli, b, rfl, hb⟩ := hy'.get hvi
      obtain ⟨q, hq, rfl⟩ := pair_at hli
      have hi : i < ss.length := (List.getElem?_eq_some_iff.mp hq).1
      have hd : ss.drop i = q :: ss.drop (i + 1) := by
        rw [List.drop_eq_getElem_cons hi]
        congr 1
        rw [List.getElem?_eq_getElem hi] at hq
        exact Option.some.inj hq
      have hb' : H' b = some (.tup [.int q.1, .int q.2]) := hb
      refine ⟨_, rfl, b, _, 0, .int q.1, rfl, rfl, SqT.of hb', rfl, _, rfl, _, _, rfl, rfl, _, rfl, ?_⟩
      rw [hd] at hg
      have hg : Hm.gre ss (-1) = fd ++ (if q.1 > last then q :: Hm.gre (ss.drop (i + 1)) q.2 else Hm.gre (ss.drop (i + 1)) last) := hg
      by_cases hlt : q.1 > last
      · rw [if_pos hlt] at hg
        rw [decide_eq_true (show last < q.1 from hlt)]
        have nt := no_tup hfa
        have hzl : zs.length = fd.length := by rw [hz.len]; exact List.length_map ..
        have xe2 : ExtN H (upd H' fa (.lst (zs ++ [.ref b]))) := fun c o e k => by
          rw [upd_ne (fun z => by rw [z, nfa] at e; cases e)]
          exact xe c o e k
        refine iteT ⟨_, rfl, .inl ⟨rfl, _, SqL.of hfa⟩, _, rfl, fa, zs, _, rfl, rfl, hfa, small1000 (by omega), ?_⟩
        have hb2 : LotAt (upd H' fa (.lst (zs ++ [.ref b]))) (.ref b) [q.1, q.2] := LotAt.off nt ⟨b, rfl, hb⟩
        have hb3 : (upd H' fa (.lst (zs ++ [.ref b]))) b = some (.tup [.int q.1, .int q.2]) := by
          obtain ⟨b', eb, h⟩ := hb2
          cases eb
          exact h
        refine ⟨_, rfl, b, _, 1, .int q.2, rfl, rfl, SqT.of hb3, rfl, ?_⟩
        refine ⟨xe2, Tabs.off hfa te, by rw [upd_ne pf]; exact hp', hy'.off nt, zs ++ [.ref b], fd ++ [q], q.2, _, rfl, upd_same, ?_, by rw [List.length_append]; show fd.length + 1 ≤ i + 1; omega, by rw [hg, List.append_assoc]; rfl⟩
        have e : pairsL (fd ++ [q]) = pairsL fd ++ [[q.1, q.2]] := by unfold pairsL; rw [List.map_append]; rfl
        rw [e]
        exact LsAt.snoc hb2 (hz.off nt)
      · rw [if_neg hlt] at hg
        rw [decide_eq_false (show ¬ last < q.1 from hlt)]
        exact iteF ⟨xe, te, hp', hy', zs, fd, last, _, rfl, hfa, hz, by omega, hg⟩
    · rintro σ H' ⟨xe, te, hp', hy', zs, fd, last, x3, rfl, hfa, hz, hfl, hg⟩
      have hyl : ys.length = ss.length := by rw [hy'.len]; exact List.length_map ..
      rw [hyl, List.drop_length] at hg
      have hg : Hm.gre ss (-1) = fd := by rw [hg]; exact List.append_nil fd
      have hzl : zs.length = fd.length := by rw [hz.len]; exact List.length_map ..
      refine ⟨_, rfl, fa, zs, rfl, .inl (SqL.of hfa), _, rfl, (by show 2 ≤ sizeLine; decide), fun p np => ?_⟩
      have s6 := same_upd (o := .tup [.int (zs.length : Nat), .ref fa]) np
      refine q _ p fa zs ss (fun c o e k => s6 _ _ (xe c o e k)) (te.ext s6) ?_ (s6 _ _ hfa) ?_ mem pw
      · rw [hg, ← hzl]
        exact upd_same
      · rw [hg]
        exact hz.sm s6
end
end Lm
/-! The law's arc_lot and cut_size. -/
namespace Lm
open PySem PySem.Spec PyProof.Rows L2 LamX
theorem asc_nd {ns v : List Int} (nd : ns.Pairwise (· ≠ ·)) (hp : v.Perm ns) (hs : v.Pairwise (· ≤ ·)) : Hm.Asc v := by
  have nv : v.Pairwise (· ≠ ·) := (hp.pairwise_iff (fun {a b} h => Ne.symm h)).mpr nd
  exact (hs.and nv).imp fun {a b} h => by omega
def rgI (a b : Int) : List Int := (List.range (b - a).toNat).map fun i : Nat => a + (i : Nat)
theorem mem_rgI {a b x : Int} : x ∈ rgI a b ↔ a ≤ x ∧ x < b := by
  unfold rgI
  rw [List.mem_map]
  constructor
  · rintro ⟨i, hi, rfl⟩
    have := List.mem_range.mp hi
    omega
  · intro h
    exact ⟨(x - a).toNat, List.mem_range.mpr (by omega), by omega⟩
theorem rgI_asc (a b : Int) : Hm.Asc (rgI a b) := by
  unfold Hm.Asc rgI
  rw [List.pairwise_map]
  refine List.pairwise_lt_range.imp fun h => ?_
  omega
theorem rgI_nd (a b : Int) : (rgI a b).Pairwise (· ≠ ·) := (rgI_asc a b).imp fun h => by omega
section
variable {P : Program} {w : World} {K : PySem.W.Frag} {mg : Str → Option Value} {base : Heap}
abbrev sArc : Stmt := topS 39
def nArc : List Str := ["many_here", "pair", "one", "two", "inside"]
theorem scArc : FnScope nArc ["many_here", "pair"] (defScope sArc) := ⟨rfl, rfl, rfl, by decide +kernel, rfl, by decide +kernel, by decide +kernel⟩
def spArc : Sp := fun vs H Q _ => ∃ (t : Addr) (m : Int) (p : Int × Int), vs = [.int m, .ref t] ∧ H t = some (.tup [.int p.1, .int p.2]) ∧ (0 ≤ p.1 ∧ p.1 < m) ∧ (0 ≤ p.2 ∧ p.2 < m) ∧ m ≤ 16 ∧
  ∀ (H' : Hp) (q : Addr) (l : List Int), Same H H' → H' q = some (.tup (l.map V.int)) → Hm.Asc l → (∀ x, x ∈ l ↔ Hm.InArc m p x) → Q (.ref q) H'
theorem ok_arc {f : Addr} {fd : FuncData} (F : Fun K "_law_arc_lot" "_law_arc_lot" sArc f fd) (N : Bl mg) : FnOk P w K mg base CX0 1 f fd ["many_here", "pair"] spArc := by
  refine F.ok scArc (fun vs H Q E h => ?_) (fun cdv A outer s H vs Q E hr h => ?_)
  · obtain ⟨t, m, p, rfl, _⟩ := h
    rfl
  · obtain ⟨t, m, p, rfl, ht, h1, h2, m16, q⟩ := h
    refine ⟨_, pss_cons (ps_asg (pv 1) (pg_tup rfl (pgs_cons (pg_name (i := 2) scArc.nd rfl (.inl rfl)) (pgs_cons (pg_name (i := 3) scArc.nd rfl (.inl rfl)) pgs_nil))))
      (pss_cons (ps_set (i := 4) scArc.nd rfl (.inl rfl) (pe_ifExp (pt_cmpR op_le (pv 2) (pv 3) (nomark _)) (pe_listRg rfl (by rfl) N.blist (prg_2 (by rfl) N.brng (pv 2) (pe_op op_add (pv 3) pe_int)))
        (pe_op op_cat (pe_listRg rfl (by rfl) N.blist (prg_2 (by rfl) N.brng (pv 2) (pv 0))) (pe_listRg rfl (by rfl) N.blist (prg_1 (by rfl) N.brng (pe_op op_add (pv 3) pe_int))))))
      (pss_one (ps_ret (pe_callTy (call_tupK K) (by rfl) N.btup (by decide +kernel) (pa_cons (pe_callB (cr_sortedIK K) (by rfl) N.bsrt (by decide +kernel) (pa_cons (pv 4) pa_nil)) pa_nil))))), ?_⟩
    have fin : ∀ (H1 : Hp) (L : Addr) (ns : List Int), Same H H1 → H1 L = some (.lst (ns.map V.int)) → ns.Pairwise (· ≠ ·) → (∀ x, x ∈ ns ↔ Hm.InArc m p x) → (∀ (v : List Int) (e : Addr), v.Perm ns → v.Pairwise (· ≤ ·) → H1 e = none → rTupOf K [.ref e] (upd H1 e (.lst (v.map V.int))) Q) := fun H1 L ns s1 hL nd mem v e hp hs ne => by
      have s2 := same_upd (o := .lst (v.map V.int)) ne
      refine ⟨e, _, rfl, .inl ⟨SqL.of upd_same, fun T nT => ?_⟩⟩
      have s3 := same_upd (o := .tup (v.map V.int)) nT
      exact q _ T v (fun b o h => s3 b o (s2 b o (s1 b o h))) upd_same (asc_nd nd hp hs) fun x => by rw [hp.mem_iff, mem]
    refine ⟨_, rfl, t, _, rfl, SqT.of ht, rfl, _, _, rfl, _, _, rfl, rfl, ?_⟩
    refine ⟨_, rfl, _, rfl, _, _, rfl, rfl, _, rfl, ?_⟩
    by_cases c : p.1 ≤ p.2
    · rw [decide_eq_true c]
      refine iteT ⟨_, rfl, _, rfl, _, _, rfl, rfl, _, _, rfl, rfl, RgOk.of_le (by omega) (by omega) (by omega) (by omega), fun L nL => ?_⟩
      rw [rg_ints]
      have s1 := same_upd (o := .lst ((rgI p.1 (p.2 + 1)).map V.int)) nL
      refine ⟨_, rfl, L, rgI p.1 (p.2 + 1), rfl, SqL.of upd_same, fin _ L _ s1 upd_same (rgI_nd _ _) fun x => ?_⟩
      rw [mem_rgI]
      unfold Hm.InArc
      rw [if_pos c]
      omega
    · rw [decide_eq_false c]
      refine iteF ⟨_, rfl, _, rfl, _, _, rfl, rfl, RgOk.of_le (by omega) (by omega) (by omega) (by omega), fun L1 nL1 => ?_⟩
      rw [rg_ints]
      have s1 := same_upd (o := .lst ((rgI p.1 m).map V.int)) nL1
      refine ⟨_, rfl, _, _, rfl, rfl, _, rfl, RgOk.of_le (by omega) (by omega) (by omega) (by omega), fun L2 nL2 => ?_⟩
      rw [rg_ints]
      have s2 := same_upd (o := .lst ((rgI 0 (p.2 + 1)).map V.int)) nL2
      have z1 : (rgI p.1 m).length ≤ 16 := by unfold rgI; rw [List.length_map, List.length_range]; omega
      have z2 : (rgI 0 (p.2 + 1)).length ≤ 16 := by unfold rgI; rw [List.length_map, List.length_range]; omega
      refine ⟨L1, L2, _, _, rfl, rfl, s2 _ _ upd_same, upd_same, (show ((rgI p.1 m).map V.int).length + ((rgI 0 (p.2 + 1)).map V.int).length ≤ sizeLine from Nat.le_of_lt (small1000 (by rw [List.length_map, List.length_map]; omega))), fun L3 nL3 => ?_⟩
      have s3 := same_upd (o := .lst ((rgI p.1 m).map V.int ++ (rgI 0 (p.2 + 1)).map V.int)) nL3
      have e : (rgI p.1 m).map V.int ++ (rgI 0 (p.2 + 1)).map V.int = (rgI p.1 m ++ rgI 0 (p.2 + 1)).map V.int := by rw [List.map_append]
      refine ⟨_, rfl, L3, rgI p.1 m ++ rgI 0 (p.2 + 1), rfl, SqL.of (by rw [← e]; exact upd_same), fin _ L3 _ (fun b o h => s3 b o (s2 b o (s1 b o h))) (by rw [← e]; exact upd_same) ?_ fun x => ?_⟩
      · refine List.pairwise_append.mpr ⟨rgI_nd _ _, rgI_nd _ _, fun x hx y hy => ?_⟩
        have := mem_rgI.mp hx
        have := mem_rgI.mp hy
        omega
      · rw [List.mem_append, mem_rgI, mem_rgI]
        unfold Hm.InArc
        rw [if_neg c]
        omega
/-! ### cut_size -/
abbrev sCut : Stmt := topS 40
def nCut : List Str := ["many_here", "pairs", "gap", "found", "one", "two", "low"]
theorem scCut : FnScope nCut ["many_here", "pairs", "gap"] (defScope sCut) := ⟨rfl, rfl, rfl, by decide +kernel, rfl, by decide +kernel, by decide +kernel⟩
def RingOk (m : Int) (ps : List (Int × Int)) : Prop := ∀ p ∈ ps, (0 ≤ p.1 ∧ p.1 < m) ∧ 0 ≤ p.2 ∧ p.2 < m
def spCut (T : List (Addr × Str)) : Sp := fun vs H Q _ => ∃ (a : Addr) (xs : List V) (ps : List (Int × Int)) (m g : Int), vs = [.int m, .ref a, .int g] ∧ H a = some (.lst xs) ∧ LsAt H xs (pairsL ps) ∧ ps.length ≤ 8 ∧ RingOk m ps ∧ (0 ≤ g ∧ g < m) ∧ m ≤ 16 ∧ Tabs T H ∧
  ∀ (H' : Hp) (k : Nat), ExtN H H' → Tabs T H' → (∀ ls, Hm.Arcs m ps ls → Hm.Num (Hm.woL ls g) k ∧ ∃ ks : Hm.Lots, ks.length = k ∧ (∀ c ∈ ks, c ∈ ls ∧ c ≠ []) ∧ ks.Pairwise Hm.Dis) → Q (.int (1 + (k : Nat))) H'
theorem ok_cut {T : List (Addr × Str)} {f : Addr} {fd : FuncData} (F : Fun K "_law_cut_size" "_law_cut_size" sCut f fd) (N : Bl mg) (GA : Has P w K mg base CX0 1 "_law_arc_lot" ["many_here", "pair"] spArc) (GS : Has P w K mg base CX0 4 "_law_stretch_size" ["pairs"] (spStr T)) :
    FnOk P w K mg base CX0 5 f fd ["many_here", "pairs", "gap"] (spCut T) := by
  refine F.ok scCut (fun vs H Q E h => ?_) (fun cdv A outer s H vs Q E hr h => ?_)
  · obtain ⟨a, xs, ps, m, g, rfl, _⟩ := h
    rfl
  · obtain ⟨a, xs, ps, m, g, rfl, ha, hl, l8, hps, hg, m16, tb, q⟩ := h
    refine ⟨_, pss_cons (ps_set (i := 3) scCut.nd rfl (.inl rfl) (pe_lst pa_nil))
      (pss_cons (ps_for PassesOwn.never rfl (pi_listK K (pv 1)) (pg_tup rfl (pgs_cons (pg_name (i := 4) scCut.nd rfl (.inl rfl)) (pgs_cons (pg_name (i := 5) scCut.nd rfl (.inl rfl)) pgs_nil)))
        (pss_one (ps_if (pt_cmpR op_notIn_seq (pv 2) (pe_h GA hr (by decide) (by rfl) pass0 (pa_cons (pv 0) (pa_cons (pe_tup (pa_cons (pv 4) (pa_cons (pv 5) pa_nil))) pa_nil))) (by rfl))
          (pss_cons (ps_set (i := 6) scCut.nd rfl (.inl rfl) (pe_op op_mod (pe_callTy call_int1 (by rfl) N.bint (by decide +kernel) (pa_cons (pe_op op_sub (pe_op op_add (pv 4) (pv 0)) (pv 2)) pa_nil)) (pv 0)))
          (pss_one (ps_expr (pe_bm PySem.F.plainAttrs_list PySem.F.slot_list_append PySem.F.type_list_append mt_append (pv 3) (pa_cons (pe_tup (pa_cons (pv 6) (pa_cons (pe_op op_mod (pe_callTy call_int1 (by rfl) N.bint (by decide +kernel) (pa_cons (pe_op op_sub (pe_op op_add (pv 5) (pv 0)) (pv 2)) pa_nil)) (pv 0)) pa_nil))) pa_nil))))) pss_nil)))
      (pss_one (ps_ret (pe_op op_add pe_int (pe_ix ix_tup (pe_h GS hr (by decide) (by rfl) pass0 (pa_cons (pv 3) pa_nil)) pe_int (fun _ _ => rfl)))))), ?_⟩
    refine ⟨(by show 0 ≤ sizeLine; decide), fun fa nfa => ?_⟩
    have s1 := same_upd (o := .lst []) nfa
    have fa_a : a ≠ fa := fun z => by rw [z, nfa] at ha; cases ha
    refine ⟨_, rfl, a, rfl, ⟨_, SqL.of (s1 _ _ ha)⟩, for_list (K := K) (a := a) (xs := xs) (fun i σ H' => ExtN H H' ∧ Tabs T H' ∧ H' a = some (.lst xs) ∧ LsAt H' xs (pairsL ps) ∧ ∃ (zs : List V) (cs : List (Int × Int)) (x4 x5 x6 : Option V), σ = [some (.int m), some (.ref a), some (.int g), some (.ref fa), x4, x5, x6] ∧ H' fa = some (.lst zs) ∧ LsAt H' zs (pairsL cs) ∧ cs.length ≤ i ∧
        ∀ q, q ∈ cs ↔ ∃ p ∈ ps.take i, ¬ Hm.InArc m p g ∧ q = Hm.rotP m g p)
      ⟨.of s1, tb.ext s1, s1 _ _ ha, hl.sm s1, [], [], none, none, none, rfl, upd_same, .nil, Nat.le_refl _, fun q => ⟨(fun z => nomatch z), fun ⟨p, hp, _⟩ => by rw [List.take_zero] at hp; cases hp⟩⟩ (fun i σ H' _ h => SqL.of h.2.2.1) ?_ ?_⟩
    · rintro i v σ H' hvi ⟨xe, te, ha', hl', zs, cs, x4, x5, x6, rfl, hfa, hz, hcl, hcs⟩
      obtain ⟨l0, hli, b, rfl, hb⟩ := hl'.get hvi
      obtain ⟨p, hp, rfl⟩ := pair_at hli
      have hb : H' b = some (.tup [.int p.1, .int p.2]) := hb
      have hi : i < ps.length := (List.getElem?_eq_some_iff.mp hp).1
      obtain ⟨r1, r2⟩ := hps p (List.mem_of_getElem? hp)
      have tk : ps.take (i + 1) = ps.take i ++ [p] := by rw [List.take_add_one, hp]; rfl
      refine ⟨b, _, rfl, SqT.of hb, rfl, _, _, rfl, _, _, rfl, rfl, ?_⟩
      refine ⟨_, rfl, _, rfl, _, rfl, _, rfl, (by show 2 ≤ sizeLine; decide), fun T0 nT0 => ?_⟩
      have s2 := same_upd (o := .tup [.int p.1, .int p.2]) nT0
      refine ⟨T0, m, p, rfl, upd_same, r1, r2, m16, fun H2 q0 l s3 hq hasc hmem => ?_⟩
      have s23 : Same H' H2 := fun b o e => s3 b o (s2 b o e)
      have xe2 : ExtN H H2 := xe.trans (.of s23)
      have te2 := te.ext s23
      have ha2 := s23 _ _ ha'
      have hl2 := hl'.sm s23
      have hfa2 := s23 _ _ hfa
      have hz2 := hz.sm s23
      refine ⟨q0, _, rfl, .inr (SqT.of hq), rfl, flat_ints l, _, rfl, ?_⟩
      rw [in_ints]
      by_cases hin : Hm.InArc m p g
      · rw [decide_eq_true ((hmem g).mpr hin)]
        refine iteF ⟨xe2, te2, ha2, hl2, zs, cs, _, _, _, rfl, hfa2, hz2, by omega, fun q => ?_⟩
        rw [hcs q, tk]
        constructor
        · rintro ⟨p', h1, h2⟩
          exact ⟨p', List.mem_append_left _ h1, h2⟩
        · rintro ⟨p', h1, h2, h3⟩
          rcases List.mem_append.mp h1 with h1 | h1
          · exact ⟨p', h1, h2, h3⟩
          · rw [List.mem_singleton] at h1
            subst h1
            exact absurd hin h2
      · rw [decide_eq_false (fun z => hin ((hmem g).mp z))]
        have mp : 0 < m := by omega
        refine iteT ⟨_, rfl, _, rfl, _, _, rfl, rfl, _, rfl, _, _, rfl, rfl, .inl ⟨_, rfl, _, rfl, _, _, rfl, rfl, mp, ?_⟩⟩
        refine ⟨_, rfl, .inl ⟨rfl, _, SqL.of hfa2⟩, _, rfl, _, rfl, _, rfl, _, _, rfl, rfl, _, rfl, _, _, rfl, rfl, .inl ⟨_, rfl, _, rfl, _, _, rfl, rfl, mp, ?_⟩⟩
        refine ⟨(by show 2 ≤ sizeLine; decide), fun T2 nT2 => ?_⟩
        have s4 := same_upd (o := .tup [.int (Hm.rotP m g p).1, .int (Hm.rotP m g p).2]) nT2
        have hzl : zs.length = cs.length := by rw [hz.len]; exact List.length_map ..
        have hfa4 := s4 _ _ hfa2
        have nt := no_tup hfa4
        have hT : LotAt (upd H2 T2 (.tup [.int (Hm.rotP m g p).1, .int (Hm.rotP m g p).2])) (.ref T2) [(Hm.rotP m g p).1, (Hm.rotP m g p).2] := ⟨T2, rfl, upd_same⟩
        have xe4 := xe2.trans (.of s4)
        have te4 := te2.ext s4
        have ha4 := s4 _ _ ha2
        have hl4 := hl2.sm s4
        have hz4 := hz2.sm s4
        show ∃ l xs y, _
        refine ⟨fa, zs, _, rfl, rfl, hfa4, small1000 (by omega), ?_⟩
        have e : pairsL (cs ++ [Hm.rotP m g p]) = pairsL cs ++ [[(Hm.rotP m g p).1, (Hm.rotP m g p).2]] := by unfold pairsL; rw [List.map_append]; rfl
        refine ⟨fun c o e k => ?_, Tabs.off hfa4 te4, by rw [upd_ne fa_a]; exact ha4, hl4.off nt, zs ++ [.ref T2], cs ++ [Hm.rotP m g p], _, _, _, rfl, upd_same, by rw [e]; exact LsAt.snoc (hT.off nt) (hz4.off nt), by rw [List.length_append]; show cs.length + 1 ≤ i + 1; omega, fun q => ?_⟩
        · rw [upd_ne (fun z => by rw [z, nfa] at e; cases e)]
          exact xe4 c o e k
        · rw [List.mem_append, hcs q, tk, List.mem_singleton]
          constructor
          · rintro (⟨p', h1, h2⟩ | rfl)
            · exact ⟨p', List.mem_append_left _ h1, h2⟩
            · exact ⟨p, List.mem_append_right _ (List.mem_singleton.mpr rfl), hin, rfl⟩
          · rintro ⟨p', h1, h2, h3⟩
            rcases List.mem_append.mp h1 with h1 | h1
            · exact .inl ⟨p', h1, h2, h3⟩
            · rw [List.mem_singleton] at h1
              subst h1
              exact .inr h3
    · rintro σ H' ⟨xe, te, ha', hl', zs, cs, x4, x5, x6, rfl, hfa, hz, hcl, hcs⟩
      have hxl : xs.length = ps.length := by rw [hl.len]; exact List.length_map ..
      rw [hxl, List.take_length] at hcs
      refine ⟨_, rfl, fa, zs, cs, rfl, hfa, hz, by omega, te, fun H2 p f2 ys ss e2 T2 hp hf hy mem pw => ?_⟩
      refine ⟨p, _, 0, .int ((Hm.gre ss (-1)).length : Nat), rfl, rfl, SqT.of hp, rfl, _, _, rfl, rfl, q H2 _ (xe.trans e2) T2 fun ls A => ?_⟩
      exact Hm.cut_arcs A hg hcs mem pw
end
end Lm
/-! The law's stretches_right. -/
namespace Lm
open PySem PySem.Spec PyProof.Rows L2 LamX
theorem dr_ext {D : DrA} {n : Nat} {H H' : Hp} (h : DrawAt D n H) (e : ExtN H H') : DrawAt D n H' := h.same e
section
variable {P : Program} {w : World} {K : PySem.W.Frag} {mg : Str → Option Value} {base : Heap}
abbrev sSR : Stmt := topS 41
def nSR : List Str := ["state", "many_here", "pairs", "turn", "two", "one", "lots", "size_here", "apart_here"]
theorem scSR : FnScope nSR ["state", "many_here"] (defScope sSR) := ⟨rfl, rfl, rfl, by decide +kernel, rfl, by decide +kernel, by decide +kernel⟩
def stS (i : Nat) : Stmt := (defBody sSR).getD i (.Pass ⟨0, 0, 0, 0⟩)
def SS (x : Nat → Option V) : L2.St := [x 0, x 1, x 2, x 3, x 4, x 5, x 6, x 7, x 8]
abbrev XS (P : Program) (w : World) (K : PySem.W.Frag) (mg : Str → Option Value) (base : Heap) (f : Addr) (cdv : Value) (A : Around) (outer : List Env) (s : Shared) (H : Hp) (E : XK) : Cx := (cxOf C8.CX0 P w K mg base nSR "_law_stretches_right" (defScope sSR) f cdv A outer s H E).nox
structure CalS (P : Program) (w : World) (K : PySem.W.Frag) (mg : Str → Option Value) (base : Heap) (T : List (Addr × Str)) : Prop where
  N : Bl mg
  GT : Has P w K mg base CX0 2 "_law_draw" ["state", "size_here"] spTake
  GS : Has P w K mg base CX0 23 "_law_size" ["many_here", "lots"] spSize
  GP : Has P w K mg base CX0 4 "_law_stretch_size" ["pairs"] (spStr T)
  GR : Has P w K mg base CX0 24 "_law_lots_right" ["state", "many_here", "lots"] spLR
end
def StrOk (m : Int) (ps : List (Int × Int)) : Prop := ∀ p ∈ ps, 0 ≤ p.1 ∧ p.1 ≤ p.2 ∧ p.2 < m
/-- the stretches drawn stand at 2 -/
structure SI (T : List (Addr × Str)) (D : DrA) (n : Nat) (many : Int) (a : Addr) (xs : List V) (ps : List (Int × Int)) (x : Nat → Option V) (H : Hp) : Prop where
  x0 : x 0 = some (.ref D.d)
  x1 : x 1 = some (.int many)
  x2 : x 2 = some (.ref a)
  ha : H a = some (.lst xs)
  hl : LsAt H xs (pairsL ps)
  l8 : ps.length ≤ 8
  ok : StrOk many ps
  m1 : 4 ≤ many
  m16 : many ≤ 16
  dr : DrawAt D n H
  tb : Tabs T H
section
variable {T : List (Addr × Str)} {D : DrA} {n : Nat} {many : Int} {a : Addr} {xs : List V} {ps : List (Int × Int)} {x : Nat → Option V} {H H' : Hp}
theorem SI.sm (I : SI T D n many a xs ps x H) (s : Same H H') : SI T D n many a xs ps x H' := ⟨I.x0, I.x1, I.x2, s _ _ I.ha, I.hl.sm s, I.l8, I.ok, I.m1, I.m16, I.dr.sm s, I.tb.ext s⟩
theorem SI.ex (I : SI T D n many a xs ps x H) (e : ExtN H H') (t : Tabs T H') : SI T D n many a xs ps x H' := ⟨I.x0, I.x1, I.x2, e _ _ I.ha (fun _ z => by cases z), I.hl.ext e, I.l8, I.ok, I.m1, I.m16, dr_ext I.dr e, t⟩
theorem SI.set (I : SI T D n many a xs ps x H) (i : Nat) (v : Option V) (hi : 3 ≤ i) : SI T D n many a xs ps (sx x i v) H := by
  have e : ∀ j, j < 3 → sx x i v j = x j := fun j hj => if_neg (by omega)
  exact ⟨(e 0 (by omega)).trans I.x0, (e 1 (by omega)).trans I.x1, (e 2 (by omega)).trans I.x2, I.ha, I.hl, I.l8, I.ok, I.m1, I.m16, I.dr, I.tb⟩
end
theorem two_sorted {v : List Int} {p q : Int} (hp : v.Perm [p, q]) (hs : v.Pairwise (· ≤ ·)) : ∃ z0 z1, v = [z0, z1] ∧ z0 ≤ z1 ∧ (z0 = p ∨ z0 = q) ∧ (z1 = p ∨ z1 = q) := by
  have hl := hp.length_eq
  match v, hl with
  | [z0, z1], _ =>
    refine ⟨z0, z1, rfl, ?_, ?_, ?_⟩
    · exact (List.pairwise_cons.mp hs).1 z1 (List.mem_cons_self ..)
    · have := hp.mem_iff.mp (List.mem_cons_self (a := z0) (l := [z1]))
      simpa using this
    · have := hp.mem_iff.mp (List.mem_cons_of_mem z0 (List.mem_cons_self (a := z1) (l := [])))
      simpa using this
section
variable {P : Program} {w : World} {K : PySem.W.Frag} {mg : Str → Option Value} {base : Heap} {f : Addr} {cdv : Value} {A : Around} {outer : List Env} {s : Shared} {H0 : Hp} {E : XK} {T : List (Addr × Str)} {D : DrA} {n : Nat} {many : Int}
abbrev SX (P : Program) (w : World) (K : PySem.W.Frag) (mg : Str → Option Value) (base : Heap) (f : Addr) (cdv : Value) (A : Around) (outer : List Env) (s : Shared) (H : Hp) (E : XK) (i : Nat) (I J : L2.St → Hp → Prop) : Prop := Step (XS P w K mg base f cdv A outer s H E) (stS i) I J
abbrev RoomS (A : Around) (s : Shared) (f : Addr) (cdv : Value) : Prop := Room 24 (A.deeper (envOfC "_law_stretches_right" (defScope sSR) s.heap.objs.size f cdv))
def Q0 (T : List (Addr × Str)) (D : DrA) (n : Nat) (many : Int) : L2.St → Hp → Prop := fun σ H => ∃ x, σ = SS x ∧ x 0 = some (.ref D.d) ∧ x 1 = some (.int many) ∧ 4 ≤ many ∧ many ≤ 16 ∧ DrawAt D n H ∧ Tabs T H
def Q1 (T : List (Addr × Str)) (D : DrA) (n : Nat) (many : Int) : L2.St → Hp → Prop := fun σ H => ∃ x a G, σ = SS x ∧ SI T D n many a [] [] x H ∧ a ≠ D.d ∧ a ≠ D.w ∧ DrawAt D n G ∧ G a = none
def Q2 (T : List (Addr × Str)) (D : DrA) (n : Nat) (many : Int) : L2.St → Hp → Prop := fun σ H => ∃ x a xs ps, σ = SS x ∧ SI T D n many a xs ps x H ∧ 0 < ps.length
theorem sts0 : SX P w K mg base f cdv A outer s H0 E 0 (Q0 T D n many) (Q1 T D n many) := by
  refine ⟨_, ps_set (i := 2) scSR.nd rfl (.inl rfl) (pe_lst pa_nil), ?_⟩
  rintro Dn σ H ⟨x, rfl, h0, h1, m1, m16, dr, tb⟩ hN
  refine ⟨(by show 0 ≤ sizeLine; decide), fun a na => ?_⟩
  have s1 := same_upd (o := .lst []) na
  have off := dr.off na
  exact hN _ _ ⟨sx x 2 (some (.ref a)), a, H, rfl, ⟨h0, h1, rfl, upd_same, .nil, Nat.zero_le _, (fun _ z => nomatch z), m1, m16, dr.sm s1, tb.ext s1⟩, off.1, off.2, dr, na⟩
theorem sts1 (C : CalS P w K mg base T) (hr : RoomS A s f cdv) (hn : n + 100 ≤ B) : SX P w K mg base f cdv A outer s H0 E 1 (Q1 T D n many) (Q2 T D (n + 17) many) := by
  refine ⟨_, ps_for PassesOwn.never rfl (pi_range1 (by rfl) C.N.brng (pa_cons (pe_op op_add pe_int (pe_h C.GT hr (by decide) (by rfl) pass0 (pa_cons (pv 0) (pa_cons pe_int pa_nil)))) pa_nil)) (pg_name (i := 3) scSR.nd rfl (.inl rfl))
    (pss_cons (ps_set (i := 4) scSR.nd rfl (.inl rfl) (pe_callB (cr_sortedIK K) (by rfl) C.N.bsrt (by decide +kernel) (pa_cons (pe_lst (pa_cons (pe_h C.GT hr (by decide) (by rfl) pass0 (pa_cons (pv 0) (pa_cons (pv 1) pa_nil))) (pa_cons (pe_h C.GT hr (by decide) (by rfl) pass0 (pa_cons (pv 0) (pa_cons (pv 1) pa_nil))) pa_nil))) pa_nil)))
      (pss_one (ps_expr (pe_bm PySem.F.plainAttrs_list PySem.F.slot_list_append PySem.F.type_list_append mt_append (pv 2) (pa_cons (pe_tup (pa_cons (pe_ix ix_list (pv 4) pe_int (fun _ _ => rfl)) (pa_cons (pe_ix ix_list (pv 4) pe_int (fun _ _ => rfl)) pa_nil))) pa_nil))))), ?_⟩
  rintro Dn σ H ⟨x, a, G, rfl, I, a1, a2, dG, nG⟩ hN
  refine ⟨_, congrArg some I.x0, D, n, 8, rfl, I.dr, by omega, by decide, by decide, fun H1 u d1 f1 u0 u8 => ?_⟩
  have m1 := I.m1
  have m16 := I.m16
  refine ⟨_, _, rfl, rfl, 1 + u, rfl, by omega, by omega, for_range (fun i σ H' => ∃ x xs ps, σ = SS x ∧ SI T D (n + 1 + 2 * i) many a xs ps x H' ∧ ps.length = i) ⟨x, [], [], rfl, ⟨I.x0, I.x1, I.x2, f1 _ _ I.ha a1 a2, .nil, Nat.zero_le _, (fun _ z => nomatch z), I.m1, I.m16, d1, Tabs.fr I.tb I.dr f1⟩, rfl⟩ ?_ ?_⟩
  · rintro i σ H' hi ⟨x, xs, ps, rfl, I, hpl⟩
    have hi8 : i < 8 := by omega
    refine ⟨_, congrArg some I.x0, _, congrArg some I.x1, D, _, many, rfl, I.dr, by omega, by omega, by omega, fun H2 u1 d2 f2 u10 u11 => ?_⟩
    refine ⟨_, congrArg some I.x0, _, congrArg some I.x1, D, _, many, rfl, d2, by omega, by omega, by omega, fun H3 u2 d3 f3 u20 u21 => ?_⟩
    have f23 := f2.trans f3
    have ha3 := f23 _ _ I.ha a1 a2
    have hl3 := I.hl.fr I.dr f23
    have tb3 := Tabs.fr I.tb I.dr f23
    refine ⟨(by show 2 ≤ sizeLine; decide), fun p np => ?_⟩
    have s4 := same_upd (o := .lst [.int u1, .int u2]) np
    refine ⟨p, [u1, u2], rfl, SqL.of upd_same, fun v q hp hs nq => ?_⟩
    obtain ⟨z0, z1, rfl, zz, h0, h1⟩ := two_sorted hp hs
    have s5 := same_upd (o := .lst ([z0, z1].map V.int)) nq
    have s35 : Same H3 (upd (upd H3 p (.lst [.int u1, .int u2])) q (.lst ([z0, z1].map V.int))) := fun b o e => s5 b o (s4 b o e)
    have hq : (upd (upd H3 p (.lst [.int u1, .int u2])) q (.lst ([z0, z1].map V.int))) q = some (.lst [.int z0, .int z1]) := upd_same
    generalize upd (upd H3 p (.lst [.int u1, .int u2])) q (.lst ([z0, z1].map V.int)) = H5 at s35 hq ⊢
    have ha5 := s35 _ _ ha3
    refine ⟨_, congrArg some I.x2, .inl ⟨rfl, _, SqL.of ha5⟩, _, rfl, q, _, 0, .int z0, rfl, rfl, SqL.of hq, rfl, _, rfl, q, _, 1, .int z1, rfl, rfl, SqL.of hq, rfl, (by show 2 ≤ sizeLine; decide), fun t nt => ?_⟩
    have s6 := same_upd (o := .tup [.int z0, .int z1]) nt
    have s36 : Same H3 (upd H5 t (.tup [.int z0, .int z1])) := fun b o e => s6 b o (s35 b o e)
    have ht : LotAt (upd H5 t (.tup [.int z0, .int z1])) (.ref t) [z0, z1] := ⟨t, rfl, upd_same⟩
    generalize upd H5 t (.tup [.int z0, .int z1]) = H6 at s36 ht ⊢
    have ha6 := s36 _ _ ha3
    have xl : xs.length = ps.length := by rw [I.hl.len]; exact List.length_map ..
    refine ⟨a, xs, _, rfl, rfl, ha6, small1000 (by omega), ?_⟩
    have nt6 := no_tup ha6
    have e : pairsL (ps ++ [(z0, z1)]) = pairsL ps ++ [[z0, z1]] := by unfold pairsL; rw [List.map_append]; rfl
    refine ⟨sx (sx x 3 (some (.int (0 + (i : Int))))) 4 (some (.ref q)), xs ++ [.ref t], ps ++ [(z0, z1)], rfl, ⟨I.x0, I.x1, I.x2, upd_same, by rw [e]; exact LsAt.snoc (ht.off nt6) ((hl3.sm s36).off nt6), by rw [List.length_append]; show ps.length + 1 ≤ 8; omega, ?_, I.m1, I.m16, draw_put dG nG ((d3.sm s36).mono (by omega)), Tabs.off ha6 (tb3.ext s36)⟩, by rw [List.length_append, hpl]; rfl⟩
    intro r hr
    rcases List.mem_append.mp hr with hr | hr
    · exact I.ok r hr
    · rw [List.mem_singleton.mp hr]
      show 0 ≤ z0 ∧ z0 ≤ z1 ∧ z1 < many
      rcases h0 with rfl | rfl <;> rcases h1 with rfl | rfl <;> omega
  · rintro σ H' ⟨x, xs, ps, rfl, I, hpl⟩
    refine hN _ _ ⟨x, a, xs, ps, rfl, ⟨I.x0, I.x1, I.x2, I.ha, I.hl, I.l8, I.ok, I.m1, I.m16, I.dr.mono (by omega), I.tb⟩, by omega⟩
end
end Lm
/-! The law's stretches_right: the rest. -/
namespace Lm
open PySem PySem.Spec PyProof.Rows L2 LamX
theorem gaps_str {m : Int} {ps : List (Int × Int)} (h : StrOk m ps) : GapsOk m (ps.map Hm.rgP) := fun l hl => by
  obtain ⟨p, hp, rfl⟩ := List.mem_map.mp hl
  have := h p hp
  refine ⟨fun x hx => ?_, rgI_asc p.1 (p.2 + 1)⟩
  have := Hm.mem_rgP.mp hx
  omega
theorem ne_str {m : Int} {ps : List (Int × Int)} (h : StrOk m ps) : [] ∉ ps.map Hm.rgP := fun z => by
  obtain ⟨p, hp, e⟩ := List.mem_map.mp z
  have h3 := h p hp
  have : p.1 ∈ Hm.rgP p := Hm.mem_rgP.mpr ⟨Int.le_refl _, h3.2.1⟩
  rw [e] at this
  cases this
theorem str_str (ps : List (Int × Int)) : Hm.Str ps (ps.map Hm.rgP) :=
  ⟨fun p hp => ⟨Hm.rgP p, List.mem_map.mpr ⟨p, hp, rfl⟩, fun x => Hm.mem_rgP⟩, fun l hl => by
    obtain ⟨p, hp, rfl⟩ := List.mem_map.mp hl
    exact ⟨p, hp, fun x => Hm.mem_rgP⟩⟩
section
variable {P : Program} {w : World} {K : PySem.W.Frag} {mg : Str → Option Value} {base : Heap} {f : Addr} {cdv : Value} {A : Around} {outer : List Env} {s : Shared} {H0 : Hp} {E : XK} {T : List (Addr × Str)} {D : DrA} {n : Nat} {many : Int}
def SLots (D : DrA) (ps : List (Int × Int)) (x : Nat → Option V) (H : Hp) : Prop := ∃ b ys, x 6 = some (.ref b) ∧ H b = some (.lst ys) ∧ LsAt H ys (ps.map Hm.rgP) ∧ b ≠ D.d ∧ b ≠ D.w
theorem SLots.sm {ps : List (Int × Int)} {x : Nat → Option V} {H H' : Hp} (h : SLots D ps x H) (t : Same H H') : SLots D ps x H' := by
  obtain ⟨b, ys, h1, h2, h3, h4⟩ := h
  exact ⟨b, ys, h1, t _ _ h2, h3.sm t, h4⟩
theorem SLots.ex {ps : List (Int × Int)} {x : Nat → Option V} {H H' : Hp} (h : SLots D ps x H) (t : ExtN H H') : SLots D ps x H' := by
  obtain ⟨b, ys, h1, h2, h3, h4⟩ := h
  exact ⟨b, ys, h1, t _ _ h2 (fun _ z => by cases z), h3.ext t, h4⟩
def Q3 (T : List (Addr × Str)) (D : DrA) (n : Nat) (many : Int) : L2.St → Hp → Prop := fun σ H => ∃ x a xs ps, σ = SS x ∧ SI T D n many a xs ps x H ∧ 0 < ps.length ∧ SLots D ps x H
theorem sts2 (C : CalS P w K mg base T) : SX P w K mg base f cdv A outer s H0 E 2 (Q2 T D n many) (Q3 T D n many) := by
  refine ⟨_, ps_setLc (i := 6) (own := [("one", 5), ("two", 4)]) (g := gTup K 2 (gCons (gName 5) (gCons (gName 4) gNil))) (tt := tYes) (by rfl) scSR.nd rfl rfl (sw_true rfl rfl rfl (by decide +kernel)) (pi_listK K (pv 2))
        (blkOk_by (own := [("one", 5), ("two", 4)]) (N := nSR) (sc := defScope sSR) (by decide +kernel)) (fun _ _ _ _ _ => pg_tup rfl (pgs_cons (pg_name (i := 5) scSR.nd rfl (.inl rfl)) (pgs_cons (pg_name (i := 4) scSR.nd rfl (.inl rfl)) pgs_nil)))
        (fun _ _ _ _ _ => pts_nil) (fun _ _ _ _ _ => pe_tupRg rfl (by rfl) C.N.btup (prg_2 (by rfl) C.N.brng (pv 5) (pe_op op_add (pv 4) pe_int))), ?_⟩
  rintro Dn σ H ⟨x, a, xs, ps, rfl, I, hp0⟩ hN
  have xl : xs.length = ps.length := by rw [I.hl.len]; exact List.length_map ..
  have l8 := I.l8
  refine ⟨_, congrArg some I.x2, a, rfl, ⟨_, SqL.of I.ha⟩, fun R nR => lc_list (K := K) (a := a) (xs := xs) (fun i H' => Same H H' ∧ ∃ ys, H' R = some (.lst ys) ∧ LsAt H' ys ((ps.take i).map Hm.rgP)) ⟨same_upd nR, [], upd_same, .nil⟩ (fun i H' _ h => SqL.of (h.1 _ _ I.ha)) ?_ ?_⟩
  · rintro i v H' hxi ⟨s1, ys, hR, hy⟩
    obtain ⟨l0, hli, b, rfl, hb⟩ := I.hl.get hxi
    obtain ⟨p, hp, rfl⟩ := pair_at hli
    have hb : H' b = some (.tup [.int p.1, .int p.2]) := s1 _ _ hb
    obtain ⟨r0, r1, r2⟩ := I.ok p (List.mem_of_getElem? hp)
    have m16 := I.m16
    have hyl : ys.length ≤ 8 := by
      rw [hy.len, List.length_map, List.length_take]
      omega
    refine ⟨b, _, rfl, SqT.of hb, rfl, _, _, rfl, _, _, rfl, rfl, rfl, _, rfl, _, rfl, _, _, rfl, rfl, _, _, rfl, rfl, RgOk.of_le (by omega) (by omega) (by omega) (by omega), fun t nt => ?_⟩
    rw [rg_ints]
    have s2 := same_upd (o := .tup ((Hm.rgP p).map V.int)) nt
    have hR2 := s2 _ _ hR
    refine ⟨ys, hR2, small1000 (by omega), same_put (fun b o e => s2 b o (s1 b o e)) nR, _, upd_same, ?_⟩
    rw [List.take_add_one, hp, List.map_append]
    exact LsAt.snoc (LotAt.off (no_tup hR2) ⟨t, rfl, upd_same⟩) ((hy.sm s2).off (no_tup hR2))
  · rintro H1 ⟨s1, ys, hR, hy⟩
    rw [xl, List.take_length] at hy
    have off := I.dr.off nR
    exact hN _ _ ⟨sx x 6 (some (.ref R)), a, xs, ps, rfl, (I.sm s1).set 6 _ (by decide), hp0, R, ys, rfl, hR, hy, off.1, off.2⟩
/-- what stretch_size told -/
def SApart (ps : List (Int × Int)) (x : Nat → Option V) (H : Hp) : Prop := ∃ c zs ss, x 7 = some (.int ((Hm.gre ss (-1)).length : Nat)) ∧ x 8 = some (.ref c) ∧ H c = some (.lst zs) ∧ LsAt H zs (pairsL (Hm.gre ss (-1))) ∧ (∀ q, q ∈ ss ↔ q ∈ ps) ∧ ss.Pairwise (fun a b => a.2 ≤ b.2)
theorem SApart.sm {ps : List (Int × Int)} {x : Nat → Option V} {H H' : Hp} (h : SApart ps x H) (t : Same H H') : SApart ps x H' := by
  obtain ⟨c, zs, ss, h1, h2, h3, h4, h5⟩ := h
  exact ⟨c, zs, ss, h1, h2, t _ _ h3, h4.sm t, h5⟩
def Q4 (T : List (Addr × Str)) (D : DrA) (n : Nat) (many : Int) : L2.St → Hp → Prop := fun σ H => ∃ x a xs ps, σ = SS x ∧ SI T D n many a xs ps x H ∧ 0 < ps.length ∧ SLots D ps x H ∧ SApart ps x H
theorem sts3 (C : CalS P w K mg base T) (hr : RoomS A s f cdv) : SX P w K mg base f cdv A outer s H0 E 3 (Q3 T D n many) (Q4 T D n many) := by
  refine ⟨_, ps_asg (pe_h C.GP hr (by decide) (by rfl) pass0 (pa_cons (pv 2) pa_nil)) (pg_tup rfl (pgs_cons (pg_name (i := 7) scSR.nd rfl (.inl rfl)) (pgs_cons (pg_name (i := 8) scSR.nd rfl (.inl rfl)) pgs_nil))), ?_⟩
  rintro Dn σ H ⟨x, a, xs, ps, rfl, I, hp0, hL⟩ hN
  refine ⟨_, congrArg some I.x2, a, xs, ps, rfl, I.ha, I.hl, by have := I.l8; omega, I.tb, fun H1 p c zs ss e1 T1 hp hc hz mem pw => ?_⟩
  refine ⟨p, _, rfl, SqT.of hp, rfl, _, _, rfl, _, _, rfl, rfl, ?_⟩
  refine hN _ _ ⟨sx (sx x 7 (some (.int ((Hm.gre ss (-1)).length : Nat)))) 8 (some (.ref c)), a, xs, ps, rfl, ((I.ex e1 T1).set 7 _ (by decide)).set 8 _ (by decide), hp0, ?_, c, zs, ss, rfl, rfl, hc, hz, mem, pw⟩
  obtain ⟨b, ys, h6, hb, hy, b12⟩ := hL.ex e1
  exact ⟨b, ys, h6, hb, hy, b12⟩
theorem sts4 (C : CalS P w K mg base T) (hr : RoomS A s f cdv) : SX P w K mg base f cdv A outer s H0 E 4 (Q4 T D n many) (Q4 T D n many) := by
  refine ⟨_, ps_if (pt_cmpR op_ne (pe_h C.GS hr (by decide) (by rfl) pass0 (pa_cons (pv 1) (pa_cons (pv 6) pa_nil))) (pv 7) (nomark _)) (pss_one (ps_ret pe_bl)) pss_nil, ?_⟩
  rintro Dn σ H ⟨x, a, xs, ps, rfl, I, hp0, ⟨b, ys, h6, hb, hy, b1, b2⟩, ⟨c, zs, ss, h7, h8, hc, hz, mem, pw⟩⟩ hN
  refine ⟨_, congrArg some I.x1, _, congrArg some h6, D, many, _, _, rfl, lots_at I.dr hb hy b1 b2 (gaps_str I.ok) (by have := I.m1; omega) I.m16 (by rw [List.length_map]; have := I.l8; omega), ne_str I.ok, fun H1 m s1 hm => ?_⟩
  have e : m = (Hm.gre ss (-1)).length := Hm.num_uniq hm (Hm.str_num mem pw (fun p hp => ⟨(I.ok p hp).1, (I.ok p hp).2.1⟩) (str_str ps))
  refine ⟨_, congrArg some h7, rfl, _, rfl, ?_⟩
  rw [e, decide_eq_true rfl]
  exact iteF (hN _ _ ⟨x, a, xs, ps, rfl, I.sm s1, hp0, ⟨b, ys, h6, s1 _ _ hb, hy.sm s1, b1, b2⟩, c, zs, ss, h7, h8, s1 _ _ hc, hz.sm s1, mem, pw⟩)
theorem sts5 (hr : RoomS A s f cdv) : SX P w K mg base f cdv A outer s H0 E 5 (Q4 T D n many) (Q3 T D n many) := by
  refine ⟨_, ps_for PassesOwn.never rfl (pi_listK K (pv 8)) (pg_name (i := 5) scSR.nd rfl (.inl rfl)) (pss_one (ps_for PassesOwn.never rfl (pi_listK K (pv 8)) (pg_name (i := 4) scSR.nd rfl (.inl rfl))
    (pss_one (ps_if (pw_and (pt_cmpR (op_neD hr.units) (pv 5) (pv 4) (nomark _)) (pw_and (pt_cmpR op_le (pe_ix ix_tup (pv 5) pe_int (fun _ _ => rfl)) (pe_ix ix_tup (pv 4) pe_int (fun _ _ => rfl)) (nomark _))
      (pw_and1 (pt_cmpR op_le (pe_ix ix_tup (pv 4) pe_int (fun _ _ => rfl)) (pe_ix ix_tup (pv 5) pe_int (fun _ _ => rfl)) (nomark _))))).pt (pss_one (ps_ret pe_bl)) pss_nil)))), ?_⟩
  rintro Dn σ H ⟨x, a, xs, ps, rfl, I, hp0, hL, ⟨c, zs, ss, h7, h8, hc, hz, mem, pw⟩⟩ hN
  have ap : (Hm.gre ss (-1)).Pairwise fun a b => a.2 < b.1 := Hm.gre_apart fun p hp => (I.ok p ((mem p).mp hp)).2.1
  refine ⟨_, congrArg some h8, c, rfl, ⟨_, SqL.of hc⟩, for_list (K := K) (a := c) (xs := zs) (fun i σ H' => H' = H ∧ ∃ x, σ = SS x ∧ x 8 = some (.ref c) ∧ SI T D n many a xs ps x H ∧ SLots D ps x H) ⟨rfl, x, rfl, h8, I, hL⟩ (fun i σ H' _ h => by rw [h.1]; exact SqL.of hc) ?_ ?_⟩
  · rintro i v σ H' hvi ⟨rfl, x, rfl, h8, I, hL⟩
    obtain ⟨l1, hl1, b1, rfl, hb1⟩ := hz.get hvi
    obtain ⟨q1, hq1, rfl⟩ := pair_at hl1
    have hb1 : H' b1 = some (.tup [.int q1.1, .int q1.2]) := hb1
    refine ⟨_, congrArg some h8, c, rfl, ⟨_, SqL.of hc⟩, for_list (K := K) (a := c) (xs := zs) (fun j σ H2 => H2 = H' ∧ ∃ x, σ = SS x ∧ x 8 = some (.ref c) ∧ x 5 = some (.ref b1) ∧ SI T D n many a xs ps x H' ∧ SLots D ps x H')
      ⟨rfl, sx x 5 (some (.ref b1)), rfl, h8, rfl, I.set 5 _ (by decide), hL⟩ (fun i σ H2 _ h => by rw [h.1]; exact SqL.of hc) ?_ ?_⟩
    · rintro j v σ H2 hvj ⟨rfl, x, rfl, h8, h5, I, hL⟩
      obtain ⟨l2, hl2, b2, rfl, hb2⟩ := hz.get hvj
      obtain ⟨q2, hq2, rfl⟩ := pair_at hl2
      have hb2 : H2 b2 = some (.tup [.int q2.1, .int q2.2]) := hb2
      have next : H2 = H2 ∧ ∃ x', (SS x).set 4 (some (.ref b2)) = SS x' ∧ x' 8 = some (.ref c) ∧ x' 5 = some (.ref b1) ∧ SI T D n many a xs ps x' H2 ∧ SLots D ps x' H2 := ⟨rfl, sx x 4 (some (.ref b2)), rfl, h8, h5, I.set 4 _ (by decide), hL⟩
      refine ⟨_, congrArg some h5, _, rfl, lotD [q1.1, q1.2], lotD [q2.1, q2.2], dp_tup hb1, dp_tup hb2, shaped_lot _, shaped_lot _, _, rfl, ?_⟩
      rw [eqv_lots]
      by_cases e : [q1.1, q1.2] = [q2.1, q2.2]
      · rw [decide_eq_true e]
        exact iteF (iteF next)
      · rw [decide_eq_false e]
        refine iteT ⟨_, congrArg some h5, b1, _, 0, .int q1.1, rfl, rfl, SqT.of hb1, rfl, _, rfl, b2, _, 1, .int q2.2, rfl, rfl, SqT.of hb2, rfl, _, _, rfl, rfl, _, rfl, ?_⟩
        by_cases c1 : q1.1 ≤ q2.2
        · rw [decide_eq_true c1]
          refine iteT ⟨_, rfl, b2, _, 0, .int q2.1, rfl, rfl, SqT.of hb2, rfl, _, congrArg some h5, b1, _, 1, .int q1.2, rfl, rfl, SqT.of hb1, rfl, _, _, rfl, rfl, _, rfl, ?_⟩
          have c2 : ¬ q2.1 ≤ q1.2 := by
            have hi := (List.getElem?_eq_some_iff.mp hq1)
            have hj := (List.getElem?_eq_some_iff.mp hq2)
            obtain ⟨hi, ei⟩ := hi
            obtain ⟨hj, ej⟩ := hj
            rcases Nat.lt_trichotomy i j with h | h | h
            · have := List.pairwise_iff_getElem.mp ap i j hi hj h
              rw [ei, ej] at this
              omega
            · subst h
              rw [ei] at ej
              subst ej
              exact absurd rfl e
            · have := List.pairwise_iff_getElem.mp ap j i hj hi h
              rw [ei, ej] at this
              omega
          rw [decide_eq_false c2]
          exact iteF next
        · rw [decide_eq_false c1]
          exact iteF (iteF next)
    · rintro σ H2 ⟨rfl, x, rfl, h8, h5, I, hL⟩
      exact ⟨rfl, x, rfl, h8, I, hL⟩
  · rintro σ H' ⟨rfl, x, rfl, h8, I, hL⟩
    exact hN _ _ ⟨x, a, xs, ps, rfl, I, hp0, hL⟩
theorem sts6 (C : CalS P w K mg base T) (hr : RoomS A s f cdv) (hn : n + 100 ≤ B) : Fin (XS P w K mg base f cdv A outer s H0 E) [stS 6] (Q3 T D n many) (fun v H => v = .bl true ∧ DrawAt D (n + 3) H ∧ Tabs T H) := by
  refine ⟨_, pss_one (ps_ret (pe_h C.GR hr (by decide) (by rfl) pass0 (pa_cons (pv 0) (pa_cons (pv 1) (pa_cons (pv 6) pa_nil))))), ?_⟩
  rintro Dn σ H ⟨x, a, xs, ps, rfl, I, hp0, ⟨b, ys, h6, hb, hy, b1, b2⟩⟩ hN
  have m1 := I.m1
  refine ⟨_, congrArg some I.x0, _, congrArg some I.x1, _, congrArg some h6, D, n, many, b, ys, _, rfl, by omega, hb, hy, gaps_str I.ok, by rw [List.length_map]; exact I.l8, by rw [List.length_map]; exact hp0, by omega, I.m16, ne_str I.ok, I.dr, b1, b2, fun H1 d1 f1 => ?_⟩
  exact hN _ _ ⟨rfl, d1, Tabs.fr I.tb I.dr f1⟩
def spSR (T : List (Addr × Str)) : Sp := fun vs H Q _ => ∃ (D : DrA) (n : Nat) (many : Int), vs = [.ref D.d, .int many] ∧ n + 200 ≤ B ∧ 4 ≤ many ∧ many ≤ 16 ∧ DrawAt D n H ∧ Tabs T H ∧ ∀ H', DrawAt D (n + 20) H' → Tabs T H' → Q (.bl true) H'
end
section
variable {P : Program} {w : World} {K : PySem.W.Frag} {mg : Str → Option Value} {base : Heap} {T : List (Addr × Str)}
theorem ok_sr {f : Addr} {fd : FuncData} (F : Fun K "_law_stretches_right" "_law_stretches_right" sSR f fd) (C : CalS P w K mg base T) : FnOk P w K mg base CX0 25 f fd ["state", "many_here"] (spSR T) := by
  refine F.ok scSR (fun vs H Q E h => ?_) (fun cdv A outer s H vs Q E hr h => ?_)
  · obtain ⟨D, n, many, rfl, _⟩ := h
    rfl
  · obtain ⟨D, n, many, rfl, hn, m1, m16, dr, tb, q⟩ := h
    have body : Fin (XS P w K mg base f cdv A outer s H E) [stS 0, stS 1, stS 2, stS 3, stS 4, stS 5, stS 6] (Q0 T D n many) (fun v H' => v = .bl true ∧ DrawAt D (n + 17 + 3) H' ∧ Tabs T H') :=
      fin_cons sts0 (fin_cons (sts1 C hr (by omega)) (fin_cons (sts2 C) (fin_cons (sts3 C hr) (fin_cons (sts4 C hr) (fin_cons (sts5 hr) (sts6 C hr (by omega)))))))
    obtain ⟨t, p, r⟩ := body
    refine ⟨t, p, r _ _ _ ⟨fun i => (L2.start nSR [V.ref D.d, .int many]).getD i none, rfl, rfl, rfl, m1, m16, dr, tb⟩ ?_⟩
    rintro v H' ⟨rfl, d, t'⟩
    exact q H' d t'
end
end Lm
/-! min(lots, key=lambda x: len(x)). -/
namespace Lm
open PySem PySem.Spec PyProof.Rows L2 LamX
theorem key_callL {prog : Program} {w : World} {A : Around} {s : Shared} {mg : Str → Option Value} {f c' t : Addr} {qual x : Str} {params : Arguments} {scope : Scope} {pm ctv : Value} {p0 p1 p2 : Pos} {its : Array Value} {n : Nat} {mb : Str → Option Value}
    (hroom : A.depth < recursionLimit) (ho : s.heap.get? f = some (PySem.W.kla_obj "<lambda>" qual params (.Call (.Name "len" p0) [.Name x p1] [] p2) scope [] pm c' ctv))
    (hcd : s.heap.CodeRec (.ref c') qual) (lim : s.heap.NoLimit) (hns : s.heap.Ns mainGlobals mg) (hl : mg "len" = none) (hb : s.heap.Ns builtinsNs mb) (hbl : mb "len" = some (.builtin "len"))
    (hk : scope.kind = .function) (hco : scope.isCoroutine = false) (hgen : scope.isGenerator = false) (hnm : scope.names = [(x, .local), ("len", .globalImplicit)]) (hx : (x == ("__debug__" : Str)) = false) (hxl : (("len" : Str) == x) = false)
    (hbind : ∀ v, bindArgs (PySem.W.kla_fn "<lambda>" qual params (.Call (.Name "len" p0) [.Name x p1] [] p2) scope [] pm (.ref c') ctv) ⟨[v], []⟩ = pure [(x, v)])
    (ht : IsTup s.heap t its) (hsz : its.size = n) (hfit : (n : Int) < 2 ^ 63) :
    wpAny (model prog w) A (call (.ref f) [.ref t]) (PySem.W.KeyPure (.int (n : Nat)) s) (fun _ _ => False) s := by
  refine wpAny_call (PySem.W.kla_callFunE hroom ho rfl hco hgen rfl hcd ?_)
  rw [hbind]
  refine wpAny_pure (wpAny_newFunctionEnv (fun y hy => ?_) (fun y hy => ?_) (fun h₁ hns1 hsb => ⟨lim.fresh _ hsb, ?_⟩) hk)
  · have hy : y ∈ scope.names := hy
    rw [hnm] at hy
    simp at hy
    rcases hy with rfl | rfl <;> (intro e; cases e)
  · obtain rfl := List.mem_singleton.mp hy
    show scope.names.lookup x = some .local
    rw [hnm]
    simp [List.lookup]
  · show codeAny _ _ (.expr _ (PySem.W.envX qual scope s.heap.objs.size f (.ref c') [])) _ _
    have kp : ∀ b o, s.heap.get? b = some o → h₁.get? b = some o := fun b o e => hsb.extBut b o (Nat.ne_of_lt (Heap.lt_size e)) (Heap.get?_push_of_some _ e)
    have kL : (PySem.W.envX qual scope s.heap.objs.size f (.ref c') []).kindOf x = some .local := by
      show scope.names.lookup x = some .local
      rw [hnm]
      simp [List.lookup]
    have hm1 : ([(x, Value.ref t)] : List (Str × Value)).reverse.lookup x = some (.ref t) := by simp [List.lookup]
    have kG : (PySem.W.envX qual scope s.heap.objs.size f (.ref c') []).kindOf "len" = some .globalImplicit := by
      show scope.names.lookup ("len" : Str) = some .globalImplicit
      rw [hnm]
      simp [List.lookup, hxl]
    refine PySem.W.kla_codeExpr (Call_ (Calls.Name_function_global hk kG (Calls.loadGlobal_builtin (hns.keeps kp) hl (hb.keeps kp) hbl ?_)))
    refine Calls.callWith_builtin rfl (Calls.evalArgs_plain (Calls.spliced_cons (wpAny_Name (wpAny_loadName_local hk kL hns1 hm1 (Calls.spliced_nil ?_)) hx)))
    refine len_tuple (ht.keeps kp) (by rw [hsz]; exact hfit) ?_
    rw [hsz]
    exact ⟨_, _, rfl, kp, .int _ _⟩
theorem minLam_run {prog : Program} {w : World} {A : Around} {S I ax f : Addr} {n : Nat} {items : Array Value} {s0 : Shared} {wr : List Addr} (L : Nat → Nat) (hS : s0.heap.objs.size ≤ S) (hw : ∀ b ∈ wr, s0.heap.objs.size ≤ b)
    (hF : ∀ i v (s : Shared), items[i]? = some v → (∀ b o, s0.heap.get? b = some o → s.heap.get? b = some o) → wpAny (model prog w) A (call (.ref f) [v]) (PySem.W.KeyPure (.int (L i : Nat)) s) (fun _ _ => False) s) :
    KeyRun prog w A (.ref f) .Lt S wr (fun a b => b = a) n (fun i v => items[i]? = some v) (fun i s => s.heap.IsListIter I ax i ∧ s.heap.IsList ax items) (fun s => (∀ b o, s0.heap.get? b = some o → s.heap.get? b = some o) ∧ s.gens = s0.gens ∧ s.drawn = s0.drawn ∧ s.os = s0.os) (fun i k _ => ∃ t, k = .int (L i : Nat) t) (fun i j => decide ((L i : Int) < (L j : Int))) := by
  refine ⟨?_, ?_, ?_, ?_⟩
  · rintro s s' ⟨h1, h2, h3, h4⟩ m
    refine ⟨fun b o e => m.heap b o (fun hb => ?_) (h1 b o e), m.gens.trans h2, m.drawn.trans h3, m.os.trans h4⟩
    have hl := Heap.lt_size e
    rcases List.mem_cons.mp hb with z | z
    · exact absurd hl (Nat.not_lt.mpr (z ▸ hS))
    · exact absurd hl (Nat.not_lt.mpr (hw b z))
  · intro i k s s' h _
    exact h
  · intro i v s o Q E hi hp hJ hs ho q
    refine wpAny_mono (hF i v s hp hJ.1) (fun r s' hr => ?_) (fun _ _ z => z.elim)
    obtain ⟨h', tk, rfl, kp, rd⟩ := hr
    have hk : ∃ t, r = .int (L i : Nat) t := by
      generalize hd : PyData.int (L i : Nat) = d at rd
      cases rd <;> first | cases hd | skip
      exact ⟨_, rfl⟩
    exact q r _ ⟨fun b o e => kp _ _ (hJ.1 b o e), hJ.2⟩ ⟨hs.1.at fun o e => kp _ _ e, hs.2.at fun o e => kp _ _ e⟩ (kp _ _ ho) hk fun _ _ h => h
  · rintro i j ki kj s Q E hJ ⟨t, rfl⟩ ⟨u, rfl⟩ q
    exact wpAny_lt_int (w := w) (show Q (.bool (decide ((L i : Int) < (L j : Int)))) s from q)
/-- min(e, key=lambda x: len(x)), e lots -/
def tMinLam (K : PySem.W.Frag) (T : List (Addr × Str)) (te : TE) : TE := fun σ H Q => te σ H fun x H1 => Tabs T H1 ∧ ∀ H2, ExtN H1 H2 → Tabs T H2 → ∃ (a : Addr) (xs : List V) (ls : Hm.Lots), x = .ref a ∧ SqL K H2 a xs ∧ LsAt H2 xs ls ∧ 0 < xs.length ∧ ∀ (i : Nat) (v : V), xs[i]? = some v → Q v H2
theorem pe_minLam {X : Cx} {T : List (Addr × Str)} {c Pt : Addr} {e : Expr} {te : TE} {x : Str} {params : Arguments} {scope : Scope} {j : Nat} {p pos p0 p1 p2 lpos kp : Pos} (hg : Gl X "min") (hc : X.calm = true) (hm : X.mg "min" = none) (hm2 : X.mg "len" = none) (hr : Room j X.A) (he : PE X e te)
    (TB : LamX.TabB X.base X.mg c Pt) (hcode : X.env.code = .ref c) (hmT : (Pt, X.env.qual ++ "<lambda>") ∈ T) (hu : ∀ p ∈ T, p.1 = Pt → p.2 = X.env.qual ++ "<lambda>") (hdef : defaultsOf params X.env = ([], []))
    (hk : scope.kind = .function) (hco : scope.isCoroutine = false) (hgen : scope.isGenerator = false) (hnm : scope.names = [(x, .local), ("len", .globalImplicit)]) (hx : (x == ("__debug__" : Str)) = false) (hxl : (("len" : Str) == x) = false)
    (hbind : ∀ (q : Str) (pm cv ctv v : Value), bindArgs (PySem.W.kla_fn "<lambda>" q params (.Call (.Name "len" p0) [.Name x p1] [] p2) scope [] pm cv ctv) ⟨[v], []⟩ = pure [(x, v)])
    (hs0 : starEach [e] X.env = (false, eval e X.env) :: starEach [] X.env := by rfl) (hst : backTo pos (starEach [e] X.env) = (false, eval e X.env) :: backTo pos (starEach [] X.env) := by rfl) (hpl : (backTo pos (starEach [e] X.env)).any (·.1) = false := by rfl)
    (hks : backToKw pos (keywordEach [⟨some (Str.ofString "key"), .Lambda params (.Call (.Name "len" p0) [.Name x p1] [] p2) scope lpos, kp⟩] X.env) = [(some (Str.ofString "key"), do let v ← eval (.Lambda params (.Call (.Name "len" p0) [.Name x p1] [] p2) scope lpos) X.env; standAt pos; pure v)] := by rfl) :
    PE X (.Call (.Name "min" p) [e] [⟨some (Str.ofString "key"), .Lambda params (.Call (.Name "len" p0) [.Name x p1] [] p2) scope lpos, kp⟩] pos) (tMinLam X.K T te) := by
  refine ⟨fun pins s σ H Q I h => ?_⟩
  refine wpAny_Call_Name_kw (ld_blt I hg hm (u := .builtin "min") (by decide +kernel) ?_)
  have ha : PA X [e] (tCons te tNil) := pa_cons he pa_nil hs0
  refine PyProof.Rows.callWith_kw (thn (ha.run pos pins s σ H (fun vs H1 => ∃ x, vs = [x] ∧ Tabs T H1 ∧ ∀ H2, ExtN H1 H2 → Tabs T H2 → ∃ (a : Addr) (xs : List V) (ls : Hm.Lots), x = .ref a ∧ SqL X.K H2 a xs ∧ LsAt H2 xs ls ∧ 0 < xs.length ∧ ∀ (i : Nat) (v : V), xs[i]? = some v → Q v H2) I ?_) fun us s1 hh => ?_) hst hpl (by rw [hks]; rfl) (by rw [hks]; rfl)
  · show te σ H _
    refine cast (congrArg (te σ H) (funext fun x => funext fun H1 => propext ⟨fun k => ⟨x, rfl, k⟩, ?_⟩)) h
    rintro ⟨y, e, k⟩
    cases e
    exact k
  · obtain ⟨vs, H1, I1, r1, y, rfl, T1, k⟩ := hh
    rw [hks]
    have hfree : ∀ y ∈ scope.names, y.2 = .free → ∃ c, X.env.cells.lookup y.1 = some c := fun y hy e => by
      rw [hnm] at hy
      simp at hy
      rcases hy with rfl | rfl <;> cases e
    have hclo : cloFrom X.env.cells scope.names [] = [] := by
      rw [hnm]
      rfl
    refine wpAny_evalAll_cons (wpAny_bind (lam_make2 I1 TB hcode hmT hu T1 hdef hfree fun f c' pm ctv H2 s2 I2 eN T2 hf hfn hfr hco2 => wpAny_bind (wpAny_standAt (wpAny_pure (wpAny_evalAll_nil ?_)))))
    rw [hclo] at hf
    obtain ⟨a, xs, ls, rfl, hq, hls, h0, q⟩ := k H2 eN T2
    obtain ⟨u, rfl, r⟩ := vals1 r1
    obtain rfl : u = Value.ref a := r
    obtain ⟨its, rv, hl, hz⟩ := I2.list hq
    obtain ⟨⟨oc, vs, tt, g1, g2, g3⟩, _, _⟩ := I2.hok c' _ hco2
    obtain ⟨mb, b1, b2⟩ := I2.mod.blt
    have hn := line63
    have hlen := rv.length
    have each := each_lots I2.hok hls rv
    refine call_min_walkK (q := f) (iter_any hl.isList fun s₂ e2 st hne => ?_)
    subst e2
    refine ⟨_, _, _, _, _, _, _, _, _, _, rfl, (Walks.list (A := X.A.in1) (I2.ok.hd hc) _ a hne its.toArray).toS, st, fun b hb => ?_, by rw [List.size_toArray]; omega, minLam_run (s0 := s2) (fun i => (ls.getD i []).length) ?_ ?_ ?_, ⟨?_, rfl, rfl, rfl⟩, ?_⟩
    · show b < (s2.heap.push _).objs.size
      rw [Heap.size_push]
      have hal : a < s2.heap.objs.size := by
        obtain ⟨_, e, _⟩ := hl.isList
        exact Heap.lt_size e
      rcases List.mem_cons.mp hb with z | z
      · rw [z]
        exact Nat.lt_succ_self _
      · rw [List.mem_singleton.mp z]
        exact Nat.lt_succ_of_lt hal
    · show s2.heap.objs.size ≤ (s2.heap.push _).objs.size
      rw [Heap.size_push]
      exact Nat.le_succ _
    · intro b hb
      rw [List.mem_singleton.mp hb]
      exact Nat.le_refl _
    · intro i v s hv kp
      have hv : its[i]? = some v := by simpa using hv
      have hi : i < xs.length := by
        rw [hlen]
        exact (List.getElem?_eq_some_iff.mp hv).1
      obtain ⟨l, hli, la⟩ := hls.get (List.getElem?_eq_getElem hi)
      obtain ⟨u, hu, ru⟩ := rv.get (List.getElem?_eq_getElem hi)
      rw [hv] at hu
      cases hu
      obtain ⟨t, it, e1, e2, e3, e4, e5, _⟩ := lotR_of I2.hok la ru
      subst e2
      have el : (ls.getD i []).length = l.length := by rw [List.getD_eq_getElem?_getD, hli]; rfl
      rw [el]
      have e4 : it.size = l.length := e4
      have e5 : l.length ≤ sizeLine := e5
      exact key_callL (mg := X.mg) (mb := mb) (show X.A.depth < recursionLimit from hr.depth) (kp _ _ hf) ⟨c', oc, vs, tt, rfl, kp _ _ g1, g2, g3⟩ ((I2.mod.nolimit.keeps I2.bk).keeps kp) ((I2.mod.glob.keeps I2.bk).keeps kp) hm2 ((b1.keeps I2.bk).keeps kp) ((b2 "len" (by decide)).trans PySem.boot_len) hk hco hgen hnm hx hxl (fun v => hbind _ _ _ _ v) (e3.keeps kp) e4 (by omega)
    · intro b o e
      exact Heap.get?_push_of_some _ e
    · intro v s' hp hJ
      have hv : its[PySem.argBest (fun i j => decide ((((ls.getD i []).length : Nat) : Int) < ((ls.getD j []).length : Nat))) (its.toArray.size - 1)]? = some v := by simpa using hp
      obtain ⟨x, hx, rx⟩ : ∃ x, xs[PySem.argBest (fun i j => decide ((((ls.getD i []).length : Nat) : Int) < ((ls.getD j []).length : Nat))) (its.toArray.size - 1)]? = some x ∧ RelV x v := by
        have hi : PySem.argBest (fun i j => decide ((((ls.getD i []).length : Nat) : Int) < ((ls.getD j []).length : Nat))) (its.toArray.size - 1) < xs.length := by
          rw [hlen]
          exact (List.getElem?_eq_some_iff.mp hv).1
        obtain ⟨u, hu, ru⟩ := rv.get (List.getElem?_eq_getElem hi)
        rw [hv] at hu
        cases hu
        exact ⟨_, List.getElem?_eq_getElem hi, ru⟩
      obtain ⟨k1, k2, k3, k4⟩ := hJ
      obtain ⟨h', g', d', tk', os'⟩ := s'
      have k2 : g' = s2.gens := k2
      have k3 : d' = s2.drawn := k3
      have k4 : os' = s2.os := k4
      subst k2 k3 k4
      exact ⟨x, H2, I2.kept (t' := tk') k1, rx, q _ x hx⟩
end Lm
/-! The law's arcs_right: the arcs and the cuts. -/
namespace Lm
open PySem PySem.Spec PyProof.Rows L2 LamX
/-- arc for arc -/
inductive ArcA (m : Int) : List (Int × Int) → Hm.Lots → Prop
  | nil : ArcA m [] []
  | cons {p : Int × Int} {l : List Int} {ps : List (Int × Int)} {ls : Hm.Lots} : (∀ x, x ∈ l ↔ Hm.InArc m p x) → Hm.Asc l → ArcA m ps ls → ArcA m (p :: ps) (l :: ls)
theorem ArcA.snoc {m : Int} {p : Int × Int} {l : List Int} (h1 : ∀ x, x ∈ l ↔ Hm.InArc m p x) (h2 : Hm.Asc l) : ∀ {ps : List (Int × Int)} {ls : Hm.Lots}, ArcA m ps ls → ArcA m (ps ++ [p]) (ls ++ [l])
  | _, _, .nil => .cons h1 h2 .nil
  | _, _, .cons a b t => .cons a b (t.snoc h1 h2)
theorem ArcA.len {m : Int} : ∀ {ps : List (Int × Int)} {ls : Hm.Lots}, ArcA m ps ls → ls.length = ps.length
  | _, _, .nil => rfl
  | _, _, .cons _ _ t => congrArg Nat.succ t.len
theorem ArcA.to {m : Int} : ∀ {ps : List (Int × Int)} {ls : Hm.Lots}, ArcA m ps ls → ∀ p ∈ ps, ∃ l ∈ ls, ∀ x, x ∈ l ↔ Hm.InArc m p x
  | _, _, .nil => fun _ z => nomatch z
  | _, _, .cons a b t => fun p hp => by
    rcases List.mem_cons.mp hp with rfl | hp
    · exact ⟨_, List.mem_cons_self .., a⟩
    · obtain ⟨l, h1, h2⟩ := t.to p hp
      exact ⟨l, List.mem_cons_of_mem _ h1, h2⟩
theorem ArcA.of {m : Int} : ∀ {ps : List (Int × Int)} {ls : Hm.Lots}, ArcA m ps ls → ∀ l ∈ ls, Hm.Asc l ∧ ∃ p ∈ ps, ∀ x, x ∈ l ↔ Hm.InArc m p x
  | _, _, .nil => fun _ z => nomatch z
  | _, _, .cons a b t => fun p hp => by
    rcases List.mem_cons.mp hp with rfl | hp
    · exact ⟨b, _, List.mem_cons_self .., a⟩
    · obtain ⟨h0, l, h1, h2⟩ := t.of p hp
      exact ⟨h0, l, List.mem_cons_of_mem _ h1, h2⟩
theorem ArcA.arcs {m : Int} {ps : List (Int × Int)} {ls : Hm.Lots} (h : ArcA m ps ls) (r : RingOk m ps) : Hm.Arcs m ps ls := ⟨r, h.to, fun l hl => (h.of l hl).2⟩
theorem ArcA.gaps {m : Int} {ps : List (Int × Int)} {ls : Hm.Lots} (h : ArcA m ps ls) : GapsOk m ls := fun l hl => by
  obtain ⟨a, p, _, hm⟩ := h.of l hl
  exact ⟨fun x hx => ((hm x).mp hx).1, a⟩
theorem ArcA.ne {m : Int} {ps : List (Int × Int)} {ls : Hm.Lots} (h : ArcA m ps ls) (r : RingOk m ps) : [] ∉ ls := fun z => by
  obtain ⟨_, p, hp, hm⟩ := h.of _ z
  have : Hm.InArc m p p.1 := by
    obtain ⟨a, b⟩ := r p hp
    refine ⟨a, ?_⟩
    split <;> omega
  have := (hm p.1).mpr this
  cases this
structure AI (T : List (Addr × Str)) (D : DrA) (n : Nat) (many : Int) (a : Addr) (xs : List V) (ps : List (Int × Int)) (x : Nat → Option V) (H : Hp) : Prop where
  x0 : x 0 = some (.ref D.d)
  x1 : x 1 = some (.int many)
  x2 : x 2 = some (.ref a)
  ha : H a = some (.lst xs)
  hl : LsAt H xs (pairsL ps)
  l8 : ps.length ≤ 8
  l0 : 0 < ps.length
  ok : RingOk many ps
  m1 : 4 ≤ many
  m16 : many ≤ 16
  dr : DrawAt D n H
  tb : Tabs T H
/-- the arcs' lots stand at 3 -/
structure AL (T : List (Addr × Str)) (D : DrA) (n : Nat) (many : Int) (a : Addr) (xs : List V) (ps : List (Int × Int)) (b : Addr) (ys : List V) (ls : Hm.Lots) (x : Nat → Option V) (H : Hp) : Prop where
  ai : AI T D n many a xs ps x H
  x3 : x 3 = some (.ref b)
  hb : H b = some (.lst ys)
  hy : LsAt H ys ls
  arc : ArcA many ps ls
  b1 : b ≠ D.d
  b2 : b ≠ D.w
section
variable {T : List (Addr × Str)} {D : DrA} {n : Nat} {many : Int} {a : Addr} {xs : List V} {ps : List (Int × Int)} {b : Addr} {ys : List V} {ls : Hm.Lots} {x : Nat → Option V} {H H' : Hp}
theorem AI.sm (I : AI T D n many a xs ps x H) (s : Same H H') : AI T D n many a xs ps x H' := ⟨I.x0, I.x1, I.x2, s _ _ I.ha, I.hl.sm s, I.l8, I.l0, I.ok, I.m1, I.m16, I.dr.sm s, I.tb.ext s⟩
theorem AI.ex (I : AI T D n many a xs ps x H) (e : ExtN H H') (t : Tabs T H') : AI T D n many a xs ps x H' := ⟨I.x0, I.x1, I.x2, e _ _ I.ha (fun _ z => by cases z), I.hl.ext e, I.l8, I.l0, I.ok, I.m1, I.m16, dr_ext I.dr e, t⟩
theorem AI.set (I : AI T D n many a xs ps x H) (i : Nat) (v : Option V) (hi : 3 ≤ i) : AI T D n many a xs ps (sx x i v) H := by
  have e : ∀ j, j < 3 → sx x i v j = x j := fun j hj => if_neg (by omega)
  exact ⟨(e 0 (by omega)).trans I.x0, (e 1 (by omega)).trans I.x1, (e 2 (by omega)).trans I.x2, I.ha, I.hl, I.l8, I.l0, I.ok, I.m1, I.m16, I.dr, I.tb⟩
theorem AL.sm (I : AL T D n many a xs ps b ys ls x H) (s : Same H H') : AL T D n many a xs ps b ys ls x H' := ⟨I.ai.sm s, I.x3, s _ _ I.hb, I.hy.sm s, I.arc, I.b1, I.b2⟩
theorem AL.ex (I : AL T D n many a xs ps b ys ls x H) (e : ExtN H H') (t : Tabs T H') : AL T D n many a xs ps b ys ls x H' := ⟨I.ai.ex e t, I.x3, e _ _ I.hb (fun _ z => by cases z), I.hy.ext e, I.arc, I.b1, I.b2⟩
theorem AL.set (I : AL T D n many a xs ps b ys ls x H) (i : Nat) (v : Option V) (hi : 4 ≤ i) : AL T D n many a xs ps b ys ls (sx x i v) H := ⟨I.ai.set i v (by omega), (if_neg (by omega)).trans I.x3, I.hb, I.hy, I.arc, I.b1, I.b2⟩
theorem AL.len (I : AL T D n many a xs ps b ys ls x H) : ls.length ≤ 8 ∧ 0 < ls.length ∧ ys.length = ls.length := ⟨by rw [I.arc.len]; exact I.ai.l8, by rw [I.arc.len]; exact I.ai.l0, I.hy.len⟩
theorem AL.lots (I : AL T D n many a xs ps b ys ls x H) : LotsD D H (.ref b) many ls := lots_at I.ai.dr I.hb I.hy I.b1 I.b2 I.arc.gaps (by have := I.ai.m1; omega) I.ai.m16 (by have := I.len.1; omega)
theorem AL.ne (I : AL T D n many a xs ps b ys ls x H) : [] ∉ ls := I.arc.ne I.ai.ok
end
section
variable {P : Program} {w : World} {K : PySem.W.Frag} {mg : Str → Option Value} {base : Heap}
abbrev sAR : Stmt := topS 42
def nAR : List Str := ["state", "many_here", "pairs", "lots", "short_here", "due", "apart_here", "best", "spot", "lot", "more", "some", "turn", "pair", "gap", "place"]
theorem scAR : FnScope nAR ["state", "many_here"] (defScope sAR) := ⟨rfl, rfl, rfl, by decide +kernel, rfl, by decide +kernel, by decide +kernel⟩
def stA (i : Nat) : Stmt := (defBody sAR).getD i (.Pass ⟨0, 0, 0, 0⟩)
def SA (x : Nat → Option V) : L2.St := [x 0, x 1, x 2, x 3, x 4, x 5, x 6, x 7, x 8, x 9, x 10, x 11, x 12, x 13, x 14, x 15]
abbrev XA (P : Program) (w : World) (K : PySem.W.Frag) (mg : Str → Option Value) (base : Heap) (f : Addr) (cdv : Value) (A : Around) (outer : List Env) (s : Shared) (H : Hp) (E : XK) : Cx := (cxOf C8.CX0 P w K mg base nAR "_law_arcs_right" (defScope sAR) f cdv A outer s H E).nox
def TOkA (T : List (Addr × Str)) (Pt : Addr) : Prop := (Pt, (envOfC "_law_arcs_right" (defScope sAR) 0 0 .none).qual ++ "<lambda>") ∈ T ∧ ∀ p ∈ T, p.1 = Pt → p.2 = (envOfC "_law_arcs_right" (defScope sAR) 0 0 .none).qual ++ "<lambda>"
structure CalA (P : Program) (w : World) (K : PySem.W.Frag) (mg : Str → Option Value) (base : Heap) (T : List (Addr × Str)) : Prop where
  N : Bl mg
  GT : Has P w K mg base CX0 2 "_law_draw" ["state", "size_here"] spTake
  GA : Has P w K mg base CX0 1 "_law_arc_lot" ["many_here", "pair"] spArc
  GC : Has P w K mg base CX0 5 "_law_cut_size" ["many_here", "pairs", "gap"] (spCut T)
  GS : Has P w K mg base CX0 23 "_law_size" ["many_here", "lots"] spSize
  GR : Has P w K mg base CX0 24 "_law_lots_right" ["state", "many_here", "lots"] spLR
end
section
variable {P : Program} {w : World} {K : PySem.W.Frag} {mg : Str → Option Value} {base : Heap} {f c Pt : Addr} {A : Around} {outer : List Env} {s : Shared} {H0 : Hp} {E : XK} {T : List (Addr × Str)} {D : DrA} {n : Nat} {many : Int}
abbrev AX (P : Program) (w : World) (K : PySem.W.Frag) (mg : Str → Option Value) (base : Heap) (f c : Addr) (A : Around) (outer : List Env) (s : Shared) (H : Hp) (E : XK) (i : Nat) (I J : L2.St → Hp → Prop) : Prop := Step (XA P w K mg base f (.ref c) A outer s H E) (stA i) I J
abbrev RoomA (A : Around) (s : Shared) (f c : Addr) : Prop := Room 24 (A.deeper (envOfC "_law_arcs_right" (defScope sAR) s.heap.objs.size f (.ref c)))
def A0 (T : List (Addr × Str)) (D : DrA) (n : Nat) (many : Int) : L2.St → Hp → Prop := fun σ H => ∃ x, σ = SA x ∧ x 0 = some (.ref D.d) ∧ x 1 = some (.int many) ∧ 4 ≤ many ∧ many ≤ 16 ∧ DrawAt D n H ∧ Tabs T H
def A1 (T : List (Addr × Str)) (D : DrA) (n : Nat) (many : Int) : L2.St → Hp → Prop := fun σ H => ∃ x a xs ps, σ = SA x ∧ AI T D n many a xs ps x H
def A2 (T : List (Addr × Str)) (D : DrA) (n : Nat) (many : Int) (Z : Hm.Lots → (Nat → Option V) → Hp → Prop) : L2.St → Hp → Prop := fun σ H => ∃ x a xs ps b ys ls, σ = SA x ∧ AL T D n many a xs ps b ys ls x H ∧ Z ls x H
theorem sta0 (C : CalA P w K mg base T) (hr : RoomA A s f c) (hn : n + 100 ≤ B) : AX P w K mg base f c A outer s H0 E 0 (A0 T D n many) (A1 T D (n + 17) many) := by
  refine ⟨_, ps_set (i := 2) scAR.nd rfl (.inr rfl) (pe_lc (own := [("turn", 12)]) (g := gName 12) (tt := tYes) rfl scAR.nd (pi_range1 (by rfl) C.N.brng (pa_cons (pe_op op_add pe_int (pe_h C.GT hr (by decide) (by rfl) pass0 (pa_cons (pv 0) (pa_cons pe_int pa_nil)))) pa_nil))
        (blkOk_by (own := [("turn", 12)]) (N := nAR) (sc := defScope sAR) (by decide +kernel)) (fun _ _ _ _ _ => pg_name (i := 12) scAR.nd rfl (Or.inl rfl)) (fun _ _ _ _ _ => pts_nil)
        (fun _ _ _ _ _ => pe_tup (pa_cons (pe_h C.GT (hr.mono (Nat.le_refl 24)) (by decide) (by rfl) pass0 (pa_cons (pv 0) (pa_cons (pv 1) pa_nil))) (pa_cons (pe_h C.GT (hr.mono (Nat.le_refl 24)) (by decide) (by rfl) pass0 (pa_cons (pv 0) (pa_cons (pv 1) pa_nil))) pa_nil)))), ?_⟩
  rintro Dn σ H ⟨x, rfl, h0, h1, m1, m16, dr, tb⟩ hN
  refine ⟨_, congrArg some h0, D, n, 8, rfl, dr, by omega, by decide, by decide, fun H1 u d1 f1 u0 u8 => ?_⟩
  have t1 := Tabs.fr tb dr f1
  refine ⟨_, _, rfl, rfl, 1 + u, rfl, by omega, by omega, fun R nR => lc_range (fun i H' => ∃ ys ps, H' R = some (.lst ys) ∧ LsAt H' ys (pairsL ps) ∧ ps.length = i ∧ RingOk many ps ∧ DrawAt D (n + 1 + 2 * i) H' ∧ Tabs T H') ⟨[], [], upd_same, .nil, rfl, (fun _ z => nomatch z), d1.new nR, t1.ext (same_upd nR)⟩ ?_ ?_⟩
  · rintro i H' hi ⟨ys, ps, hR, hy, hpl, hok, d2, t2⟩
    have hi8 : i < 8 := by omega
    have oR := d1.off nR
    refine ⟨rfl, _, congrArg some h0, _, congrArg some h1, D, _, many, rfl, d2, by omega, by omega, by omega, fun H2 u1 d3 f3 u10 u11 => ?_⟩
    refine ⟨_, congrArg some h0, _, congrArg some h1, D, _, many, rfl, d3, by omega, by omega, by omega, fun H3 u2 d4 f4 u20 u21 => ?_⟩
    have f34 := f3.trans f4
    have hR3 := f34 _ _ hR oR.1 oR.2
    refine ⟨(by show 2 ≤ sizeLine; decide), fun t nt => ?_⟩
    have s5 := same_upd (o := .tup [.int u1, .int u2]) nt
    have hR5 := s5 _ _ hR3
    have nt5 := no_tup hR5
    have yl : ys.length = ps.length := by rw [hy.len]; exact List.length_map ..
    have e : pairsL (ps ++ [(u1, u2)]) = pairsL ps ++ [[u1, u2]] := by unfold pairsL; rw [List.map_append]; rfl
    refine ⟨ys, hR5, small1000 (by omega), ys ++ [.ref t], ps ++ [(u1, u2)], upd_same, by rw [e]; exact LsAt.snoc (LotAt.off nt5 ⟨t, rfl, upd_same⟩) (((hy.fr d2 f34).sm s5).off nt5), by rw [List.length_append, hpl]; rfl, ?_, draw_put d1 nR ((d4.sm s5).mono (by omega)), Tabs.off hR5 ((Tabs.fr t2 d2 f34).ext s5)⟩
    intro r hr
    rcases List.mem_append.mp hr with hr | hr
    · exact hok r hr
    · rw [List.mem_singleton.mp hr]
      exact ⟨⟨u10, u11⟩, u20, u21⟩
  · rintro H' ⟨ys, ps, hR, hy, hpl, hok, d2, t2⟩
    exact hN _ _ ⟨sx x 2 (some (.ref R)), R, ys, ps, rfl, h0, h1, rfl, hR, hy, by omega, by omega, hok, m1, m16, d2.mono (by omega), t2⟩
theorem sta1 (C : CalA P w K mg base T) (hr : RoomA A s f c) : AX P w K mg base f c A outer s H0 E 1 (A1 T D n many) (A2 T D n many fun _ _ _ => True) := by
  refine ⟨_, ps_set (i := 3) scAR.nd rfl (.inr rfl) (pe_lc (own := [("pair", 13)]) (g := gName 13) (tt := tYes) rfl scAR.nd (pi_listK K (pv 2))
        (blkOk_by (own := [("pair", 13)]) (N := nAR) (sc := defScope sAR) (by decide +kernel)) (fun _ _ _ _ _ => pg_name (i := 13) scAR.nd rfl (Or.inl rfl)) (fun _ _ _ _ _ => pts_nil)
        (fun _ _ _ _ _ => pe_h C.GA (hr.mono (Nat.le_refl 24)) (by decide) (by rfl) pass0 (pa_cons (pv 1) (pa_cons (pv 13) pa_nil)))), ?_⟩
  rintro Dn σ H ⟨x, a, xs, ps, rfl, I⟩ hN
  have xl : xs.length = ps.length := by rw [I.hl.len]; exact List.length_map ..
  have l8 := I.l8
  refine ⟨_, congrArg some I.x2, a, rfl, ⟨_, SqL.of I.ha⟩, fun R nR => lc_list (K := K) (a := a) (xs := xs) (fun i H' => Same H H' ∧ ∃ ys ls, H' R = some (.lst ys) ∧ LsAt H' ys ls ∧ ArcA many (ps.take i) ls) ⟨same_upd nR, [], [], upd_same, .nil, by rw [List.take_zero]; exact .nil⟩ (fun i H' _ h => SqL.of (h.1 _ _ I.ha)) ?_ ?_⟩
  · rintro i v H' hxi ⟨s1, ys, ls, hR, hy, hA⟩
    obtain ⟨l0, hli, b, rfl, hb⟩ := I.hl.get hxi
    obtain ⟨p, hp, rfl⟩ := pair_at hli
    have hb : H' b = some (.tup [.int p.1, .int p.2]) := s1 _ _ hb
    obtain ⟨r1, r2⟩ := I.ok p (List.mem_of_getElem? hp)
    have hyl : ys.length ≤ 8 := by
      rw [hy.len, hA.len, List.length_take]
      omega
    refine ⟨rfl, _, congrArg some I.x1, _, rfl, b, many, p, rfl, hb, r1, r2, I.m16, fun H2 q l s2 hq hasc hmem => ?_⟩
    have hR2 := s2 _ _ hR
    refine ⟨ys, hR2, small1000 (by omega), same_put (fun b o e => s2 b o (s1 b o e)) nR, _, ls ++ [l], upd_same, LsAt.snoc (LotAt.off (no_tup hR2) ⟨q, rfl, hq⟩) ((hy.sm s2).off (no_tup hR2)), ?_⟩
    rw [List.take_add_one, hp]
    exact hA.snoc hmem hasc
  · rintro H1 ⟨s1, ys, ls, hR, hy, hA⟩
    rw [xl, List.take_length] at hA
    have off := I.dr.off nR
    exact hN _ _ ⟨sx x 3 (some (.ref R)), a, xs, ps, R, ys, ls, rfl, ⟨(I.sm s1).set 3 _ (by decide), rfl, hR, hy, hA, off.1, off.2⟩, trivial⟩
/-- one of the lots at 4 -/
def ShortAt (ls : Hm.Lots) (x : Nat → Option V) (H : Hp) : Prop := ∃ (i : Nat) (l : List Int) (t : Addr), ls[i]? = some l ∧ x 4 = some (.ref t) ∧ H t = some (.tup (l.map V.int))
theorem sta2 (C : CalA P w K mg base T) (hr : RoomA A s f c) (TB : LamX.TabB base mg c Pt) (hT : TOkA T Pt) : AX P w K mg base f c A outer s H0 E 2 (A2 T D n many fun _ _ _ => True) (A2 T D n many ShortAt) := by
  refine ⟨_, ps_set (i := 4) scAR.nd rfl (.inl rfl) (pe_minLam (T := T) (x := "lot") (by rfl) rfl C.N.bmin C.N.blen hr (pv 3) TB rfl hT.1 hT.2 rfl rfl rfl rfl rfl (by decide) (by decide) (fun _ _ _ _ _ => rfl)), ?_⟩
  rintro Dn σ H ⟨x, a, xs, ps, b, ys, ls, rfl, I, _⟩ hN
  refine ⟨_, congrArg some I.x3, I.ai.tb, fun H2 e2 T2 => ?_⟩
  have I2 := I.ex e2 T2
  have len := I.len
  refine ⟨b, ys, ls, rfl, SqL.of I2.hb, I2.hy, by omega, fun i v hv => ?_⟩
  obtain ⟨l, hli, t, rfl, ht⟩ := I2.hy.get hv
  exact hN _ _ ⟨sx x 4 (some (.ref t)), a, xs, ps, b, ys, ls, rfl, I2.set 4 _ (by decide), i, l, t, hli, rfl, ht⟩
end
end Lm
/-! The law's arcs_right: what is due, packings told in indexes. -/
namespace Lm
open PySem PySem.Spec PyProof.Rows L2 LamX
/-- what a cut at g tells -/
def CutOk (ls : Hm.Lots) (g : Int) (k : Nat) : Prop := Hm.Num (Hm.woL ls g) k ∧ ∃ ks : Hm.Lots, ks.length = k ∧ (∀ c ∈ ks, c ∈ ls ∧ c ≠ []) ∧ ks.Pairwise Hm.Dis
/-- d is due: the fewest, and one less lie apart -/
def DueOk (ls : Hm.Lots) (d : Nat) : Prop := Hm.Num ls d ∧ ∃ ks : Hm.Lots, ks.length + 1 = d ∧ (∀ c ∈ ks, c ∈ ls ∧ c ≠ []) ∧ ks.Pairwise Hm.Dis
theorem due_of {ls : Hm.Lots} {l : List Int} {ns : List Int} (hl : l ∈ ls) (h1 : ∀ z ∈ ns, ∃ g ∈ l, ∃ k : Nat, z = 1 + (k : Int) ∧ CutOk ls g k) (h2 : ∀ g ∈ l, ∃ k : Nat, 1 + (k : Int) ∈ ns ∧ CutOk ls g k) {z : Int} (hz : z ∈ ns) (hm : ∀ y ∈ ns, z ≤ y) : ∃ d : Nat, z = (d : Int) ∧ DueOk ls d := by
  obtain ⟨g, hg, k, rfl, hk⟩ := h1 z hz
  have ex : ∀ g : Int, ∃ k : Nat, g ∈ l → (1 + (k : Int) ∈ ns ∧ CutOk ls g k) := fun g => by
    by_cases hg : g ∈ l
    · obtain ⟨k, h⟩ := h2 g hg
      exact ⟨k, fun _ => h⟩
    · exact ⟨0, fun z => absurd z hg⟩
  obtain ⟨cf, hc⟩ := Classical.axiomOfChoice ex
  have ek : k = cf g := Hm.num_uniq hk.1 (hc g hg).2.1
  refine ⟨1 + k, by omega, Hm.cut_num hl (c := cf) (fun g hg => (hc g hg).2.1) ⟨g, hg, by rw [ek]⟩ fun g' hg' => ?_, ?_⟩
  · have := hm _ (hc g' hg').1
    omega
  · obtain ⟨ks, a, b, c⟩ := hk.2
    exact ⟨ks, by omega, b, c⟩
/-! ### packings -/
def atL (ls : Hm.Lots) (t : List Int) : Hm.Lots := t.map fun x => ls.getD x.toNat []
/-- the packings of the first i lots, told in indexes -/
structure PackI (ls : Hm.Lots) (i : Nat) (S : Hm.Lots) : Prop where
  ok : ∀ t ∈ S, (∀ x ∈ t, ∃ k : Nat, x = (k : Int) ∧ k < i) ∧ t.length ≤ i ∧ (atL ls t).Pairwise Hm.Dis ∧ (atL ls t).Sublist (ls.take i)
  all : ∀ s : Hm.Lots, s.Sublist (ls.take i) → s.Pairwise Hm.Dis → ∃ t ∈ S, atL ls t = s
  few : S.length ≤ 2 ^ i
def freeB (ls : Hm.Lots) (l t : List Int) : Bool := t.all fun x => (ls.getD x.toNat []).all fun g => !decide (g ∈ l)
theorem freeB_iff {ls : Hm.Lots} {l t : List Int} : freeB ls l t = true ↔ ∀ c ∈ atL ls t, Hm.Dis c l := by
  unfold freeB atL Hm.Dis
  rw [List.all_eq_true]
  constructor
  · intro h c hc g hg
    obtain ⟨x, hx, rfl⟩ := List.mem_map.mp hc
    have := List.all_eq_true.mp (h x hx) g hg
    simpa using this
  · intro h x hx
    rw [List.all_eq_true]
    intro g hg
    have := h _ (List.mem_map.mpr ⟨x, hx, rfl⟩) g hg
    simpa using this
theorem pack_start (ls : Hm.Lots) : PackI ls 0 [[]] := by
  refine ⟨fun t ht => ?_, fun s hs _ => ?_, Nat.le_refl _⟩
  · rw [List.mem_singleton.mp ht]
    exact ⟨(fun _ z => nomatch z), Nat.le_refl _, .nil, List.nil_sublist _⟩
  · rw [List.take_zero, List.sublist_nil] at hs
    exact ⟨[], List.mem_singleton.mpr rfl, hs.symm⟩
theorem pack_step {ls : Hm.Lots} {i : Nat} {l : List Int} {S : Hm.Lots} (h : PackI ls i S) (hl : ls[i]? = some l) : PackI ls (i + 1) (S ++ (S.filter (freeB ls l)).map (· ++ [((i : Nat) : Int)])) := by
  have tk : ls.take (i + 1) = ls.take i ++ [l] := by rw [List.take_add_one, hl]; rfl
  have el : ls.getD (((i : Nat) : Int)).toNat [] = l := by
    rw [Int.toNat_natCast, List.getD_eq_getElem?_getD, hl]
    rfl
  have at_ : ∀ t, atL ls (t ++ [((i : Nat) : Int)]) = atL ls t ++ [l] := fun t => by
    unfold atL
    rw [List.map_append, List.map_cons, List.map_nil, el]
  refine ⟨fun t ht => ?_, fun s hs hp => ?_, ?_⟩
  · rcases List.mem_append.mp ht with ht | ht
    · obtain ⟨a, b, c, d⟩ := h.ok t ht
      refine ⟨fun x hx => ?_, by omega, c, by rw [tk]; exact d.trans (List.sublist_append_left _ _)⟩
      obtain ⟨k, e, hk⟩ := a x hx
      exact ⟨k, e, by omega⟩
    · obtain ⟨t0, h0, rfl⟩ := List.mem_map.mp ht
      obtain ⟨h1, h2⟩ := List.mem_filter.mp h0
      obtain ⟨a, b, c, d⟩ := h.ok t0 h1
      have fr := freeB_iff.mp h2
      refine ⟨fun x hx => ?_, by rw [List.length_append]; exact Nat.succ_le_succ b, ?_, ?_⟩
      · rcases List.mem_append.mp hx with hx | hx
        · obtain ⟨k, e, hk⟩ := a x hx
          exact ⟨k, e, by omega⟩
        · exact ⟨i, List.mem_singleton.mp hx, Nat.lt_succ_self i⟩
      · rw [at_]
        exact List.pairwise_append.mpr ⟨c, List.pairwise_singleton _ _, fun x hx y hy => by rw [List.mem_singleton.mp hy]; exact fr x hx⟩
      · rw [at_, tk]
        exact d.append (List.Sublist.refl _)
  · rw [tk] at hs
    obtain ⟨s1, s2, rfl, hs1, hs2⟩ := List.sublist_append_iff.mp hs
    obtain ⟨p1, p2, p3⟩ := List.pairwise_append.mp hp
    obtain ⟨t, ht, et⟩ := h.all s1 hs1 p1
    cases s2 with
    | nil =>
      refine ⟨t, List.mem_append_left _ ht, ?_⟩
      rw [et, List.append_nil]
    | cons y r =>
      have hr : y :: r = [l] := by
        have hlen := hs2.length_le
        have hr : r = [] := by
          cases r with
          | nil => rfl
          | cons z w => simp at hlen
        subst hr
        have := hs2.subset (List.mem_cons_self ..)
        rw [List.mem_singleton.mp this]
      rw [hr] at p3 ⊢
      refine ⟨t ++ [((i : Nat) : Int)], List.mem_append_right _ (List.mem_map.mpr ⟨t, List.mem_filter.mpr ⟨ht, freeB_iff.mpr fun c hc => ?_⟩, rfl⟩), by rw [at_, et]⟩
      rw [et] at hc
      exact p3 c hc l (List.mem_singleton.mpr rfl)
  · rw [List.length_append, List.length_map, Nat.pow_succ]
    have := h.few
    have := List.length_filter_le (freeB ls l) S
    omega
theorem pack_best {ls : Hm.Lots} {S : Hm.Lots} {d : Nat} {best : Int} (h : PackI ls ls.length S) (hd : DueOk ls d) (hb : ∃ t ∈ S, best = (t.length : Nat)) (hm : ∀ t ∈ S, ((t.length : Nat) : Int) ≤ best) : best ≤ (d : Nat) ∧ ((d : Nat) : Int) ≤ best + 1 := by
  rw [show PackI ls ls.length S = PackI ls ls.length S from rfl] at h
  obtain ⟨t, ht, rfl⟩ := hb
  constructor
  · obtain ⟨_, _, c, e⟩ := h.ok t ht
    rw [List.take_length] at e
    have := Hm.apart_can (fun x hx => e.subset hx) c hd.1.1
    unfold atL at this
    rw [List.length_map] at this
    omega
  · obtain ⟨ks, k1, k2, k3⟩ := hd.2
    obtain ⟨s, s1, s2, s3, _⟩ := Hm.sub_pack k2 k3
    obtain ⟨t2, ht2, e⟩ := h.all s (by rw [List.take_length]; exact s1) s2
    have := hm t2 ht2
    have hl : t2.length = s.length := by rw [← e]; unfold atL; rw [List.length_map]
    omega
section
variable {P : Program} {w : World} {K : PySem.W.Frag} {mg : Str → Option Value} {base : Heap} {f c Pt : Addr} {A : Around} {outer : List Env} {s : Shared} {H0 : Hp} {E : XK} {T : List (Addr × Str)} {D : DrA} {n : Nat} {many : Int}
def DueAt (ls : Hm.Lots) (x : Nat → Option V) (H : Hp) : Prop := ∃ d : Nat, x 5 = some (.int (d : Nat)) ∧ DueOk ls d
theorem sta3 (C : CalA P w K mg base T) (hr : RoomA A s f c) : AX P w K mg base f c A outer s H0 E 3 (A2 T D n many ShortAt) (A2 T D n many DueAt) := by
  refine ⟨_, ps_set (i := 5) scAR.nd rfl (.inl rfl) (pe_callB (cr_min rfl) (by rfl) C.N.bmin (by decide +kernel) (pa_cons (pe_lc (own := [("gap", 14)]) (g := gName 14) (tt := tYes) rfl scAR.nd (pi_tupK K (pv 4))
        (blkOk_by (own := [("gap", 14)]) (N := nAR) (sc := defScope sAR) (by decide +kernel)) (fun _ _ _ _ _ => pg_name (i := 14) scAR.nd rfl (Or.inl rfl)) (fun _ _ _ _ _ => pts_nil)
        (fun _ _ _ _ _ => pe_h C.GC (hr.mono (Nat.le_refl 24)) (by decide) (by rfl) pass0 (pa_cons (pv 1) (pa_cons (pv 2) (pa_cons (pv 14) pa_nil))))) pa_nil)), ?_⟩
  rintro Dn σ H ⟨x, a, xs, ps, b, ys, ls, rfl, I, i0, l, t, hli, h4, ht⟩ hN
  have hlm := List.mem_of_getElem? hli
  have hg := I.arc.gaps l hlm
  have l16 : l.length ≤ 16 := by
    have := asc_len hg.2 hg.1
    have := I.ai.m16
    have := I.ai.m1
    omega
  have lne : l ≠ [] := fun z => I.ne (z ▸ hlm)
  refine ⟨_, congrArg some h4, t, rfl, ⟨_, SqT.of ht⟩, fun R nR => lc_tup (K := K) (a := t) (xs := l.map V.int) (fun j H' => ExtN H H' ∧ Tabs T H' ∧ ∃ ns : List Int, H' R = some (.lst (ns.map V.int)) ∧ ns.length = j ∧ (∀ z ∈ ns, ∃ g ∈ l.take j, ∃ k : Nat, z = 1 + (k : Int) ∧ CutOk ls g k) ∧ (∀ g ∈ l.take j, ∃ k : Nat, 1 + (k : Int) ∈ ns ∧ CutOk ls g k))
    ⟨.of (same_upd nR), I.ai.tb.ext (same_upd nR), [], upd_same, rfl, (fun _ z => nomatch z), fun g hg => by rw [List.take_zero] at hg; cases hg⟩ (fun j H' _ h => SqT.of (h.1 _ _ ht (fun _ z => by cases z))) ?_ ?_⟩
  · rintro j v H' hxj ⟨e1, T1, ns, hR, hl, hz1, hz2⟩
    obtain ⟨g, hgj, rfl⟩ := int_at hxj
    have hj : j < l.length := (List.getElem?_eq_some_iff.mp hgj).1
    have hgm := List.mem_of_getElem? hgj
    have I1 := I.ex e1 T1
    refine ⟨rfl, _, congrArg some I.ai.x1, _, congrArg some I.ai.x2, _, rfl, a, xs, ps, many, g, rfl, I1.ai.ha, I1.ai.hl, I.ai.l8, I.ai.ok, hg.1 g hgm, I.ai.m16, T1, fun H2 k e2 T2 hk => ?_⟩
    have hR2 := e2 _ _ hR (fun _ z => by cases z)
    have ck : CutOk ls g k := hk ls (I.arc.arcs I.ai.ok)
    have nR0 : H R = none := nR
    refine ⟨_, hR2, small1000 (by rw [List.length_map]; omega), fun b o e k => ?_, Tabs.off hR2 T2, ns ++ [1 + (k : Int)], ?_, by rw [List.length_append, hl]; rfl, ?_, ?_⟩
    · rw [upd_ne (fun z => by rw [z, nR0] at e; cases e)]
      exact e2 _ _ (e1 b o e k) k
    · rw [List.map_append]
      exact upd_same
    · intro z hz
      rw [List.take_add_one, hgj]
      rcases List.mem_append.mp hz with hz | hz
      · obtain ⟨g', h1, h2⟩ := hz1 z hz
        exact ⟨g', List.mem_append_left _ h1, h2⟩
      · exact ⟨g, List.mem_append_right _ (by simp), k, List.mem_singleton.mp hz, ck⟩
    · intro g' hg'
      rw [List.take_add_one, hgj] at hg'
      rcases List.mem_append.mp hg' with h | h
      · obtain ⟨k', h1, h2⟩ := hz2 g' h
        exact ⟨k', List.mem_append_left _ h1, h2⟩
      · have : g' = g := by simpa using h
        subst this
        exact ⟨k, List.mem_append_right _ (List.mem_singleton.mpr rfl), ck⟩
  · rintro H1 ⟨e1, T1, ns, hR, hl, hz1, hz2⟩
    rw [List.length_map] at hl
    rw [List.length_map, List.take_length] at hz1 hz2
    refine ⟨R, ns, rfl, SqL.of hR, by rw [hl]; exact List.length_pos_iff.mpr lne, fun z hz hm => ?_⟩
    obtain ⟨d, rfl, hd⟩ := due_of hlm hz1 hz2 hz hm
    exact hN _ _ ⟨sx x 5 (some (.int (d : Nat))), a, xs, ps, b, ys, ls, rfl, (I.ex e1 T1).set 5 _ (by decide), d, rfl, hd⟩
theorem sta4 (C : CalA P w K mg base T) (hr : RoomA A s f c) : AX P w K mg base f c A outer s H0 E 4 (A2 T D n many DueAt) (A2 T D n many DueAt) := by
  refine ⟨_, ps_if (pt_cmpR op_ne (pe_h C.GS hr (by decide) (by rfl) pass0 (pa_cons (pv 1) (pa_cons (pv 3) pa_nil))) (pv 5) (nomark _)) (pss_one (ps_ret pe_bl)) pss_nil, ?_⟩
  rintro Dn σ H ⟨x, a, xs, ps, b, ys, ls, rfl, I, d, h5, hd⟩ hN
  refine ⟨_, congrArg some I.ai.x1, _, congrArg some I.x3, D, many, _, ls, rfl, I.lots, I.ne, fun H1 m s1 hm => ?_⟩
  have e : m = d := Hm.num_uniq hm hd.1
  refine ⟨_, congrArg some h5, rfl, _, rfl, ?_⟩
  rw [e, decide_eq_true rfl]
  exact iteF (hN _ _ ⟨x, a, xs, ps, b, ys, ls, rfl, I.sm s1, d, h5, hd⟩)
/-- the packings stand at 6 -/
def PackAt (i : Nat) (ls : Hm.Lots) (x : Nat → Option V) (H : Hp) : Prop := DueAt ls x H ∧ ∃ p ws S, x 6 = some (.ref p) ∧ H p = some (.lst ws) ∧ LsAt H ws S ∧ PackI ls i S
theorem sta5 : AX P w K mg base f c A outer s H0 E 5 (A2 T D n many DueAt) (A2 T D n many (PackAt 0)) := by
  refine ⟨_, ps_par (i := 6) (j := 7) rfl scAR.nd rfl rfl (by decide) rfl rfl (pa_cons (pe_lst (pa_cons (pe_tup pa_nil) pa_nil)) (pa_cons pe_int pa_nil)) rfl, ?_⟩
  rintro Dn σ H ⟨x, a, xs, ps, b, ys, ls, rfl, I, hd⟩ hN
  refine ⟨(by show 0 ≤ sizeLine; decide), fun t nt => ?_⟩
  have s1 := same_upd (o := .tup []) nt
  refine ⟨(by show 1 ≤ sizeLine; decide), fun p np => ⟨_, _, rfl, ?_⟩⟩
  have s2 := same_upd (o := .lst [.ref t]) np
  exact hN _ _ ⟨sx (sx x 6 (some (.ref p))) 7 (some (.int 0)), a, xs, ps, b, ys, ls, rfl, (((I.sm s1).sm s2).set 6 _ (by decide)).set 7 _ (by decide), hd, p, [.ref t], [[]], rfl, upd_same, .cons ⟨t, rfl, s2 _ _ upd_same⟩ .nil, pack_start ls⟩
end
end Lm
/-! The law's arcs_right: packings. -/
namespace Lm
open PySem PySem.Spec PyProof.Rows L2 LamX
theorem ix_listK {X : Cx} (K : PySem.W.Frag) (hK : X.K = K := by rfl) : IxR X (rIxL K) := hK ▸ ix_list
def freeO (ls : Hm.Lots) (l : List Int) (x : Int) : Bool := (ls.getD x.toNat []).all fun g => !decide (g ∈ l)
theorem freeO_iff {ls : Hm.Lots} {l : List Int} {x : Int} {k : List Int} (e : ls.getD x.toNat [] = k) : (k.filter fun g => decide (g ∈ l)).isEmpty = freeO ls l x := by
  unfold freeO
  rw [e, Bool.eq_iff_iff, List.isEmpty_iff, List.filter_eq_nil_iff, List.all_eq_true]
  constructor
  · intro h g hg
    have := h g hg
    simpa using this
  · intro h g hg
    have := h g hg
    simpa using this
theorem free_all {ls : Hm.Lots} {l t : List Int} : ((List.replicate (t.filter fun x => !freeO ls l x).length (1 : Int)).isEmpty) = freeB ls l t := by
  have e : (List.replicate (t.filter fun x => !freeO ls l x).length (1 : Int)).isEmpty = (t.filter fun x => !freeO ls l x).isEmpty := by cases t.filter fun x => !freeO ls l x <;> rfl
  rw [e, Bool.eq_iff_iff, List.isEmpty_iff, List.filter_eq_nil_iff]
  unfold freeB
  rw [List.all_eq_true]
  constructor
  · intro h x hx
    have := h x hx
    simpa [freeO] using this
  · intro h x hx
    have := h x hx
    simpa [freeO] using this
section
variable {T : List (Addr × Str)} {D : DrA} {n : Nat} {many : Int} {a : Addr} {xs : List V} {ps : List (Int × Int)} {b : Addr} {ys : List V} {ls : Hm.Lots} {x : Nat → Option V} {H H' : Hp}
theorem AL.put {q : Addr} {zs zs' : List V} {G : Hp} {n0 : Nat} (I : AL T D n many a xs ps b ys ls x H) (h : H q = some (.lst zs)) (qa : a ≠ q) (qb : b ≠ q) (dG : DrawAt D n0 G) (nG : G q = none) : AL T D n many a xs ps b ys ls x (upd H q (.lst zs')) :=
  ⟨⟨I.ai.x0, I.ai.x1, I.ai.x2, by rw [upd_ne qa]; exact I.ai.ha, I.ai.hl.off (no_tup h), I.ai.l8, I.ai.l0, I.ai.ok, I.ai.m1, I.ai.m16, draw_put dG nG I.ai.dr, Tabs.off h I.ai.tb⟩, I.x3, by rw [upd_ne qb]; exact I.hb, I.hy.off (no_tup h), I.arc, I.b1, I.b2⟩
end
section
variable {P : Program} {w : World} {K : PySem.W.Frag} {mg : Str → Option Value} {base : Heap} {f c Pt : Addr} {A : Around} {outer : List Env} {s : Shared} {H0 : Hp} {E : XK} {T : List (Addr × Str)} {D : DrA} {n : Nat} {many : Int}
theorem sta6 (C : CalA P w K mg base T) (hr : RoomA A s f c) : AX P w K mg base f c A outer s H0 E 6 (A2 T D n many (PackAt 0)) (A2 T D n many fun ls => PackAt ls.length ls) := by
  refine ⟨_, ps_for PassesOwn.never rfl (pi_enum (by rfl) C.N.benu (pa_cons (pv 3) pa_nil)) (pg_tup rfl (pgs_cons (pg_name (i := 8) scAR.nd rfl (.inl rfl)) (pgs_cons (pg_name (i := 9) scAR.nd rfl (.inr rfl)) pgs_nil)))
    (pss_cons (ps_set (i := 10) scAR.nd rfl (.inl rfl) (pe_lst pa_nil))
    (pss_cons (ps_for PassesOwn.never rfl (pi_listK K (pv 6)) (pg_name (i := 11) scAR.nd rfl (.inl rfl))
      (pss_one (ps_if (pt_cmpR (op_eqD hr.units) (pe_lc (own := [("place", 15)]) (g := gName 15) rfl scAR.nd (pi_tupK K (pv 11))
            (blkOk_by (own := [("place", 15)]) (N := nAR) (sc := defScope sAR) (by decide +kernel)) (fun _ _ _ _ _ => pg_name (i := 15) scAR.nd rfl (Or.inl rfl))
            (fun _ _ _ _ _ => pts_one (pt_cmpR (show OpR _ _ (rNeD K) from op_neD hr.units) (pe_lc (own := [("gap", 14)]) (g := gName 14) rfl scAR.nd (pi_tupK K (pe_ix (ix_listK K) (pv 3) (pv 15) (fun _ _ => rfl)))
                (blkOk_by (by show blkC nAR ⟨.function, [(".0", .local), ("place", .local), ("lot", .cell), ("lots", .cell)], false, false, []⟩ _ [("gap", 14)] = true; decide +kernel)) (fun _ _ _ _ _ => pg_name (i := 14) scAR.nd rfl (Or.inl rfl))
                (fun _ _ _ _ _ => pts_one (pt_cmpR (show OpR _ _ (rIn K false) from op_in_seq) (pv 14) (pv 9) (by rfl))) (fun _ _ _ _ _ => pv 14)) (pe_lst pa_nil) (nomark _)))
            (fun _ _ _ _ _ => pe_int)) (pe_lst pa_nil) (nomark _))
        (pss_one (ps_expr (pe_bm PySem.F.plainAttrs_list PySem.F.slot_list_append PySem.F.type_list_append mt_append (pv 10) (pa_cons (pe_op op_catA (pv 11) (pe_tup (pa_cons (pv 8) pa_nil))) pa_nil)))) pss_nil)))
    (pss_one (ps_set (i := 6) scAR.nd rfl (.inl rfl) (pe_op op_cat (pv 6) (pv 10)))))), ?_⟩
  rintro Dn σ H ⟨x, a, xs, ps, b, ys, ls, rfl, I, hd, hP⟩ hN
  have len := I.len
  refine ⟨_, congrArg some I.x3, b, ys, rfl, SqL.of I.hb, for_it (walk_enumL (xs := ys)) (fun i σ H' => ∃ x, σ = SA x ∧ AL T D n many a xs ps b ys ls x H' ∧ PackAt i ls x H') ⟨x, rfl, I, hd, hP⟩ (fun i σ H' _ h => by obtain ⟨_, _, h, _⟩ := h; exact SqL.of h.hb) ?_ ?_⟩
  · rintro i v σ H1 H2 hi ⟨x, rfl, I, ⟨d, h5, hd⟩, p, ws, S, h6, hp, hw, hS⟩ ⟨T0, v, rfl, nT, rfl, hvi⟩
    obtain ⟨l, hli, lt, rfl, hlt⟩ := I.hy.get hvi
    have hi8 : i < 8 := by omega
    have p2 : 2 ^ i ≤ 128 := Nat.pow_le_pow_right (n := 2) (by decide) (show i ≤ 7 by omega)
    have few := hS.few
    have s1 := same_upd (o := .tup [.int (i : Nat), .ref lt]) nT
    have hT : (upd H1 T0 (.tup [.int (i : Nat), .ref lt])) T0 = some (.tup [.int (i : Nat), .ref lt]) := upd_same
    have I1 := I.sm s1
    have hp1 := s1 _ _ hp
    have hw1 := hw.sm s1
    have hlt1 := s1 _ _ hlt
    generalize upd H1 T0 (.tup [.int (i : Nat), .ref lt]) = H2 at *
    refine ⟨T0, _, rfl, SqT.of hT, rfl, _, _, rfl, _, _, rfl, rfl, ?_⟩
    refine ⟨(by show 0 ≤ sizeLine; decide), fun q nq => ?_⟩
    have s2 := same_upd (o := .lst []) nq
    have dG := I1.ai.dr
    have qa : a ≠ q := fun z => by rw [← z, I1.ai.ha] at nq; cases nq
    have qb : b ≠ q := fun z => by rw [← z, I1.hb] at nq; cases nq
    have qp : p ≠ q := fun z => by rw [← z, hp1] at nq; cases nq
    have ql : lt ≠ q := fun z => by rw [← z, hlt1] at nq; cases nq
    refine ⟨_, congrArg some h6, p, rfl, ⟨_, SqL.of (s2 _ _ hp1)⟩, for_list (K := K) (a := p) (xs := ws) (fun j σ H' => ∃ x zs, σ = SA x ∧ x 10 = some (.ref q) ∧ x 9 = some (.ref lt) ∧ x 8 = some (.int (i : Nat)) ∧ x 6 = some (.ref p) ∧ x 5 = some (.int (d : Nat)) ∧ AL T D n many a xs ps b ys ls x H' ∧ H' p = some (.lst ws) ∧ LsAt H' ws S ∧ H' lt = some (.tup (l.map V.int)) ∧
        H' q = some (.lst zs) ∧ LsAt H' zs (((S.take j).filter (freeB ls l)).map (· ++ [((i : Nat) : Int)])))
      ⟨sx (sx (sx x 8 (some (.int (i : Nat)))) 9 (some (.ref lt))) 10 (some (.ref q)), [], rfl, rfl, rfl, rfl, h6, h5, (((I1.sm s2).set 8 _ (by decide)).set 9 _ (by decide)).set 10 _ (by decide), s2 _ _ hp1, hw1.sm s2, s2 _ _ hlt1, upd_same, .nil⟩ (fun j σ H' _ h => by obtain ⟨x, zs, _, _, _, _, _, _, _, hp, _⟩ := h; exact SqL.of hp) ?_ ?_⟩
    · rintro j v σ H3 hvj ⟨x, zs, rfl, h10, h9, h8, h6, h5, I3, hp3, hw3, hl3, hq3, hz3⟩
      obtain ⟨t, htj, tt, rfl, htt⟩ := hw3.get hvj
      obtain ⟨tin, tlen, _, _⟩ := hS.ok t (List.mem_of_getElem? htj)
      have jS : j < S.length := (List.getElem?_eq_some_iff.mp htj).1
      have zl : zs.length ≤ 128 := by
        rw [hz3.len, List.length_map]
        refine Nat.le_trans (List.length_filter_le _ _) ?_
        rw [List.length_take]
        omega
      have stS := filter_take_succ (p := freeB ls l) htj
      refine ⟨_, rfl, tt, rfl, ⟨_, SqT.of htt⟩, fun R nR => lc_tup (K := K) (a := tt) (xs := t.map V.int) (fun m H4 => Same H3 H4 ∧ H4 R = some (.lst ((List.replicate ((t.take m).filter fun z => !freeO ls l z).length (1 : Int)).map V.int))) ⟨same_upd nR, upd_same⟩ (fun m H4 _ h => SqT.of (h.1 _ _ htt)) ?_ ?_⟩
      · rintro m v H4 hvm ⟨s4, hR⟩
        obtain ⟨z, hz, rfl⟩ := int_at hvm
        obtain ⟨k, rfl, hk⟩ := tin z (List.mem_of_getElem? hz)
        have hm : m < t.length := (List.getElem?_eq_some_iff.mp hz).1
        obtain ⟨lk, hlk⟩ : ∃ lk, ls[k]? = some lk := ⟨_, List.getElem?_eq_getElem (show k < ls.length by omega)⟩
        obtain ⟨tk, hyk, htk⟩ := I3.hy.at hlk
        have ek : ls.getD (((k : Nat) : Int)).toNat [] = lk := by
          rw [Int.toNat_natCast, List.getD_eq_getElem?_getD, hlk]
          rfl
        have glk := I.arc.gaps lk (List.mem_of_getElem? hlk)
        have lk16 : lk.length ≤ 16 := by
          have := asc_len glk.2 glk.1
          have := I.ai.m16
          have := I.ai.m1
          omega
        have st4 := filter_take_succ (p := fun z => !freeO ls l z) hz
        have hlen : ((t.take m).filter fun z => !freeO ls l z).length ≤ 8 := Nat.le_trans (List.length_filter_le _ _) (by rw [List.length_take]; omega)
        refine ⟨rfl, _, congrArg some I3.x3, _, rfl, b, ys, _, _, rfl, rfl, SqL.of (s4 _ _ I3.hb), atI_nat hyk, tk, rfl, ⟨_, SqT.of (s4 _ _ htk)⟩, fun R2 nR2 => lc_tup (K := K) (a := tk) (xs := lk.map V.int) (fun u H5 => Same H4 H5 ∧ H5 R2 = some (.lst (((lk.take u).filter fun g => decide (g ∈ l)).map V.int))) ⟨same_upd nR2, upd_same⟩ (fun u H5 _ h => SqT.of (h.1 _ _ (s4 _ _ htk))) ?_ ?_⟩
        · rintro u v H5 hvu ⟨s5, hR2⟩
          obtain ⟨y, hy, rfl⟩ := int_at hvu
          have hlen2 : ((lk.take u).filter fun g => decide (g ∈ l)).length ≤ 16 := Nat.le_trans (List.length_filter_le _ _) (by rw [List.length_take]; omega)
          have st5 := filter_take_succ (p := fun g => decide (g ∈ l)) hy
          refine ⟨rfl, _, rfl, _, congrArg some h9, lt, _, rfl, .inr (SqT.of (s5 _ _ (s4 _ _ hl3))), rfl, flat_ints l, _, rfl, ?_⟩
          rw [if_neg (by decide), in_ints]
          by_cases hg : y ∈ l
          · rw [decide_eq_true hg]
            refine iteT ⟨_, rfl, _, hR2, small1000 (by rw [List.length_map]; omega), same_put s5 nR2, ?_⟩
            rw [if_pos (decide_eq_true hg)] at st5
            rw [st5, List.map_append]
            exact upd_same
          · rw [decide_eq_false hg]
            refine iteF ⟨s5, ?_⟩
            rw [if_neg (by simpa using hg), List.append_nil] at st5
            rw [st5]
            exact hR2
        · rintro H5 ⟨s5, hR2⟩
          rw [List.length_map, List.take_length] at hR2
          refine ⟨Nat.zero_le _, fun Z nZ => ?_⟩
          have s6 : Same H5 (upd H5 Z (.lst [])) := same_upd nZ
          have s36 : Same H3 (upd H5 Z (.lst [])) := fun b o e => s6 b o (s5 b o (s4 b o e))
          have hR6 := s6 _ _ (s5 _ _ hR)
          refine ⟨_, _, .lst (SqL.of (s6 _ _ hR2)) (dp_ints _), .lst (SqL.of upd_same) .nil, shaped_ints _, by decide +kernel, _, rfl, ?_⟩
          rw [eqv_nil_ints, freeO_iff ek]
          cases hfr : freeO ls l ((k : Nat) : Int) with
          | true =>
            refine iteF ⟨s36, ?_⟩
            rw [if_neg (by rw [hfr]; decide), List.append_nil] at st4
            rw [st4]
            exact hR6
          | false =>
            refine iteT ⟨_, hR6, small1000 (by rw [List.length_map, List.length_replicate]; omega), same_put s36 nR, ?_⟩
            rw [if_pos (by rw [hfr]; rfl)] at st4
            rw [st4, List.length_append]
            show upd _ R _ R = some (.lst ((List.replicate (_ + 1) (1 : Int)).map V.int))
            rw [List.replicate_succ', List.map_append]
            exact upd_same
      · rintro H4 ⟨s4, hR⟩
        rw [List.length_map, List.take_length] at hR
        refine ⟨Nat.zero_le _, fun Z nZ => ?_⟩
        have s5 : Same H4 (upd H4 Z (.lst [])) := same_upd nZ
        have s35 : Same H3 (upd H4 Z (.lst [])) := fun b o e => s5 b o (s4 b o e)
        have hR5 := s5 _ _ hR
        have hZ : (upd H4 Z (.lst [])) Z = some (.lst []) := upd_same
        generalize upd H4 Z (.lst []) = H5 at *
        refine ⟨_, _, .lst (SqL.of hR5) (dp_ints _), .lst (SqL.of hZ) .nil, shaped_ints _, by decide +kernel, _, rfl, ?_⟩
        rw [eqv_nil_ints, free_all]
        have I5 := (I3.sm s35).set 11 (some (.ref tt)) (by decide)
        have hq5 := s35 _ _ hq3
        have hz5 := hz3.sm s35
        have htt5 := s35 _ _ htt
        cases hfr : freeB ls l t with
        | false =>
          refine iteF ⟨sx x 11 (some (.ref tt)), zs, rfl, h10, h9, h8, h6, h5, I5, s35 _ _ hp3, hw3.sm s35, s35 _ _ hl3, hq5, ?_⟩
          rw [if_neg (by rw [hfr]; decide), List.append_nil] at stS
          rw [stS]
          exact hz5
        | true =>
          rw [if_pos hfr] at stS
          refine iteT ⟨_, congrArg some h10, .inl ⟨rfl, _, SqL.of hq5⟩, _, rfl, _, congrArg some h8, (by show 1 ≤ sizeLine; decide), fun T1 nT1 => ?_⟩
          have s6 := same_upd (o := .tup [.int (i : Nat)]) nT1
          have hT1 : (upd H5 T1 (.tup [.int (i : Nat)])) T1 = some (.tup [.int (i : Nat)]) := upd_same
          have fin : ∀ (H7 : Hp) (v : Addr), Same H5 H7 → H7 v = some (.tup ((t ++ [((i : Nat) : Int)]).map V.int)) → ∃ x' zs', (SA x).set 11 (some (.ref tt)) = SA x' ∧ x' 10 = some (.ref q) ∧ x' 9 = some (.ref lt) ∧ x' 8 = some (.int (i : Nat)) ∧ x' 6 = some (.ref p) ∧ x' 5 = some (.int (d : Nat)) ∧ AL T D n many a xs ps b ys ls x' (upd H7 q (.lst (zs ++ [.ref v]))) ∧ (upd H7 q (.lst (zs ++ [.ref v]))) p = some (.lst ws) ∧ LsAt (upd H7 q (.lst (zs ++ [.ref v]))) ws S ∧ (upd H7 q (.lst (zs ++ [.ref v]))) lt = some (.tup (l.map V.int)) ∧
              (upd H7 q (.lst (zs ++ [.ref v]))) q = some (.lst zs') ∧ LsAt (upd H7 q (.lst (zs ++ [.ref v]))) zs' (((S.take (j + 1)).filter (freeB ls l)).map (· ++ [((i : Nat) : Int)])) := fun H7 v s7 hv => by
            have s37 : Same H3 H7 := fun b o e => s7 b o (s35 b o e)
            have hq7 := s7 _ _ hq5
            have nt := no_tup hq7
            refine ⟨sx x 11 (some (.ref tt)), zs ++ [.ref v], rfl, h10, h9, h8, h6, h5, (I5.sm s7).put hq7 qa qb dG nq, by rw [upd_ne qp]; exact s37 _ _ hp3, (hw3.sm s37).off nt, by rw [upd_ne ql]; exact s37 _ _ hl3, upd_same, ?_⟩
            rw [stS, List.map_append]
            exact LsAt.snoc (LotAt.off nt ⟨v, rfl, hv⟩) ((hz5.sm s7).off nt)
          refine ⟨tt, T1, _, _, rfl, rfl, SqT.of (s6 _ _ htt5), SqT.of hT1, ?_, fun z => ?_, fun _ z => (nomatch z), fun z0 _ T2 nT2 => ?_⟩
          · rw [List.length_map]
            exact Nat.le_of_lt (small1000 (by show t.length + 1 ≤ 1000; omega))
          · have t0 : t = [] := List.map_eq_nil_iff.mp z
            refine ⟨q, zs, _, rfl, rfl, s6 _ _ hq5, small1000 (by omega), ?_⟩
            exact fin _ T1 s6 (by rw [t0]; exact hT1)
          · have s7 := same_upd (o := .tup (t.map V.int ++ [.int (i : Nat)])) nT2
            have s57 : Same H5 (upd (upd H5 T1 (.tup [.int (i : Nat)])) T2 (.tup (t.map V.int ++ [.int (i : Nat)]))) := fun b o e => s7 b o (s6 b o e)
            refine ⟨q, zs, _, rfl, rfl, s57 _ _ hq5, small1000 (by omega), ?_⟩
            exact fin _ T2 s57 (by rw [List.map_append]; exact upd_same)
    · rintro σ H3 ⟨x, zs, rfl, h10, h9, h8, h6, h5, I3, hp3, hw3, hl3, hq3, hz3⟩
      have wl := hw3.len
      rw [wl, List.take_length] at hz3
      have zl : zs.length ≤ 128 := by
        rw [hz3.len, List.length_map]
        exact Nat.le_trans (List.length_filter_le _ _) (by omega)
      refine ⟨_, congrArg some h6, _, congrArg some h10, p, q, ws, zs, rfl, rfl, hp3, hq3, (show ws.length + zs.length ≤ sizeLine from Nat.le_of_lt (small1000 (by omega))), fun r nr => ?_⟩
      have s4 := same_upd (o := .lst (ws ++ zs)) nr
      exact ⟨sx x 6 (some (.ref r)), rfl, (I3.sm s4).set 6 _ (by decide), ⟨d, h5, hd⟩, r, ws ++ zs, _, rfl, upd_same, (hw3.sm s4).app (hz3.sm s4), pack_step hS hli⟩
  · rintro σ H' ⟨x, rfl, I, hP⟩
    rw [I.len.2.2] at hP
    exact hN _ _ ⟨x, a, xs, ps, b, ys, ls, rfl, I, hP⟩
end
end Lm
/-! The law's arcs_right: the end. -/
namespace Lm
open PySem PySem.Spec PyProof.Rows L2 LamX
section
variable {P : Program} {w : World} {K : PySem.W.Frag} {mg : Str → Option Value} {base : Heap} {f c Pt : Addr} {A : Around} {outer : List Env} {s : Shared} {H0 : Hp} {E : XK} {T : List (Addr × Str)} {D : DrA} {n : Nat} {many : Int}
def BestAt (ls : Hm.Lots) (x : Nat → Option V) (H : Hp) : Prop := ∃ (d : Nat) (best : Int), x 5 = some (.int (d : Nat)) ∧ x 7 = some (.int best) ∧ best ≤ (d : Nat) ∧ ((d : Nat) : Int) ≤ best + 1
theorem sta7 (C : CalA P w K mg base T) : AX P w K mg base f c A outer s H0 E 7 (A2 T D n many fun ls => PackAt ls.length ls) (A2 T D n many BestAt) := by
  refine ⟨_, ps_set (i := 7) scAR.nd rfl (.inl rfl) (pe_callB (cr_max rfl) (by rfl) C.N.bmax (by decide +kernel) (pa_cons (pe_lc (own := [("some", 11)]) (g := gName 11) (tt := tYes) rfl scAR.nd (pi_listK K (pv 6))
        (blkOk_by (own := [("some", 11)]) (N := nAR) (sc := defScope sAR) (by decide +kernel)) (fun _ _ _ _ _ => pg_name (i := 11) scAR.nd rfl (Or.inl rfl)) (fun _ _ _ _ _ => pts_nil)
        (fun _ _ _ _ _ => pe_callB (call_lenK K) (by rfl) C.N.blen PySem.boot_len (pa_cons (pv 11) pa_nil))) pa_nil)), ?_⟩
  rintro Dn σ H ⟨x, a, xs, ps, b, ys, ls, rfl, I, ⟨d, h5, hd⟩, p, ws, S, h6, hp, hw, hS⟩ hN
  have wl := hw.len
  have few := hS.few
  have l8 := I.len.1
  have p2 : 2 ^ ls.length ≤ 256 := Nat.pow_le_pow_right (n := 2) (by decide) (show ls.length ≤ 8 by omega)
  refine ⟨_, congrArg some h6, p, rfl, ⟨_, SqL.of hp⟩, fun R nR => lc_list (K := K) (a := p) (xs := ws) (fun i H' => Same H H' ∧ H' R = some (.lst (((S.take i).map fun t => ((t.length : Nat) : Int)).map V.int))) ⟨same_upd nR, upd_same⟩ (fun i H' _ h => SqL.of (h.1 _ _ hp)) ?_ ?_⟩
  · rintro i v H' hvi ⟨s1, hR⟩
    obtain ⟨t, hti, tt, rfl, htt⟩ := hw.get hvi
    refine ⟨rfl, _, rfl, tt, _, rfl, .inr (SqT.of (s1 _ _ htt)), _, hR, small1000 (by rw [List.length_map, List.length_map, List.length_take]; omega), same_put s1 nR, ?_⟩
    rw [List.take_add_one, hti, List.map_append, List.map_append, List.length_map]
    exact upd_same
  · rintro H1 ⟨s1, hR⟩
    rw [wl, List.take_length] at hR
    obtain ⟨t0, ht0, _⟩ := hS.all [] (List.nil_sublist _) .nil
    refine ⟨R, _, rfl, SqL.of hR, by rw [List.length_map]; exact List.length_pos_of_mem ht0, fun best hb hm => ?_⟩
    obtain ⟨t, ht, rfl⟩ := List.mem_map.mp hb
    have := pack_best hS hd ⟨t, ht, rfl⟩ fun t' ht' => hm _ (List.mem_map.mpr ⟨t', ht', rfl⟩)
    exact hN _ _ ⟨sx x 7 (some (.int ((t.length : Nat) : Int))), a, xs, ps, b, ys, ls, rfl, (I.sm s1).set 7 _ (by decide), d, _, h5, rfl, this.1, this.2⟩
theorem sta8 (C : CalA P w K mg base T) (hr : RoomA A s f c) (hn : n + 100 ≤ B) : Fin (XA P w K mg base f (.ref c) A outer s H0 E) [stA 8] (A2 T D n many BestAt) (fun v H => v = .bl true ∧ DrawAt D (n + 3) H ∧ Tabs T H) := by
  refine ⟨_, pss_one (ps_ret (pe_and (pe_chain op_le op_le (pv 7) (pv 5) (pe_op op_add (pv 7) pe_int)) (pe_one (pe_h C.GR hr (by decide) (by rfl) pass0 (pa_cons (pv 0) (pa_cons (pv 1) (pa_cons (pv 3) pa_nil))))))), ?_⟩
  rintro Dn σ H ⟨x, a, xs, ps, b, ys, ls, rfl, I, d, best, h5, h7, hb1, hb2⟩ hN
  have len := I.len
  have m1 := I.ai.m1
  refine ⟨_, congrArg some h7, _, congrArg some h5, _, _, rfl, rfl, _, rfl, ?_⟩
  rw [decide_eq_true hb1]
  refine iteT ⟨_, congrArg some h7, _, _, rfl, rfl, _, _, rfl, rfl, _, rfl, ?_⟩
  rw [decide_eq_true hb2]
  refine iteT ⟨_, congrArg some I.ai.x0, _, congrArg some I.ai.x1, _, congrArg some I.x3, D, n, many, b, ys, ls, rfl, by omega, I.hb, I.hy, I.arc.gaps, len.1, len.2.1, by omega, I.ai.m16, I.ne, I.ai.dr, I.b1, I.b2, fun H1 d1 f1 => ?_⟩
  exact hN _ _ ⟨rfl, d1, Tabs.fr I.ai.tb I.ai.dr f1⟩
end
section
variable {P : Program} {w : World} {K : PySem.W.Frag} {mg : Str → Option Value} {base : Heap} {T : List (Addr × Str)}
theorem ok_ar {f c Pt : Addr} {oc kV doc pm ct : Value} {od an : Option Addr} {osl : Array (Option Value)} (lk : K.lookup f = some ⟨oc, od, .func (PySem.W.fnOf "_law_arcs_right" "_law_arcs_right" (defArgs sAR) (defBody sAR) (defScope sAR) .none kV doc pm an (.ref c) ct), osl⟩) (hcd : PySem.W.codeIn K (.ref c) "_law_arcs_right" = true)
    (C : CalA P w K mg base T) (TB : LamX.TabB base mg c Pt) (hT : TOkA T Pt) :
    FnOk P w K mg base CX0 25 f (PySem.W.fnOf "_law_arcs_right" "_law_arcs_right" (defArgs sAR) (defBody sAR) (defScope sAR) .none kV doc pm an (.ref c) ct) ["state", "many_here"] (spSR T) := by
  refine fn_of lk hcd scAR (fun vs H Q E h => ?_) fun A outer s H vs Q E hr h => ?_
  · obtain ⟨D, n, many, rfl, _⟩ := h
    rfl
  · obtain ⟨D, n, many, rfl, hn, m1, m16, dr, tb, q⟩ := h
    have body : Fin (XA P w K mg base f (.ref c) A outer s H E) [stA 0, stA 1, stA 2, stA 3, stA 4, stA 5, stA 6, stA 7, stA 8] (A0 T D n many) (fun v H' => v = .bl true ∧ DrawAt D (n + 17 + 3) H' ∧ Tabs T H') :=
      fin_cons (sta0 C hr (by omega)) (fin_cons (sta1 C hr) (fin_cons (sta2 C hr TB hT) (fin_cons (sta3 C hr) (fin_cons (sta4 C hr) (fin_cons sta5 (fin_cons (sta6 C hr) (fin_cons (sta7 C) (sta8 C hr (by omega)))))))))
    obtain ⟨t, p, r⟩ := body
    have p' : PSs (XA P w K mg base f (.ref c) A outer s H E) (defBody sAR) t := p
    refine ⟨t, p'.nox, r _ _ _ ⟨fun i => (L2.start nAR [V.ref D.d, .int many]).getD i none, rfl, rfl, rfl, m1, m16, dr, tb⟩ ?_⟩
    rintro v H' ⟨rfl, d, t'⟩
    exact q H' d t'
end
end Lm
/-! The law of k43: a lap. -/
namespace Lm
open PySem PySem.Spec PyProof.Rows L2 LamX
theorem num_add {one two : Hm.Lots} {a : Int} {i j k : Nat} (h1 : ∀ l ∈ one, ∀ x ∈ l, x < a) (h2 : ∀ l ∈ two, ∀ x ∈ l, 0 ≤ x) (hi : Hm.Num one i) (hj : Hm.Num two j) (hk : Hm.Num (one ++ Hm.movL a two) k) : k = i + j := by
  have up : k ≤ i + j := by
    obtain ⟨gs, g1, g2⟩ := hi.1
    obtain ⟨hs, s1, s2⟩ := hj.1
    have c : Hm.Can (one ++ Hm.movL a two) (i + j) := by
      refine ⟨gs ++ hs.map (· + a), by rw [List.length_append, List.length_map]; omega, fun l hl => ?_⟩
      rcases List.mem_append.mp hl with hl | hl
      · obtain ⟨g, a1, a2⟩ := g2 l hl
        exact ⟨g, a1, List.mem_append_left _ a2⟩
      · obtain ⟨l0, h0, rfl⟩ := List.mem_map.mp hl
        obtain ⟨g, a1, a2⟩ := s2 l0 h0
        exact ⟨g + a, List.mem_map.mpr ⟨g, a1, rfl⟩, List.mem_append_right _ (List.mem_map.mpr ⟨g, a2, rfl⟩)⟩
    by_cases e : k ≤ i + j
    · exact e
    · exact absurd c (hk.2 (i + j) (by omega))
  obtain ⟨gs, g1, g2⟩ := hk.1
  have fl := Hm.filter_two (fun x => decide (x < a)) gs
  have c1 : i ≤ (gs.filter fun x => decide (x < a)).length := by
    by_cases e : i ≤ (gs.filter fun x => decide (x < a)).length
    · exact e
    · refine absurd ⟨_, Nat.le_refl _, fun l hl => ?_⟩ (hi.2 (gs.filter fun x => decide (x < a)).length (by omega))
      obtain ⟨g, a1, a2⟩ := g2 l (List.mem_append_left _ hl)
      exact ⟨g, a1, List.mem_filter.mpr ⟨a2, decide_eq_true (h1 l hl g a1)⟩⟩
  have c2 : j ≤ (gs.filter fun x => !decide (x < a)).length := by
    by_cases e : j ≤ (gs.filter fun x => !decide (x < a)).length
    · exact e
    · refine absurd ⟨(gs.filter fun x => !decide (x < a)).map (· - a), by rw [List.length_map]; exact Nat.le_refl _, fun l hl => ?_⟩ (hj.2 (gs.filter fun x => !decide (x < a)).length (by omega))
      obtain ⟨g, a1, a2⟩ := g2 (l.map (· + a)) (List.mem_append_right _ (List.mem_map.mpr ⟨l, hl, rfl⟩))
      obtain ⟨y, hy, rfl⟩ := List.mem_map.mp a1
      have := h2 l hl y hy
      refine ⟨y, hy, List.mem_map.mpr ⟨y + a, List.mem_filter.mpr ⟨a2, ?_⟩, by omega⟩⟩
      rw [Bool.not_eq_true', decide_eq_false_iff_not]
      omega
  omega
/-- the lots that are none of the empty ones -/
def full (ls : Hm.Lots) : Hm.Lots := ls.filter fun l => !decide (l = [])
theorem full_mem {ls : Hm.Lots} {l : List Int} (h : l ∈ full ls) : l ∈ ls := (List.mem_filter.mp h).1
theorem full_ne (ls : Hm.Lots) : [] ∉ full ls := fun h => by
  have := (List.mem_filter.mp h).2
  simp at this
theorem full_gaps {n : Int} {ls : Hm.Lots} (h : GapsOk n ls) : GapsOk n (full ls) := fun l hl => h l (full_mem hl)
theorem full_len (ls : Hm.Lots) : (full ls).length ≤ ls.length := List.length_filter_le _ _
theorem mov_gaps {n a m : Int} {ls : Hm.Lots} (h : GapsOk n ls) (a0 : 0 ≤ a) (hm : n + a ≤ m) : GapsOk m (Hm.movL a ls) := fun l hl => by
  obtain ⟨l0, h0, rfl⟩ := List.mem_map.mp hl
  obtain ⟨h1, h2⟩ := h l0 h0
  refine ⟨fun x hx => ?_, ?_⟩
  · obtain ⟨y, hy, rfl⟩ := List.mem_map.mp hx
    have := h1 y hy
    omega
  · unfold Hm.Asc
    rw [List.pairwise_map]
    exact h2.imp fun h => by omega
theorem gaps_le {n m : Int} {ls : Hm.Lots} (h : GapsOk n ls) (hm : n ≤ m) : GapsOk m ls := fun l hl => ⟨fun x hx => by have := (h l hl).1 x hx; omega, (h l hl).2⟩
theorem gaps_app {n : Int} {ls ms : Hm.Lots} (h : GapsOk n ls) (k : GapsOk n ms) : GapsOk n (ls ++ ms) := fun l hl => (List.mem_append.mp hl).elim (h l) (k l)
theorem both_ne {a : Int} {one two : Hm.Lots} (h1 : [] ∉ one) (h2 : [] ∉ two) : [] ∉ one ++ Hm.movL a two := fun z => by
  rcases List.mem_append.mp z with h | h
  · exact h1 h
  · obtain ⟨l, hl, e⟩ := List.mem_map.mp h
    rw [List.map_eq_nil_iff] at e
    exact h2 (e ▸ hl)
section
variable {P : Program} {w : World} {K : PySem.W.Frag} {mg : Str → Option Value} {base : Heap}
abbrev sLaw : Stmt := topS 45
def nLaw : List Str := ["script", "state", "turn", "many_here", "one", "two", "moved", "lot", "gap"]
theorem scLaw : FnScope nLaw ["script"] (defScope sLaw) := ⟨rfl, rfl, rfl, by decide +kernel, rfl, by decide +kernel, by decide +kernel⟩
def forBody : Stmt → List Stmt
  | .For (body := b) .. => b
  | _ => []
def lawSt (i : Nat) : Stmt := (forBody ((defBody sLaw).getD 1 (.Pass ⟨0, 0, 0, 0⟩))).getD i (.Pass ⟨0, 0, 0, 0⟩)
def SL (x : Nat → Option V) : L2.St := [x 0, x 1, x 2, x 3, x 4, x 5, x 6, x 7, x 8]
abbrev XL (P : Program) (w : World) (K : PySem.W.Frag) (mg : Str → Option Value) (base : Heap) (f : Addr) (cdv : Value) (A : Around) (outer : List Env) (s : Shared) (H : Hp) (E : XK) : Cx := (cxOf C8.CX0 P w K mg base nLaw "law" (defScope sLaw) f cdv A outer s H E).nox
structure CalL (P : Program) (w : World) (K : PySem.W.Frag) (mg : Str → Option Value) (base : Heap) (T : List (Addr × Str)) : Prop where
  N : Bl mg
  GB : Has P w K mg base CX0 1 "_law_begun" ["script"] (spBegun K)
  GT : Has P w K mg base CX0 2 "_law_draw" ["state", "size_here"] spTake
  GD : Has P w K mg base CX0 3 "_law_drawn_lots" ["state", "many_here"] spDrawn
  GZ : Has P w K mg base CX0 23 "_law_size" ["many_here", "lots"] spSize
  GL : Has P w K mg base CX0 22 "least_hits" ["many", "lots"] spLeast0
  GS : Has P w K mg base CX0 25 "_law_stretches_right" ["state", "many_here"] (spSR T)
  GA : Has P w K mg base CX0 25 "_law_arcs_right" ["state", "many_here"] (spSR T)
end
section
variable {P : Program} {w : World} {K : PySem.W.Frag} {mg : Str → Option Value} {base : Heap} {f : Addr} {cdv : Value} {A : Around} {outer : List Env} {s : Shared} {H0 : Hp} {E : XK} {T : List (Addr × Str)} {D : DrA} {n : Nat}
abbrev LX (P : Program) (w : World) (K : PySem.W.Frag) (mg : Str → Option Value) (base : Heap) (f : Addr) (cdv : Value) (A : Around) (outer : List Env) (s : Shared) (H : Hp) (E : XK) (i : Nat) (I J : L2.St → Hp → Prop) : Prop := Step (XL P w K mg base f cdv A outer s H E) (lawSt i) I J
abbrev RoomL (A : Around) (s : Shared) (f : Addr) (cdv : Value) : Prop := Room 26 (A.deeper (envOfC "law" (defScope sLaw) s.heap.objs.size f cdv))
def L0 (T : List (Addr × Str)) (D : DrA) (n : Nat) : L2.St → Hp → Prop := fun σ H => ∃ x, σ = SL x ∧ x 1 = some (.ref D.d) ∧ DrawAt D n H ∧ Tabs T H
def L1 (T : List (Addr × Str)) (D : DrA) (n : Nat) : L2.St → Hp → Prop := fun σ H => ∃ x m, σ = SL x ∧ x 1 = some (.ref D.d) ∧ x 3 = some (.int m) ∧ 4 ≤ m ∧ m ≤ 16 ∧ DrawAt D n H ∧ Tabs T H
/-- lots at i -/
def LotsAt (D : DrA) (i : Nat) (ls : Hm.Lots) (x : Nat → Option V) (H : Hp) : Prop := ∃ a xs, x i = some (.ref a) ∧ H a = some (.lst xs) ∧ LsAt H xs ls ∧ a ≠ D.d ∧ a ≠ D.w
theorem LotsAt.sm {i : Nat} {ls : Hm.Lots} {x : Nat → Option V} {H H' : Hp} (h : LotsAt D i ls x H) (t : Same H H') : LotsAt D i ls x H' := by
  obtain ⟨a, xs, h1, h2, h3, h4⟩ := h
  exact ⟨a, xs, h1, t _ _ h2, h3.sm t, h4⟩
theorem LotsAt.fr {i k : Nat} {ls : Hm.Lots} {x : Nat → Option V} {H H' : Hp} (h : LotsAt D i ls x H) (d : DrawAt D k H) (t : Fr D H H') : LotsAt D i ls x H' := by
  obtain ⟨a, xs, h1, h2, h3, h4, h5⟩ := h
  exact ⟨a, xs, h1, t _ _ h2 h4 h5, h3.fr d t, h4, h5⟩
structure LI (T : List (Addr × Str)) (D : DrA) (n : Nat) (one two : Hm.Lots) (x : Nat → Option V) (H : Hp) : Prop where
  x1 : x 1 = some (.ref D.d)
  dr : DrawAt D n H
  tb : Tabs T H
  a1 : LotsAt D 4 one x H
  a2 : LotsAt D 5 two x H
  g1 : GapsOk 4 one
  g2 : GapsOk 5 two
  l1 : one.length ≤ 7
  l2 : two.length ≤ 7
theorem LI.sm {one two : Hm.Lots} {x : Nat → Option V} {H H' : Hp} (I : LI T D n one two x H) (t : Same H H') : LI T D n one two x H' := ⟨I.x1, I.dr.sm t, I.tb.ext t, I.a1.sm t, I.a2.sm t, I.g1, I.g2, I.l1, I.l2⟩
theorem LI.lots1 {one two : Hm.Lots} {x : Nat → Option V} {H : Hp} (I : LI T D n one two x H) : ∃ v, x 4 = some v ∧ LotsD D H v 4 one := by
  obtain ⟨a, xs, h1, h2, h3, h4, h5⟩ := I.a1
  exact ⟨_, h1, lots_at I.dr h2 h3 h4 h5 I.g1 (by decide) (by decide) (by have := I.l1; omega)⟩
theorem LI.lots2 {one two : Hm.Lots} {x : Nat → Option V} {H : Hp} (I : LI T D n one two x H) : ∃ v, x 5 = some v ∧ LotsD D H v 5 two := by
  obtain ⟨a, xs, h1, h2, h3, h4, h5⟩ := I.a2
  exact ⟨_, h1, lots_at I.dr h2 h3 h4 h5 I.g2 (by decide) (by decide) (by have := I.l2; omega)⟩
theorem stl0 (C : CalL P w K mg base T) (hr : RoomL A s f cdv) (hn : n + 1000 ≤ B) : LX P w K mg base f cdv A outer s H0 E 0 (L0 T D n) (L1 T D (n + 1)) := by
  refine ⟨_, ps_set (i := 3) scLaw.nd rfl (.inl rfl) (pe_op op_add pe_int (pe_h C.GT hr (by decide) (by rfl) pass0 (pa_cons (pv 1) (pa_cons pe_int pa_nil)))), ?_⟩
  rintro Dn σ H ⟨x, rfl, h1, dr, tb⟩ hN
  refine ⟨_, congrArg some h1, D, n, 9, rfl, dr, by omega, by decide, by decide, fun H1 u d1 f1 u0 u8 => ⟨_, _, rfl, rfl, ?_⟩⟩
  exact hN _ _ ⟨sx x 3 (some (.int (4 + u))), 4 + u, rfl, h1, rfl, by omega, by omega, d1, Tabs.fr tb dr f1⟩
theorem stl1 (C : CalL P w K mg base T) (hr : RoomL A s f cdv) (hn : n + 1000 ≤ B) : LX P w K mg base f cdv A outer s H0 E 1 (L1 T D n) (L0 T D (n + 40)) := by
  refine ⟨_, ps_if (pw_or (pt_not (pt_val (pe_h C.GS hr (by decide) (by rfl) pass0 (pa_cons (pv 1) (pa_cons (pv 3) pa_nil))))) (pw_or1 (pt_not (pt_val (pe_h C.GA hr (by decide) (by rfl) pass0 (pa_cons (pv 1) (pa_cons (pv 3) pa_nil))))))).pt (pss_one (ps_ret pe_bl)) pss_nil, ?_⟩
  rintro Dn σ H ⟨x, m, rfl, h1, h3, m1, m16, dr, tb⟩ hN
  refine ⟨_, congrArg some h1, _, congrArg some h3, D, n, m, rfl, by omega, m1, m16, dr, tb, fun H1 d1 t1 => ⟨_, rfl, ?_⟩⟩
  refine iteF ⟨_, congrArg some h1, _, congrArg some h3, D, n + 20, m, rfl, by omega, m1, m16, d1, t1, fun H2 d2 t2 => ⟨_, rfl, ?_⟩⟩
  exact iteF (hN _ _ ⟨x, rfl, h1, d2, t2⟩)
theorem stl2 (C : CalL P w K mg base T) (hr : RoomL A s f cdv) (hn : n + 1000 ≤ B) : LX P w K mg base f cdv A outer s H0 E 2 (L0 T D n) (fun σ H => ∃ x one two, σ = SL x ∧ LI T D (n + 200) one two x H) := by
  refine ⟨_, ps_par (i := 4) (j := 5) rfl scLaw.nd rfl rfl (by decide) rfl rfl (pa_cons (pe_h C.GD hr (by decide) (by rfl) pass0 (pa_cons (pv 1) (pa_cons pe_int pa_nil))) (pa_cons (pe_h C.GD hr (by decide) (by rfl) pass0 (pa_cons (pv 1) (pa_cons pe_int pa_nil))) pa_nil)) rfl, ?_⟩
  rintro Dn σ H ⟨x, rfl, h1, dr, tb⟩ hN
  refine ⟨_, congrArg some h1, D, n, 4, rfl, dr, by omega, by decide, by decide, fun H1 a1 ys1 one na1 ha1 hy1 l1 g1 d1 f1 => ?_⟩
  have o1 := dr.off na1
  have t1 := Tabs.fr tb dr f1
  refine ⟨_, congrArg some h1, D, n + 100, 5, rfl, d1, by omega, by decide, by decide, fun H2 a2 ys2 two na2 ha2 hy2 l2 g2 d2 f2 => ⟨_, _, rfl, ?_⟩⟩
  have o2 := d1.off na2
  exact hN _ _ ⟨sx (sx x 4 (some (.ref a1))) 5 (some (.ref a2)), one, two, rfl, h1, d2, Tabs.fr t1 d1 f2, ⟨a1, ys1, rfl, f2 _ _ ha1 o1.1 o1.2, hy1.fr d1 f2, o1⟩, ⟨a2, ys2, rfl, ha2, hy2, o2⟩, g1, g2, l1, l2⟩
end
end Lm
/-! The law of k43: the rest of a lap. -/
namespace Lm
open PySem PySem.Spec PyProof.Rows L2 LamX
section
variable {P : Program} {w : World} {K : PySem.W.Frag} {mg : Str → Option Value} {base : Heap} {f : Addr} {cdv : Value} {A : Around} {outer : List Env} {s : Shared} {H0 : Hp} {E : XK} {T : List (Addr × Str)} {D : DrA} {n : Nat}
def L3 (T : List (Addr × Str)) (D : DrA) (n : Nat) : L2.St → Hp → Prop := fun σ H => ∃ x one two, σ = SL x ∧ LI T D n one two x H ∧ [] ∉ one ∧ [] ∉ two
theorem stl3 (C : CalL P w K mg base T) (hr : RoomL A s f cdv) : LX P w K mg base f cdv A outer s H0 E 3 (fun σ H => ∃ x one two, σ = SL x ∧ LI T D n one two x H) (L3 T D n) := by
  refine ⟨_, ps_par (i := 4) (j := 5) rfl scLaw.nd rfl rfl (by decide) rfl rfl (pa_cons
    (pe_lc (own := [("lot", 7)]) (g := gName 7) rfl scLaw.nd (pi_listK K (pv 4)) (blkOk_by (own := [("lot", 7)]) (N := nLaw) (sc := defScope sLaw) (by decide +kernel)) (fun _ _ _ _ _ => pg_name (i := 7) scLaw.nd rfl (Or.inl rfl))
      (fun _ _ _ _ _ => pts_one (pt_cmpR (show OpR _ _ (rNeD K) from op_neD hr.units) (pv 7) (pe_tup pa_nil) (nomark _))) (fun _ _ _ _ _ => pv 7)) (pa_cons
    (pe_lc (own := [("lot", 7)]) (g := gName 7) rfl scLaw.nd (pi_listK K (pv 5)) (blkOk_by (own := [("lot", 7)]) (N := nLaw) (sc := defScope sLaw) (by decide +kernel)) (fun _ _ _ _ _ => pg_name (i := 7) scLaw.nd rfl (Or.inl rfl))
      (fun _ _ _ _ _ => pts_one (pt_cmpR (show OpR _ _ (rNeD K) from op_neD hr.units) (pv 7) (pe_tup pa_nil) (nomark _))) (fun _ _ _ _ _ => pv 7)) pa_nil)) rfl, ?_⟩
  rintro Dn σ H ⟨x, one, two, rfl, I⟩ hN
  obtain ⟨a, xs, h4, ha, hla, b1a, b2a⟩ := I.a1
  have l7a := I.l1
  refine ⟨_, congrArg some h4, a, rfl, ⟨_, SqL.of ha⟩, fun Ra nRa => lc_list (K := K) (a := a) (xs := xs) (fun i H' => Same H H' ∧ ∃ ys, H' Ra = some (.lst ys) ∧ LsAt H' ys (full (one.take i))) ⟨same_upd nRa, [], upd_same, .nil⟩ (fun i H' _ h => SqL.of (h.1 _ _ ha)) ?_ ?_⟩
  · rintro i v H' hxi ⟨s1, ys, hR, hy⟩
    obtain ⟨l, hli, b, rfl, hb⟩ := hla.get hxi
    have st := filter_take_succ (p := fun l : List Int => !decide (l = [])) hli
    have st : full (one.take (i + 1)) = full (one.take i) ++ (if (!decide (l = [])) = true then [l] else []) := st
    have hyl : ys.length ≤ 7 := by
      rw [hy.len]
      refine Nat.le_trans (full_len _) ?_
      rw [List.length_take]
      omega
    refine ⟨rfl, _, rfl, (by show 0 ≤ sizeLine; decide), fun Z nZ => ?_⟩
    have s2 := same_upd (o := .tup []) nZ
    have s12 : Same H (upd H' Z (.tup [])) := fun b o e => s2 b o (s1 b o e)
    have hR2 := s2 _ _ hR
    refine ⟨lotD l, lotD [], dp_tup (s12 _ _ hb), dp_tup upd_same, shaped_lot _, shaped_lot _, _, rfl, ?_⟩
    rw [eqv_lots]
    cases hd : decide (l = []) with
    | true =>
      refine iteF ⟨s12, ys, hR2, ?_⟩
      rw [hd, if_neg (by decide), List.append_nil] at st
      rw [st]
      exact hy.sm s2
    | false =>
      rw [hd, if_pos (show (!false) = true from rfl)] at st
      refine iteT ⟨_, rfl, ys, hR2, small1000 (by omega), same_put s12 nRa, _, upd_same, ?_⟩
      rw [st]
      exact LsAt.snoc (LotAt.off (no_tup hR2) ⟨b, rfl, s12 _ _ hb⟩) ((hy.sm s2).off (no_tup hR2))
  rintro H1 ⟨sa, ya, hRa, hya⟩
  rw [hla.len, List.take_length] at hya
  have offa := I.dr.off nRa
  have I1 := I.sm sa
  obtain ⟨b, us, h5, hb, hlb, b1b, b2b⟩ := I1.a2
  have l7b := I1.l2
  refine ⟨_, congrArg some h5, b, rfl, ⟨_, SqL.of hb⟩, fun Rb nRb => lc_list (K := K) (a := b) (xs := us) (fun i H' => Same H1 H' ∧ ∃ ys, H' Rb = some (.lst ys) ∧ LsAt H' ys (full (two.take i))) ⟨same_upd nRb, [], upd_same, .nil⟩ (fun i H' _ h => SqL.of (h.1 _ _ hb)) ?_ ?_⟩
  · rintro i v H' hxi ⟨s1, ys, hR, hy⟩
    obtain ⟨l, hli, b, rfl, hb⟩ := hlb.get hxi
    have st := filter_take_succ (p := fun l : List Int => !decide (l = [])) hli
    have st : full (two.take (i + 1)) = full (two.take i) ++ (if (!decide (l = [])) = true then [l] else []) := st
    have hyl : ys.length ≤ 7 := by
      rw [hy.len]
      refine Nat.le_trans (full_len _) ?_
      rw [List.length_take]
      omega
    refine ⟨rfl, _, rfl, (by show 0 ≤ sizeLine; decide), fun Z nZ => ?_⟩
    have s2 := same_upd (o := .tup []) nZ
    have s12 : Same H1 (upd H' Z (.tup [])) := fun b o e => s2 b o (s1 b o e)
    have hR2 := s2 _ _ hR
    refine ⟨lotD l, lotD [], dp_tup (s12 _ _ hb), dp_tup upd_same, shaped_lot _, shaped_lot _, _, rfl, ?_⟩
    rw [eqv_lots]
    cases hd : decide (l = []) with
    | true =>
      refine iteF ⟨s12, ys, hR2, ?_⟩
      rw [hd, if_neg (by decide), List.append_nil] at st
      rw [st]
      exact hy.sm s2
    | false =>
      rw [hd, if_pos (show (!false) = true from rfl)] at st
      refine iteT ⟨_, rfl, ys, hR2, small1000 (by omega), same_put s12 nRb, _, upd_same, ?_⟩
      rw [st]
      exact LsAt.snoc (LotAt.off (no_tup hR2) ⟨b, rfl, s12 _ _ hb⟩) ((hy.sm s2).off (no_tup hR2))
  rintro H2 ⟨sb, yb, hRb, hyb⟩
  rw [hlb.len, List.take_length] at hyb
  have offb := I1.dr.off nRb
  have I2 := I1.sm sb
  refine ⟨_, _, rfl, ?_⟩
  refine hN _ _ ⟨sx (sx x 4 (some (.ref Ra))) 5 (some (.ref Rb)), full one, full two, rfl, ⟨I.x1, I2.dr, I2.tb, ⟨Ra, ya, rfl, sb _ _ hRa, hya.sm sb, offa⟩, ⟨Rb, yb, rfl, hRb, hyb, offb⟩, full_gaps I.g1, full_gaps I.g2, Nat.le_trans (full_len _) I.l1, Nat.le_trans (full_len _) I.l2⟩, full_ne _, full_ne _⟩
def L4 (T : List (Addr × Str)) (D : DrA) (n : Nat) : L2.St → Hp → Prop := fun σ H => ∃ x one two, σ = SL x ∧ LI T D n one two x H ∧ [] ∉ one ∧ [] ∉ two ∧ LotsAt D 6 (Hm.movL 4 two) x H
theorem stl4 (C : CalL P w K mg base T) : LX P w K mg base f cdv A outer s H0 E 4 (L3 T D n) (L4 T D n) := by
  refine ⟨_, ps_setLc (i := 6) (own := [("lot", 7)]) (g := gName 7) (tt := tYes) (by rfl) scLaw.nd rfl rfl (sw_true rfl rfl rfl (by decide +kernel)) (pi_listK K (pv 5))
        (blkOk_by (own := [("lot", 7)]) (N := nLaw) (sc := defScope sLaw) (by decide +kernel)) (fun _ _ _ _ _ => pg_name (i := 7) scLaw.nd rfl (Or.inl rfl)) (fun _ _ _ _ _ => pts_nil)
        (fun _ _ _ _ _ => pe_callTy (call_tupK K) (by rfl) C.N.btup (by decide +kernel) (pa_cons (pe_lc (own := [("gap", 8)]) (g := gName 8) (tt := tYes) rfl scLaw.nd (pi_tupK K (pv 7)) (blkOk_by (by show blkC nLaw ⟨.function, [(".0", .local), ("lot", .local), ("tuple", .globalImplicit)], false, false, []⟩ _ [("gap", 8)] = true; decide +kernel)) (fun _ _ _ _ _ => pg_name (i := 8) scLaw.nd rfl (Or.inl rfl))
              (fun _ _ _ _ _ => pts_nil) (fun _ _ _ _ _ => pe_op op_add (pv 8) pe_int)) pa_nil)), ?_⟩
  rintro Dn σ H ⟨x, one, two, rfl, I, n1, n2⟩ hN
  obtain ⟨a, xs, h5, ha, hl, b1, b2⟩ := I.a2
  have l7 := I.l2
  refine ⟨_, congrArg some h5, a, rfl, ⟨_, SqL.of ha⟩, fun R nR => lc_list (K := K) (a := a) (xs := xs) (fun i H' => Same H H' ∧ ∃ ys, H' R = some (.lst ys) ∧ LsAt H' ys (Hm.movL 4 (two.take i))) ⟨same_upd nR, [], upd_same, .nil⟩ (fun i H' _ h => SqL.of (h.1 _ _ ha)) ?_ ?_⟩
  · rintro i v H' hxi ⟨s1, ys, hR, hy⟩
    obtain ⟨l, hli, b, rfl, hb⟩ := hl.get hxi
    have hg := I.g2 l (List.mem_of_getElem? hli)
    have l16 := asc_len hg.2 hg.1
    have hyl : ys.length ≤ 7 := by
      rw [hy.len]
      unfold Hm.movL
      rw [List.length_map, List.length_take]
      omega
    refine ⟨rfl, _, rfl, b, rfl, ⟨_, SqT.of (s1 _ _ hb)⟩, fun R2 nR2 => lc_tup (K := K) (a := b) (xs := l.map V.int) (fun j H2 => Same H' H2 ∧ H2 R2 = some (.lst (((l.take j).map (· + 4)).map V.int))) ⟨same_upd nR2, upd_same⟩ (fun j H2 _ h => SqT.of (h.1 _ _ (s1 _ _ hb))) ?_ ?_⟩
    · rintro j v H2 hxj ⟨s2, hR2⟩
      obtain ⟨z, hz, rfl⟩ := int_at hxj
      refine ⟨rfl, _, rfl, _, _, rfl, rfl, _, hR2, small1000 (by rw [List.length_map, List.length_map, List.length_take]; omega), same_put s2 nR2, ?_⟩
      rw [List.take_add_one, hz, List.map_append, List.map_append]
      exact upd_same
    · rintro H2 ⟨s2, hR2⟩
      rw [List.length_map, List.take_length] at hR2
      refine ⟨R2, _, rfl, .inl ⟨SqL.of hR2, fun t nt => ?_⟩⟩
      have s3 := same_upd (o := .tup ((l.map (· + 4)).map V.int)) nt
      have s13 : Same H' (upd H2 t (.tup ((l.map (· + 4)).map V.int))) := fun b o e => s3 b o (s2 b o e)
      have ht : (upd H2 t (.tup ((l.map (· + 4)).map V.int))) t = some (.tup ((l.map (· + 4)).map V.int)) := upd_same
      have hR3 := s13 _ _ hR
      refine ⟨ys, hR3, small1000 (by omega), same_put (fun b o e => s13 b o (s1 b o e)) nR, _, upd_same, ?_⟩
      have e : Hm.movL 4 (two.take (i + 1)) = Hm.movL 4 (two.take i) ++ [l.map (· + 4)] := by
        rw [List.take_add_one, hli]
        unfold Hm.movL
        rw [List.map_append]
        rfl
      rw [e]
      exact LsAt.snoc (LotAt.off (no_tup hR3) ⟨t, rfl, ht⟩) ((hy.sm s13).off (no_tup hR3))
  · rintro H1 ⟨s1, ys, hR, hy⟩
    rw [hl.len, List.take_length] at hy
    have off := I.dr.off nR
    have I1 := I.sm s1
    exact hN _ _ ⟨sx x 6 (some (.ref R)), one, two, rfl, ⟨I1.x1, I1.dr, I1.tb, I1.a1, I1.a2, I1.g1, I1.g2, I1.l1, I1.l2⟩, n1, n2, R, ys, rfl, hR, hy, off⟩
theorem cat_lots {one two : Hm.Lots} {x : Nat → Option V} {H : Hp} {Q : VK} (I : LI T D n one two x H) (h6 : LotsAt D 6 (Hm.movL 4 two) x H) : ∃ v4 v6, x 4 = some v4 ∧ x 6 = some v6 ∧ ((∀ (p : Addr) H', Same H H' → LotsD D H' (.ref p) 9 (one ++ Hm.movL 4 two) → Q (.ref p) H') → rCat v4 v6 H Q) := by
  obtain ⟨a, xs, k1, k2, k3, k4, k5⟩ := I.a1
  obtain ⟨b, ys, m1, m2, m3, m4, m5⟩ := h6
  have l1 := I.l1
  have l2 := I.l2
  have e1 := k3.len
  have e2 := m3.len
  have e3 : (Hm.movL 4 two).length = two.length := List.length_map ..
  refine ⟨_, _, k1, m1, fun q => ⟨a, b, xs, ys, rfl, rfl, k2, m2, Nat.le_of_lt (small1000 (by omega)), fun p np => ?_⟩⟩
  have s1 := same_upd (o := .lst (xs ++ ys)) np
  have off := I.dr.off np
  exact q p _ s1 (lots_at (I.dr.sm s1) upd_same ((k3.sm s1).app (m3.sm s1)) off.1 off.2 (gaps_app (gaps_le I.g1 (by decide)) (mov_gaps I.g2 (by decide) (by decide))) (by decide) (by decide) (by rw [List.length_append]; omega))
theorem stl5 (C : CalL P w K mg base T) (hr : RoomL A s f cdv) : LX P w K mg base f cdv A outer s H0 E 5 (L4 T D n) (L4 T D n) := by
  refine ⟨_, ps_if (pt_cmpR op_ne (pe_h C.GZ hr (by decide) (by rfl) pass0 (pa_cons pe_int (pa_cons (pe_op op_cat (pv 4) (pv 6)) pa_nil))) (pe_op op_add (pe_h C.GZ hr (by decide) (by rfl) pass0 (pa_cons pe_int (pa_cons (pv 4) pa_nil))) (pe_h C.GZ hr (by decide) (by rfl) pass0 (pa_cons pe_int (pa_cons (pv 5) pa_nil)))) (nomark _)) (pss_one (ps_ret pe_bl)) pss_nil, ?_⟩
  rintro Dn σ H ⟨x, one, two, rfl, I, n1, n2, h6⟩ hN
  obtain ⟨v4, v6, e4, e6, q⟩ := cat_lots I h6
  refine ⟨_, congrArg some e4, _, congrArg some e6, q fun p H1 s1 hL => ?_⟩
  refine ⟨D, 9, _, _, rfl, hL, both_ne n1 n2, fun H2 k s2 hk => ?_⟩
  have s12 : Same H H2 := fun b o e => s2 b o (s1 b o e)
  have I2 := I.sm s12
  obtain ⟨u4, f4, hL4⟩ := I2.lots1
  refine ⟨_, congrArg some f4, D, 4, _, _, rfl, hL4, n1, fun H3 i s3 hi => ?_⟩
  have I3 := I2.sm s3
  obtain ⟨u5, f5, hL5⟩ := I3.lots2
  refine ⟨_, congrArg some f5, D, 5, _, _, rfl, hL5, n2, fun H4 j s4 hj => ?_⟩
  have e : k = i + j := num_add (fun l hl y hy => ((I.g1 l hl).1 y hy).2) (fun l hl y hy => ((I.g2 l hl).1 y hy).1) hi hj hk
  refine ⟨_, _, rfl, rfl, rfl, _, rfl, ?_⟩
  have ev : (V.int ((k : Nat) : Int)) = V.int (((i : Nat) : Int) + ((j : Nat) : Int)) := by rw [e, Int.natCast_add]
  rw [decide_eq_true ev]
  have s34 : Same H H4 := fun b o e => s4 b o (s3 b o (s12 b o e))
  exact iteF (hN _ _ ⟨x, one, two, rfl, I.sm s34, n1, n2, h6.sm s34⟩)
theorem stl6 (C : CalL P w K mg base T) (hr : RoomL A s f cdv) : LX P w K mg base f cdv A outer s H0 E 6 (L4 T D n) (L0 T D n) := by
  refine ⟨_, ps_if (pt_cmpR (op_neD hr.units) (pe_h C.GL hr (by decide) (by rfl) pass0 (pa_cons pe_int (pa_cons (pe_op op_cat (pv 4) (pv 6)) pa_nil)))
    (pe_op op_catA (pe_h C.GL hr (by decide) (by rfl) pass0 (pa_cons pe_int (pa_cons (pv 4) pa_nil))) (pe_callTy (call_tupK K) (by rfl) C.N.btup (by decide +kernel) (pa_cons
      (pe_lc (own := [("gap", 8)]) (g := gName 8) (tt := tYes) rfl scLaw.nd (pi_tupK K (pe_h C.GL hr (by decide) (by rfl) pass0 (pa_cons pe_int (pa_cons (pv 5) pa_nil)))) (blkOk_by (own := [("gap", 8)]) (N := nLaw) (sc := defScope sLaw) (by decide +kernel)) (fun _ _ _ _ _ => pg_name (i := 8) scLaw.nd rfl (Or.inl rfl))
        (fun _ _ _ _ _ => pts_nil) (fun _ _ _ _ _ => pe_op op_add (pv 8) pe_int)) pa_nil))) (nomark _)) (pss_one (ps_ret pe_bl)) pss_nil, ?_⟩
  rintro Dn σ H ⟨x, one, two, rfl, I, n1, n2, h6⟩ hN
  obtain ⟨v4, v6, e4, e6, q⟩ := cat_lots I h6
  refine ⟨_, congrArg some e4, _, congrArg some e6, q fun p H1 s1 hL => ?_⟩
  refine ⟨D, 9, _, _, rfl, hL, fun H2 v2 s2 hv2 => ?_⟩
  obtain ⟨q1, F, rfl, hq1, FF⟩ := first_of hv2 (both_ne n1 n2)
  have s12 : Same H H2 := fun b o e => s2 b o (s1 b o e)
  have I2 := I.sm s12
  obtain ⟨u4, f4, hL4⟩ := I2.lots1
  refine ⟨_, congrArg some f4, D, 4, _, _, rfl, hL4, fun H3 v3 s3 hv3 => ?_⟩
  obtain ⟨q2, g1, rfl, hq2, F1⟩ := first_of hv3 n1
  have I3 := I2.sm s3
  obtain ⟨u5, f5, hL5⟩ := I3.lots2
  refine ⟨_, congrArg some f5, D, 5, _, _, rfl, hL5, fun H4 v4 s4 hv4 => ?_⟩
  obtain ⟨q3, g2, rfl, hq3, F2⟩ := first_of hv4 n2
  have I4 := I3.sm s4
  have z1 := asc_len F1.asc F1.low
  have z2 := asc_len F2.asc F2.low
  have eF : F = g1 ++ g2.map (· + 4) := Hm.first_same FF (Hm.first_add (by decide) (by decide) F1 F2 (fun l hl => (I.g1 l hl).1) (fun l hl => (I.g2 l hl).1)) fun t => Iff.rfl
  refine ⟨q3, rfl, ⟨_, SqT.of hq3⟩, fun R nR => lc_tup (K := K) (a := q3) (xs := g2.map V.int) (fun j H' => Same H4 H' ∧ H' R = some (.lst (((g2.take j).map (· + 4)).map V.int))) ⟨same_upd nR, upd_same⟩ (fun j H' _ h => SqT.of (h.1 _ _ hq3)) ?_ ?_⟩
  · rintro j v H' hxj ⟨s5, hR⟩
    obtain ⟨z, hz, rfl⟩ := int_at hxj
    refine ⟨rfl, _, rfl, _, _, rfl, rfl, _, hR, small1000 (by rw [List.length_map, List.length_map, List.length_take]; omega), same_put s5 nR, ?_⟩
    rw [List.take_add_one, hz, List.map_append, List.map_append]
    exact upd_same
  · rintro H5 ⟨s5, hR⟩
    rw [List.length_map, List.take_length] at hR
    refine ⟨R, _, rfl, .inl ⟨SqL.of hR, fun t nt => ?_⟩⟩
    have s6 := same_upd (o := .tup ((g2.map (· + 4)).map V.int)) nt
    have ht : (upd H5 t (.tup ((g2.map (· + 4)).map V.int))) t = some (.tup ((g2.map (· + 4)).map V.int)) := upd_same
    have s36 : Same H3 (upd H5 t (.tup ((g2.map (· + 4)).map V.int))) := fun b o e => s6 b o (s5 b o (s4 b o e))
    generalize upd H5 t (.tup ((g2.map (· + 4)).map V.int)) = H6 at *
    have I6 := I3.sm s36
    have hq1' : H6 q1 = some (.tup (F.map V.int)) := s36 _ _ (s3 _ _ hq1)
    have hq2' := s36 _ _ hq2
    have fin : ∀ (H7 : Hp) (v : Addr) {R1 R2 : Prop}, Same H6 H7 → H7 v = some (.tup (F.map V.int)) → (∀ H8, Same H6 H8 → Dn.nx (SL x) H8) → ∃ d e, Dp K H7 (.ref q1) d ∧ Dp K H7 (.ref v) e ∧ SeqAt.shaped d = true ∧ SeqAt.shaped e = true ∧ ∃ k, V.bl (!PyData.eqv d e) = .bl k ∧ (if k = true then tRet (tC (V.bl false)) Dn (SL x) H7 else tNext Dn (SL x) H7) := fun H7 v _ _ s7 hv hh => by
      refine ⟨lotD F, lotD F, dp_tup (s7 _ _ hq1'), dp_tup hv, shaped_lot _, shaped_lot _, _, rfl, ?_⟩
      rw [eqv_lots, decide_eq_true rfl]
      exact iteF (hh H7 s7)
    have hh : ∀ H8, Same H6 H8 → Dn.nx (SL x) H8 := fun H8 s8 => hN _ _ ⟨x, rfl, I.x1, (I6.sm s8).dr, (I6.sm s8).tb⟩
    refine ⟨q2, t, _, _, rfl, rfl, SqT.of hq2', SqT.of ht, ?_, fun z => ?_, fun _ z => ?_, fun _ _ r nr => ?_⟩
    · rw [List.length_map, List.length_map, List.length_map]
      exact Nat.le_of_lt (small1000 (by omega))
    · have g0 : g1 = [] := List.map_eq_nil_iff.mp z
      exact fin H6 t (R1 := True) (R2 := True) (fun _ _ e => e) (by rw [eF, g0]; exact ht) hh
    · have g0 : g2.map (· + 4) = [] := List.map_eq_nil_iff.mp z
      exact fin H6 q2 (R1 := True) (R2 := True) (fun _ _ e => e) (by rw [eF, g0, List.append_nil]; exact hq2') hh
    · have s7 := same_upd (o := .tup (g1.map V.int ++ (g2.map (· + 4)).map V.int)) nr
      exact fin _ r (R1 := True) (R2 := True) s7 (by rw [eF, List.map_append]; exact upd_same) hh
end
end Lm
/-! The law of k43. -/
namespace Lm
open PySem PySem.Spec PyProof.Rows L2 LamX
def exL : Hm.Lots := [[0, 1], [1, 2], [0, 2]]
theorem ex_gaps : GapsOk 3 exL := fun l hl => by
  have hl : l = [0, 1] ∨ l = [1, 2] ∨ l = [0, 2] := by simpa [exL] using hl
  rcases hl with rfl | rfl | rfl
  · exact ⟨fun x hx => by have hx : x = 0 ∨ x = 1 := by simpa using hx
                          omega, by unfold Hm.Asc; decide⟩
  · exact ⟨fun x hx => by have hx : x = 1 ∨ x = 2 := by simpa using hx
                          omega, by unfold Hm.Asc; decide⟩
  · exact ⟨fun x hx => by have hx : x = 0 ∨ x = 2 := by simpa using hx
                          omega, by unfold Hm.Asc; decide⟩
theorem ex_hit {t : List Int} : Hm.hitsL exL t ↔ (0 ∈ t ∨ 1 ∈ t) ∧ (1 ∈ t ∨ 2 ∈ t) ∧ (0 ∈ t ∨ 2 ∈ t) := by
  unfold Hm.hitsL exL
  constructor
  · intro h
    refine ⟨?_, ?_, ?_⟩
    · obtain ⟨g, a, b⟩ := h [0, 1] (by simp)
      have a : g = 0 ∨ g = 1 := by simpa using a
      rcases a with rfl | rfl
      · exact .inl b
      · exact .inr b
    · obtain ⟨g, a, b⟩ := h [1, 2] (by simp)
      have a : g = 1 ∨ g = 2 := by simpa using a
      rcases a with rfl | rfl
      · exact .inl b
      · exact .inr b
    · obtain ⟨g, a, b⟩ := h [0, 2] (by simp)
      have a : g = 0 ∨ g = 2 := by simpa using a
      rcases a with rfl | rfl
      · exact .inl b
      · exact .inr b
  · rintro ⟨h1, h2, h3⟩ l hl
    have hl : l = [0, 1] ∨ l = [1, 2] ∨ l = [0, 2] := by simpa using hl
    rcases hl with rfl | rfl | rfl
    · rcases h1 with h | h
      · exact ⟨0, by simp, h⟩
      · exact ⟨1, by simp, h⟩
    · rcases h2 with h | h
      · exact ⟨1, by simp, h⟩
      · exact ⟨2, by simp, h⟩
    · rcases h3 with h | h
      · exact ⟨0, by simp, h⟩
      · exact ⟨2, by simp, h⟩
theorem ex_first {f : List Int} (F : Hm.First exL 3 f) : f = [0, 1] := by
  have h01 : Hm.hitsL exL [0, 1] := ex_hit.mpr ⟨.inl (by simp), .inl (by simp), .inl (by simp)⟩
  have l2 : f.length ≤ 2 := F.few [0, 1] h01
  have hf := ex_hit.mp F.hit
  have key : f.length = 2 := by
    match f, l2, hf with
    | [], _, h => simp at h
    | [x], _, h =>
      simp at h
      omega
    | [x, y], _, _ => rfl
  have low01 : ∀ x ∈ ([0, 1] : List Int), 0 ≤ x := fun x hx => by
    have hx : x = 0 ∨ x = 1 := by simpa using hx
    omega
  rcases F.least [0, 1] (by unfold Hm.Asc; decide) key.symm low01 h01 with e | e
  · exact e.symm
  · exfalso
    match f, key with
    | [x, y], _ =>
      have x0 := (F.low x (by simp)).1
      have xy : x < y := by
        have := F.asc
        unfold Hm.Asc at this
        simpa using this
      have lt := Hm.lt_of_Lt' e
      rcases List.cons_lt_cons_iff.mp lt with h | ⟨rfl, h⟩
      · omega
      · rcases List.cons_lt_cons_iff.mp h with h | ⟨rfl, h⟩
        · omega
        · simp at h
section
variable {P : Program} {w : World} {K : PySem.W.Frag} {mg : Str → Option Value} {base : Heap} {f : Addr} {cdv : Value} {A : Around} {outer : List Env} {s : Shared} {H0 : Hp} {E : XK} {T : List (Addr × Str)} {D : DrA} {n : Nat}
theorem law_lap (C : CalL P w K mg base T) (hr : RoomL A s f cdv) (hn : n + 2000 ≤ B) : StepS (XL P w K mg base f cdv A outer s H0 E) (forBody ((defBody sLaw).getD 1 (.Pass ⟨0, 0, 0, 0⟩))) (L0 T D n) (L0 T D (n + 1 + 40 + 200)) := by
  show StepS (XL P w K mg base f cdv A outer s H0 E) [lawSt 0, lawSt 1, lawSt 2, lawSt 3, lawSt 4, lawSt 5, lawSt 6] (L0 T D n) (L0 T D (n + 1 + 40 + 200))
  exact steps_cons (stl0 C hr (by omega)) (steps_cons (stl1 C hr (by omega)) (steps_cons (stl2 C hr (by omega)) (steps_cons (stl3 C hr) (steps_cons (stl4 C) (steps_cons (stl5 C hr) (steps_cons (stl6 C hr) steps_nil))))))
def spLaw (K : PySem.W.Frag) (T : List (Addr × Str)) : Sp := fun vs H Q _ => ∃ (a : Addr) (ns : List Int), vs = [.ref a] ∧ SqL K H a (ns.map V.int) ∧ ns.length ≤ 63 ∧ Tabs T H ∧ ∀ H', Q (.bl true) H'
theorem law_body (C : CalL P w K mg base T) (hr : RoomL A s f cdv) {vs : List V} {Q : VK} (h : spLaw K T vs H0 Q E) :
    ∃ t, PSs (XL P w K mg base f cdv A outer s H0 E) (defBody sLaw) t ∧ t { nx := fun _ H' => Q .non H', rt := Q } (L2.start nLaw vs) H0 := by
  obtain ⟨a, ns, rfl, hS, hl, tb, q⟩ := h
  obtain ⟨tB, hB, rB⟩ := steps_all (ι := { p : DrA × Nat // p.2 + 2000 ≤ B }) (I := fun p => L0 T p.1.1 p.1.2) (J := fun p => L0 T p.1.1 (p.1.2 + 1 + 40 + 200)) fun p => law_lap (P := P) (w := w) (outer := outer) (s := s) (H0 := H0) (E := E) (f := f) C hr p.2
  refine ⟨_, pss_cons (ps_set (i := 1) scLaw.nd rfl (.inl rfl) (pe_h C.GB hr (by decide) (by rfl) pass0 (pa_cons (pv 0) pa_nil)))
    (pss_cons (ps_for PassesOwn.never rfl (pi_range1 (by rfl) C.N.brng (pa_cons (pe_op op_add pe_int (pe_callB (call_min2 rfl) (by rfl) C.N.bmin (by decide +kernel) (pa_cons (pe_callB call_len_seq (by rfl) C.N.blen PySem.boot_len (pa_cons (pv 0) pa_nil)) (pa_cons pe_int pa_nil)))) pa_nil)) (pg_name (i := 2) scLaw.nd rfl (.inl rfl)) hB)
    (pss_one (ps_ret (pe_cmpR (op_eqD hr.units) (pe_h C.GL hr (by decide) (by rfl) pass0 (pa_cons pe_int (pa_cons (pe_lst (pa_cons (pe_tup (pa_cons pe_int (pa_cons pe_int pa_nil))) (pa_cons (pe_tup (pa_cons pe_int (pa_cons pe_int pa_nil))) (pa_cons (pe_tup (pa_cons pe_int (pa_cons pe_int pa_nil))) pa_nil)))) pa_nil)))
        (pe_tup (pa_cons pe_int (pa_cons pe_int pa_nil))) (nomark _))))), ?_⟩
  refine ⟨_, rfl, a, ns, rfl, hS, hl, fun H1 D s1 d1 _ _ => ?_⟩
  obtain ⟨m, hm, hm0, hm1⟩ : ∃ m : Int, m = (if (4 : Int) < ((ns.map V.int).length : Int) then 4 else ((ns.map V.int).length : Int)) ∧ 0 ≤ m ∧ m ≤ 4 := by
    refine ⟨_, rfl, ?_, ?_⟩ <;> split <;> omega
  refine ⟨_, rfl, a, _, rfl, .inl (s1.seq hS), _, _, rfl, ?_⟩
  rw [← hm]
  refine ⟨_, _, rfl, rfl, 2 + m, rfl, by omega, by omega, for_range (fun i σ H' => L0 T D (i * 241) σ H') ⟨sx (sx (fun _ => none) 0 (some (.ref a))) 1 (some (.ref D.d)), rfl, rfl, d1.mono (by omega), tb.ext s1⟩ ?_ ?_⟩
  · rintro i σ H' hi ⟨x, rfl, h1, d, t⟩
    have hi : i < 6 := by omega
    have hb : i * 241 + 2000 ≤ B := by unfold B; omega
    refine rB ⟨(D, i * 241), hb⟩ _ _ _ ⟨sx x 2 (some (.int (0 + (i : Int)))), rfl, h1, d, t⟩ fun σ' H'' h => ?_
    have e : (i + 1) * 241 = i * 241 + 1 + 40 + 200 := by omega
    show L0 T D ((i + 1) * 241) σ' H''
    rw [e]
    exact h
  · rintro σ H' ⟨x, rfl, h1, d, t⟩
    refine ⟨by show 2 ≤ sizeLine; decide, fun p1 np1 => ?_⟩
    have t1 := same_upd (o := .tup [.int 0, .int 1]) np1
    have k1 : LotAt (upd H' p1 (.tup [.int 0, .int 1])) (.ref p1) [0, 1] := ⟨p1, rfl, upd_same⟩
    have d1 := d.sm t1
    generalize upd H' p1 (.tup [.int 0, .int 1]) = G1 at *
    refine ⟨by show 2 ≤ sizeLine; decide, fun p2 np2 => ?_⟩
    have t2 := same_upd (o := .tup [.int 1, .int 2]) np2
    have k2 : LotAt (upd G1 p2 (.tup [.int 1, .int 2])) (.ref p2) [1, 2] := ⟨p2, rfl, upd_same⟩
    have d2 := d1.sm t2
    have k1 := k1.sm t2
    generalize upd G1 p2 (.tup [.int 1, .int 2]) = G2 at *
    refine ⟨by show 2 ≤ sizeLine; decide, fun p3 np3 => ?_⟩
    have t3 := same_upd (o := .tup [.int 0, .int 2]) np3
    have k3 : LotAt (upd G2 p3 (.tup [.int 0, .int 2])) (.ref p3) [0, 2] := ⟨p3, rfl, upd_same⟩
    have d3 := d2.sm t3
    have k1 := k1.sm t3
    have k2 := k2.sm t3
    generalize upd G2 p3 (.tup [.int 0, .int 2]) = G3 at *
    refine ⟨by show 3 ≤ sizeLine; decide, fun p4 np4 => ?_⟩
    have t4 := same_upd (o := .lst [.ref p1, .ref p2, .ref p3]) np4
    have o4 := d3.off np4
    refine ⟨D, 3, _, exL, rfl, lots_at (d3.sm t4) upd_same (.cons (k1.sm t4) (.cons (k2.sm t4) (.cons (k3.sm t4) .nil))) o4.1 o4.2 ex_gaps (by decide) (by decide) (by decide), fun G5 v s5 hv => ?_⟩
    obtain ⟨q5, F, rfl, hq5, FF⟩ := first_of hv (by decide)
    have eF := ex_first FF
    refine ⟨by show 2 ≤ sizeLine; decide, fun p6 np6 => ?_⟩
    have t6 := same_upd (o := .tup [.int 0, .int 1]) np6
    refine ⟨lotD F, lotD [0, 1], dp_tup (t6 _ _ hq5), dp_tup upd_same, shaped_lot _, shaped_lot _, ?_⟩
    rw [eqv_lots, decide_eq_true eF]
    exact q _
end
end Lm
/-! The end of a law row whose run is told at the caller itself, with several tables of code objects. -/
namespace Lm
open PySem PySem.Spec PyProof.Rows L2 LamX
/-- the run of the law's def at fa, called by the row's own caller; cs: code objects and their tables -/
def RunAts (P : Program) (w : World) (K : PySem.W.Frag) (mg : Str → Option Value) (fa a : Addr) (cs : List (Addr × Addr)) (ns : List Int) (s : Shared) : Prop :=
  ∀ (base : Heap) (H : Hp), K.In base → base.Ns mainGlobals mg → (∀ p ∈ cs, LamX.TabB base mg p.1 p.2) → Env0 P w K mg base callerA [] s H → (∀ p ∈ cs, H p.2 = some (.tbl #[])) → SqL K H a (ns.map V.int) →
    codeAny (model P w) callerA (.call (.ref fa) ⟨[.ref a], []⟩) (CR C8.CX0 [] P w H s (fun v _ => v = .bl true) fun _ _ _ => False) s
/-- b is one of the tables -/
def InT (cs : List (Addr × Addr)) (b : Addr) : Prop := ∃ p ∈ cs, p.2 = b
instance (cs : List (Addr × Addr)) (b : Addr) : Decidable (InT cs b) := by unfold InT; exact inferInstance
section
variable {P : Program} {w : World} {K : PySem.W.Frag} {mg mb : Str → Option Value} {fa a : Addr} {cs : List (Addr × Addr)} {s : Shared} {vs : List Value} {ns : List Int}
theorem ends_core (inK : K.In s.heap) (nsG : s.heap.Ns mainGlobals mg) (nsB : s.heap.Ns builtinsNs mb) (boot : ∀ x : Str, x ≠ "__name__" → mb x = bootBuiltins x) (lim : s.heap.NoLimit) (gens : s.gens = #[])
    (tab : ∀ p ∈ cs, s.heap.get? p.2 = some { cls := .none, data := .fields #[] }) (tabK : ∀ p ∈ cs, K.lookup p.2 = none) (code : ∀ p ∈ cs, PySem.W.CodeHd s.heap p.1 p.2) (bmod : ∃ (bm : Addr) (ob : Obj), mg "__builtins__" = some (.ref bm) ∧ bm ≠ builtinsNs ∧ s.heap.get? bm = some ob ∧ ob.cls = .type "module" ∧ ob.dict = some builtinsNs ∧ ob.data = .plain)
    (scr : s.heap.get? a = some { cls := .type "list", data := .seq vs.toArray }) (run : RunAts P w K mg fa a cs ns s)
    (H : Hp) (hP : ∀ p ∈ cs, H p.2 = some (.tbl #[])) (hA : H a = none ∨ ∃ o xs, H a = some (.frz o (.lst xs))) (hS : SqL K H a (ns.map V.int)) (ok : HOk P w H s.heap) (only : ∀ b, H b ≠ none → b = a ∨ InT cs b) (aK : H a ≠ none → K.lookup a = none) :
    codeAny (model P w) callerA (.call (.ref fa) ⟨[.ref a], []⟩) (fun r s' => r = .ok (.ret (.bool true)) ∧ OldK s.heap s'.heap ∧ s'.os = s.os ∧ AllBare s'.gens) s := by
  have tabI : ∀ {b : Addr}, InT cs b → s.heap.get? b = some { cls := .none, data := .fields #[] } := fun ⟨p, hp, e⟩ => e ▸ tab p hp
  have out : ∀ {b : Addr}, b ≠ a → ¬ InT cs b → H b = none := fun {b} h1 h2 => by
    cases q : H b with
    | none => rfl
    | some u => exact ((only b (by rw [q]; exact Option.some_ne_none u)).elim h1 h2).elim
  have seen : ∀ {b : Addr} {o : Obj}, s.heap.get? b = some o → b ≠ a → ¬ InT cs b → (hidT s.heap H).get? b = some o := fun e h1 h2 => hidT_get e (out h1 h2)
  have offA : ∀ {b : Addr} {o : Obj}, s.heap.get? b = some o → (∀ vs n, o.data ≠ .seq vs n) → b ≠ a := fun e h z => by
    rw [z, scr] at e
    injection e with e
    exact h _ _ (congrArg Obj.data e).symm
  have offP : ∀ {b : Addr} {o : Obj}, s.heap.get? b = some o → o.data ≠ .fields #[] → ¬ InT cs b := fun e h z => by
    rw [tabI z] at e
    injection e with e
    exact h (congrArg Obj.data e).symm
  have dicts : ∀ {b : Addr} {m : Str → Option Value}, s.heap.Ns b m → ¬ InT cs b ∧ (hidT s.heap H).Ns b m := fun ⟨o, es, ep, e, d, r⟩ => by
    have hp := offP e (by rw [d]; intro z; cases z)
    exact ⟨hp, o, es, ep, seen e (offA e (by rw [d]; intro _ _ z; cases z)) hp, d, r⟩
  have frag : K.In (hidT s.heap H) := by
    intro b o e
    have g := inK b o e
    by_cases hb : InT cs b
    · obtain ⟨p, hp, ep⟩ := hb
      rw [← ep, tabK p hp] at e
      cases e
    · by_cases ha : b = a
      · by_cases hn : H a = none
        · exact hidT_get g (by rw [ha]; exact hn)
        · rw [ha, aK hn] at e
          cases e
      · exact seen g ha hb
  have world : L2.Mod K mg (hidT s.heap H) := by
    obtain ⟨mc, l1, l2⟩ := lim
    exact ⟨frag, (dicts nsG).2, ⟨mb, (dicts nsB).2, boot⟩, ⟨mc, (dicts l1).2, l2⟩⟩
  have tables : ∀ p ∈ cs, LamX.TabB (hidT s.heap H) mg p.1 p.2 := by
    intro p hp
    refine ⟨?_, ?_, fun z => (dicts nsG).1 ⟨p, hp, z.symm⟩⟩
    · obtain ⟨o, us, z1, z2, z3, z4, z5, z6, z7, e, y1, y2, y3, y4⟩ := code p hp
      refine ⟨o, us, z1, z2, z3, z4, z5, z6, z7, seen e (offA e ?_) (offP e ?_), y1, y2, y3, y4⟩
      · intro _ _ z
        rw [y2] at z
        cases z
      · intro z
        rw [y2] at z
        injection z with z
        rw [z] at y3
        simp at y3
    · obtain ⟨bm, ob, b1, b2, b3, b4, b5, b6⟩ := bmod
      have hp' := offP b3 (by rw [b6]; intro z; cases z)
      refine ⟨bm, ob, b1, b2, ?_, fun z => hp' ⟨p, hp, z.symm⟩, seen b3 (offA b3 (by rw [b6]; intro _ _ z; cases z)) hp', b4, b5, b6⟩
      intro z
      obtain ⟨o, es, ep, e, d, _⟩ := nsG
      rw [← z, b3] at e
      injection e with e
      rw [← e, b6] at d
      cases d
  have env : Env0 P w K mg (hidT s.heap H) callerA [] s H :=
    ⟨rfl, world, fun _ _ e => of_hidT e, Nat.le_of_eq (hidT_size s.heap H), trivial, (fun _ z => nomatch z), ok, AllBare.of_eq gens⟩
  refine codeAny_mono (run _ H frag (dicts nsG).2 tables env hP hS) ?_
  intro r s' hr
  match r, hr with
  | .ok (.ret u), hr =>
    obtain ⟨_, H', os, bare, un, ok', r', rfl⟩ := hr
    obtain rfl : u = Value.bool true := r'
    have kept : ∀ b o, ¬ InT cs b → s.heap.get? b = some o → s'.heap.get? b = some o := by
      intro b o hb e
      by_cases ha : b = a
      · rcases hA with hn | ⟨o1, xs, hf⟩
        · exact un.keep b o e (by rw [ha]; exact hn) (fun z => nomatch (show b ∈ ([] : List Addr) from z)) (fun z => nomatch z)
        · have e1 := (ok a _ hf).1
          have e2 := (ok' a _ (un.frzs a o1 _ hf)).1
          rw [ha] at e ⊢
          rw [e1] at e
          rw [e2, ← e]
      · exact un.keep b o e (out ha hb) (fun z => nomatch (show b ∈ ([] : List Addr) from z)) (fun z => nomatch z)
    have grown : ∀ p ∈ cs, ∃ more : Array Value, s'.heap.get? p.2 = some { cls := .none, data := .fields more } := by
      intro p hp
      obtain ⟨more, hm⟩ := un.tbls p.2 #[] (hP p hp)
      exact ⟨_, ok' p.2 _ hm⟩
    refine ⟨rfl, ⟨fun b o e => ?_, fun b o e => ?_⟩, os, bare⟩
    · by_cases hb : InT cs b
      · obtain ⟨p, hp, rfl⟩ := hb
        obtain ⟨more, g⟩ := grown p hp
        rw [tab p hp] at e
        injection e with e
        subst e
        exact .inr (.inl ⟨((code p hp).tab (tab p hp)).isCodeTable, rfl, #[], more, rfl, by rw [Array.empty_append]; exact g⟩)
      · exact .inl (kept b o hb e)
    · by_cases hb : InT cs b
      · obtain ⟨p, hp, rfl⟩ := hb
        obtain ⟨more, g⟩ := grown p hp
        exact ⟨_, g⟩
      · exact ⟨o, kept b o hb e⟩
  | .ok .next, hr => exact hr.elim
  | .ok .brk, hr => exact hr.elim
  | .ok .cont, hr => exact hr.elim
  | .error e, hr => exact hr.elim
/-- from what the head leaves -/
theorem ends_run (inK : K.In s.heap) (nsG : s.heap.Ns mainGlobals mg) (nsB : s.heap.Ns builtinsNs mb) (boot : ∀ x : Str, x ≠ "__name__" → mb x = bootBuiltins x) (lim : s.heap.NoLimit) (gens : s.gens = #[])
    (tab : ∀ p ∈ cs, s.heap.get? p.2 = some { cls := .none, data := .fields #[] }) (tabK : ∀ p ∈ cs, K.lookup p.2 = none) (code : ∀ p ∈ cs, PySem.W.CodeHd s.heap p.1 p.2) (bmod : ∃ (bm : Addr) (ob : Obj), mg "__builtins__" = some (.ref bm) ∧ bm ≠ builtinsNs ∧ s.heap.get? bm = some ob ∧ ob.cls = .type "module" ∧ ob.dict = some builtinsNs ∧ ob.data = .plain)
    (scr : s.heap.get? a = some { cls := .type "list", data := .seq vs.toArray }) (hni : IntsAre vs ns) (len : ns.length ≤ sizeLine) (run : RunAts P w K mg fa a cs ns s) :
    codeAny (model P w) callerA (.call (.ref fa) ⟨[.ref a], []⟩) (fun r s' => r = .ok (.ret (.bool true)) ∧ OldK s.heap s'.heap ∧ s'.os = s.os ∧ AllBare s'.gens) s := by
  have rv := vals_ints hni
  have lv := hni.length
  have aP : ¬ InT cs a := fun ⟨p, hp, e⟩ => by
    have h := tab p hp
    rw [e, scr] at h
    injection h with z
    have z := congrArg Obj.data z
    cases z
  have inI : ∀ p ∈ cs, InT cs p.2 := fun p hp => ⟨p, hp, rfl⟩
  cases hk : K.lookup a with
  | some o =>
    have e := inK a o hk
    rw [scr] at e
    cases e
    refine ends_core inK nsG nsB boot lim gens tab tabK code bmod scr run (fun b => if InT cs b then some (.tbl #[]) else none) (fun p hp => if_pos (inI p hp)) (.inl (if_neg aP)) ?_ (fun b u z => ?_) (fun b z => ?_) (fun z => absurd (if_neg aP) z)
    · exact .inr ⟨_, vs.toArray, _, hk, rfl, rfl, rfl, by rw [List.size_toArray, lv]; exact len, by simpa using rv⟩
    · have z : (if InT cs b then some (HO.tbl #[]) else none) = some u := z
      by_cases hb : InT cs b
      · rw [if_pos hb] at z
        cases z
        obtain ⟨p, hp, rfl⟩ := hb
        exact tab p hp
      · rw [if_neg hb] at z
        cases z
    · by_cases hb : InT cs b
      · exact .inr hb
      · exact absurd (if_neg hb) z
  | none =>
    refine ends_core inK nsG nsB boot lim gens tab tabK code bmod scr run (fun b => if b = a then some (.frz { cls := .type "list", data := .seq vs.toArray } (.lst (ns.map V.int))) else if InT cs b then some (.tbl #[]) else none)
      (fun p hp => (if_neg (fun (z : p.2 = a) => aP (z ▸ inI p hp))).trans (if_pos (inI p hp))) (.inr ⟨_, _, if_pos rfl⟩) (.inl (.inr ⟨_, if_pos rfl⟩)) (fun b u z => ?_) (fun b z => ?_) (fun _ => hk)
    · have z : (if b = a then some (HO.frz { cls := .type "list", data := .seq vs.toArray } (.lst (ns.map V.int))) else if InT cs b then some (.tbl #[]) else none) = some u := z
      by_cases ha : b = a
      · subst ha
        rw [if_pos rfl] at z
        cases z
        exact ⟨scr, by rw [List.length_map]; exact len, vs, _, rv, scr⟩
      · rw [if_neg ha] at z
        by_cases hb : InT cs b
        · rw [if_pos hb] at z
          cases z
          obtain ⟨p, hp, rfl⟩ := hb
          exact tab p hp
        · rw [if_neg hb] at z
          cases z
    · by_cases ha : b = a
      · exact .inl ha
      · by_cases hb : InT cs b
        · exact .inr hb
        · exact absurd ((if_neg ha).trans (if_neg hb)) z
end
end Lm
/-! The end of k43: tables of two defs, the promises, what the law calls. -/
namespace Lm
open PySem PySem.Spec PyProof.Rows L2 LamX
/-- the fields of a code object that a lambda's making reads -/
def CodeF (vs : Array Value) (Pt : Addr) : Prop := ∃ file tf flags tg inF text tt, vs[11]? = some (.ref Pt) ∧ vs.getD 11 .none = .ref Pt ∧ vs.getD 18 .none = .str file tf ∧ vs.getD 7 .none = .int flags tg ∧ vs.getD 9 .none = .bool inF ∧ vs.getD 10 .none = .int text tt
/-- the def of the name x, its code object and its table, as the head leaves them -/
structure DefC (K : PySem.W.Frag) (mg : Str → Option Value) (x : Str) (fa c Pt : Addr) : Prop where
  ex : ∃ (o : Obj) (fd : FuncData) (dd : Option Addr) (vs : Array Value) (sl : Array (Option Value)), mg x = some (.ref fa) ∧ K.lookup fa = some o ∧ o.data = .func fd ∧ fd.code = .ref c ∧ K.lookup c = some ⟨.type "code", dd, .fields vs, sl⟩ ∧ CodeF vs Pt ∧ c ≠ Pt ∧ K.lookup Pt = none
theorem walk_guards {l : PySem.W.OpenLaw} {n : Nat} {q : Program} {loose : List Str} {XP : (Str → Option Value) → Heap → Prop} {YP : World → Heap → Prop} {d : DefRec} {x2 x3 : Str} {K : Params → PySem.W.Frag} (most : l.most = some n) (fits : n ≤ sizeLine) (plain : d.params.defaults = [])
    (isRec : ((recsOf q).any fun e => e.name == x3) = true) (isRec2 : ((recsOf q).any fun e => e.name == x2) = true) (hY : ∀ (w : World) (h : Heap), YP w h → (K w.params).In h)
    (F : ∀ (w : World) (mg : Str → Option Value) (fa : Addr) (h : Heap), (K w.params).In h → h.Ns mainGlobals mg → mg d.name = some (.ref fa) →
      ∃ (f3 c Pt fu cu Pu : Addr), DefC (K w.params) mg x3 f3 c Pt ∧ DefC (K w.params) mg x2 fu cu Pu ∧ ∀ (s : Shared) (a : Addr) (ns : List Int), ns.length ≤ n → RunAts l.prog w (K w.params) mg fa a [(c, Pt), (cu, Pu)] ns s) :
    PySem.W.WalkO q loose XP YP l.row.toRowW d [] (fun f vs => PySem.call f vs) := by
  refine Att.attach_callB most plain ?_
  intro w s₀ s mg mb fa o pm cd doc a vs ns G Y ho hd hcd hmg hobj hints hlen hbits hg
  have inK := hY w _ Y
  obtain ⟨f3, c, Pt, fu, cu, Pu, D1, D2, run⟩ := F w mg fa _ inK G.T.g hmg
  have one : ∀ {x : Str} {fb c Pt : Addr}, ((recsOf q).any fun e => e.name == x) = true → DefC (K w.params) mg x fb c Pt → PySem.W.CodeHd s.heap c Pt ∧ s.heap.get? Pt = some { cls := .none, data := .fields #[] } ∧ (K w.params).lookup Pt = none := by
    intro x fb c Pt ir D
    obtain ⟨o1, fd, dd, us, sl, k0, k1, k2, k3, k4, cf, cP, kP⟩ := D.ex
    obtain ⟨file, tf, flags, tg, inF, text, tt, r1, r2, r3, r4, r5, r6⟩ := cf
    refine ⟨⟨_, us, file, tf, flags, tg, inF, text, tt, inK _ _ k4, rfl, rfl, r1, r2, r3, r4, r5, r6, cP⟩, ?_, kP⟩
    obtain ⟨e, hm, he⟩ := List.any_eq_true.mp ir
    obtain ⟨b, o2, fd2, c2, P2, h1, h2, h3, h4, h5, ⟨oc, vc, e1, _, e3, e4⟩, hP⟩ := G.T.tab e hm
    have he : e.name = x := beq_iff_eq.mp he
    rw [he, k0] at h1
    injection h1 with h1
    injection h1 with h1
    subst h1
    rw [inK _ _ k1] at h2
    injection h2 with h2
    subst h2
    rw [k2] at h3
    injection h3 with h3
    subst h3
    rw [k3] at h4
    injection h4 with h4
    subst h4
    rw [inK _ _ k4] at e1
    injection e1 with e1
    subst e1
    injection e3 with e3
    subst e3
    rw [r1] at e4
    injection e4 with e4
    injection e4 with e4
    rw [e4]
    exact hP
  obtain ⟨a1, a2, a3⟩ := one isRec D1
  obtain ⟨b1, b2, b3⟩ := one isRec2 D2
  have all : ∀ {Z : Addr × Addr → Prop}, Z (c, Pt) → Z (cu, Pu) → ∀ p ∈ [(c, Pt), (cu, Pu)], Z p := fun z1 z2 p hp => by
    rcases List.mem_cons.mp hp with rfl | hp
    · exact z1
    · rw [List.mem_singleton.mp hp]
      exact z2
  exact ends_run inK G.T.g G.T.b G.T.builtins G.T.nolimit hg (all (Z := fun p => s.heap.get? p.2 = some { cls := .none, data := .fields #[] }) a2 b2) (all (Z := fun p => (K w.params).lookup p.2 = none) a3 b3) (all (Z := fun p => PySem.W.CodeHd s.heap p.1 p.2) a1 b1) G.T.bmain hobj hints (Nat.le_trans hlen fits) (run s a ns hlen)
/-! ### the defs where the head leaves them -/
structure At (K : PySem.W.Frag) (mg : Str → Option Value) (x : Str) (st : Stmt) : Prop where
  ex : ∃ (f : Addr) (fd : FuncData), mg x = some (.ref f) ∧ Fun K x x st f fd
theorem at_mk {K : PySem.W.Frag} {h : Heap} {mg : Str → Option Value} {x : Str} {st : Stmt} {f : Addr} {oc kV doc pm cdv ct : Value} {od an : Option Addr} {osl : Array (Option Value)} (X : K.In h) (G : h.Ns mainGlobals mg) (a : PySem.W.nsIn K mainGlobals x = some (some (.ref f)))
    (l : K.lookup f = some ⟨oc, od, .func (PySem.W.fnOf x x (defArgs st) (defBody st) (defScope st) .none kV doc pm an cdv ct), osl⟩) (c : PySem.W.codeIn K cdv x = true) (k : PySem.W.keepIn K (.ref f) = true) : At K mg x st :=
  ⟨f, _, PySem.W.mg_of X G a, fun_mk l c k⟩
theorem has_of {P : Program} {w : World} {K : PySem.W.Frag} {mg : Str → Option Value} {base : Heap} {CX : CXT} {k : Nat} {x : Str} {st : Stmt} {ps : List Str} {sp : Sp} (h : At K mg x st) (b : ∀ f fd, Fun K x x st f fd → L2.Binds K fd ps []) (ok : ∀ f fd, Fun K x x st f fd → FnOk P w K mg base CX k f fd ps sp) :
    Has P w K mg base CX k x ps sp := by
  obtain ⟨f, fd, m, F⟩ := h.ex
  exact ⟨f, fd, m, F.kp, b f fd F, ok f fd F⟩
theorem bl_mk {K : PySem.W.Frag} {h : Heap} {mg : Str → Option Value} (X : K.In h) (G : h.Ns mainGlobals mg) (z1 : PySem.W.nsIn K mainGlobals "int" = some none) (z2 : PySem.W.nsIn K mainGlobals "len" = some none) (z3 : PySem.W.nsIn K mainGlobals "isinstance" = some none) (z4 : PySem.W.nsIn K mainGlobals "bool" = some none)
    (z5 : PySem.W.nsIn K mainGlobals "tuple" = some none) (z6 : PySem.W.nsIn K mainGlobals "list" = some none) (z7 : PySem.W.nsIn K mainGlobals "str" = some none) (z8 : PySem.W.nsIn K mainGlobals "max" = some none) (z9 : PySem.W.nsIn K mainGlobals "range" = some none)
    (z10 : PySem.W.nsIn K mainGlobals "abs" = some none) (z11 : PySem.W.nsIn K mainGlobals "all" = some none) (z12 : PySem.W.nsIn K mainGlobals "min" = some none) (z13 : PySem.W.nsIn K mainGlobals "repr" = some none)
    (z14 : PySem.W.nsIn K mainGlobals "any" = some none) (z15 : PySem.W.nsIn K mainGlobals "sorted" = some none) (z16 : PySem.W.nsIn K mainGlobals "enumerate" = some none) : Bl mg :=
  ⟨PySem.W.mg_none_of X G z1, PySem.W.mg_none_of X G z2, PySem.W.mg_none_of X G z3, PySem.W.mg_none_of X G z4, PySem.W.mg_none_of X G z5, PySem.W.mg_none_of X G z6, PySem.W.mg_none_of X G z7, PySem.W.mg_none_of X G z8, PySem.W.mg_none_of X G z9, PySem.W.mg_none_of X G z10, PySem.W.mg_none_of X G z11, PySem.W.mg_none_of X G z12, PySem.W.mg_none_of X G z13,
    PySem.W.mg_none_of X G z14, PySem.W.mg_none_of X G z15, PySem.W.mg_none_of X G z16⟩
/-- the law's own defs, but those that make lambdas -/
structure Defs (K : PySem.W.Frag) (mg : Str → Option Value) : Prop where
  begun : At K mg "_law_begun" sBegun
  mixed : At K mg "_law_mixed_up" sMixed
  take : At K mg "_law_draw" sTake
  drawn : At K mg "_law_drawn_lots" sDrawn
  size : At K mg "_law_size" sSize
  arc : At K mg "_law_arc_lot" sArc
  cut : At K mg "_law_cut_size" sCut
  sr : At K mg "_law_stretches_right" sSR
  lies : At K mg "_law_lies_in" sLies
  lr : At K mg "_law_lots_right" sLR
/-- the program's defs -/
structure PDefs (K : PySem.W.Frag) (mg : Str → Option Value) : Prop where
  number : At K mg "is_number" sNumber
  between : At K mg "is_between" sBetween
  listing : At K mg "is_listing" sListing
  tupOf : At K mg "is_tuple_of" sTupOf
  rise : At K mg "is_rising" sRise
  hasB : At K mg "has_bool" sHasB
  just : At K mg "has_just_keys" sJust
  gap : At K mg "is_gap_tuple" sGap
  check : At K mg "check_lots" sCheck
  wo : At K mg "lots_without" sWo
  apart : At K mg "fewest_apart" sApart
  can : At K mg "can_hit" sCan
  few : At K mg "fewest_hits" sFew
  above : At K mg "above" sAbove
  fst : At K mg "first_hits" sFst
  least : At K mg "least_hits" sLeast
  ckN : At K mg "check_number" sCkN
  fl : At K mg "first_left" sFL
  tb : At K mg "tree_behind" sTB
  tree : At K mg "hit_tree" sTree
  new : At K mg "new_tree" sNew
  isT : At K mg "is_hit_tree" sIsT
  isB : At K mg "is_tree_behind" sIsB
section
variable {P : Program} {w : World} {K : PySem.W.Frag} {mg : Str → Option Value} {base : Heap}
theorem can_has (N : Bl mg) (D : PDefs K mg) (GW : Has P w K mg base CX0 1 "lots_without" ["lots", "gap"] (spWo Hm.woL)) (GA : Has P w K mg base CX0 1 "fewest_apart" ["lots"] spApart) : ∀ n, Has P w K mg base CX0 (n + 3) "can_hit" ["lots", "number"] (spCan n)
  | 0 => has_of D.can (fun f fd F => F.binds (ps := ["lots", "number"]) fun _ _ _ _ _ _ us hl => match us, hl with | [_, _], _ => rfl) (fun f fd F => ok_can F N 0 GW GA (has_of D.can (fun f fd F => F.binds (ps := ["lots", "number"]) fun _ _ _ _ _ _ us hl => match us, hl with | [_, _], _ => rfl) (fun f fd F => ok_can_no F 1)))
  | n + 1 => has_of D.can (fun f fd F => F.binds (ps := ["lots", "number"]) fun _ _ _ _ _ _ us hl => match us, hl with | [_, _], _ => rfl) (fun f fd F => ok_can F N (n + 1) GW GA (can_has N D GW GA n))
theorem tb_has (D : PDefs K mg) (GF : Has P w K mg base CX0 2 "first_left" ["lots", "taken"] spFL) : ∀ n, Has P w K mg base CX0 (n + 3) "tree_behind" ["lots", "taken", "number"] (spTB n)
  | 0 => has_of D.tb (fun f fd F => F.binds (ps := ["lots", "taken", "number"]) fun _ _ _ _ _ _ us hl => match us, hl with | [_, _, _], _ => rfl) (fun f fd F => ok_tb F 0 GF (has_of D.tb (fun f fd F => F.binds (ps := ["lots", "taken", "number"]) fun _ _ _ _ _ _ us hl => match us, hl with | [_, _, _], _ => rfl) (fun f fd F => ok_tb_no F 1)))
  | n + 1 => has_of D.tb (fun f fd F => F.binds (ps := ["lots", "taken", "number"]) fun _ _ _ _ _ _ us hl => match us, hl with | [_, _, _], _ => rfl) (fun f fd F => ok_tb F (n + 1) GF (tb_has D GF n))
theorem itb_has (N : Bl mg) (D : PDefs K mg) (GO : Has P w K mg base CX0 1 "is_tuple_of" ["thing", "count"] spTupOf) (GB : Has P w K mg base CX0 2 "is_between" ["thing", "low", "high"] spBtw) (GJ : Has P w K mg base CX0 4 "has_just_keys" ["thing", "keys"] spJust) : ∀ n, Has P w K mg base CX0 (n + 5) "is_tree_behind" ["lots", "taken", "number", "thing"] (spITB n)
  | 0 => has_of D.isB (fun f fd F => F.binds (ps := ["lots", "taken", "number", "thing"]) fun _ _ _ _ _ _ us hl => match us, hl with | [_, _, _, _], _ => rfl) (fun f fd F => ok_itb F N 0 GO GB GJ (has_of D.isB (fun f fd F => F.binds (ps := ["lots", "taken", "number", "thing"]) fun _ _ _ _ _ _ us hl => match us, hl with | [_, _, _, _], _ => rfl) (fun f fd F => ok_itb_no F 3)))
  | n + 1 => has_of D.isB (fun f fd F => F.binds (ps := ["lots", "taken", "number", "thing"]) fun _ _ _ _ _ _ us hl => match us, hl with | [_, _, _, _], _ => rfl) (fun f fd F => ok_itb F N (n + 1) GO GB GJ (itb_has N D GO GB GJ n))
/-- what the program promises -/
structure Promises (P : Program) (w : World) (K : PySem.W.Frag) (mg : Str → Option Value) (base : Heap) : Prop where
  lh : Has P w K mg base CX0 22 "least_hits" ["many", "lots"] spLeast0
  ht : Has P w K mg base CX0 21 "hit_tree" ["many", "lots", "number"] spHitT
  it : Has P w K mg base CX0 22 "is_hit_tree" ["many", "lots", "number", "thing"] spIsHT
theorem promises {t1 t2 : Tok} (N : Bl mg) (hdict : mg "dict" = none) (MG : mg "MOST_GAPS" = some (.int 16 t1)) (ML : mg "MOST_LOTS" = some (.int 400 t2)) (D : PDefs K mg) : Promises P w K mg base := by
  have GN : Has P w K mg base CX0 1 "is_number" ["thing"] spNum := has_of D.number (fun f fd F => F.binds (ps := ["thing"]) fun _ _ _ _ _ _ us hl => match us, hl with | [_], _ => rfl) (fun f fd F => ok_number F N)
  have GB : Has P w K mg base CX0 2 "is_between" ["thing", "low", "high"] spBtw := has_of D.between (fun f fd F => F.binds (ps := ["thing", "low", "high"]) fun _ _ _ _ _ _ us hl => match us, hl with | [_, _, _], _ => rfl) (fun f fd F => ok_between F GN)
  have GL : Has P w K mg base CX0 1 "is_listing" ["thing"] spListing := has_of D.listing (fun f fd F => F.binds (ps := ["thing"]) fun _ _ _ _ _ _ us hl => match us, hl with | [_], _ => rfl) (fun f fd F => ok_listing F N)
  have GO : Has P w K mg base CX0 1 "is_tuple_of" ["thing", "count"] spTupOf := has_of D.tupOf (fun f fd F => F.binds (ps := ["thing", "count"]) fun _ _ _ _ _ _ us hl => match us, hl with | [_, _], _ => rfl) (fun f fd F => ok_tupOf F N)
  have GR : Has P w K mg base CX0 1 "is_rising" ["things"] spRise := has_of D.rise (fun f fd F => F.binds (ps := ["things"]) fun _ _ _ _ _ _ us hl => match us, hl with | [_], _ => rfl) (fun f fd F => ok_rise F N)
  have GH0 : Has P w K mg base CX0 1 "has_bool" ["thing"] spNo := has_of D.hasB (fun f fd F => F.binds (ps := ["thing"]) fun _ _ _ _ _ _ us hl => match us, hl with | [_], _ => rfl) (fun f fd F => ok_hasB_no F)
  have GH1 : Has P w K mg base CX0 3 "has_bool" ["thing"] spHasB := has_of D.hasB (fun f fd F => F.binds (ps := ["thing"]) fun _ _ _ _ _ _ us hl => match us, hl with | [_], _ => rfl) (fun f fd F => ok_hasB F N GH0)
  have GJ : Has P w K mg base CX0 4 "has_just_keys" ["thing", "keys"] spJust := has_of D.just (fun f fd F => F.binds (ps := ["thing", "keys"]) fun _ _ _ _ _ _ us hl => match us, hl with | [_, _], _ => rfl) (fun f fd F => ok_just F N GH1 hdict)
  have GG : Has P w K mg base CX0 3 "is_gap_tuple" ["many", "thing"] spGap := has_of D.gap (fun f fd F => F.binds (ps := ["many", "thing"]) fun _ _ _ _ _ _ us hl => match us, hl with | [_, _], _ => rfl) (fun f fd F => ok_gap F N GB GR)
  have GK : Has P w K mg base CX0 5 "check_lots" ["many", "lots"] spCk0 := has_of D.check (fun f fd F => F.binds (ps := ["many", "lots"]) fun _ _ _ _ _ _ us hl => match us, hl with | [_, _], _ => rfl) (fun f fd F => ok_ck0 F N MG ML GB GL GG)
  have GW : Has P w K mg base CX0 1 "lots_without" ["lots", "gap"] (spWo Hm.woL) := has_of D.wo (fun f fd F => F.binds (ps := ["lots", "gap"]) fun _ _ _ _ _ _ us hl => match us, hl with | [_, _], _ => rfl) (fun f fd F => ok_wo F N)
  have GV : Has P w K mg base CX0 1 "above" ["lots", "gap"] (spWo Hm.abvL) := has_of D.above (fun f fd F => F.binds (ps := ["lots", "gap"]) fun _ _ _ _ _ _ us hl => match us, hl with | [_, _], _ => rfl) (fun f fd F => ok_above F N)
  have GA : Has P w K mg base CX0 1 "fewest_apart" ["lots"] spApart := has_of D.apart (fun f fd F => F.binds (ps := ["lots"]) fun _ _ _ _ _ _ us hl => match us, hl with | [_], _ => rfl) (fun f fd F => ok_apart F N)
  have GC : Has P w K mg base CX0 19 "can_hit" ["lots", "number"] (spCan 16) := can_has N D GW GA 16
  have GF : Has P w K mg base CX0 20 "fewest_hits" ["many", "lots"] spFew := has_of D.few (fun f fd F => F.binds (ps := ["many", "lots"]) fun _ _ _ _ _ _ us hl => match us, hl with | [_, _], _ => rfl) (fun f fd F => ok_few F N GC)
  have GS : Has P w K mg base CX0 21 "first_hits" ["many", "lots"] spFst := has_of D.fst (fun f fd F => F.binds (ps := ["many", "lots"]) fun _ _ _ _ _ _ us hl => match us, hl with | [_, _], _ => rfl) (fun f fd F => ok_fst F N GC GF GV GW)
  have GQ : Has P w K mg base CX0 5 "check_number" ["number"] spCkNum := has_of D.ckN (fun f fd F => F.binds (ps := ["number"]) fun _ _ _ _ _ _ us hl => match us, hl with | [_], _ => rfl) (fun f fd F => ok_ckNum F MG GB)
  have GI : Has P w K mg base CX0 2 "first_left" ["lots", "taken"] spFL := has_of D.fl (fun f fd F => F.binds (ps := ["lots", "taken"]) fun _ _ _ _ _ _ us hl => match us, hl with | [_, _], _ => rfl) (fun f fd F => ok_fl F N)
  have GT : Has P w K mg base CX0 19 "tree_behind" ["lots", "taken", "number"] (spTB 16) := tb_has D GI 16
  have GX : Has P w K mg base CX0 20 "new_tree" ["lots", "number"] spNewT := has_of D.new (fun f fd F => F.binds (ps := ["lots", "number"]) fun _ _ _ _ _ _ us hl => match us, hl with | [_, _], _ => rfl) (fun f fd F => ok_newT F GC GT)
  have GY : Has P w K mg base CX0 21 "is_tree_behind" ["lots", "taken", "number", "thing"] (spITB 16) := itb_has N D GO GB GJ 16
  refine ⟨?_, ?_, ?_⟩
  · exact has_of D.least (fun f fd F => F.binds (ps := ["many", "lots"]) fun _ _ _ _ _ _ us hl => match us, hl with | [_, _], _ => rfl) (fun f fd F => ok_least0 F N GK GS)
  · exact has_of D.tree (fun f fd F => F.binds (ps := ["many", "lots", "number"]) fun _ _ _ _ _ _ us hl => match us, hl with | [_, _, _], _ => rfl) (fun f fd F => ok_hitT F N GK GQ GX)
  · exact has_of D.isT (fun f fd F => F.binds (ps := ["many", "lots", "number", "thing"]) fun _ _ _ _ _ _ us hl => match us, hl with | [_, _, _, _], _ => rfl) (fun f fd F => ok_isHT F N GK GQ GY)
/-- the tables of the two lambdas -/
def TT (Pt Pu : Addr) : List (Addr × Str) := [(Pt, (envOfC "_law_arcs_right" (defScope sAR) 0 0 .none).qual ++ "<lambda>"), (Pu, (envOfC "_law_stretch_size" (defScope sStr) 0 0 .none).qual ++ "<lambda>")]
theorem tt_a {Pt Pu : Addr} (ne : Pt ≠ Pu) : TOkA (TT Pt Pu) Pt := ⟨List.mem_cons_self .., fun p hp e => by
  rcases List.mem_cons.mp hp with rfl | hp
  · rfl
  · rw [List.mem_singleton.mp hp] at e
    exact absurd e.symm ne⟩
theorem tt_s {Pt Pu : Addr} (ne : Pt ≠ Pu) : TOkS (TT Pt Pu) Pu := ⟨List.mem_cons_of_mem _ (List.mem_cons_self ..), fun p hp e => by
  rcases List.mem_cons.mp hp with rfl | hp
  · exact absurd e ne
  · rw [List.mem_singleton.mp hp]⟩
theorem callees {c Pt cu Pu f3 fu : Addr} {oc kV doc pm ct oc2 kV2 doc2 pm2 ct2 : Value} {od an od2 an2 : Option Addr} {osl osl2 : Array (Option Value)} (N : Bl mg) (bset : mg "set" = none) (D : Defs K mg) (R : Promises P w K mg base)
    (m3 : mg "_law_arcs_right" = some (.ref f3)) (k3 : PySem.W.keepIn K (.ref f3) = true) (lk3 : K.lookup f3 = some ⟨oc, od, .func (PySem.W.fnOf "_law_arcs_right" "_law_arcs_right" (defArgs sAR) (defBody sAR) (defScope sAR) .none kV doc pm an (.ref c) ct), osl⟩) (hcd3 : PySem.W.codeIn K (.ref c) "_law_arcs_right" = true) (TB3 : LamX.TabB base mg c Pt)
    (mu : mg "_law_stretch_size" = some (.ref fu)) (ku : PySem.W.keepIn K (.ref fu) = true) (lku : K.lookup fu = some ⟨oc2, od2, .func (PySem.W.fnOf "_law_stretch_size" "_law_stretch_size" (defArgs sStr) (defBody sStr) (defScope sStr) .none kV2 doc2 pm2 an2 (.ref cu) ct2), osl2⟩) (hcdu : PySem.W.codeIn K (.ref cu) "_law_stretch_size" = true) (TBu : LamX.TabB base mg cu Pu) (ne : Pt ≠ Pu) : CalL P w K mg base (TT Pt Pu) := by
  have GM : Has P w K mg base CX0 1 "_law_mixed_up" ["state"] spMixed := has_of D.mixed (fun f fd F => F.binds (ps := ["state"]) fun _ _ _ _ _ _ us hl => match us, hl with | [_], _ => rfl) (fun f fd F => ok_mixed F N)
  have GT : Has P w K mg base CX0 2 "_law_draw" ["state", "size_here"] spTake := has_of D.take (fun f fd F => F.binds (ps := ["state", "size_here"]) fun _ _ _ _ _ _ us hl => match us, hl with | [_, _], _ => rfl) (fun f fd F => ok_take F N GM)
  have GB : Has P w K mg base CX0 1 "_law_begun" ["script"] (spBegun K) := has_of D.begun (fun f fd F => F.binds (ps := ["script"]) fun _ _ _ _ _ _ us hl => match us, hl with | [_], _ => rfl) (fun f fd F => ok_begun F N)
  have GD : Has P w K mg base CX0 3 "_law_drawn_lots" ["state", "many_here"] spDrawn := has_of D.drawn (fun f fd F => F.binds (ps := ["state", "many_here"]) fun _ _ _ _ _ _ us hl => match us, hl with | [_, _], _ => rfl) (fun f fd F => ok_drawn F N GT)
  have GS : Has P w K mg base CX0 23 "_law_size" ["many_here", "lots"] spSize := has_of D.size (fun f fd F => F.binds (ps := ["many_here", "lots"]) fun _ _ _ _ _ _ us hl => match us, hl with | [_, _], _ => rfl) (fun f fd F => ok_size F N R.lh)
  have GI : Has P w K mg base CX0 1 "_law_lies_in" ["one", "two"] spLies := has_of D.lies (fun f fd F => F.binds (ps := ["one", "two"]) fun _ _ _ _ _ _ us hl => match us, hl with | [_, _], _ => rfl) (fun f fd F => ok_lies F)
  have GR : Has P w K mg base CX0 24 "_law_lots_right" ["state", "many_here", "lots"] spLR := has_of D.lr (fun f fd F => F.binds (ps := ["state", "many_here", "lots"]) fun _ _ _ _ _ _ us hl => match us, hl with | [_, _, _], _ => rfl) (fun f fd F => ok_lr F ⟨N, bset, GT, GS, R.lh, GI, R.ht, R.it⟩)
  have GA : Has P w K mg base CX0 1 "_law_arc_lot" ["many_here", "pair"] spArc := has_of D.arc (fun f fd F => F.binds (ps := ["many_here", "pair"]) fun _ _ _ _ _ _ us hl => match us, hl with | [_, _], _ => rfl) (fun f fd F => ok_arc F N)
  have GP : Has P w K mg base CX0 4 "_law_stretch_size" ["pairs"] (spStr (TT Pt Pu)) := ⟨fu, _, mu, ku, (fun_mk lku hcdu ku).binds (ps := ["pairs"]) (fun _ _ _ _ _ _ us hl => match us, hl with | [_], _ => rfl), ok_str lku hcdu N TBu (tt_s ne)⟩
  have GC : Has P w K mg base CX0 5 "_law_cut_size" ["many_here", "pairs", "gap"] (spCut (TT Pt Pu)) := has_of D.cut (fun f fd F => F.binds (ps := ["many_here", "pairs", "gap"]) fun _ _ _ _ _ _ us hl => match us, hl with | [_, _, _], _ => rfl) (fun f fd F => ok_cut F N GA GP)
  have GE : Has P w K mg base CX0 25 "_law_stretches_right" ["state", "many_here"] (spSR (TT Pt Pu)) := has_of D.sr (fun f fd F => F.binds (ps := ["state", "many_here"]) fun _ _ _ _ _ _ us hl => match us, hl with | [_, _], _ => rfl) (fun f fd F => ok_sr F ⟨N, GT, GS, GP, GR⟩)
  have GF : Has P w K mg base CX0 25 "_law_arcs_right" ["state", "many_here"] (spSR (TT Pt Pu)) := ⟨f3, _, m3, k3, (fun_mk lk3 hcd3 k3).binds (ps := ["state", "many_here"]) (fun _ _ _ _ _ _ us hl => match us, hl with | [_, _], _ => rfl), ok_ar lk3 hcd3 ⟨N, GT, GA, GC, GS, GR⟩ TB3 (tt_a ne)⟩
  exact ⟨N, GB, GT, GD, GS, R.lh, GE, GF⟩
theorem run_ats {fa a c Pt cu Pu : Addr} {ns : List Int} {s : Shared} {oc kV doc pm cdv ct : Value} {od an : Option Addr} {osl : Array (Option Value)}
    (C : ∀ base : Heap, K.In base → base.Ns mainGlobals mg → LamX.TabB base mg c Pt → LamX.TabB base mg cu Pu → CalL P w K mg base (TT Pt Pu))
    (lk : K.lookup fa = some ⟨oc, od, .func (PySem.W.fnOf "law" "law" (defArgs sLaw) (defBody sLaw) (defScope sLaw) .none kV doc pm an cdv ct), osl⟩) (hcd : PySem.W.codeIn K cdv "law" = true) (hl : ns.length ≤ 63) : RunAts P w K mg fa a [(c, Pt), (cu, Pu)] ns s := by
  intro base H inB nsB TB e0 hP hS
  have C := C base inB nsB (TB (c, Pt) (List.mem_cons_self ..)) (TB (cu, Pu) (List.mem_cons_of_mem _ (List.mem_cons_self ..)))
  have hr : Room 27 callerA := ⟨rfl, by decide, by decide⟩
  refine run_ofS (k := 26) (N := nLaw) (ps := ["script"]) (us := [.ref a]) (vs := [.ref a]) lk hcd scLaw hr e0 (.of_eq rfl) (.cons rfl .nil) rfl fun hr' => ?_
  have tabs : Tabs (TT Pt Pu) H := fun p hp => by
    rcases List.mem_cons.mp hp with rfl | hp
    · exact TabS.nil (hP (c, Pt) (List.mem_cons_self ..))
    · rw [List.mem_singleton.mp hp]
      exact TabS.nil (hP (cu, Pu) (List.mem_cons_of_mem _ (List.mem_cons_self ..)))
  obtain ⟨t, ht, hq⟩ := law_body (P := P) (w := w) (outer := []) (s := s) (H0 := H) (E := fun _ _ _ => False) (f := fa) (Q := fun v _ => v = .bl true) (vs := [.ref a]) C hr' ⟨a, ns, rfl, hS, hl, tabs, fun _ => rfl⟩
  exact ⟨t, ht.nox, hq⟩
theorem fin43 {h : Heap} {fa : Addr} (X : K.In h) (G : h.Ns mainGlobals mg) (hfa : mg "law" = some (.ref fa)) (N : Bl mg) (zs : PySem.W.nsIn K mainGlobals "set" = some none) (zd : PySem.W.nsIn K mainGlobals "dict" = some none) (D : Defs K mg) (PD : PDefs K mg) {t1 t2 : Tok} (MG : PySem.W.nsIn K mainGlobals "MOST_GAPS" = some (some (.int 16 t1))) (ML : PySem.W.nsIn K mainGlobals "MOST_LOTS" = some (some (.int 400 t2)))
    {fl f3 c Pt fu cu Pu : Addr} {oc0 kV0 doc0 pm0 cdv ct0 oc kV doc pm ct oc2 kV2 doc2 pm2 ct2 : Value} {od0 an0 od an dd od2 an2 dd2 : Option Addr} {osl0 osl sl osl2 sl2 : Array (Option Value)} {vs vs2 : Array Value} (a : PySem.W.nsIn K mainGlobals "law" = some (some (.ref fl)))
    (lk : K.lookup fl = some ⟨oc0, od0, .func (PySem.W.fnOf "law" "law" (defArgs sLaw) (defBody sLaw) (defScope sLaw) .none kV0 doc0 pm0 an0 cdv ct0), osl0⟩) (hcd : PySem.W.codeIn K cdv "law" = true)
    (a3 : PySem.W.nsIn K mainGlobals "_law_arcs_right" = some (some (.ref f3))) (k3 : PySem.W.keepIn K (.ref f3) = true)
    (lk3 : K.lookup f3 = some ⟨oc, od, .func (PySem.W.fnOf "_law_arcs_right" "_law_arcs_right" (defArgs sAR) (defBody sAR) (defScope sAR) .none kV doc pm an (.ref c) ct), osl⟩) (hcd3 : PySem.W.codeIn K (.ref c) "_law_arcs_right" = true)
    (lc : K.lookup c = some ⟨.type "code", dd, .fields vs, sl⟩) (cf : CodeF vs Pt) (cP : c ≠ Pt) (kP : K.lookup Pt = none)
    (a2 : PySem.W.nsIn K mainGlobals "_law_stretch_size" = some (some (.ref fu))) (k2 : PySem.W.keepIn K (.ref fu) = true)
    (lk2 : K.lookup fu = some ⟨oc2, od2, .func (PySem.W.fnOf "_law_stretch_size" "_law_stretch_size" (defArgs sStr) (defBody sStr) (defScope sStr) .none kV2 doc2 pm2 an2 (.ref cu) ct2), osl2⟩) (hcd2 : PySem.W.codeIn K (.ref cu) "_law_stretch_size" = true)
    (lc2 : K.lookup cu = some ⟨.type "code", dd2, .fields vs2, sl2⟩) (cf2 : CodeF vs2 Pu) (cP2 : cu ≠ Pu) (kP2 : K.lookup Pu = none) (ne : Pt ≠ Pu) :
    ∃ (f3 c Pt fu cu Pu : Addr), DefC K mg "_law_arcs_right" f3 c Pt ∧ DefC K mg "_law_stretch_size" fu cu Pu ∧ ∀ (s : Shared) (a : Addr) (ns : List Int), ns.length ≤ 63 → RunAts P w K mg fa a [(c, Pt), (cu, Pu)] ns s := by
  have e := PySem.W.mg_of X G a
  rw [hfa] at e
  injection e with e
  injection e with e
  subst e
  have m2 := PySem.W.mg_of X G a2
  have m3 := PySem.W.mg_of X G a3
  exact ⟨f3, c, Pt, fu, cu, Pu, ⟨_, _, dd, vs, sl, m3, lk3, rfl, rfl, lc, cf, cP, kP⟩, ⟨_, _, dd2, vs2, sl2, m2, lk2, rfl, rfl, lc2, cf2, cP2, kP2⟩, fun s a ns hl => run_ats (fun base inB nsB TB1 TB2 => callees N (PySem.W.mg_none_of X G zs) D (promises N (PySem.W.mg_none_of X G zd) (PySem.W.mg_of X G MG) (PySem.W.mg_of X G ML) PD) m3 k3 lk3 hcd3 TB1 m2 k2 lk2 hcd2 TB2 ne) lk hcd hl⟩
end
end Lm
open PySem PySem.W PyProof.Rows
set_option Elab.async false
set_option maxRecDepth 100000 in
set_option maxHeartbeats 0 in
theorem PySem.Challenge.cw_lanesmeet_k43_whole_stretches_and_arcs_holds : PySem.Challenge.rw_lanesmeet_k43_whole_stretches_and_arcs.Holds := by
  w_on; o_law; k_head; (case hw => w_witness2)
  k_fill
  refine Lm.walk_guards (l := PySem.Challenge.rw_lanesmeet_k43_whole_stretches_and_arcs) (n := 63) (x2 := "_law_stretch_size") (x3 := "_law_arcs_right") rfl (by decide) rfl ?rec ?rec2 (fun w h Y => PySem.W.km_in_of Y) ?F
  case rec => rfl
  case rec2 => rfl
  case F =>
    intro w mg fa h KX G hmg
    refine' Lm.fin43 KX G hmg ?qN ?qs ?qd ?qD ?qP ?qMG ?qML ?qa ?qlk ?qhcd ?qa3 ?qk3 ?qlk3 ?qhcd3 ?qlc ?qcf ?qcP ?qkP ?qa2 ?qk2 ?qlk2 ?qhcd2 ?qlc2 ?qcf2 ?qcP2 ?qkP2 ?qne
    (case qa => k_is); (case qlk => k_is); (case qhcd => k_is)
    (case qa3 => k_is); (case qk3 => k_is); (case qlk3 => k_is); (case qhcd3 => k_is); (case qlc => k_is)
    (case qa2 => k_is); (case qk2 => k_is); (case qlk2 => k_is); (case qhcd2 => k_is); (case qlc2 => k_is)
    (case qs => k_is); (case qd => k_is); (case qMG => k_is); (case qML => k_is)
    (case qN => refine' Lm.bl_mk KX G ?_ ?_ ?_ ?_ ?_ ?_ ?_ ?_ ?_ ?_ ?_ ?_ ?_ ?_ ?_ ?_ <;> k_is)
    (case qD => refine' ⟨?_, ?_, ?_, ?_, ?_, ?_, ?_, ?_, ?_, ?_⟩ <;> (refine' Lm.at_mk KX G ?ya ?yl ?yc ?yk; (case ya => k_is); (case yl => k_is); (case yc => k_is); (case yk => k_is)))
    (case qP => refine' ⟨?_, ?_, ?_, ?_, ?_, ?_, ?_, ?_, ?_, ?_, ?_, ?_, ?_, ?_, ?_, ?_, ?_, ?_, ?_, ?_, ?_, ?_, ?_⟩ <;> (refine' Lm.at_mk KX G ?ya ?yl ?yc ?yk; (case ya => k_is); (case yl => k_is); (case yc => k_is); (case yk => k_is)))
    case qcf => exact ⟨_, _, _, _, _, _, _, rfl, rfl, rfl, rfl, rfl, rfl⟩
    case qcP => decide
    case qkP => rfl
    case qcf2 => exact ⟨_, _, _, _, _, _, _, rfl, rfl, rfl, rfl, rfl, rfl⟩
    case qcP2 => decide
    case qkP2 => rfl
    case qne => decide
