import PyProof.Rows.All
import Wide.All
import OpenK.AllK
import Wide.FinOn
import PySem.Challenge.RW_lanesmeet_k41_fewest_gaps
import HandS.Base
import HandS.Call
import HandS.List
import HandS.Comp
import HandS.Ends
import HandS.Dict
import HandS.Iter
import HandS.Exc
import HandS.TryOnly
import HandS.ExcOwn
import HandS.ExcIs
import HandS.IsInst
import HandS.Lambda
import HandS.Words
import HandS.WordsList
import HandS.WordsDict
import HandS.WordsExc
import PyProof.ReprReads
import HandS.Defaults
import HandS.Codes
import HandS.Wide
import HandS.Style
import HandS.TupAny
import HandS.Conv
import HandS.More
import HandS.Deep
import HandS.TupLe
import HandS.Text
import HandS.ExcInit
import HandS.FStr
import KE.KExcSuper
import PyProof.FString2
import HandS.ExcField
import KE.KExcIs
import PyProof.ExcBaseAll.ValueError
import KE.DataMinKey
import PyProof.Rows.CallKwBuiltin
import KE.GoesEnum
import HandS.Walk
import HandS.Small
import HandS.SortKw
import HandS.DictComp
import KE.SortKeyHeap
import PyProof.ReprRoads
import PyProof.ReprLen
import HandS.EndTab
import HandS.EndOwn
import KE.KExcLine
import KE.RegKSuper
set_option Elab.async false
set_option linter.all false
set_option maxRecDepth 100000
set_option maxHeartbeats 4000000
/-! An own exception that an except clause keeps: it is tracked from the clause on. -/
namespace Lm
open PySem PySem.Spec PyProof.Rows L2
/-- an exception's object, of the class cls, its own dict at d -/
def ExI (a : Addr) (cls : Value) (d : Option Addr) : HO := .ext fun h => ∃ oe : Obj, h.get? a = some oe ∧ Zc cls d oe ∧ ∃ vs, oe.data = .fields vs
theorem exI_ok {P : Program} {w : World} {H : Hp} {h : Heap} {a : Addr} {cls : Value} {d : Option Addr} {oe : Obj} {vs : Array Value} (e : h.get? a = some oe) (z : Zc cls d oe) (v : oe.data = .fields vs) : ObjOk P w H h a (ExI a cls d) :=
  ⟨⟨oe, e, z, vs, v⟩, ⟨oe, e⟩, fun _ _ ⟨o, q, r⟩ k => ⟨o, k o q, r⟩⟩
section
variable {X : Cx} {pins : List (Addr × Obj)} {σ : L2.St} {H : Hp} {s0 s1 : Shared} {B : Heap}
/-- back on the ground with the exception's object tracked -/
theorem landT {a : Addr} {o : HO} (I : Inv X pins σ H s0) (nb : ∀ b u, s0.heap.get? b = some u → b ∉ frs X.stack → B.get? b = some u)
    (st : B.StaysIn s1.heap) (up : s0.heap.UpToSlots s1.heap) (os : s1.os = s0.os) (ag : AllBare s1.gens)
    (n0 : s0.heap.get? a = none) (na : H a = none) (new : ObjOk X.prog X.w (upd H a o) s1.heap a o) : Inv X pins σ (upd H a o) s1 := by
  have slots : ∀ b ∈ frs X.stack, ∀ u, s0.heap.get? b = some u → ∃ sl, s1.heap.get? b = some { u with slots := sl } := by
    intro b hb u e
    obtain ⟨_, u', e', hd⟩ := I.stack.mem hb
    rw [e] at e'
    cases e'
    exact up b u e hd
  have off : ∀ b u, s0.heap.get? b = some u → b ≠ a := by
    intro b u e z
    rw [z, n0] at e
    cases e
  have un : Un (frs X.stack) [] H (upd H a o) s0.heap s1.heap := by
    constructor
    · intro b u e _ hb _
      exact st b u (nb b u e hb)
    · intro b u e _ hb _
      exact slots b hb u e
    · intro b u e n _
      rw [upd_ne (off b u e)]
      exact n
    · intro b u e _
      by_cases hb : b ∈ frs X.stack
      · obtain ⟨sl, q⟩ := slots b hb u e
        exact ⟨_, q⟩
      · exact ⟨u, st b u (nb b u e hb)⟩
    · intro b xs e
      rw [upd_ne (ne_of_none e na)]
      exact e
    · intro b u xs e
      rw [upd_ne (ne_of_none e na)]
      exact e
    · intro b ps e
      refine ⟨#[], ?_⟩
      rw [upd_ne (ne_of_none e na), e]
      simp
  have hk : HOk X.prog X.w H s1.heap := (I.inGround nb).kept st
  have hk2 : HOk X.prog X.w (upd H a o) s1.heap := by
    intro b u e
    by_cases hb : b = a
    · rw [hb] at e ⊢
      rw [upd_same] at e
      cases e
      exact new
    · rw [upd_ne hb] at e
      refine (hk b u e).stay (fun _ _ _ q => q) (fun c q => ?_) (fun c xs q => ?_)
      · rw [upd_ne (ne_of_none q na)]
        exact q
      · rw [upd_ne (ne_of_none q na)]
        exact q
  have fin := I.call (ch := []) (h' := s1.heap) (g' := s1.gens) (t' := s1.toks) (d' := s1.drawn) un hk2 ag (fun _ z => nomatch z)
  obtain ⟨p1, p2, p3, p4, p5⟩ := s1
  have e5 : p5 = s0.os := os
  subst e5
  exact fin
theorem suiteOf {a : Addr} {s : Shared} (I : Inv X pins σ H s) : Inv (X.suite a (X.pn ++ pins)) [] σ H s where
  ok := I.ok.suite _ _
  os := I.os
  bare := I.bare
  base := I.base
  loc := I.loc
  cell := I.cell
  free := I.free
  freeC := I.freeC
  pin := fun p hp => I.pin p (by
    have hp' : p ∈ (X.pn ++ pins) ++ [] := hp
    rwa [List.append_nil] at hp')
  hok := I.hok
  len := I.len
theorem ofSuite {a : Addr} {s : Shared} {more : List (Addr × Obj)} (ok : X.Ok) (I : Inv (X.suite a (X.pn ++ pins)) more σ H s) : Inv X pins σ H s where
  ok := ok
  os := I.os
  bare := I.bare
  base := I.base
  loc := I.loc
  cell := I.cell
  free := I.free
  freeC := I.freeC
  pin := fun p hp => I.pin p (List.mem_append_left _ hp)
  hok := I.hok
  len := I.len
end
/-- what such a clause wishes of an exception of the body -/
def wTr (K : PySem.W.Frag) (m : Nat) (c : Value) (i : Nat) (ts : Addr → TS) (D : Ends) : WX := fun cls d σ H =>
  PySem.W.exmOne K cls c = some true ∧ ∀ a, σ.length = m → H a = none → ts a { nx := fun σ' H' => D.nx (σ'.set i none) H', rt := D.rt, bk := fun σ' H' => D.bk (σ'.set i none) H', ct := fun σ' H' => D.ct (σ'.set i none) H' }
    (σ.set i (some (.ref a))) (upd H a (ExI a cls d))
section
variable {X : Cx} {x n : Str} {c : Value} {i : Nat} {body suite : List Stmt} {b₀ : Stmt} {np pos pos' : Pos} {tb : WX → TS} {ts : Addr → TS}
/-- try: .. / except x as n: suite; the exception's object is tracked in the suite and behind it -/
theorem ps_tryT (hs : X.stack = X.env :: X.outer) (hf : X.env.frame = some X.env.locals) (hN : X.N.Nodup) (hi : X.N[i]? = some n) (hln : X.env.kindOf n = some .local) (hc : Names X x c)
    (hb : ∀ (W : WX) (pn : List (Addr × Obj)) (xe : Value → Shared → Prop), Takes (X.tr pn xe) W → PassesOwn (model X.prog X.w) X.A X.env xe → PSs (X.tr pn xe) body (tb W))
    (hsu : ∀ (a : Addr) (pn : List (Addr × Obj)), PSs (X.suite a pn) (b₀ :: suite) (ts a)) :
    PS X (.Try body [.ExceptHandler (some (.Name x np)) (some n) (b₀ :: suite) pos'] [] [] pos) (fun D σ H => tb (wTr X.K X.N.length c i ts D) D σ H) := by
  constructor
  intro pins s σ H D I h
  have ok := I.ok
  have hfr : X.A.frames = some (X.env :: X.outer) := by rw [ok.frames, hs]
  refine wpAny_Try_except ?_
  refine wpAny_mono ((hb (wTr X.K X.N.length c i ts D) (X.pn ++ pins)
    (fun e s₁ => wpAny (model X.prog X.w) X.A (noteFrame e X.env) (fun _ s₂ => wpAny (model X.prog X.w) X.A (setFlight e none)
      (fun _ s₃ => wpAny (model X.prog X.w) X.A (handleBy e X.env [.ExceptHandler (some (.Name x np)) (some n) (b₀ :: suite) pos']) (SP X pins D) X.xe s₃) X.xe s₂) X.xe s₁)
    (fun u s' xx => ?kept) PassesOwn.looking).run [] s σ H D (I.toTry _) h) (fun f s1 hsp => ?done) (fun e s1 he => he)
  case kept =>
    obtain ⟨a, B, sI, pins', σ', H', cls, d, rfl, Ja, nb, up, sky, na, os, ag, hcls, hgo⟩ := xx
    have J : Inv X pins σ' H' sI := Ja.ofTry ok
    have nb' : ∀ b o, sI.heap.get? b = some o → b ∉ frs X.stack → B.get? b = some o := nb
    have skyX : Sky B (X.env :: X.outer) a (Zc cls d) X.env.locals s'.heap := by
      rw [← hs]
      exact sky
    refine Sky.land Zc.steady hfr hf skyX ?_
    intro h3 fl3 up3
    obtain ⟨oe3, vs3, g3, z3, d3⟩ := fl3.there
    have n0 : sI.heap.get? a = none := by
      cases q : sI.heap.get? a with
      | none => rfl
      | some o =>
        exfalso
        have hm : a ∈ frs X.stack := by
          refine Classical.byContradiction fun hn => ?_
          have z := nb' a o q hn
          rw [fl3.2.1] at z
          cases z
        rw [hs] at hm
        obtain ⟨_, o', e', hnf⟩ := fl3.2.2.1.mem hm
        rw [g3] at e'
        cases e'
        exact hnf _ d3
    have J3 := landT (a := a) (o := ExI a cls d) (s1 := { s' with heap := h3 }) J nb' fl3.1 (up.trans up3) os ag n0 na (exI_ok g3 z3 d3)
    refine wpAny_handleBy_cons (codeAny_handlers_test ?_) (by intro q; cases q)
    have LT : PySem.W.Looks (model X.prog X.w) h3 (typeOf (.ref a)) cls := by
      intro A Q E s k q
      refine wpAny_typeOf_ref (k _ _ g3) ?_
      rw [z3.1]
      exact q
    have LM := PySem.W.exm_one (M := model X.prog X.w) J3.kIn LT hcls
    have test : ∀ {Q : Value → Shared → Prop} {E : Value → Shared → Prop}, Q c { s' with heap := h3 } →
        wpAny (model X.prog X.w) (X.A.mark (some (.ref a))) (eval (.Name x np) X.env) Q E { s' with heap := h3 } := by
      intro Q E q
      obtain ⟨hg, hdbg, hm | ⟨hm, hv, hnn⟩⟩ := hc
      · exact ld_glob (X := X.suite a (X.pn ++ pins)) (suiteOf J3) hg hm q hdbg
      · exact ld_blt (X := X.suite a (X.pn ++ pins)) (suiteOf J3) hg hm hv q hnn hdbg
    refine test (LM.here ?_)
    refine codeAny_handlers_suite_as ?_
    refine HandSPX.lands_againZ fl3 ?_
    intro h4 fl4 up4
    obtain ⟨oe4, vs4, g4, z4, d4⟩ := fl4.there
    have J4 := landT (a := a) (o := ExI a cls d) (s1 := { s' with heap := h4 }) J nb' fl4.1 ((up.trans up3).trans up4) os ag n0 na (exI_ok g4 z4 d4)
    refine store_ok (X := X.suite a (X.pn ++ pins)) (v := .ref a) (suiteOf J4) hN hi (.inl hln) rfl (fun s5 S5 => ?_) (.inr hln)
    refine wpAny_mono ((hsu a (X.pn ++ pins)).run [] s5 _ _ _ S5 (hgo a J.len na)) (fun f s6 hsp => ?_) (fun _ _ z => z.elim)
    have gone : ∀ {σ6 : L2.St} {H6 : Hp} {R : Shared → Prop}, Inv (X.suite a (X.pn ++ pins)) [] σ6 H6 s6 → (∀ s7, Inv X pins (σ6.set i none) H6 s7 → R s7) →
        wpAny (model X.prog X.w) X.A (do bindName X.env n .none; unbindBehindTheSuite X.env n pos') (fun _ s7 => R s7) X.xe s6 := by
      intro σ6 H6 R S6 hq
      exact gone_ok (ofSuite ok S6) hN hi hln hq
    cases f with
    | next =>
      obtain ⟨σ6, H6, S6, q6⟩ := hsp
      exact gone S6 fun s7 J7 => ⟨_, _, J7, q6⟩
    | brk =>
      obtain ⟨σ6, H6, S6, q6⟩ := hsp
      exact gone S6 fun s7 J7 => ⟨_, _, J7, q6⟩
    | cont =>
      obtain ⟨σ6, H6, S6, q6⟩ := hsp
      exact gone S6 fun s7 J7 => ⟨_, _, J7, q6⟩
    | ret u =>
      obtain ⟨v6, σ6, H6, S6, r6, q6⟩ := hsp
      exact gone S6 fun s7 J7 => ⟨_, _, _, J7, r6, q6⟩
  case done =>
   cases f with
    | next =>
      obtain ⟨σ', H', J', q⟩ := hsp
      exact wpAny_execs_nil ⟨σ', H', J'.ofTry ok, q⟩
    | brk =>
      obtain ⟨σ', H', J', q⟩ := hsp
      exact ⟨σ', H', J'.ofTry ok, q⟩
    | cont =>
      obtain ⟨σ', H', J', q⟩ := hsp
      exact ⟨σ', H', J'.ofTry ok, q⟩
    | ret u =>
      obtain ⟨v, σ', H', J', r, q⟩ := hsp
      exact ⟨v, σ', H', J'.ofTry ok, r, q⟩
end
/-! ### isinstance of such an exception -/
theorem call_isX {X : Cx} {D : Addr} (C : ExcC X.K D) : CallR X (.builtin "isinstance") (fun xs H Q => ∃ (a : Addr) (c : V) (cv : Value) (b : Bool), xs = [.ref a, c] ∧ H a = some (ExI a (.ref D) none) ∧ (∀ u, RelV c u → u = cv) ∧ PySem.W.kitOne X.K (.ref D) cv = some b ∧ Q (.bl b) H) := by
  intro pins s σ H xs us Q I r h
  obtain ⟨a, c, cv, b, rfl, ha, hcv, e, q⟩ := h
  cases r with
  | cons rx rr =>
    cases rr with
    | cons rt rr =>
      cases rr
      cases rx
      have ec := hcv _ rt
      subst ec
      obtain ⟨⟨oe, hget, hz, vs, hv⟩, _, _⟩ := I.hok a _ ha
      have J : PySem.W.InstAt s.heap a oe D none := by
        obtain ⟨oc, od, oda, osl⟩ := oe
        obtain ⟨h1, h2⟩ := hz
        dsimp only at h1 h2 hv
        subst h1 h2 hv
        exact ⟨hget, rfl, rfl, trivial⟩
      exact PySem.W.kia_one (PySem.W.handS_kitx_exc C.hg C.hk C.hs C.hd C.ha C.hn C.ht C.hm) I.kIn J e (fun z => nomatch z)
        (fun tk => ⟨.bl b, H, I.kept (t' := tk) (fun _ _ z => z), rfl, q⟩)
end Lm
/-! repr of a list of data. -/
namespace Lm
open PySem PySem.Spec PyProof.Rows L2
theorem repr_list {prog : Program} {w : World} {A : Around} {E : Value → Shared → Prop} {s : Shared} {a : Addr} {oa : Obj} {x : Value} {l : List Value} {n : Nat} {as : List Addr} {ds : List PyData} {Q : Value → Shared → Prop}
    (ha : s.heap.get? a = some oa) (hc : oa.cls = .type "list") (hd : oa.data = .seq (x :: l).toArray n) (hr : ReadsAll s.heap (x :: l) ds as) (hs : PyData.showableAll ds = true) (hnd : PyData.hasDictAll ds = false)
    (hz : (listText (PyData.shownAll ds)).length ≤ sizeLine) (hg : A.guards = some []) (hu : A.units + (PyData.depthAll ds + 8) < cLine)
    (hQ : ∀ h' u tk, (∀ b o, s.heap.get? b = some o → h'.get? b = some o) → Q (.str (listText (PyData.shownAll ds)) u) { s with heap := h', toks := tk }) :
    wpAny (model prog w) A (call (.builtin "repr") [.ref a]) Q E s := by
  obtain ⟨bs, hb, hk⟩ := ReprAllK.of_readsAll (prog := prog) (w := w) hr hs (fun z => by rw [hnd] at z; cases z) (fun t ht => Nat.le_trans (listText_mem_le ht) hz)
  have r : Reads s.heap (.ref a) (.list ds) _ := .list ha hc hd hr
  have hna : a ∉ bs := not_mem_of_deeper r (by simp only [PyData.depth]; omega) hb
  have hT : s.TypeIs (.ref a) "list" := ⟨oa, ha, hc⟩
  refine Calls.call_function_entry F.kind_repr F.plain_repr F.entry_repr (F.args_repr1 _) ?_
  unfold Builtin.«repr»
  refine wpAny_bind (m := oneArg "repr" _) (wpAny_pure ?_)
  refine wpAny_bind (wpAny_cRoomFor (by show A.units + 1 < _; omega) ?_)
  refine wpAny_bind (wpAny_specialOf (name := Str.ofString "__repr__") hT PySem.F.slot_list_repr.lookup ?_)
  refine wpAny_bind (m := callSpecialIfBound? (.ref a) (Str.ofString "__repr__")) (wpAny_callSpecialIfBound?_slot (name := Str.ofString "__repr__") hT PySem.F.slot_list_repr
    (call_list_reprK ha hc hd hna (by simpa using hk.length_eq) (fun i y e => hk.item i y (by simpa using e)) (g := []) (by simpa using hg) (fun b _ => Clear.nil b) (by show A.units + 1 + _ < _; omega) (fun b o e => e) (fun h' u tk hk => ?_) hz))
  refine wpAny_bind (wpAny_isInstance (T := "str") (b := true) rfl isSubtype_str_str ?_)
  exact wpAny_pure ⟨_, rfl, hQ h' u tk hk⟩
end Lm
/-! A def at hand by its name; the state of the draws; data that the draws leave as they are. -/
namespace Lm
open PySem PySem.Spec PyProof.Rows L2
/-- the def named x keeps its promise -/
def Has (P : Program) (w : World) (K : PySem.W.Frag) (mg : Str → Option Value) (base : Heap) (CX : CXT) (k : Nat) (x : Str) (ps : List Str) (sp : Sp) : Prop :=
  ∃ (f : Addr) (fd : FuncData), mg x = some (.ref f) ∧ PySem.W.keepIn K (.ref f) = true ∧ L2.Binds K fd ps [] ∧ FnOk P w K mg base CX k f fd ps sp
theorem Has.imp {P : Program} {w : World} {K : PySem.W.Frag} {mg : Str → Option Value} {base : Heap} {CX : CXT} {k : Nat} {x : Str} {ps : List Str} {sp sp' : Sp} (h : Has P w K mg base CX k x ps sp) (i : ∀ vs H Q E, sp' vs H Q E → sp vs H Q E) : Has P w K mg base CX k x ps sp' := by
  obtain ⟨f, fd, a, b, c, d⟩ := h
  exact ⟨f, fd, a, b, c, d.imp i⟩
def tH (sp : Sp) (E : XK) (t : TA) : TE := fun σ H Q => t σ H fun vs H1 => sp vs H1 Q E
def tHK (ks : List Str) (gV : List V → List V) (sp : Sp) (E : XK) (tk : TA) : TE := fun σ H Q => tk σ H fun zs H1 => zs.length = ks.length ∧ sp (gV zs) H1 Q E
section
variable {X : Cx} {CX : CXT} {x : Str} {ps : List Str} {sp : Sp} {E : XK} {j k : Nat} {p pos : Pos} {e : Expr} {es : List Expr} {t : TA}
theorem pe_h (c : Has X.prog X.w X.K X.mg X.base CX k x ps sp) (hr : Room j X.A) (hk : k ≤ j) (hg : Gl X x) (hx : Passes CX X E) (ha : PA X (e :: es) t) (hdb : (x == ("__debug__" : Str)) = false := by decide)
    (he : starEach (e :: es) X.env = (false, eval e X.env) :: starEach es X.env := by rfl) (hpl : (backTo pos (starEach es X.env)).any (·.1) = false := by rfl) : PE X (.Call (.Name x p) (e :: es) [] pos) (tH sp E t) := by
  obtain ⟨f, fd, hm, kp, b, F⟩ := c
  constructor
  intro pins s σ H Q I h
  have h : t σ H fun vs H1 => sp vs H1 Q E := h
  refine (pe_call F (hr.mono hk) hg hm kp b .nil hx ha hdb he hpl).run pins s σ H Q I ?_
  show t σ H fun vs H1 => sp (vs ++ []) H1 Q E
  simpa using h
end
/-- a def that is called by keywords alone -/
def HasK (P : Program) (w : World) (K : PySem.W.Frag) (mg : Str → Option Value) (base : Heap) (CX : CXT) (k : Nat) (x : Str) (ps ks : List Str) (gV : List V → List V) (sp : Sp) : Prop :=
  ∃ (f : Addr) (fd : FuncData) (g : List Value → List Value → List Value), mg x = some (.ref f) ∧ PySem.W.keepIn K (.ref f) = true ∧ KBn K fd ps 0 ks g (fun _ zs => gV zs) ∧ FnOk P w K mg base CX k f fd ps sp
section
variable {X : Cx} {CX : CXT} {x : Str} {ps ks : List Str} {sp : Sp} {E : XK} {j k : Nat} {p pos : Pos} {kws : List Keyword} {tk : TA} {gV : List V → List V}
theorem pe_hK (c : HasK X.prog X.w X.K X.mg X.base CX k x ps ks gV sp) (hr : Room j X.A) (hk : k ≤ j) (hg : Gl X x) (hx : Passes CX X E) (hkw : PK X kws tk)
    (hall : (backToKw pos (keywordEach kws X.env)).all (·.1.isSome) = true := by rfl) (hks : (backToKw pos (keywordEach kws X.env)).filterMap (·.1) = ks := by rfl)
    (hpl : ((backTo pos (starEach [] X.env)).any (·.1) || (backToKw pos (keywordEach kws X.env)).any (·.1.isNone)) = false := by rfl) (hdb : (x == ("__debug__" : Str)) = false := by decide) :
    PE X (.Call (.Name x p) [] kws pos) (tHK ks gV sp E tk) := by
  obtain ⟨f, fd, g, hm, kp, b, F⟩ := c
  constructor
  intro pins s σ H Q I h
  have h : tk σ H fun zs H1 => zs.length = ks.length ∧ sp (gV zs) H1 Q E := h
  refine wpAny_Call_Name_kw (ld_glob I hg hm ?_ hdb)
  refine PySem.W.callWith_KW0 (h₀ := X.base) I.ok.mod.kin kp hall ?_ hpl
  refine thn (hkw.run pos pins s σ H _ I h) ?_
  intro ws s2 ⟨zs, H2, I2, rz, l2, q2⟩
  refine ⟨I2.kIn, ?_⟩
  rw [hks]
  exact run_fnN (us := []) (vs := []) F (hr.mono hk) b hx I2 .nil rz rfl l2 q2
end
/-! ### the state of the draws -/
structure DrA where
  d : Addr
  w : Addr
  c : Addr
def drF (D : DrA) (r t : Int) : List (Key × V) := [(.inr "wide", .ref D.w), (.inr "cells", .ref D.c), (.inr "rest", .int r), (.inr "turn", .int t)]
/-- the state stands, and at most n turns were taken -/
def DrawAt (D : DrA) (n : Nat) (H : Hp) : Prop := ∃ (ws cs : List Int) (r t : Int), H D.d = some (.dK (drF D r t)) ∧ H D.w = some (.lst (ws.map V.int)) ∧ H D.c = some (.lst (cs.map V.int)) ∧ ((∀ x ∈ cs, 0 ≤ x ∧ x < 2147483629) ∧ D.c ≠ D.w) ∧ 0 ≤ t ∧ t ≤ (n : Int)
theorem DrawAt.mono {D : DrA} {n m : Nat} {H : Hp} (h : DrawAt D n H) (l : n ≤ m) : DrawAt D m H := by
  obtain ⟨ws, cs, r, t, h1, h2, h3, h4, h5, h6⟩ := h
  exact ⟨ws, cs, r, t, h1, h2, h3, h4, h5, by omega⟩
theorem DrawAt.same {D : DrA} {n : Nat} {H H' : Hp} (h : DrawAt D n H) (s : ∀ b o, H b = some o → (∀ ps, o ≠ .tbl ps) → H' b = some o) : DrawAt D n H' := by
  obtain ⟨ws, cs, r, t, h1, h2, h3, h4, h5, h6⟩ := h
  exact ⟨ws, cs, r, t, s _ _ h1 (fun _ z => by cases z), s _ _ h2 (fun _ z => by cases z), s _ _ h3 (fun _ z => by cases z), h4, h5, h6⟩
/-- all but the state stands -/
def Fr (D : DrA) (H H' : Hp) : Prop := ∀ b o, H b = some o → b ≠ D.d → b ≠ D.w → H' b = some o
theorem Fr.refl (D : DrA) (H : Hp) : Fr D H H := fun _ _ h _ _ => h
theorem Fr.trans {D : DrA} {H H1 H2 : Hp} (a : Fr D H H1) (b : Fr D H1 H2) : Fr D H H2 := fun c o h n1 n2 => b c o (a c o h n1 n2) n1 n2
theorem Fr.of {D : DrA} {H H' : Hp} (a : Same H H') : Fr D H H' := fun c o h _ _ => a c o h
theorem same_upd {H : Hp} {p : Addr} {o : HO} (h : H p = none) : Same H (upd H p o) := by
  intro b x e
  rw [upd_ne (ne_of_none e h)]
  exact e
theorem drF_rest (D : DrA) (r t : Int) : valV (drF D r t) (.inr "rest") = some (.int r) := rfl
theorem drF_turn (D : DrA) (r t : Int) : valV (drF D r t) (.inr "turn") = some (.int t) := rfl
theorem drF_wide (D : DrA) (r t : Int) : valV (drF D r t) (.inr "wide") = some (.ref D.w) := rfl
theorem drF_cells (D : DrA) (r t : Int) : valV (drF D r t) (.inr "cells") = some (.ref D.c) := rfl
theorem drF_putR (D : DrA) (r t z : Int) : putK (drF D r t) (.inr "rest") (.int z) = drF D z t := rfl
theorem drF_putT (D : DrA) (r t z : Int) : putK (drF D r t) (.inr "turn") (.int z) = drF D r z := rfl
def B : Nat := 70368744177664
/-! ### data apart from the state -/
mutual
inductive Da (D : DrA) (H : Hp) : V → PyData → Prop
  | non : Da D H .non .none
  | bl (b : Bool) : Da D H (.bl b) (.bool b)
  | int (i : Int) : Da D H (.int i) (.int i)
  | str (x : Str) : Da D H (.str x) (.str x)
  | lst {a : Addr} {xs : List V} {ds : List PyData} : H a = some (.lst xs) → a ≠ D.d → a ≠ D.w → DaAll D H xs ds → Da D H (.ref a) (.list ds)
  | tup {a : Addr} {xs : List V} {ds : List PyData} : H a = some (.tup xs) → a ≠ D.d → a ≠ D.w → DaAll D H xs ds → Da D H (.ref a) (.tuple ds)
  | emp {a : Addr} : H a = some (.dK []) → a ≠ D.d → a ≠ D.w → Da D H (.ref a) (.dict [])
inductive DaAll (D : DrA) (H : Hp) : List V → List PyData → Prop
  | nil : DaAll D H [] []
  | cons {v : V} {vs : List V} {d : PyData} {ds : List PyData} : Da D H v d → DaAll D H vs ds → DaAll D H (v :: vs) (d :: ds)
end
/-- all but the state, and but the tables, stands -/
def FrT (D : DrA) (H H' : Hp) : Prop := ∀ b o, H b = some o → b ≠ D.d → b ≠ D.w → (∀ ps, o ≠ .tbl ps) → H' b = some o
theorem FrT.refl (D : DrA) (H : Hp) : FrT D H H := fun _ _ h _ _ _ => h
theorem FrT.trans {D : DrA} {H H1 H2 : Hp} (a : FrT D H H1) (b : FrT D H1 H2) : FrT D H H2 := fun c o h n1 n2 n3 => b c o (a c o h n1 n2 n3) n1 n2 n3
theorem Fr.t {D : DrA} {H H' : Hp} (a : Fr D H H') : FrT D H H' := fun c o h n1 n2 _ => a c o h n1 n2
mutual
theorem Da.fr {D : DrA} {H H' : Hp} (f : FrT D H H') : ∀ {d : PyData} {v : V}, Da D H v d → Da D H' v d
  | _, _, .non => .non
  | _, _, .bl b => .bl b
  | _, _, .int i => .int i
  | _, _, .str x => .str x
  | _, _, .lst h n1 n2 ha => .lst (f _ _ h n1 n2 (fun _ z => by cases z)) n1 n2 (DaAll.fr f ha)
  | _, _, .tup h n1 n2 ha => .tup (f _ _ h n1 n2 (fun _ z => by cases z)) n1 n2 (DaAll.fr f ha)
  | _, _, .emp h n1 n2 => .emp (f _ _ h n1 n2 (fun _ z => by cases z)) n1 n2
theorem DaAll.fr {D : DrA} {H H' : Hp} (f : FrT D H H') : ∀ {ds : List PyData} {vs : List V}, DaAll D H vs ds → DaAll D H' vs ds
  | _, _, .nil => .nil
  | _, _, .cons h ha => .cons (Da.fr f h) (DaAll.fr f ha)
end
theorem DaAll.length {D : DrA} {H : Hp} : ∀ {ds : List PyData} {vs : List V}, DaAll D H vs ds → vs.length = ds.length
  | _, _, .nil => rfl
  | _, _, .cons _ ha => congrArg Nat.succ (DaAll.length ha)
theorem DaAll.get {D : DrA} {H : Hp} : ∀ {ds : List PyData} {vs : List V} {i : Nat} {v : V}, DaAll D H vs ds → vs[i]? = some v → ∃ d, ds[i]? = some d ∧ Da D H v d
  | _, _, _, _, .nil, e => by simp at e
  | _, _, 0, _, .cons h _, e => by
    simp at e
    subst e
    exact ⟨_, rfl, h⟩
  | _, _, i + 1, _, .cons _ ha, e => by
    obtain ⟨d, h1, h2⟩ := DaAll.get (i := i) ha (by simpa using e)
    exact ⟨d, by simpa using h1, h2⟩
theorem DaAll.app {D : DrA} {H : Hp} : ∀ {ds es : List PyData} {vs ws : List V}, DaAll D H vs ds → DaAll D H ws es → DaAll D H (vs ++ ws) (ds ++ es)
  | _, _, _, _, .nil, h => h
  | _, _, _, _, .cons a b, h => .cons a (DaAll.app b h)
theorem DaAll.take {D : DrA} {H : Hp} (n : Nat) : ∀ {ds : List PyData} {vs : List V}, DaAll D H vs ds → DaAll D H (vs.take n) (ds.take n) := by
  induction n with
  | zero => intro ds vs _; exact .nil
  | succ n ih =>
    intro ds vs h
    cases h with
    | nil => exact .nil
    | cons a b => exact .cons a (ih b)
theorem DaAll.drop {D : DrA} {H : Hp} (n : Nat) : ∀ {ds : List PyData} {vs : List V}, DaAll D H vs ds → DaAll D H (vs.drop n) (ds.drop n) := by
  induction n with
  | zero => intro ds vs h; exact h
  | succ n ih =>
    intro ds vs h
    cases h with
    | nil => exact .nil
    | cons a b => exact ih b
theorem DaAll.rev {D : DrA} {H : Hp} : ∀ {ds : List PyData} {vs : List V}, DaAll D H vs ds → DaAll D H vs.reverse ds.reverse
  | _, _, .nil => .nil
  | _, _, .cons a b => by
    rw [List.reverse_cons, List.reverse_cons]
    exact DaAll.app (DaAll.rev b) (.cons a .nil)
theorem DaAll.ints {D : DrA} {H : Hp} : ∀ ns : List Int, DaAll D H (ns.map V.int) (ns.map PyData.int)
  | [] => .nil
  | n :: r => .cons (.int n) (DaAll.ints r)
/-- a new object lies apart from the state -/
theorem DrawAt.off {D : DrA} {n : Nat} {H : Hp} {p : Addr} (h : DrawAt D n H) (np : H p = none) : p ≠ D.d ∧ p ≠ D.w := by
  obtain ⟨ws, cs, r, t, h1, h2, _⟩ := h
  constructor
  · intro z
    rw [z, h1] at np
    cases np
  · intro z
    rw [z, h2] at np
    cases np
theorem DrawAt.new {D : DrA} {n : Nat} {H : Hp} {p : Addr} {o : HO} (h : DrawAt D n H) (np : H p = none) : DrawAt D n (upd H p o) := h.same fun b x e _ => same_upd np b x e
end Lm
/-! An own exception whose __init__ says super().__init__(f"..") and keeps one field. -/
namespace Lm
open PySem PySem.Spec PyProof.Rows L2
/-! ### {x!r} of None or an int -/
def tFmtN (te : TE) : TE := fun σ H Q => te σ H fun x H1 => (x = .non ∧ Q (.str "None") H1) ∨ ∃ i : Int, x = .int i ∧ i.natAbs.log2 < 1920 ∧ Q (.str (toString i)) H1
theorem pe_fmtN {X : Cx} {e : Expr} {te : TE} {pos : Pos} (he : PE X e te) : PE X (.FormattedValue e 114 none pos) (tFmtN te) := by
  refine ⟨fun pins s σ H Q I h => ?_⟩
  refine wpAny_FormattedValue_repr (thn (he.run pins s σ H _ I h) fun v s1 hv => ?_)
  obtain ⟨x, H1, I1, r1, q⟩ := hv
  rcases q with ⟨rfl, q⟩ | ⟨i, rfl, hz, q⟩
  · obtain rfl : v = Value.none := r1
    exact pyReprObj_none (wpAny_formatField_str ⟨.str "None", H1, I1.tok _, ⟨_, rfl⟩, q⟩ ⟨.str "None", H1, I1.tok _, ⟨_, rfl⟩, q⟩ (by decide +kernel))
  · obtain ⟨t, rfl⟩ := r1
    exact pyReprObj_int hz (wpAny_formatField_str ⟨.str (toString i), H1, I1.tok _, ⟨_, rfl⟩, q⟩ ⟨.str (toString i), H1, I1.tok _, ⟨_, rfl⟩, q⟩ (int_text_fits hz))
theorem lk_cons {α : Type} (k y : Str) (v : α) (r : List (Str × α)) : ((k, v) :: r).lookup y = if y = k then some v else r.lookup y := by
  by_cases h : y = k
  · rw [if_pos h]
    simp [List.lookup, h]
  · rw [if_neg h]
    have : (y == k) = false := by simpa using h
    simp [List.lookup, this]
theorem lk_nil {α : Type} (y : Str) : ([] : List (Str × α)).lookup y = none := rfl
/-! ### the frame of such an __init__ -/
/-- what the written part says of the def -/
structure InitAt (P : Program) (K : PySem.W.Frag) (mg : Str → Option Value) (C : Addr) (st : Stmt) (fI : Addr) (fd : FuncData) : Prop where
  ex : ∃ (oc : Value) (od : Option Addr) (kV doc pm : Value) (an : Option Addr) (cda cc : Addr) (ct : Value) (osl : Array (Option Value)) (qual : Str),
    fd = PySem.W.ksFn "__init__" qual (defArgs st) (defBody st) (defScope st) .none kV doc pm an (.ref cda) ct cc ∧ K.lookup fI = some ⟨oc, od, .func fd, osl⟩ ∧ PySem.W.codeIn K (.ref cda) qual = true ∧
    (∃ (ccl : Value) (cdd : Option Addr) (vs : Array Value) (ccs : Array (Option Value)) (file : Str) (tf : Tok), K.lookup cda = some ⟨ccl, cdd, .fields vs, ccs⟩ ∧ vs[2]? = some (.str file tf) ∧ ((P.main.file : Str) == file) = true) ∧
    ∃ (cl : Value) (cld : Option Addr) (csl : Array (Option Value)), K.lookup cc = some ⟨cl, cld, .cell (some (.ref C)), csl⟩
  cls : ∃ cd, PySem.W.clsIn K C = some cd
  self : PySem.W.mroIn K C (.ref C) = some true
  sup : mg "super" = none
  top : (P.main.scope.names.lookup ("super" : Str)).isSome = false
  along : PySem.W.ks_superIn K C C "__init__" = some (some (.builtin "ValueError.__init__"))
  isV : PySem.W.subIn K (.ref C) (.type "ValueError") = some true
  opq : PySem.W.nsIn K cStatics "thirdparty.any" = some none
  oex : OexC K C
/-- the context in which its body runs -/
def cxI (P : Program) (w : World) (K : PySem.W.Frag) (mg : Str → Option Value) (base : Heap) (N : List Str) (qual : Str) (scope : Scope) (f : Addr) (cd : Value) (cc : Addr) (A : Around) (outer : List Env) (s : Shared) (H : Hp) (xe : Value → Shared → Prop) : Cx where
  prog := P
  w := w
  K := K
  mg := mg
  base := base
  A := A.deeper (PySem.W.ksEnv qual scope s.heap.objs.size f cd cc)
  N := N
  s_0 := s
  H_0 := H
  env := PySem.W.ksEnv qual scope s.heap.objs.size f cd cc
  outer := outer
  stack := PySem.W.ksEnv qual scope s.heap.objs.size f cd cc :: outer
  ex := []
  calm := true
  fn := fun _ => false
  pn := []
  xe := xe
def nInit (x : Str) : List Str := ["self", x]
def scI (x : Str) : Scope := { kind := .function, names := [("self", .local), (x, .local), ("__class__", .free), ("super", .globalImplicit)], isGenerator := false, isCoroutine := false, more := [] }
section
variable {P : Program} {w : World} {K : PySem.W.Frag} {mg : Str → Option Value} {base : Heap}
theorem inv_init {x qual : Str} {f cc C : Addr} {cd : Value} {A : Around} {outer : List Env} {s : Shared} {H : Hp} {xe : Value → Shared → Prop} {u0 u1 : Value} {v0 v1 : V} {h₀ : Heap} {oc : Value} {od : Option Addr} {osl : Array (Option Value)}
    (hx : (x == ("self" : Str)) = false ∧ (x == ("__class__" : Str)) = false ∧ (x == ("super" : Str)) = false) (hd : A.handled = none) (e0 : Env0 P w K mg base A outer s H) (hcc : K.lookup cc = some ⟨oc, od, .cell (some (.ref C)), osl⟩)
    (r0 : RelV v0 u0) (r1 : RelV v1 u1) (ns : h₀.Ns s.heap.objs.size (fun y => ([("self", u0), (x, u1)] : List (Str × Value)).reverse.lookup y)) (hk : ∀ b o, s.heap.get? b = some o → h₀.get? b = some o) (t : Nat) :
    Inv (cxI P w K mg base (nInit x) qual (scI x) f cd cc A outer s H xe) [] [some v0, some v1] H { s with heap := h₀, toks := t } := by
  have KX : K.In s.heap := e0.mod.kin.keeps fun b o e => (e0.bs b o e).1
  have noA : ∀ b : Addr, b ∉ (cxI P w K mg base (nInit x) qual (scI x) f cd cc A outer s H xe).ex := fun b z => absurd (show b ∈ ([] : List Addr) from z) (by simp)
  have cells : ∀ y c, (cxI P w K mg base (nInit x) qual (scI x) f cd cc A outer s H xe).env.cells.lookup y = some c → y = ("__class__" : Str) ∧ c = cc := fun y c h => by
    have h : ([(("__class__" : Str), cc)] : List (Str × Addr)).lookup y = some c := h
    rw [lk_cons] at h
    by_cases e : y = ("__class__" : Str)
    · rw [if_pos e] at h
      exact ⟨e, (Option.some.inj h).symm⟩
    · rw [if_neg e] at h
      cases h
  have hccb : H cc = none := (e0.bs cc _ (e0.mod.kin _ _ hcc)).2
  refine ⟨⟨e0.mod, rfl, rfl, rfl, Nat.le_refl _, fun y z c h1 h2 => ?_, fun y hy => ?_, fun y c h => ?_, fun _ => hd, Around.frames_deeper e0.frames, .inr ⟨rfl, rfl⟩, fun b z => absurd z (noA b), e0.bs, e0.bsz, fun b _ _ => noA b, fun b z => absurd z (noA b), e0.funs, e0.frf⟩,
    rfl, e0.bare, Un.kept hk, ⟨_, ns, fun i y v h1 h2 h3 => ?_⟩, fun y c h => ?_, e0.hok.fresh (Nat.le_refl _), fun y c h => ?_, fun p hp => absurd (show p ∈ ([] : List (Addr × Obj)) from hp) (by simp), e0.hok.kept hk, rfl⟩
  · rw [(cells y c h1).1, (cells z c h2).1]
  · have hy : ([("self", .local), (x, .local), ("__class__", .free), ("super", .globalImplicit)] : List (Str × NameKind)).lookup y = some .cell ∨ ([("self", .local), (x, .local), ("__class__", .free), ("super", .globalImplicit)] : List (Str × NameKind)).lookup y = some .free := hy
    by_cases e : y = ("__class__" : Str)
    · exact ⟨cc, by rw [e]; rfl⟩
    · exfalso
      rw [lk_cons, lk_cons, lk_cons, lk_cons, lk_nil, if_neg e] at hy
      by_cases e1 : y = ("self" : Str)
      · rw [if_pos e1] at hy
        rcases hy with hy | hy <;> cases hy
      · rw [if_neg e1] at hy
        by_cases e2 : y = x
        · rw [if_pos e2] at hy
          rcases hy with hy | hy <;> cases hy
        · rw [if_neg e2] at hy
          by_cases e3 : y = ("super" : Str)
          · rw [if_pos e3] at hy
            rcases hy with hy | hy <;> cases hy
          · rw [if_neg e3] at hy
            rcases hy with hy | hy <;> cases hy
  · cases h
  · have hx1 : (x == ("self" : Str)) = false := hx.1
    match i, h1, h2 with
    | 0, h1, h2 =>
      have h1 : some ("self" : Str) = some y := h1
      cases h1
      have h2 : some (some v0) = some (some v) := h2
      cases h2
      refine ⟨u0, r0, .inl ⟨rfl, ?_⟩⟩
      have k : ¬ ("self" : Str) = x := fun z => by
        rw [← z] at hx1
        simp at hx1
      show ([(x, u1), ("self", u0)] : List (Str × Value)).lookup ("self" : Str) = some u0
      rw [lk_cons, if_neg k, lk_cons, if_pos rfl]
    | 1, h1, h2 =>
      have h1 : some x = some y := h1
      cases h1
      have h2 : some (some v1) = some (some v) := h2
      cases h2
      refine ⟨u1, r1, .inl ⟨?_, ?_⟩⟩
      · show ([("self", .local), (x, .local), ("__class__", .free), ("super", .globalImplicit)] : List (Str × NameKind)).lookup x = some .local
        rw [lk_cons, lk_cons, if_pos rfl]
        split <;> rfl
      · show ([(x, u1), ("self", u0)] : List (Str × Value)).lookup x = some u1
        rw [lk_cons, if_pos rfl]
    | i + 2, h1, h2 => cases h1
  · obtain ⟨_, rfl⟩ := cells y c h
    exact ⟨_, ⟨_, hk _ _ (KX _ _ hcc), rfl⟩⟩
  · obtain ⟨_, rfl⟩ := cells y c h
    exact hccb
theorem run_on {X : Cx} {pins : List (Addr × Obj)} {σ : L2.St} {H : Hp} {s : Shared} {D : Ends} {st : List Stmt} {t : TS} (I : Inv X pins σ H s) (p : PSs X st t) (q : t D σ H) : wpAny (model X.prog X.w) X.A (execs st X.env) (SP X pins D) X.xe s := p.run pins s σ H D I q
/-- ValueError.__init__, bound to the exception, is called -/
theorem call_mw {A : Around} {E : Value → Shared → Prop} {pins : List (Addr × Obj)} {σ : L2.St} {H : Hp} {s : Shared} {X : Cx} {u a C : Addr} {us : List Value} {Q : Value → Shared → Prop} (T : OexC X.K C) (I : Inv X pins σ H s) (e : H a = some (exo a C none))
    (hu : s.heap.get? u = some (PySem.W.kxs_mw "ValueError.__init__" a)) (hl : us.length ≤ sizeLine) (h : ∀ s', Inv X pins σ H s' → Q .none s') : wpAny (model X.prog X.w) A (call (.ref u) us) Q E s := by
  obtain ⟨nm, q, N, bs, bm, sn, sub, ab, col, dd, k0, k1, k2, k3, k5, hC, hbm⟩ := T.cls
  obtain ⟨t1, ho⟩ := exo_at I.hok e
  have fin : ∀ h', (∀ b o, b ≠ a → s.heap.get? b = some o → h'.get? b = some o) → h'.get? a = some (PySem.W.excRec (.ref C) s.heap.objs.size none .none .none (.bool false)) → Q .none { s with heap := h' } := fun h' k hx => by
    have J := I.write (t' := s.toks) (x := a) (e := a) (o := exo a C none) (by rw [e]; exact True.intro) (.inl rfl) k ⟨_, hx⟩ (exo_ok hx)
    have eu : upd H a (exo a C none) = H := by
      funext b
      by_cases hb : b = a
      · rw [hb, upd_same, e]
      · rw [upd_ne hb]
    rw [eu] at J
    exact h _ J
  have hCk := I.kIn _ _ hC
  obtain ⟨hh, g, d, t, os⟩ := s
  refine wpAny_call (codeAny_of_tree ?_)
  show wpAny _ A.in1 (callAny (.ref u) ⟨us, []⟩) _ _ _
  simp only [callAny]
  refine wpAny_bind (wpAny_load hu ?_)
  have kinds : (Value.type "method-wrapper" == Value.type "method" || Value.type "method-wrapper" == Value.type "builtin_function_or_method" || Value.type "method-wrapper" == Value.type "method-wrapper") = true := by decide
  simp only [PySem.W.kxs_mw, kinds, if_true]
  refine PySem.W.KFB.if_so (by decide) ?_
  refine wpAny_bind (PySem.W.check_bound_init PySem.F.excBase_ValueError.toExcCallFacts hCk ho rfl ?_)
  refine wpAny_bind (wpAny_pure (wpAny_pure ?_))
  refine ⟨plainId_quiet PySem.F.excBase_ValueError.init.plain _, codeAny_builtin PySem.F.excBase_ValueError.initEntry ?_⟩
  exact PySem.W.exc_init_tree (cls := .ref C) (t0 := t1) (dv := none) (c2 := .none) (c3 := .none) (b4 := .bool false) ho hl fun h' k hx _ => fin h' k hx
/-- the def's statements, as their text has them -/
structure InitTxt (st : Stmt) (x : Str) : Prop where
  sc : defScope st = scI x
  body : ∃ (m : Str) (j : Nat) (p0 p1 p2 p3 p4 p5 p6 p7 p8 p9 pa pb pc pd : Pos), defBody st = [
    .Expr (.Call (.Attribute (.Call (.Name "super" p0) [] [] p1) "__init__" p2) [.JoinedStr [.Constant (.str m) j p3, .FormattedValue (.Name x p4) 114 none p5] p6] [] p7) p8,
    .Assign [.Attribute (.Name "self" p9) x pa] (.Name x pb) pc] ∧ m.length ≤ 1000 ∧
    ∀ env, ∃ pl, eval (.Call (.Attribute (.Call (.Name "super" p0) [] [] p1) "__init__" p2) [.JoinedStr [.Constant (.str m) j p3, .FormattedValue (.Name x p4) 114 none p5] p6] [] p7) env = (do
      let ov ← attributeBase (.Call (.Name "super" p0) [] [] p1) "__init__" env (eval (.Call (.Name "super" p0) [] [] p1) env)
      standAt p2.atName
      let (f, first) ← holding [ov] (getMethod ov "__init__" pl)
      callWith p7 f first (backTo p7 (starEach [.JoinedStr [.Constant (.str m) j p3, .FormattedValue (.Name x p4) 114 none p5] p6] env)) [])
  params : (defArgs st).posonlyargs = [] ∧ ∃ a b, (defArgs st).args = [a, b] ∧ a.arg = "self"
/-- what it keeps: the argument in the one field -/
def spInit (K : PySem.W.Frag) (C : Addr) (x : Str) : Sp := fun vs H Q _ => ∃ (a : Addr) (y : V), vs = [.ref a, y] ∧ H a = some (exo a C none) ∧ PySem.W.findIn K (.ref C) x = some none ∧ (y = .non ∨ ∃ i : Int, y = .int i ∧ i.natAbs < 1000) ∧
  ∀ dx, H dx = none → dx ≠ a → Q .non (upd (upd H dx (exd dx [(x, y)])) a (exo a C (some dx)))
theorem ok_init {x : Str} {C fI : Addr} {st : Stmt} {fd : FuncData} (F : InitAt P K mg C st fI fd) (T : InitTxt st x) (hx : (x == ("self" : Str)) = false ∧ (x == ("__class__" : Str)) = false ∧ (x == ("super" : Str)) = false) (hdb : (x == ("__debug__" : Str)) = false ∧ (x == ("__classdict__" : Str)) = false) :
    FnOk P w K mg base CX0 1 fI fd ["self", x] (spInit K C x) := by
  refine ⟨fun vs H Q E h => ?_, fun A outer s H args us vs Q E hr e0 hb r hsp => ?_⟩
  · obtain ⟨a, y, rfl, _⟩ := h
    rfl
  · obtain ⟨a, y, rfl, ha, hno, hy, q⟩ := hsp
    obtain ⟨oc, od, kV, doc, pm, an, cda, cc, ct, osl, qual, rfl, lk, hcd, ⟨ccl, cdd, fs, ccs, file, tf, lcd, hfs, hfile⟩, cl, cld, csl, lcc⟩ := F.ex
    obtain ⟨cd, hcls⟩ := F.cls
    obtain ⟨m, j, p0, p1, p2, p3, p4, p5, p6, p7, p8, p9, pa, pb, pc, pd, hbody, hm, hev⟩ := T.body
    have hsc := T.sc
    have hpar := T.params
    have hself := F.self
    have hsup := F.sup
    have htop := F.top
    have halong := F.along
    have hisV := F.isV
    have hopq := F.opq
    have hoex := F.oex
    clear F T
    generalize defScope st = sc at *
    generalize defBody st = bd at *
    subst hsc hbody
    have KX : K.In s.heap := e0.mod.kin.keeps fun b o e => (e0.bs b o e).1
    have lim : s.heap.NoLimit := e0.mod.nolimit.keeps fun b o e => (e0.bs b o e).1
    match us, r with
    | [u0, u1], .cons r0 (.cons r1 .nil) =>
    obtain rfl : u0 = Value.ref a := r0
    refine ks_codeAny_call_defAt (binds := [("self", .ref a), (x, u1)]) hr.depth (KX _ _ lk) rfl lim (PySem.W.codeRec_of KX hcd) rfl hb ?_ ?_ (fun h₀ ns hk => ?_)
    · intro z hz
      have hz : z ∈ ([("self", .local), (x, .local), ("__class__", .free), ("super", .globalImplicit)] : List (Str × NameKind)) := hz
      simp at hz
      rcases hz with rfl | rfl | rfl | rfl <;> (intro e; cases e)
    · intro z hz
      have hz : z = (("self" : Str), Value.ref a) ∨ z = (x, u1) := by simpa using hz
      show ([("self", .local), (x, .local), ("__class__", .free), ("super", .globalImplicit)] : List (Str × NameKind)).lookup z.1 = some .local
      rcases hz with rfl | rfl
      · rw [lk_cons, if_pos rfl]
      · rw [lk_cons, lk_cons, if_pos rfl]
        split <;> rfl
    · have I := inv_init (qual := qual) (f := fI) (cd := .ref cda) (A := A) (outer := outer) (xe := fun e s' => wpAny (model P w) (A.deeper (PySem.W.ksEnv qual (scI x) s.heap.objs.size fI (.ref cda) cc)) (leaving (PySem.W.ksEnv qual (scI x) s.heap.objs.size fI (.ref cda) cc) e)
          (fun _ s'' => CR CX0 outer P w H s Q E (.error e) s'') (fun e' s'' => CR CX0 outer P w H s Q E (.error e') s'') s') hx hr.hd e0 lcc (v0 := .ref a) (u0 := .ref a) rfl r1 ns hk (s.toks + 2)
      have kS : (scI x).names.lookup ("super" : Str) = some .globalImplicit := by
        show ([("self", .local), (x, .local), ("__class__", .free), ("super", .globalImplicit)] : List (Str × NameKind)).lookup ("super" : Str) = some .globalImplicit
        rw [lk_cons, if_neg (by decide), lk_cons, if_neg (fun z => by rw [← z] at hx; simp at hx), lk_cons, if_neg (by decide), lk_cons, if_pos rfl]
      have kC : (scI x).names.lookup ("__class__" : Str) = some .free := by
        show ([("self", .local), (x, .local), ("__class__", .free), ("super", .globalImplicit)] : List (Str × NameKind)).lookup ("__class__" : Str) = some .free
        rw [lk_cons, if_neg (by decide), lk_cons, if_neg (fun z => by rw [← z] at hx; simp at hx), lk_cons, if_pos rfl]
      have kA : (scI x).names.lookup ("self" : Str) = some .local := rfl
      obtain ⟨hpos, ar, ar2, hargs, hself'⟩ := hpar
      obtain ⟨oD, hD1, hD2⟩ : ∃ oD, h₀.get? C = some oD ∧ oD.data = .cls cd := by
        unfold PySem.W.clsIn at hcls
        split at hcls
        · rename_i c0 d0 cd' sl ho
          cases hcls
          exact ⟨_, hk _ _ (KX _ _ ho), rfl⟩
        · cases hcls
      obtain ⟨t1, hxo⟩ := exo_at I.hok ha
      obtain ⟨pl, hev⟩ := hev (PySem.W.ksEnv qual (scI x) s.heap.objs.size fI (.ref cda) cc)
      refine ks_wpAt_execs_cons (ks_wpAt_Expr_any (ks_wpAt_MethodCall ?_ hev))
      · refine ks_wpAt_super_base (env := PySem.W.ksEnv qual (scI x) s.heap.objs.size fI (.ref cda) cc) (ar := ar) kS kC (by rfl) rfl (hk _ _ (KX _ _ lk)) rfl ?_ rfl (hk _ _ (KX _ _ lcd)) rfl hfs hfile htop ?_
        · show ((defArgs st).posonlyargs ++ (defArgs st).args).head? = some ar
          rw [hpos, hargs]
          rfl
        · obtain ⟨mb, b1, b2⟩ := e0.mod.blt
          refine PySem.W.ks_loadName_global rfl kS (Calls.loadGlobal_builtin (env := PySem.W.ksEnv qual (scI x) s.heap.objs.size fI (.ref cda) cc) (e0.mod.glob.keeps I.bk) hsup (b1.keeps I.bk) ((b2 "super" (by decide)).trans (by decide +kernel)) ⟨rfl, ?_⟩)
          refine wpAny_loadName_free rfl kC rfl ⟨_, hk _ _ (KX _ _ lcc), rfl⟩ ?_
          refine wpAny_loadName_local rfl (by rw [hself']; exact kA) ns (v := .ref a) ?_ ?_
          · rw [hself']
            show ([(x, u1), ("self", .ref a)] : List (Str × Value)).lookup ("self" : Str) = some (.ref a)
            rw [lk_cons, if_neg (fun z => by rw [← z] at hx; simp at hx), lk_cons, if_pos rfl]
          refine ks_wpAny_isType_cls hD1 hD2 ⟨rfl, ?_⟩
          refine ks_wpAny_call_super hD1 hD2 hxo rfl (fun c e => by cases e) (PySem.W.looks_mroIn I.kIn hself) (fun h2 hso hk2 => ?_)
          have I2 := I.kept (t' := s.toks + 2) hk2
          have hx2 := hk2 _ _ hxo
          have J2 : PySem.W.InstAt h2 a { cls := .ref C, dict := none, data := .fields #[.ref t1, .none, .none, .none, .bool false, .none] } C none := ⟨hx2, rfl, rfl, trivial⟩
          have along : PySem.W.alongIn K "__init__" ((cd.mro.dropWhile (· != .ref C)).drop 1) = some (some (.builtin "ValueError.__init__")) := by
            unfold PySem.W.ks_superIn at halong
            rw [hcls] at halong
            exact halong
          refine PySem.W.kxs_getMethod PySem.W.kxs_ValueError hso (PySem.W.looks_opaque I2.kIn hopq) (fun A Q E s k q => wpAny_bind ((PySem.W.looks_clsIn I2.kIn hcls) A _ E s k (wpAny_pure q))) rfl I2.kIn along (J2.type.andThen (PySem.W.looks_subIn I2.kIn hisV)) (PySem.W.ks_ne I2.kIn J2 hcls) (by decide) ?_
          have I3 := (I2.kept (t' := s.toks + 2 + 1) fun b o e => Heap.get?_push_of_some (PySem.W.kxs_mw "ValueError.__init__" a) e).pins_of (pins' := [(h2.objs.size, PySem.W.kxs_mw "ValueError.__init__" a)]) fun p hp => by
            rw [List.mem_singleton.mp hp]
            refine ⟨Heap.get?_push_size _ rfl, I2.hok.fresh (Nat.le_refl _), ?_, I2.nofs (Nat.le_refl _), fun v z => by cases z⟩
            exact Nat.ne_of_gt I2.lt
          have vx : Vis (scI x) x := .inl (by
            show ([("self", .local), (x, .local), ("__class__", .free), ("super", .globalImplicit)] : List (Str × NameKind)).lookup x = some .local
            rw [lk_cons, lk_cons, if_pos rfl]
            split <;> rfl)
          refine PySem.W.kxs_callWith (i := "ValueError.__init__") (x := a) rfl (PySem.Calls.evalArgs_plain ?_)
          refine thn ((pa_cons (pe_joined (.cons pe_str (.cons (pe_fmtN (pv 1 rfl vx hdb.1 hdb.2)) .nil))) pa_nil).run p7 [(h2.objs.size, PySem.W.kxs_mw "ValueError.__init__" a)] _ [some (.ref a), some y] H (fun vs H1 => vs.length = 1 ∧ H1 = H) I3 ?_) fun us s4 hus => ?_
          · have fits : ∀ z : Str, z.length ≤ 5000 → (Str.empty ++ m ++ z).length ≤ sizeLine := fun z hz => by
              rw [Str.length_append, Str.length_append, sizeLine_eq]
              have : Str.empty.length = 0 := rfl
              omega
            refine ⟨m, rfl, ?_, ?_⟩
            · have := fits "" (by decide +kernel)
              rw [Str.length_append] at this
              exact Nat.le_trans (Nat.le_add_right _ _) this
            · rcases hy with rfl | ⟨i, rfl, hi⟩
              · exact ⟨_, rfl, .inl ⟨rfl, _, rfl, fits _ (by decide +kernel), rfl, rfl⟩⟩
              · refine ⟨_, rfl, .inr ⟨i, rfl, ?_, _, rfl, fits _ ?_, rfl, rfl⟩⟩
                · by_cases h0 : i.natAbs = 0
                  · rw [h0]
                    decide
                  · have : i.natAbs.log2 < 10 := (Nat.log2_lt h0).mpr (by omega)
                    omega
                · have := int_text_length_le10 (a := i) (k := 4) (by decide) (by omega)
                  rw [PySem.ofString_length]
                  omega
          · obtain ⟨vs, H1, I4, r4, hl4, rfl⟩ := hus
            have pin := I4.pin _ (List.mem_append_right _ (List.mem_singleton.mpr rfl))
            refine ⟨pin.1, call_mw hoex I4 ha pin.1 ?_ fun s5 I5 => ?_⟩
            · show us.length ≤ sizeLine
              rw [← r4.length, hl4]
              decide
            · have I6 := (I5.pins_of (pins' := []) (fun _ z => nomatch z))
              have st := run_on (D := { nx := fun _ H' => Q .non H', rt := Q }) (st := [.Assign [.Attribute (.Name "self" p9) x pa] (.Name x pb) pc]) I6 (pss_one (ps_ost (pv 0) (pv 1 rfl vx hdb.1 hdb.2))) ⟨y, rfl, .ref a, rfl, a, C, rfl, hoex, hno, .inl ⟨ha, q⟩⟩
              refine wpAt_of_wpAny (wpAny_mono st (fun fl s6 hs => ?_) fun _ _ z => z)
              cases fl with
              | next =>
                obtain ⟨σ', H', J, qq⟩ := hs
                exact ⟨.non, H', J.os, J.bare, J.base, J.hok, rfl, qq⟩
              | ret u =>
                obtain ⟨v, σ', H', J, rv, qq⟩ := hs
                exact ⟨v, H', J.os, J.bare, J.base, J.hok, rv, qq⟩
              | brk =>
                obtain ⟨_, _, _, qq⟩ := hs
                exact False.elim qq
              | cont =>
                obtain ⟨_, _, _, qq⟩ := hs
                exact False.elim qq
end
end Lm
/-! Raising such an exception; its field and its class asked where it is held. -/
namespace Lm
open PySem PySem.Spec PyProof.Rows L2
/-- a class with such an __init__, as the head leaves it -/
structure YMk (P : Program) (K : PySem.W.Frag) (mg : Str → Option Value) (base : Heap) (w : World) (x : Str) (f : Str) (C : Addr) : Prop where
  at_ : mg x = some (.ref C)
  oex : OexC K C
  ini : ∃ (fI : Addr) (fd : FuncData), PySem.W.findIn K (.ref C) "__init__" = some (some (.ref fI)) ∧ PySem.W.typeIn K (.ref fI) = some (.type "function") ∧ FnOk P w K mg base CX0 1 fI fd ["self", f] (spInit K C f) ∧ L2.Binds K fd ["self", f] []
  no : PySem.W.findIn K (.ref C) f = some none
/-- a reading by what it leads to -/
def tOf (te : TE) : TE := fun σ H Q => ∃ Q0 : VK, te σ H Q0 ∧ ∀ v H', Q0 v H' → Q v H'
theorem pe_of {X : Cx} {e : Expr} {te : TE} (he : PE X e te) : PE X e (tOf te) := by
  refine ⟨fun pins s σ H Q I h => ?_⟩
  obtain ⟨Q0, h0, k⟩ := h
  exact thn (he.run pins s σ H Q0 I h0) fun u s1 ⟨v, H1, I1, r, q⟩ => ⟨v, H1, I1, r, k _ _ q⟩
/-- raise X(e) -/
def tBadY (C : Addr) (f : Str) (W : WX) (te : TE) : TS := fun _ σ H => te σ H fun y H1 => (y = .non ∨ ∃ i : Int, y = .int i ∧ i.natAbs < 1000) ∧ ∀ dx, H1 dx = none → W (.ref C) (some dx) σ (upd H1 dx (.xd [(f, y)]))
theorem xd_heap {H : Hp} {a dx : Addr} {C : Addr} {f : Str} {y : V} (na : H a = none) (hd : dx ≠ a) :
    upd (del (upd (upd (upd H a (exo a C none)) dx (exd dx [(f, y)])) a (exo a C (some dx))) a) dx (.xd [(f, y)]) = upd H dx (.xd [(f, y)]) := by
  funext b
  by_cases h1 : b = dx
  · rw [h1, upd_same, upd_same]
  · rw [upd_ne h1, upd_ne h1]
    by_cases h2 : b = a
    · rw [h2, del_same, na]
    · rw [del_ne h2, upd_ne h2, upd_ne h1, upd_ne h2]
theorem ps_badY {X : Cx} {W : WX} {x f : Str} {C : Addr} {e : Expr} {te : TE} {p pos pos2 : Pos} {j : Nat} (hc : X.calm = true) (M : YMk X.prog X.K X.mg X.base X.w x f C) (tk : Takes X W) (hr : Room j X.A) (hj : 2 ≤ j) (hg : Gl X x) (he : PE X e te) (hdb : (x == ("__debug__" : Str)) = false := by decide)
    (hs : starEach [e] X.env = (false, eval e X.env) :: starEach [] X.env := by rfl) : PS X (.Raise (some (.Call (.Name x p) [e] [] pos)) none pos2) (tBadY C f W te) := by
  obtain ⟨fI, fd, i1, i2, F, hb⟩ := M.ini
  have base := ps_raise (pos := pos2) hc tk (pmk_oex (p := p) (pos := pos) M.oex i1 i2 F (hr.mono hj) hb .nil pass0 hg M.at_ (pa_cons (pe_of he) pa_nil hs) hdb hs)
  refine ⟨fun pins s σ H D I h => base.run pins s σ H D I ?_⟩
  refine ⟨_, h, fun y H1 hq => ?_⟩
  obtain ⟨hy, q⟩ := hq
  refine ⟨by show 1 ≤ 1000; decide, fun a na => ⟨a, y, rfl, upd_same, M.no, hy, fun dx hd hne => ⟨rfl, dx, [(f, y)], upd_same, ?_, ?_, ?_⟩⟩⟩
  · rw [upd_ne hne, upd_same]
  · rwa [upd_ne hne] at hd
  · rw [xd_heap na hne]
    exact q dx (by rwa [upd_ne hne] at hd)
/-! ### such an exception, held -/
/-- e.f -/
def tXat (K : PySem.W.Frag) (f : Str) (te : TE) : TE := fun σ H Q => te σ H fun x H1 => ∃ (a C dd : Addr) (fs : List (Str × V)) (v : V), x = .ref a ∧ XfC K C ∧ PySem.W.findIn K (.ref C) f = some none ∧ H1 a = some (ExI a (.ref C) (some dd)) ∧ H1 dd = some (.xd fs) ∧ fs.lookup f = some v ∧ Q v H1
theorem pe_xat {X : Cx} {e : Expr} {te : TE} {pos : Pos} {f : Str} (he : PE X e te) (hb : attributeBase e f X.env (eval e X.env) = eval e X.env := by rfl) : PE X (.Attribute e f pos) (tXat X.K f te) := by
  refine ⟨fun pins s σ H Q I h => ?_⟩
  refine attr_of hb (thn (he.run pins s σ H _ I h) fun u s1 hh => ?_)
  obtain ⟨x, H1, I1, rx, a, C, dd, fs, v, ex, T, hno, ha, ea, l, q⟩ := hh
  subst ex
  obtain rfl : u = Value.ref a := rx
  obtain ⟨⟨oe, hget, hz, vs, hv⟩, _, _⟩ := I1.hok a _ ha
  have hx : ObjOk X.prog X.w H1 s1.heap dd (.xd fs) := I1.hok dd _ ea
  obtain ⟨mA, hns, hr⟩ := hx
  obtain ⟨od, ho, hl⟩ := lookIn_ns hns
  obtain ⟨u, hu, ru⟩ := RelO.some_of (v := v) (o := mA f) (by rw [← l]; exact hr f)
  have J : PySem.W.InstAt s1.heap a oe C (some od) := ⟨hget, hz.1, by unfold PySem.W.notCls; rw [hv] <;> rfl, by rw [hz.2]; exact ho⟩
  exact HandSPX.exc_get I1.kIn J T.ga T.gg T.exC (PySem.W.findObj_own T.hdC hno rfl (by rw [hl, hu])) (handed_of ru) ⟨v, H1, I1.tok _, ru, q⟩
theorem cls_there {K : PySem.W.Frag} {D : Addr} {cd : ClassData} (h : PySem.W.clsIn K D = some cd) : ∃ oD, K.lookup D = some oD ∧ oD.data = .cls cd := by
  unfold PySem.W.clsIn at h
  split at h
  · rename_i ho
    cases h
    exact ⟨_, ho, rfl⟩
  · cases h
/-- isinstance of it -/
theorem kitxY {K : PySem.W.Frag} {x D : Addr} {ox od : Obj} (C : ExcC K D) : PySem.W.KitX K (.ref x) (.ref D) (fun h => PySem.W.InstAt h x ox D (some od)) where
  ty := fun _ _ _ I => I.type
  it := fun M h X _ => by
    obtain ⟨cd, hc, _⟩ := PySem.W.any_some C.hd
    obtain ⟨oD, l, e⟩ := cls_there hc
    intro A Q E s k q
    obtain ⟨hh, g, d, t, os⟩ := s
    exact ks_wpAny_isType_cls (k _ _ (X _ _ l)) e q
  ne := fun h tp dd its n sl X htp => (PySem.W.handS_kitx_exc (x := x) (ox := ox) C.hg C.hk C.hs C.hd C.ha C.hn C.ht C.hm).ne h tp dd its n sl X htp
  ca := fun X I k => by
    have some_ : (PySem.W.clsIn K D).isSome = true := by
      obtain ⟨cd, hc, _⟩ := PySem.W.any_some C.hd
      rw [hc]
      rfl
    exact PySem.W.kx_classE X I C.hg C.hk C.hs (PySem.W.findObj_dataE some_ C.ha C.hn C.ht) C.hm k
theorem call_isY {X : Cx} {D : Addr} (C : ExcC X.K D) : CallR X (.builtin "isinstance") (fun xs H Q => ∃ (a dd : Addr) (fs : List (Str × V)) (c : V) (cv : Value) (b : Bool), xs = [.ref a, c] ∧ H a = some (ExI a (.ref D) (some dd)) ∧ H dd = some (.xd fs) ∧ (∀ u, RelV c u → u = cv) ∧ PySem.W.kitOne X.K (.ref D) cv = some b ∧ Q (.bl b) H) := by
  intro pins s σ H xs us Q I r h
  obtain ⟨a, dd, fs, c, cv, b, rfl, ha, hd, hcv, e, q⟩ := h
  match us, r with
  | [_, u], .cons rx (.cons rt .nil) =>
    cases rx
    have ec := hcv _ rt
    subst ec
    obtain ⟨⟨oe, hget, hz, vs, hv⟩, _, _⟩ := I.hok a _ ha
    have hx : ObjOk X.prog X.w H s.heap dd (.xd fs) := I.hok dd _ hd
    obtain ⟨mA, ⟨od, es, ep, ho, hr⟩, _⟩ := hx
    have J : PySem.W.InstAt s.heap a oe D (some od) := ⟨hget, hz.1, by unfold PySem.W.notCls; rw [hv] <;> rfl, by rw [hz.2]; exact ho⟩
    exact PySem.W.kia_one (kitxY C) I.kIn J e (fun z => nomatch z) (fun tk => ⟨.bl b, H, I.kept (t' := tk) (fun _ _ z => z), rfl, q⟩)
end Lm
/-! min(xs, key=len), the items tuples. -/
namespace Lm
open PySem PySem.Spec PyProof.Rows L2
theorem minLen_run {prog : Program} {w : World} {A : Around} {S : Addr} {n : Nat} {P : Nat → Value → Prop} {St : Nat → Shared → Prop} {s0 : Shared} {wr : List Addr} (L : Nat → Nat) (hS : s0.heap.objs.size ≤ S) (hw : ∀ b ∈ wr, s0.heap.objs.size ≤ b)
    (hP : ∀ i v, P i v → ∃ b its, v = .ref b ∧ IsTup s0.heap b its ∧ its.size = L i ∧ (its.size : Int) < 2 ^ 63) (hst : ∀ i (s : Shared) tk, St i s → St i { s with toks := tk }) :
    KeyRun prog w A (.builtin "len") .Lt S wr (fun a b => b = a) n P St (fun s => (∀ b o, s0.heap.get? b = some o → s.heap.get? b = some o) ∧ s.gens = s0.gens ∧ s.drawn = s0.drawn ∧ s.os = s0.os) (fun i k _ => ∃ t, k = .int (L i : Nat) t) (fun i j => decide ((L i : Int) < (L j : Int))) := by
  refine ⟨?_, ?_, ?_, ?_⟩
  · rintro s s' ⟨h1, h2, h3, h4⟩ m
    refine ⟨fun b o e => m.heap b o (fun hb => ?_) (h1 b o e), m.gens.trans h2, m.drawn.trans h3, m.os.trans h4⟩
    have hl := Heap.lt_size e
    rcases List.mem_cons.mp hb with z | z
    · exact absurd hl (Nat.not_lt.mpr (z ▸ hS))
    · exact absurd hl (Nat.not_lt.mpr (hw b z))
  · intro i k s s' h _
    exact h
  · intro i v s o Q E hi hp hJ hs ho q
    obtain ⟨b, its, rfl, ht, hL, hf⟩ := hP i v hp
    have ht' : IsTup s.heap b its := by
      obtain ⟨oo, e, r⟩ := ht
      exact ⟨oo, hJ.1 _ _ e, r⟩
    refine len_tuple ht' hf ?_
    rw [hL]
    exact q _ { s with toks := s.toks + 1 + 1 } hJ (hst _ _ _ hs) ho ⟨_, rfl⟩ fun _ _ h => h
  · rintro i j ki kj s Q E hJ ⟨t, rfl⟩ ⟨u, rfl⟩ q
    exact wpAny_lt_int (w := w) (show Q (.bool (decide ((L i : Int) < (L j : Int)))) s from q)
def tMinLen (K : PySem.W.Frag) (te : TE) : TE := fun σ H Q => te σ H fun x H1 => ∃ (a : Addr) (xs : List V) (L : Nat → Nat), x = .ref a ∧ SqL K H1 a xs ∧ 0 < xs.length ∧ (∀ (i : Nat) (v : V), xs[i]? = some v → ∃ (b : Addr) (ys : List V), v = .ref b ∧ SqT K H1 b ys ∧ ys.length = L i) ∧ ∀ (i : Nat) (v : V), xs[i]? = some v → Q v H1
theorem pe_minLen {X : Cx} {e : Expr} {te : TE} {p p2 kp pos : Pos} (hc : X.calm = true) (hg : Gl X "min") (hm : X.mg "min" = none) (hv : bootBuiltins "min" = some (.builtin "min")) (hg2 : Gl X "len") (hm2 : X.mg "len" = none) (he : PE X e te)
    (hs0 : starEach [e] X.env = (false, eval e X.env) :: starEach [] X.env := by rfl) (hst : backTo pos (starEach [e] X.env) = (false, eval e X.env) :: backTo pos (starEach [] X.env) := by rfl) (hpl : (backTo pos (starEach [e] X.env)).any (·.1) = false := by rfl)
    (hks : backToKw pos (keywordEach [⟨some (Str.ofString "key"), .Name "len" p2, kp⟩] X.env) = [(some (Str.ofString "key"), do let v ← eval (.Name "len" p2) X.env; standAt pos; pure v)] := by rfl) :
    PE X (.Call (.Name "min" p) [e] [⟨some (Str.ofString "key"), .Name "len" p2, kp⟩] pos) (tMinLen X.K te) := by
  refine ⟨fun pins s σ H Q I h => ?_⟩
  refine wpAny_Call_Name_kw (ld_blt I hg hm hv ?_)
  have ha : PA X [e] (tCons te tNil) := pa_cons he pa_nil hs0
  refine PyProof.Rows.callWith_kw (thn (ha.run pos pins s σ H (fun vs H1 => ∃ (a : Addr) (xs : List V) (L : Nat → Nat), vs = [.ref a] ∧ SqL X.K H1 a xs ∧ 0 < xs.length ∧ (∀ (i : Nat) (v : V), xs[i]? = some v → ∃ (b : Addr) (ys : List V), v = .ref b ∧ SqT X.K H1 b ys ∧ ys.length = L i) ∧ ∀ (i : Nat) (v : V), xs[i]? = some v → Q v H1) I ?_) fun us s1 hh => ?_) hst hpl (by rw [hks]; rfl) (by rw [hks]; rfl)
  · show te σ H _
    refine cast (congrArg (te σ H) (funext fun x => funext fun H1 => propext ⟨?_, ?_⟩)) h
    · rintro ⟨a, xs, L, rfl, k⟩
      exact ⟨a, xs, L, rfl, k⟩
    · rintro ⟨a, xs, L, ex, k⟩
      cases ex
      exact ⟨a, xs, L, rfl, k⟩
  · obtain ⟨vs, H1, I1, r1, a, xs, L, rfl, hq, h0, hL, q⟩ := hh
    rw [hks]
    refine wpAny_evalAll_cons (wpAny_bind (ld_blt I1 hg2 hm2 PySem.boot_len (wpAny_bind (wpAny_standAt (wpAny_pure (wpAny_evalAll_nil ?_))))))
    obtain ⟨u, rfl, r⟩ := vals1 r1
    obtain rfl : u = Value.ref a := r
    obtain ⟨its, rv, hl, hz⟩ := I1.list hq
    refine call_min_walkKB (q := "len") (iter_any hl.isList fun s₂ e2 st hne => ?_)
    subst e2
    have hlen := rv.length
    refine ⟨_, _, _, _, _, _, _, _, _, _, rfl, (Walks.list (A := X.A.in1) (I1.ok.hd hc) _ a hne its.toArray).toS, st, fun b hb => ?_, by rw [List.size_toArray]; omega, minLen_run (s0 := s1) L ?_ ?_ ?_ ?_, ⟨?_, rfl, rfl, rfl⟩, ?_⟩
    · show b < (s1.heap.push _).objs.size
      rw [Heap.size_push]
      have hal : a < s1.heap.objs.size := by
        obtain ⟨_, e, _⟩ := hl.isList
        exact Heap.lt_size e
      rcases List.mem_cons.mp hb with z | z
      · rw [z]
        exact Nat.lt_succ_self _
      · rw [List.mem_singleton.mp z]
        exact Nat.lt_succ_of_lt hal
    · show s1.heap.objs.size ≤ (s1.heap.push _).objs.size
      rw [Heap.size_push]
      exact Nat.le_succ _
    · intro b hb
      rw [List.mem_singleton.mp hb]
      exact Nat.le_refl _
    · intro i v hv
      have hv : its[i]? = some v := by simpa using hv
      obtain ⟨x, hx, rx⟩ : ∃ x, xs[i]? = some x ∧ RelV x v := by
        have hi : i < xs.length := by
          rw [hlen]
          exact (List.getElem?_eq_some_iff.mp hv).1
        obtain ⟨u, hu, ru⟩ := rv.get (List.getElem?_eq_getElem hi)
        rw [hv] at hu
        cases hu
        exact ⟨_, List.getElem?_eq_getElem hi, ru⟩
      obtain ⟨b, ys, rfl, hb, hl2⟩ := hL i x hx
      obtain rfl : v = Value.ref b := rx
      obtain ⟨it2, r2, p2', z2⟩ := I1.tuple hb
      have hn := line63
      have l2 := r2.length
      refine ⟨b, it2.toArray, rfl, p2', ?_, ?_⟩
      · rw [List.size_toArray, ← l2, hl2]
      · simp only [List.size_toArray]
        omega
    · intro i s tk h
      exact h
    · intro b o e
      exact Heap.get?_push_of_some _ e
    · intro v s' hp hJ
      have hv : its[PySem.argBest (fun i j => decide ((L i : Int) < (L j : Int))) (its.toArray.size - 1)]? = some v := by simpa using hp
      obtain ⟨x, hx, rx⟩ : ∃ x, xs[PySem.argBest (fun i j => decide ((L i : Int) < (L j : Int))) (its.toArray.size - 1)]? = some x ∧ RelV x v := by
        have hi : PySem.argBest (fun i j => decide ((L i : Int) < (L j : Int))) (its.toArray.size - 1) < xs.length := by
          rw [hlen]
          exact (List.getElem?_eq_some_iff.mp hv).1
        obtain ⟨u, hu, ru⟩ := rv.get (List.getElem?_eq_getElem hi)
        rw [hv] at hu
        cases hu
        exact ⟨_, List.getElem?_eq_getElem hi, ru⟩
      obtain ⟨k1, k2, k3, k4⟩ := hJ
      obtain ⟨h', g', d', tk', os'⟩ := s'
      have k2 : g' = s1.gens := k2
      have k3 : d' = s1.drawn := k3
      have k4 : os' = s1.os := k4
      subst k2 k3 k4
      exact ⟨x, H1, I1.kept (t' := tk') k1, rx, q _ x hx⟩
end Lm
/-! for i, x in enumerate(t), t a tuple. -/
namespace Lm
open PySem PySem.Spec PyProof.Rows L2
theorem enum_one {v : Value} {o : Obj} {G : Heap → Prop} (bg : Begins v o G) :
    Meets (Builtin.«enumerate.__new__» ⟨[.type "enumerate", v], []⟩) (fun _ R s => G s.heap ∧
      R (.ok (.ret (.ref (s.heap.push o).objs.size))) { s with heap := (s.heap.push o).push { cls := .type "enumerate", data := .fields #[.none, .bool false, .ref s.heap.objs.size, rawInt 0, .none, .none] } }) :=
  .of_wp fun prog w A R s hh => by
    obtain ⟨hp, g, d, tk, os⟩ := s
    obtain ⟨h1, hq⟩ := hh
    have hsub := sub_enumerate
    have go : ∀ {A' : Around} {E : Value → Shared → Prop} {Q : Value → Shared → Prop}, Q (.ref hp.objs.size) ⟨hp.push o, g, d, tk, os⟩ → wpAny (model prog w) A' (pyIter v) Q E ⟨hp, g, d, tk, os⟩ :=
      fun z => bg.iter prog w _ _ ⟨hp, g, d, tk, os⟩ _ h1 z
    wp_walk
    refine wpAny_stack_any fun st => wpAny_pure ?_
    split
    · rename_i c _ _ _ _ _
      cases (c == Value.type "enumerate")
      · wp_walk using go
        exact ⟨_, rfl, hq⟩
      · wp_walk using go
        exact ⟨_, rfl, hq⟩
    · wp_walk using go
      exact ⟨_, rfl, hq⟩
theorem call_enum_one {prog : Program} {w : World} {A : Around} {E : Value → Shared → Prop} {s : Shared} {v : Value} {o : Obj} {G : Heap → Prop} {Q : Value → Shared → Prop} (bg : Begins v o G) (h1 : G s.heap)
    (hq : ∀ h', IsEnum h' (s.heap.objs.size + 1) s.heap.objs.size 0 .none → h'.get? s.heap.objs.size = some o → (∀ b x, s.heap.get? b = some x → h'.get? b = some x) → Q (.ref (s.heap.objs.size + 1)) { s with heap := h' }) :
    wpAny (model prog w) A (call (.type "enumerate") [v]) Q E s := by
  refine callType_new F.called_enumerate (by decide) (F.typeCall_enumerate_1 _) (F.newCall_enumerate_1 _) (fun obj => F.args_object_init_2 obj _) F.entry_enumerate_new (enum_one bg) ⟨h1, ?_⟩
  have hz : (s.heap.push o).objs.size = s.heap.objs.size + 1 := Heap.size_push ..
  have at0 := Heap.get?_push_size (s.heap.push o) (o := { cls := .type "enumerate", data := .fields #[.none, .bool false, .ref s.heap.objs.size, rawInt 0, .none, .none] }) rfl
  show _ ∧ _
  rw [hz] at at0 ⊢
  exact ⟨⟨_, at0, rfl⟩, hq _ at0 (Heap.get?_push_of_some _ (Heap.get?_push_size _ bg.free)) fun b x e => Heap.get?_push_of_some _ (Heap.get?_push_of_some _ e)⟩
/-- the tuple at a as it stands at each turn, each item in a new pair -/
def ItT (K : PySem.W.Frag) (a : Addr) : It :=
  ⟨fun i H => ∃ (xs : List V) (x : V), SqT K H a xs ∧ xs[i]? = some x, fun i H v H' => ∃ T x, v = .ref T ∧ H T = none ∧ H' = upd H T (.tup [.int (i : Nat), x]) ∧ ∀ xs, SqT K H a xs → xs[i]? = some x, fun i H => ∃ xs : List V, SqT K H a xs ∧ xs.length = i⟩
theorem turn_enumT {P : Program} {w : World} {K : PySem.W.Frag} {elts : List Expr} {kk : Nat} {tpos : Pos} (a e it : Addr) :
    Turn P w K (.Tuple elts kk tpos) (ItT K a) [e, it] e (fun i h => (∃ old, IsEnum h e it ((i : Nat) : Int) old) ∧ h.IsTupleIter it a i ∧ e ≠ it) where
  mem := List.mem_cons_self ..
  obj := fun i h st b hb => by
    obtain ⟨⟨old, he⟩, ⟨o, ho, hc, hd⟩, _⟩ := st
    rcases List.mem_cons.mp hb with z | z
    · rw [z]
      exact ⟨_, he, fun v q => nomatch q⟩
    · rw [List.mem_singleton.mp z]
      exact ⟨o, ho, fun v q => by rw [hd] at q; cases q⟩
  keep := fun i h h' st k => by
    obtain ⟨⟨old, he⟩, hi, hne⟩ := st
    exact ⟨⟨old, k e (List.mem_cons_self ..) _ he⟩, hi.at fun o q => k it (List.mem_cons_of_mem _ (List.mem_cons_self ..)) o q, hne⟩
  item := by
    intro X hP hw hK hc i pins s σ H E I hf st hg
    subst hP hw hK
    obtain ⟨⟨old, he⟩, hit, hne⟩ := st
    obtain ⟨xs, x, hq, hx⟩ := hg
    obtain ⟨its, rv, p, _⟩ := I.tuple hq
    obtain ⟨u, hu, ru⟩ := rv.get hx
    have hel : e < s.heap.objs.size := Heap.lt_size he
    have hil : it < s.heap.objs.size := by
      obtain ⟨_, q, _⟩ := hit
      exact Heap.lt_size q
    have hT : s.heap.IsTuple a its.toArray := p
    obtain ⟨f0, f1, f2, f3, f4, f5⟩ := hf it (List.mem_cons_of_mem _ (List.mem_cons_self ..))
    have ait : a ≠ it := fun z => by
      obtain ⟨o1, e1, c1, _⟩ := hT
      obtain ⟨o2, e2, c2, _⟩ := hit
      rw [z, e2] at e1
      cases e1
      rw [c2] at c1
      exact absurd c1 (by decide)
    have hil2 : i < its.toArray.size := by
      have := (List.getElem?_eq_some_iff.mp hu).1
      simpa using this
    by_cases ea : e = a
    · exfalso
      obtain ⟨o1, e1, c1, _⟩ := hT
      rw [← ea, he] at e1
      cases e1
      have c1 : Value.type "enumerate" = Value.type "tuple" := c1
      exact absurd c1 (by decide)
    refine wpAny_pyNext_enum_itemC (Draws.tuple (A := X.A.in1) (I.ok.hd hc) it a ait its.toArray) he ⟨hit, hT⟩ hil2 hne (by simp [hne, ea]) fun v h' tk hP ho hst hT2 hsz hk => ?_
    have ev : v = u := by
      have hP : its.toArray[i]? = some v := hP
      rw [List.getElem?_toArray, hu] at hP
      exact (Option.some.inj hP).symm
    subst ev
    refine ⟨_, rfl, wpAny_letOwnedTupleGo_enum (s := { s with heap := h', toks := tk + 1 }) ho fun h'' he' sb => ?_⟩
    have hT3 : h''.get? s.heap.objs.size = some { cls := .type "tuple", data := .seq #[.int i tk, v] } := (sb.2 _ (Nat.ne_of_gt hel)).trans hT2
    have new : ObjOk X.prog X.w (upd H s.heap.objs.size (.tup [.int (i : Nat), x])) h'' s.heap.objs.size (.tup [.int (i : Nat), x]) :=
      ⟨by show 2 ≤ sizeLine; decide, [.int i tk, v], .cons ⟨_, rfl⟩ (.cons ru .nil), ⟨_, hT3, rfl, _, rfl⟩⟩
    have I1 : Inv X pins σ (upd H s.heap.objs.size (.tup [.int (i : Nat), x])) { s with heap := h'', toks := tk + 1 } :=
      I.turnedNew (ch := [e, it]) (fun b ob hb q => (sb.2 b (fun z => hb (by simp [z]))).trans (hk b ob (fun z => hb (by simp [z])) (fun z => hb (by simp [z])) q)) hf (Nat.le_refl _) new
    refine ⟨.ref s.heap.objs.size, _, I1, rfl, ⟨_, x, rfl, I.hok.fresh (Nat.le_refl _), rfl, fun ys hy => by rw [I.tuple_inj hy hq]; exact hx⟩, ⟨⟨v, ?_⟩, hst.1.at fun o q => (sb.2 it (Ne.symm hne)).trans q, hne⟩, fun b hb => ?_⟩
    · have e1 : ((i + 1 : Nat) : Int) = (i : Int) + 1 := by omega
      rw [e1]
      exact he'
    · have hb' : b < s.heap.objs.size := by
        rcases List.mem_cons.mp hb with z | z
        · rw [z]
          exact hel
        · rw [List.mem_singleton.mp z]
          exact hil
      rw [upd_ne (Nat.ne_of_lt hb')]
      exact (hf b hb).1
  done := by
    intro X hP hw hK hc i pins s σ H E I hf st hg
    subst hP hw hK
    obtain ⟨⟨old, he⟩, hit, hne⟩ := st
    obtain ⟨xs, hq, hx⟩ := hg
    obtain ⟨its, rv, p, _⟩ := I.tuple hq
    obtain ⟨f0, f1, f2, f3, f4, f5⟩ := hf it (List.mem_cons_of_mem _ (List.mem_cons_self ..))
    have hT : s.heap.IsTuple a its.toArray := p
    have hl := rv.length
    have ait : a ≠ it := fun z => by
      obtain ⟨o1, e1, c1, _⟩ := hT
      obtain ⟨o2, e2, c2, _⟩ := hit
      rw [z, e2] at e1
      cases e1
      rw [c2] at c1
      exact absurd c1 (by decide)
    have hn : its.toArray.size = i := by
      rw [List.size_toArray]
      omega
    subst hn
    exact wpAny_pyNext_enum_endD (Draws.tuple (A := X.A.in1) (I.ok.hd hc) it a ait its.toArray) he ⟨hit, hT⟩ fun h' eb => ⟨rfl, I.turned (t' := s.toks) (fun b o hb q => eb b o hb q) f0 f1 f3 f4 f5⟩
  self := fun A i s Q E st h => by
    obtain ⟨⟨_, he⟩, _⟩ := st
    exact wpAny_pyIter_enum he h
def iEnumT (K : PySem.W.Frag) (ta : TA) : TI := fun σ H R => ta σ H fun vs H1 => ∃ a xs, vs = [.ref a] ∧ SqT K H1 a xs ∧ R (ItT K a) H1
theorem pi_enumT {X : Cx} {e : Expr} {ta : TA} {p pos tpos : Pos} {elts : List Expr} {kk : Nat} (hg : Gl X "enumerate") (hm : X.mg "enumerate" = none) (ha : PA X [e] ta) (hs : starEach [e] X.env = [(false, eval e X.env)] := by rfl) :
    PI X (.Tuple elts kk tpos) (.Call (.Name "enumerate" p) [e] [] pos) (iEnumT X.K ta) := by
  refine ⟨fun pins s σ H R I h => ?_⟩
  have iter : ∀ (us : List Value) (s1 : Shared) (vs : List V) (H1 : Hp), Inv X pins σ H1 s1 → Vals vs us → (∃ a xs, vs = [V.ref a] ∧ SqT X.K H1 a xs ∧ R (ItT X.K a) H1) →
      wpAny (model X.prog X.w) X.A (call (.type "enumerate") us) (fun v s1 => wpAny (model X.prog X.w) X.A (pyIter v) (PIE X pins σ (.Tuple elts kk tpos) R) X.xe s1) X.xe s1 := by
    rintro us s1 vs H1 I1 r1 ⟨a, xs, rfl, hq, q⟩
    obtain ⟨u, rfl, r⟩ := vals1 r1
    obtain rfl : u = Value.ref a := r
    obtain ⟨its, rv, p', hz⟩ := I1.tuple hq
    refine call_enum_one (begins_tuple a its.toArray) p' fun h' he hit hk => wpAny_pyIter_enum he ?_
    have I2 : Inv X pins σ H1 { s1 with heap := h' } := I1.kept (t' := s1.toks) hk
    have hit0 : h'.IsTupleIter s1.heap.objs.size a 0 := ⟨_, hit, rfl, rfl⟩
    refine ⟨s1.heap.objs.size + 1, [s1.heap.objs.size + 1, s1.heap.objs.size], _, _, H1, rfl, I2, turn_enumT a (s1.heap.objs.size + 1) s1.heap.objs.size, ⟨⟨.none, he⟩, hit0, Nat.succ_ne_self _⟩, fun b hb => ?_, q⟩
    have hle : s1.heap.objs.size ≤ b := by
      rcases List.mem_cons.mp hb with z | z
      · rw [z]
        exact Nat.le_add_right _ _
      · rw [List.mem_singleton.mp z]
        exact Nat.le_refl _
    exact I1.fpOk hle (I1.hok.fresh hle)
  refine Call_ (ld_blt I hg hm boot_enumerate ?_)
  refine PyProof.Rows.callWith_type1 ?_ hs rfl
  refine thn (ha.run pos pins s σ H (fun vs H1 => ∃ a xs, vs = [V.ref a] ∧ SqT X.K H1 a xs ∧ R (ItT X.K a) H1) I h) fun us s1 hh => ?_
  obtain ⟨vs, H1, I1, r1, q1⟩ := hh
  exact iter us s1 vs H1 I1 r1 q1
theorem walk_enumT {K : PySem.W.Frag} {a : Addr} {xs : List V} : Walk (ItT K a) xs.length (fun H => SqT K H a xs) (fun i H v H' => ∃ T x, v = .ref T ∧ H T = none ∧ H' = upd H T (.tup [.int (i : Nat), x]) ∧ xs[i]? = some x) :=
  ⟨fun i H hi g => ⟨xs, xs[i], g, List.getElem?_eq_getElem hi⟩, fun H g => ⟨xs, g, rfl⟩, fun i H v H' hi g y => by
    obtain ⟨T, x, e1, e2, e3, e4⟩ := y
    exact ⟨T, x, e1, e2, e3, e4 xs g⟩⟩
theorem walk_enumL {K : PySem.W.Frag} {a : Addr} {xs : List V} : Walk (Ite K a) xs.length (fun H => SqL K H a xs) (fun i H v H' => ∃ T x, v = .ref T ∧ H T = none ∧ H' = upd H T (.tup [.int (i : Nat), x]) ∧ xs[i]? = some x) :=
  ⟨fun i H hi g => ⟨xs, xs[i], g, List.getElem?_eq_getElem hi⟩, fun H g => ⟨xs, g, Nat.le_refl _⟩, fun i H v H' hi g y => by
    obtain ⟨T, x, e1, e2, e3, e4⟩ := y
    exact ⟨T, x, e1, e2, e3, e4 xs g⟩⟩
end Lm
/-! d.update(e), both dicts of numbers and texts. -/
namespace Lm
open PySem PySem.Spec PyProof.Rows L2
theorem d_update {X : Cx} {pins : List (Addr × Obj)} {σ : L2.St} {H : Hp} {s : Shared} {a b : Addr} {kvs more : List (Key × V)} {A : Around} {E : Value → Shared → Prop} {Q : Value → Shared → Prop} (I : Inv X pins σ H s) (e : H a = some (.dK kvs)) (e2 : H b = some (.dK more)) (ne : a ≠ b) (hz : kvs.length + more.length ≤ sizeLine)
    (h : ∀ s', Inv X pins σ (upd H a (.dK (mergeK kvs more))) s' → Q .none s') : wpAny (model X.prog X.w) A (call (.builtin "dict.update") [.ref a, .ref b]) Q E s := by
  obtain ⟨z, hd, vs, rel, dd⟩ := dk_of I.hok e
  obtain ⟨z2, hd2, vs2, rel2, dd2⟩ := dk_of I.hok e2
  refine call_meetsIn PySem.F.slot_dict_update dd.typeIs PySem.F.entry_dict_update (PySem.F.args_dict_update_2 _ _) (meets_dict_update (mixKind X.prog X.w) a b ne hd2)
    ⟨vs, vs2, dd, dd2, by rw [← rel.length, ← rel2.length]; exact hz, fun h' dd' _ hs => ?_⟩
  refine h _ ?_
  have he : ∃ q, h'.get? a = some q := let ⟨q, _, _, hq, _⟩ := dd'; ⟨q, hq⟩
  exact d_write (t' := s.toks) I (by rw [e]; exact True.intro) hs he (dk_new (Nat.le_trans (length_mergeK more kvs) hz) hd (rel2.merge rel) dd')
def tDUpd (td ty : TE) : TE := fun σ H Q => td σ H fun x H1 => ∃ a, x = .ref a ∧ IsD H1 a ∧ ty σ H1 fun y H2 => ∃ kvs more b, H2 a = some (.dK kvs) ∧ y = .ref b ∧ H2 b = some (.dK more) ∧ a ≠ b ∧ kvs.length + more.length ≤ sizeLine ∧ Q .non (upd H2 a (.dK (mergeK kvs more)))
theorem pe_dupd {X : Cx} {o e : Expr} {apos cpos : Pos} {td ty : TE} (ho : PE X o td) (he : PE X e ty) (m : M1 X o "update" apos e cpos) : PE X (.Call (.Attribute o "update" apos) [e] [] cpos) (tDUpd td ty) := by
  refine ⟨fun pins s σ H Q I h => ?_⟩
  refine wpAny_Call_method m.base m.few m.line PySem.F.plainAttrs_dict PySem.F.slot_dict_update PySem.F.type_dict_update (thn (ho.run pins s σ H _ I h) fun u s1 ⟨x, H1, I1, rx, a, ex, d, q1⟩ => ?_)
  subst ex
  obtain rfl : u = Value.ref a := rx
  obtain ⟨t1, t2, _⟩ := isD_at I1 d
  refine ⟨t1, t2, ?_⟩
  rw [m.trees]
  refine Calls.callWith_builtin rfl (Calls.evalArgs_plain (Calls.spliced_cons (thn (he.run pins s1 σ H1 _ I1 q1) fun iv s2 h2 => Calls.spliced_nil ?_)))
  obtain ⟨y, H2, I2, ry, kvs, more, b, ea, ey, eb, ne, hz, q2⟩ := h2
  subst ey
  obtain rfl : iv = Value.ref b := ry
  exact d_update I2 ea eb ne hz fun s3 I3 => ⟨.non, _, I3, rfl, q2⟩
end Lm
/-! Gaps that hit lots: mathematics. -/
namespace Hm
abbrev Lots := List (List Int)
def hitsL (ls : Lots) (gs : List Int) : Prop := ∀ l ∈ ls, ∃ g, g ∈ l ∧ g ∈ gs
def Can (ls : Lots) (n : Nat) : Prop := ∃ gs : List Int, gs.length ≤ n ∧ hitsL ls gs
def woL (ls : Lots) (g : Int) : Lots := ls.filter fun l => !decide (g ∈ l)
def cutL (ls : Lots) (g : Int) : Lots := ls.map fun l => l.filter fun o => decide (o ≠ g)
def abvL (ls : Lots) (g : Int) : Lots := ls.map fun l => l.filter fun o => decide (g < o)
theorem mem_wo {ls : Lots} {g : Int} {l : List Int} : l ∈ woL ls g ↔ l ∈ ls ∧ g ∉ l := by
  unfold woL
  rw [List.mem_filter]
  simp
theorem can_nil (n : Nat) : Can [] n := ⟨[], Nat.zero_le _, fun _ z => nomatch z⟩
theorem can_empty {ls : Lots} {n : Nat} (h : [] ∈ ls) : ¬ Can ls n := by
  rintro ⟨gs, _, k⟩
  obtain ⟨g, z, _⟩ := k [] h
  cases z
theorem can_mono {ls : Lots} {n m : Nat} (h : Can ls n) (k : n ≤ m) : Can ls m := by
  obtain ⟨gs, a, b⟩ := h
  exact ⟨gs, Nat.le_trans a k, b⟩
theorem can_zero {ls : Lots} : Can ls 0 ↔ ls = [] := by
  constructor
  · rintro ⟨gs, a, b⟩
    have : gs = [] := List.length_eq_zero_iff.mp (Nat.le_zero.mp a)
    subst this
    cases ls with
    | nil => rfl
    | cons l r =>
      obtain ⟨g, _, z⟩ := b l (List.mem_cons_self ..)
      cases z
  · rintro rfl
    exact can_nil 0
theorem can_take {ls : Lots} {g : Int} {n : Nat} (h : Can (woL ls g) n) : Can ls (n + 1) := by
  obtain ⟨gs, a, b⟩ := h
  refine ⟨g :: gs, Nat.succ_le_succ a, fun l hl => ?_⟩
  by_cases hg : g ∈ l
  · exact ⟨g, hg, List.mem_cons_self ..⟩
  · obtain ⟨x, h1, h2⟩ := b l (mem_wo.mpr ⟨hl, hg⟩)
    exact ⟨x, h1, List.mem_cons_of_mem _ h2⟩
theorem can_cut {ls : Lots} {g : Int} {n : Nat} (h : Can (cutL ls g) n) : Can ls n := by
  obtain ⟨gs, a, b⟩ := h
  refine ⟨gs, a, fun l hl => ?_⟩
  obtain ⟨x, h1, h2⟩ := b _ (List.mem_map.mpr ⟨l, hl, rfl⟩)
  exact ⟨x, (List.mem_filter.mp h1).1, h2⟩
theorem filter_less {gs : List Int} {p : Int → Bool} {g : Int} (h : g ∈ gs) (n : p g = false) : (gs.filter p).length < gs.length := by
  induction gs with
  | nil => cases h
  | cons x r ih =>
    rcases List.mem_cons.mp h with rfl | h
    · rw [List.filter_cons_of_neg (by simp [n])]
      exact Nat.lt_succ_of_le (List.length_filter_le _ _)
    · by_cases hp : p x = true
      · rw [List.filter_cons_of_pos hp]
        exact Nat.succ_lt_succ (ih h)
      · rw [List.filter_cons_of_neg (by simpa using hp)]
        exact Nat.lt_succ_of_lt (ih h)
theorem can_split {ls : Lots} {g : Int} {n : Nat} (h : Can ls (n + 1)) : Can (woL ls g) n ∨ Can (cutL ls g) (n + 1) := by
  obtain ⟨gs, a, b⟩ := h
  by_cases hg : g ∈ gs
  · left
    refine ⟨gs.filter fun o => decide (o ≠ g), ?_, fun l hl => ?_⟩
    · have := filter_less (p := fun o => decide (o ≠ g)) hg (by simp)
      omega
    · obtain ⟨h1, h2⟩ := mem_wo.mp hl
      obtain ⟨x, k1, k2⟩ := b l h1
      exact ⟨x, k1, List.mem_filter.mpr ⟨k2, decide_eq_true fun z => h2 (z ▸ k1)⟩⟩
  · right
    refine ⟨gs, a, fun l hl => ?_⟩
    obtain ⟨l', h1, rfl⟩ := List.mem_map.mp hl
    obtain ⟨x, k1, k2⟩ := b l' h1
    exact ⟨x, List.mem_filter.mpr ⟨k1, decide_eq_true fun z => hg (z ▸ k2)⟩, k2⟩
/-- lots without common gaps want a gap each -/
theorem apart_le : ∀ {cs : Lots} {gs : List Int}, cs.Pairwise (fun a b => ∀ g ∈ a, g ∉ b) → hitsL cs gs → cs.length ≤ gs.length
  | [], _, _, _ => Nat.zero_le _
  | c :: r, gs, hp, hh => by
    obtain ⟨h1, h2⟩ := List.pairwise_cons.mp hp
    obtain ⟨g, k1, k2⟩ := hh c (List.mem_cons_self ..)
    have ih := apart_le (cs := r) (gs := gs.filter fun o => decide (o ≠ g)) h2 fun l hl => by
      obtain ⟨x, m1, m2⟩ := hh l (List.mem_cons_of_mem _ hl)
      exact ⟨x, m1, List.mem_filter.mpr ⟨m2, decide_eq_true fun z => h1 l hl g k1 (z ▸ m1)⟩⟩
    have := filter_less (p := fun o => decide (o ≠ g)) k2 (by simp)
    show r.length + 1 ≤ gs.length
    omega
theorem apart_can {ls cs : Lots} {n : Nat} (hs : ∀ c ∈ cs, c ∈ ls) (hp : cs.Pairwise fun a b => ∀ g ∈ a, g ∉ b) (h : Can ls n) : cs.length ≤ n := by
  obtain ⟨gs, a, b⟩ := h
  have := apart_le hp fun l hl => b l (hs l hl)
  omega
/-! ### the turns of can_hit -/
/-- the lots behind some gaps that are not taken -/
def cutsL (ls : Lots) : List Int → Lots
  | [] => ls
  | g :: r => cutsL (cutL ls g) r
theorem cutsL_snoc : ∀ (gs : List Int) (ls : Lots) (g : Int), cutsL ls (gs ++ [g]) = cutL (cutsL ls gs) g
  | [], _, _ => rfl
  | x :: r, ls, g => cutsL_snoc r (cutL ls x) g
theorem cuts_can : ∀ {gs : List Int} {ls : Lots} {n : Nat}, Can (cutsL ls gs) n → Can ls n
  | [], _, _, h => h
  | _ :: r, _, _, h => can_cut (cuts_can (gs := r) h)
theorem cuts_mem : ∀ {gs : List Int} {ls : Lots} {l : List Int}, l ∈ ls → (l.filter fun o => !decide (o ∈ gs)) ∈ cutsL ls gs
  | [], _, l, h => by
    have : (l.filter fun o => !decide (o ∈ ([] : List Int))) = l := by
      rw [List.filter_eq_self]
      intro a _
      simp
    rw [this]
    exact h
  | g :: r, ls, l, h => by
    have := cuts_mem (gs := r) (ls := cutL ls g) (l := l.filter fun o => decide (o ≠ g)) (List.mem_map.mpr ⟨l, h, rfl⟩)
    rw [List.filter_filter] at this
    refine (congrArg (· ∈ cutsL ls (g :: r)) ?_).mp this
    congr 1
    funext o
    by_cases h1 : o = g
    · simp [h1]
    · by_cases h2 : o ∈ r <;> simp [h1, h2]
theorem cuts_all {ls : Lots} {l : List Int} (h : l ∈ ls) {n : Nat} : ¬ Can (cutsL ls l) n := by
  refine can_empty ?_
  have := cuts_mem (gs := l) h
  have e : (l.filter fun o => !decide (o ∈ l)) = [] := by
    rw [List.filter_eq_nil_iff]
    intro a ha
    simp [ha]
  rw [e] at this
  exact this
/-! ### the first tuple -/
def Asc (t : List Int) : Prop := t.Pairwise (· < ·)
/-- equal up to a place at which f has the lesser gap -/
def Lt (f t : List Int) : Prop := ∃ (p : List Int) (x y : Int) (r s : List Int), f = p ++ x :: r ∧ t = p ++ y :: s ∧ x < y
structure Inv (ls : Lots) (n : Nat) (g : Int) (f : List Int) (L : Lots) : Prop where
  asc : Asc f
  low : ∀ x ∈ f, x < g
  pos : ∀ x ∈ f, 0 ≤ x
  len : f.length ≤ n
  on : ∃ gs : List Int, gs.length ≤ n - f.length ∧ (∀ x ∈ gs, g ≤ x) ∧ hitsL L gs
  left : ∀ l ∈ ls, l ∈ L ∨ ∃ x, x ∈ l ∧ x ∈ f
  sub : ∀ l ∈ L, l ∈ ls ∧ ∀ x ∈ f, x ∉ l
  least : ∀ t, Asc t → t.length = n → (∀ x ∈ t, 0 ≤ x) → hitsL ls t → (∃ r, t = f ++ r ∧ ∀ x ∈ r, g ≤ x) ∨ Lt f t
theorem inv_start {ls : Lots} {n : Nat} (h : Can ls n) (h0 : ∀ l ∈ ls, ∀ x ∈ l, 0 ≤ x) : Inv ls n 0 [] ls := by
  obtain ⟨gs, a, b⟩ := h
  refine ⟨List.Pairwise.nil, (fun _ z => nomatch z), (fun _ z => nomatch z), Nat.zero_le _, ⟨gs.filter fun o => decide (0 ≤ o), ?_, fun x hx => of_decide_eq_true (List.mem_filter.mp hx).2, fun l hl => ?_⟩,
    fun l hl => .inl hl, fun l hl => ⟨hl, fun _ z => nomatch z⟩, fun t _ _ hp _ => .inl ⟨t, rfl, hp⟩⟩
  · exact Nat.le_trans (List.length_filter_le _ _) a
  · obtain ⟨x, k1, k2⟩ := b l hl
    exact ⟨x, k1, List.mem_filter.mpr ⟨k2, decide_eq_true (h0 l hl x k1)⟩⟩
theorem asc_app {a b : List Int} (h : Asc (a ++ b)) : Asc b ∧ ∀ x ∈ a, ∀ y ∈ b, x < y :=
  ⟨(List.pairwise_append.mp h).2.1, (List.pairwise_append.mp h).2.2⟩
theorem inv_take {ls : Lots} {n : Nat} {g : Int} {f : List Int} {L : Lots} (I : Inv ls n g f L) (g0 : 0 ≤ g) (hl : f.length < n) (h : Can (abvL (woL L g) g) (n - f.length - 1)) : Inv ls n (g + 1) (f ++ [g]) (woL L g) := by
  obtain ⟨gs, a, b⟩ := h
  have fl : (f ++ [g]).length = f.length + 1 := by simp
  refine ⟨?_, ?_, ?_, by omega, ⟨gs.filter fun o => decide (g < o), ?_, ?_, ?_⟩, ?_, ?_, ?_⟩
  · unfold Asc
    rw [List.pairwise_append]
    refine ⟨I.asc, List.pairwise_singleton _ _, fun x hx y hy => ?_⟩
    rw [List.mem_singleton.mp hy]
    exact I.low x hx
  · intro x hx
    rcases List.mem_append.mp hx with hx | hx
    · have := I.low x hx
      omega
    · rw [List.mem_singleton.mp hx]
      omega
  · intro x hx
    rcases List.mem_append.mp hx with hx | hx
    · exact I.pos x hx
    · rw [List.mem_singleton.mp hx]
      exact g0
  · have := List.length_filter_le (fun o => decide (g < o)) gs
    omega
  · intro x hx
    have := of_decide_eq_true (List.mem_filter.mp hx).2
    omega
  · intro l hl
    obtain ⟨x, k1, k2⟩ := b _ (List.mem_map.mpr ⟨l, hl, rfl⟩)
    obtain ⟨k3, k4⟩ := List.mem_filter.mp k1
    exact ⟨x, k3, List.mem_filter.mpr ⟨k2, k4⟩⟩
  · intro l hl
    rcases I.left l hl with k | ⟨x, k1, k2⟩
    · by_cases hg : g ∈ l
      · exact .inr ⟨g, hg, List.mem_append_right _ (List.mem_singleton.mpr rfl)⟩
      · exact .inl (mem_wo.mpr ⟨k, hg⟩)
    · exact .inr ⟨x, k1, List.mem_append_left _ k2⟩
  · intro l hl
    obtain ⟨h1, h2⟩ := mem_wo.mp hl
    refine ⟨(I.sub l h1).1, fun x hx => ?_⟩
    rcases List.mem_append.mp hx with hx | hx
    · exact (I.sub l h1).2 x hx
    · rw [List.mem_singleton.mp hx]
      exact h2
  · intro t h1 h2 h3 h4
    rcases I.least t h1 h2 h3 h4 with ⟨r, rfl, hr⟩ | ⟨p, x, y, r, s, rfl, e2, e3⟩
    · cases r with
      | nil =>
        rw [List.append_nil] at h2
        omega
      | cons y r =>
        have gy := hr y (List.mem_cons_self ..)
        by_cases e : y = g
        · subst e
          refine .inl ⟨r, by simp, fun x hx => ?_⟩
          have := (List.pairwise_cons.mp (asc_app h1).1).1 x hx
          omega
        · exact .inr ⟨f, g, y, [], r, rfl, rfl, by omega⟩
    · exact .inr ⟨p, x, y, r ++ [g], s, by simp, e2, e3⟩
theorem inv_full {ls : Lots} {n : Nat} {g : Int} {f : List Int} {L : Lots} (I : Inv ls n g f L) (hl : ¬ f.length < n) : Inv ls n (g + 1) f L := by
  have e := I.len
  refine ⟨I.asc, fun x hx => by have := I.low x hx; omega, I.pos, I.len, ?_, I.left, I.sub, fun t h1 h2 h3 h4 => ?_⟩
  · obtain ⟨gs, a, b, c⟩ := I.on
    have : gs = [] := List.length_eq_zero_iff.mp (by omega)
    subst this
    exact ⟨[], Nat.zero_le _, (fun _ z => nomatch z), c⟩
  · rcases I.least t h1 h2 h3 h4 with ⟨r, rfl, hr⟩ | k
    · rw [List.length_append] at h2
      have : r = [] := List.length_eq_zero_iff.mp (by omega)
      subst this
      exact .inl ⟨[], rfl, fun _ z => nomatch z⟩
    · exact .inr k
theorem inv_skip {ls : Lots} {n : Nat} {g : Int} {f : List Int} {L : Lots} (I : Inv ls n g f L) (hl : f.length < n) (h : ¬ Can (abvL (woL L g) g) (n - f.length - 1)) : Inv ls n (g + 1) f L := by
  refine ⟨I.asc, fun x hx => by have := I.low x hx; omega, I.pos, I.len, ?_, I.left, I.sub, fun t h1 h2 h3 h4 => ?_⟩
  · obtain ⟨gs, a, b, c⟩ := I.on
    by_cases hg : g ∈ gs
    · refine absurd ⟨gs.filter fun o => decide (g < o), ?_, fun l hl => ?_⟩ h
      · have := filter_less (p := fun o => decide (g < o)) hg (by simp)
        omega
      · obtain ⟨l', m1, rfl⟩ := List.mem_map.mp hl
        obtain ⟨m2, m3⟩ := mem_wo.mp m1
        obtain ⟨x, k1, k2⟩ := c l' m2
        have xg : g < x := by
          have := b x k2
          have : x ≠ g := fun z => m3 (z ▸ k1)
          omega
        exact ⟨x, List.mem_filter.mpr ⟨k1, decide_eq_true xg⟩, List.mem_filter.mpr ⟨k2, decide_eq_true xg⟩⟩
    · refine ⟨gs, a, fun x hx => ?_, c⟩
      have := b x hx
      have : x ≠ g := fun z => hg (z ▸ hx)
      omega
  · rcases I.least t h1 h2 h3 h4 with ⟨r, rfl, hr⟩ | k
    · cases r with
      | nil =>
        rw [List.append_nil] at h2
        omega
      | cons y r =>
        have gy := hr y (List.mem_cons_self ..)
        have ay := List.pairwise_cons.mp (asc_app h1).1
        by_cases e : y = g
        · subst e
          refine absurd ⟨r, ?_, fun l hl => ?_⟩ h
          · rw [List.length_append, List.length_cons] at h2
            omega
          · obtain ⟨l', m1, rfl⟩ := List.mem_map.mp hl
            obtain ⟨m2, m3⟩ := mem_wo.mp m1
            obtain ⟨k1, k2⟩ := I.sub l' m2
            obtain ⟨x, q1, q2⟩ := h4 l' k1
            rcases List.mem_append.mp q2 with q2 | q2
            · exact absurd q1 (k2 x q2)
            · rcases List.mem_cons.mp q2 with rfl | q2
              · exact absurd q1 m3
              · exact ⟨x, List.mem_filter.mpr ⟨q1, decide_eq_true (ay.1 x q2)⟩, q2⟩
        · refine .inl ⟨y :: r, rfl, fun x hx => ?_⟩
          rcases List.mem_cons.mp hx with rfl | hx
          · omega
          · have := ay.1 x hx
            omega
    · exact .inr k
/-- what least_hits is to tell -/
structure First (ls : Lots) (many : Int) (f : List Int) : Prop where
  asc : Asc f
  low : ∀ x ∈ f, 0 ≤ x ∧ x < many
  hit : hitsL ls f
  few : ∀ t, hitsL ls t → f.length ≤ t.length
  least : ∀ t, Asc t → t.length = f.length → (∀ x ∈ t, 0 ≤ x) → hitsL ls t → t = f ∨ Lt f t
theorem inv_end {ls : Lots} {n : Nat} {many : Int} {f : List Int} {L : Lots} (I : Inv ls n many f L) (hm : ∀ l ∈ ls, ∀ x ∈ l, x < many) (hn : ∀ m, m < n → ¬ Can ls m) : First ls many f := by
  have hL : L = [] := by
    cases L with
    | nil => rfl
    | cons l r =>
      obtain ⟨gs, _, b, c⟩ := I.on
      obtain ⟨x, k1, k2⟩ := c l (List.mem_cons_self ..)
      have := b x k2
      have := hm l (I.sub l (List.mem_cons_self ..)).1 x k1
      omega
  subst hL
  have hit : hitsL ls f := fun l hl => (I.left l hl).elim (fun z => nomatch z) id
  have len : f.length = n := by
    have := I.len
    by_cases h : f.length < n
    · exact absurd ⟨f, Nat.le_refl _, hit⟩ (hn _ h)
    · omega
  refine ⟨I.asc, fun x hx => ⟨I.pos x hx, I.low x hx⟩, hit, fun t ht => ?_, fun t h1 h2 h3 h4 => ?_⟩
  · rw [len]
    by_cases h : t.length < n
    · exact absurd ⟨t, Nat.le_refl _, ht⟩ (hn _ h)
    · omega
  · rcases I.least t h1 (h2.trans len) h3 h4 with ⟨r, rfl, _⟩ | k
    · rw [List.length_append] at h2
      have : r = [] := List.length_eq_zero_iff.mp (by omega)
      subst this
      exact .inl (List.append_nil _)
    · exact .inr k
theorem can_many {ls : Lots} {many : Nat} (h0 : [] ∉ ls) (h : ∀ l ∈ ls, ∀ x ∈ l, 0 ≤ x ∧ x < (many : Int)) : Can ls many := by
  refine ⟨(List.range many).map (fun i : Nat => (i : Int)), by simp, fun l hl => ?_⟩
  cases l with
  | nil => exact absurd hl h0
  | cons x r =>
    have := h _ hl x (List.mem_cons_self ..)
    exact ⟨x, List.mem_cons_self .., List.mem_map.mpr ⟨x.toNat, List.mem_range.mpr (by omega), by omega⟩⟩
end Hm
namespace Lm
open PySem PySem.Spec PyProof.Rows L2
def topS (i : Nat) : Stmt := PySem.Challenge.pw_lanesmeet_k41_fewest_gaps.main.body.getD i (.Pass ⟨0, 0, 0, 0⟩)
/-- the built-ins that no name of the module hides -/
structure Bl (mg : Str → Option Value) : Prop where
  bint : mg "int" = none
  blen : mg "len" = none
  bisi : mg "isinstance" = none
  bbool : mg "bool" = none
  btup : mg "tuple" = none
  blist : mg "list" = none
  bstr : mg "str" = none
  bmax : mg "max" = none
  brng : mg "range" = none
  babs : mg "abs" = none
  ball : mg "all" = none
  bmin : mg "min" = none
  brep : mg "repr" = none
  bany : mg "any" = none
  bsrt : mg "sorted" = none
  benu : mg "enumerate" = none
theorem dp_ints {K : PySem.W.Frag} {H : Hp} : ∀ ns : List Int, DpAll K H (ns.map V.int) (ns.map PyData.int)
  | [] => .nil
  | n :: r => .cons (.int n) (dp_ints r)
theorem shaped_ints (ns : List Int) : SeqAt.shaped (.list (ns.map .int)) = true := by
  have h1 : PyData.canLayAll0 (ns.map .int) = true := by
    induction ns with
    | nil => simp [PyData.canLayAll0]
    | cons n r ih => simp [PyData.canLayAll0, PyData.canLay0, ih]
  have h2 : PyData.depthAll (ns.map .int) ≤ 1 := by
    induction ns with
    | nil => simp [PyData.depthAll]
    | cons n r ih =>
      have ih' := ih (by simpa [PyData.canLayAll0, PyData.canLay0] using h1)
      simp [PyData.depthAll, PyData.depth]
      omega
  unfold SeqAt.shaped
  simp [PyData.canLay0, PyData.depth, h1]
  omega
theorem same_put {H H' : Hp} {p : Addr} {o : HO} (s : Same H H') (n : H p = none) : Same H (upd H' p o) := by
  intro b x e
  rw [upd_ne (ne_of_none e n)]
  exact s b x e
theorem int_at {ns : List Int} {i : Nat} {x : V} (h : (ns.map V.int)[i]? = some x) : ∃ z, ns[i]? = some z ∧ x = .int z := by
  rw [List.getElem?_map] at h
  cases e : ns[i]? with
  | none => rw [e] at h; cases h
  | some z => rw [e] at h; exact ⟨z, rfl, (Option.some.inj h).symm⟩
/-! ### kinds of data -/
def kindOf : PyData → String
  | .none => "NoneType" | .bool _ => "bool" | .int _ => "int" | .str _ => "str" | .list _ => "list" | .tuple _ => "tuple" | .dict _ => "dict"
theorem Da.ty {K : PySem.W.Frag} {D : DrA} {H : Hp} {v : V} {d : PyData} (h : Da D H v d) : TyX K H v (.type (kindOf d)) := by
  cases h with
  | non => exact .base .non
  | bl b => exact .base (.bl b)
  | int i => exact .base (.int i)
  | str x => exact .base (.str x)
  | lst h _ _ _ => exact .base (.lst h)
  | tup h _ _ _ => exact .base (.tup h)
  | emp h _ _ => exact .base (.dK h)
def isTup : PyData → Bool
  | .tuple _ => true
  | _ => false
def isStr : PyData → Bool
  | .str _ => true
  | _ => false
def isIntB : PyData → Bool
  | .int _ => true
  | .bool _ => true
  | _ => false
def isBoolB : PyData → Bool
  | .bool _ => true
  | _ => false
def isNum : PyData → Bool
  | .int _ => true
  | _ => false
theorem kit_tup (K : PySem.W.Frag) : ∀ d : PyData, PySem.W.kitOne K (.type (kindOf d)) (.type "tuple") = some (isTup d)
  | .none => kit_ty (show kitB "NoneType" "tuple" = some false by decide +kernel)
  | .bool _ => kit_ty (show kitB "bool" "tuple" = some false by decide +kernel)
  | .int _ => kit_ty (show kitB "int" "tuple" = some false by decide +kernel)
  | .str _ => kit_ty (show kitB "str" "tuple" = some false by decide +kernel)
  | .list _ => kit_ty (show kitB "list" "tuple" = some false by decide +kernel)
  | .tuple _ => kit_ty (show kitB "tuple" "tuple" = some true by decide +kernel)
  | .dict _ => kit_ty (show kitB "dict" "tuple" = some false by decide +kernel)
theorem kit_str (K : PySem.W.Frag) : ∀ d : PyData, PySem.W.kitOne K (.type (kindOf d)) (.type "str") = some (isStr d)
  | .none => kit_ty (show kitB "NoneType" "str" = some false by decide +kernel)
  | .bool _ => kit_ty (show kitB "bool" "str" = some false by decide +kernel)
  | .int _ => kit_ty (show kitB "int" "str" = some false by decide +kernel)
  | .str _ => kit_ty (show kitB "str" "str" = some true by decide +kernel)
  | .list _ => kit_ty (show kitB "list" "str" = some false by decide +kernel)
  | .tuple _ => kit_ty (show kitB "tuple" "str" = some false by decide +kernel)
  | .dict _ => kit_ty (show kitB "dict" "str" = some false by decide +kernel)
theorem kit_int (K : PySem.W.Frag) : ∀ d : PyData, PySem.W.kitOne K (.type (kindOf d)) (.type "int") = some (isIntB d)
  | .none => kit_ty (show kitB "NoneType" "int" = some false by decide +kernel)
  | .bool _ => kit_ty (show kitB "bool" "int" = some true by decide +kernel)
  | .int _ => kit_ty (show kitB "int" "int" = some true by decide +kernel)
  | .str _ => kit_ty (show kitB "str" "int" = some false by decide +kernel)
  | .list _ => kit_ty (show kitB "list" "int" = some false by decide +kernel)
  | .tuple _ => kit_ty (show kitB "tuple" "int" = some false by decide +kernel)
  | .dict _ => kit_ty (show kitB "dict" "int" = some false by decide +kernel)
theorem kit_bool (K : PySem.W.Frag) : ∀ d : PyData, PySem.W.kitOne K (.type (kindOf d)) (.type "bool") = some (isBoolB d)
  | .none => kit_ty (show kitB "NoneType" "bool" = some false by decide +kernel)
  | .bool _ => kit_ty (show kitB "bool" "bool" = some true by decide +kernel)
  | .int _ => kit_ty (show kitB "int" "bool" = some false by decide +kernel)
  | .str _ => kit_ty (show kitB "str" "bool" = some false by decide +kernel)
  | .list _ => kit_ty (show kitB "list" "bool" = some false by decide +kernel)
  | .tuple _ => kit_ty (show kitB "tuple" "bool" = some false by decide +kernel)
  | .dict _ => kit_ty (show kitB "dict" "bool" = some false by decide +kernel)
/-! ### readings that tell data -/
theorem Da.sm {D : DrA} {H H' : Hp} {v : V} {d : PyData} (h : Da D H v d) (s : Same H H') : Da D H' v d := h.fr (Fr.t (.of s))
theorem DaAll.sm {D : DrA} {H H' : Hp} {v : List V} {d : List PyData} (h : DaAll D H v d) (s : Same H H') : DaAll D H' v d := h.fr (Fr.t (.of s))
theorem DrawAt.sm {D : DrA} {n : Nat} {H H' : Hp} (h : DrawAt D n H) (s : Same H H') : DrawAt D n H' := h.same fun b o e _ => s b o e
theorem small10000 {n : Nat} (h : n ≤ 10000) : n ≤ sizeLine := Nat.le_trans h (by unfold sizeLine; decide)
section
variable {K : PySem.W.Frag} {D : DrA} {n : Nat} {H : Hp} {Q : VK}
theorem tup_da {xs : List V} {ds : List PyData} {p : Addr} (dr : DrawAt D n H) (h : DaAll D H xs ds) (np : H p = none) : Same H (upd H p (.tup xs)) ∧ DrawAt D n (upd H p (.tup xs)) ∧ Da D (upd H p (.tup xs)) (.ref p) (.tuple ds) :=
  ⟨same_upd np, dr.new np, .tup upd_same (dr.off np).1 (dr.off np).2 (h.sm (same_upd np))⟩
theorem lst_da {xs : List V} {ds : List PyData} {p : Addr} (dr : DrawAt D n H) (h : DaAll D H xs ds) (np : H p = none) : Same H (upd H p (.lst xs)) ∧ DrawAt D n (upd H p (.lst xs)) ∧ (upd H p (.lst xs)) p = some (.lst xs) ∧ p ≠ D.d ∧ p ≠ D.w ∧ DaAll D (upd H p (.lst xs)) xs ds :=
  ⟨same_upd np, dr.new np, upd_same, (dr.off np).1, (dr.off np).2, h.sm (same_upd np)⟩
theorem cutV_whole {xs : List V} {lo hi : Option Int} (h : HT.sIx xs.length 0 lo = 0 ∧ HT.sIx xs.length xs.length hi = xs.length) : cutV xs lo hi = xs := by
  unfold cutV
  rw [h.1, h.2, List.drop_zero, Nat.sub_zero, List.take_length]
theorem slA_da {a : Addr} {ds : List PyData} {lo hi : Option Int} (dr : DrawAt D n H) (h : Da D H (.ref a) (.tuple ds)) (q : ∀ (H' : Hp) (p : Addr) (es : List PyData), Same H H' → DrawAt D n H' → es.length ≤ ds.length → Da D H' (.ref p) (.tuple es) → Q (.ref p) H') : rSlA K (.ref a) lo hi H Q := by
  cases h with
  | tup h n1 n2 ha =>
    rename_i xs
    refine ⟨a, xs, rfl, SqT.of h, fun _ => q H a ds (fun _ _ z => z) dr (Nat.le_refl _) (.tup h n1 n2 ha), fun _ p np => ?_⟩
    refine q _ p _ (same_upd np) (dr.new np) ?_ (.tup upd_same (dr.off np).1 (dr.off np).2 (((ha.drop _).take _).sm (same_upd np)))
    rw [List.length_take, List.length_drop]
    omega
theorem catA_da {a b : Addr} {ds es : List PyData} (dr : DrawAt D n H) (h : Da D H (.ref a) (.tuple ds)) (h' : Da D H (.ref b) (.tuple es)) (hl : ds.length + es.length ≤ 10000) (q : ∀ (H' : Hp) (p : Addr), Same H H' → DrawAt D n H' → Da D H' (.ref p) (.tuple (ds ++ es)) → Q (.ref p) H') : rCatA K (.ref a) (.ref b) H Q := by
  have hh := h
  have hh' := h'
  cases h with
  | tup h n1 n2 ha =>
    cases h' with
    | tup h' m1 m2 ha' =>
      rename_i xs ys
      refine ⟨a, b, xs, ys, rfl, rfl, SqT.of h, SqT.of h', small10000 (by rw [ha.length, ha'.length]; exact hl), fun e => ?_, fun _ e => ?_, fun _ _ p np => ?_⟩
      · subst e
        cases ha
        exact q H b (fun _ _ z => z) dr hh'
      · subst e
        cases ha'
        rw [List.append_nil] at q
        exact q H a (fun _ _ z => z) dr hh
      · exact q _ p (same_upd np) (dr.new np) (.tup upd_same (dr.off np).1 (dr.off np).2 ((ha.app ha').sm (same_upd np)))
end
theorem daAll_sub {H : Hp} {ys xs : List V} (k : ys.Sublist xs) : ∀ {ds : List PyData}, DaAll D H xs ds → ∃ es : List PyData, es.Sublist ds ∧ DaAll D H ys es := by
  induction k with
  | slnil => intro ds h; cases h; exact ⟨[], .slnil, .nil⟩
  | cons a s ih =>
    intro ds h
    cases h with
    | cons h t =>
      obtain ⟨es, s', p⟩ := ih t
      exact ⟨es, s'.cons _, p⟩
  | cons_cons a s ih =>
    intro ds h
    cases h with
    | cons h t =>
      obtain ⟨es, s', p⟩ := ih t
      exact ⟨_, s'.cons_cons _, .cons h p⟩
section
end
/-! ### raising an own exception class with a message -/
structure XMk (K : PySem.W.Frag) (mg : Str → Option Value) (x : Str) (C : Addr) : Prop where
  at_ : mg x = some (.ref C)
  q : PySem.W.excIn K C [.type "ValueError", .type "Exception", .type "BaseException", .type "object"] "ValueError.__new__" = true
  kC : PySem.W.keepIn K (.ref C) = true
  sub : PySem.W.subIn K (.ref C) (.type "BaseException") = some true
  ty : PySem.W.typeIn K (.ref C) = some (.type "type")
theorem ps_bad {X : Cx} {W : WX} {x m : Str} {C : Addr} {j : Nat} {p p2 pos pos2 : Pos} (hc : X.calm = true) (M : XMk X.K X.mg x C) (tk : Takes X W) (hg : Gl X x) (hdb : (x == ("__debug__" : Str)) = false := by decide) :
    PS X (.Raise (some (.Call (.Name x p) [.Constant (.str m) j p2] [] pos)) none pos2) (fun _ σ H => W (.ref C) none σ H) :=
  ps_raise hc tk (pmk_own PySem.F.excBase_ValueError M.q M.at_ M.kC (raises_own M.sub M.ty) hg hdb)
section
variable {P : Program} {w : World} {K : PySem.W.Frag} {mg : Str → Option Value} {base : Heap}
theorem passE {N : List Str} {qual : Str} {scope : Scope} {f : Addr} {cdv : Value} {A : Around} {outer : List Env} {s : Shared} {H : Hp} {E : XK} : Passes (L2.CX P w) (cxOf (L2.CX P w) P w K mg base N qual scope f cdv A outer s H E) E := by
  have tk : Takes (cxOf (L2.CX P w) P w K mg base N qual scope f cdv A outer s H E) (fun cls d _ H => E cls d H) := takes_of (E := E) rfl rfl rfl rfl
  exact passes_call tk (fun _ _ _ _ h => h)
end
def btw (lo hi : Int) : PyData → Bool
  | .int n => decide (lo ≤ n) && decide (n ≤ hi)
  | _ => false
theorem btw_int {lo hi : Int} {d : PyData} (h : btw lo hi d = true) : ∃ n, d = .int n ∧ lo ≤ n ∧ n ≤ hi := by
  cases d with
  | int n =>
    have h : (decide (lo ≤ n) && decide (n ≤ hi)) = true := h
    rw [Bool.and_eq_true] at h
    exact ⟨n, rfl, of_decide_eq_true h.1, of_decide_eq_true h.2⟩
  | none => cases h
  | bool _ => cases h
  | str _ => cases h
  | list _ => cases h
  | tuple _ => cases h
  | dict _ => cases h
theorem btw_of {lo hi n : Int} (h1 : lo ≤ n) (h2 : n ≤ hi) : btw lo hi (.int n) = true := by
  show (decide (lo ≤ n) && decide (n ≤ hi)) = true
  rw [decide_eq_true h1, decide_eq_true h2]
  rfl
section
variable {P : Program} {w : World} {K : PySem.W.Frag} {mg : Str → Option Value} {base : Heap}
def spNum : Sp := fun vs H Q _ => ∃ (D : DrA) (v : V) (d : PyData), vs = [v] ∧ Da D H v d ∧ Q (.bl (isNum d)) H
abbrev sNumber : Stmt := topS 6
theorem scNumber : FnScope ["thing"] ["thing"] (defScope sNumber) := ⟨rfl, rfl, rfl, by decide +kernel, rfl, by decide +kernel, by decide +kernel⟩
theorem ok_number {f : Addr} {fd : FuncData} (F : Fun K "is_number" "is_number" sNumber f fd) (N : Bl mg) : FnOk P w K mg base CX0 1 f fd ["thing"] spNum := by
  refine F.ok scNumber (fun vs H Q E h => ?_) (fun cdv A outer s H vs Q E hr h => ?_)
  · obtain ⟨D, v, d, rfl, _⟩ := h
    rfl
  · obtain ⟨D, v, d, rfl, h, q⟩ := h
    refine ⟨_, pss_one (ps_ret (pe_and (pe_callB call_isi (by rfl) N.bisi (by decide +kernel) (pa_cons (pv 0) (pa_cons (pe_bltn (v := .ty "int") (by rfl) N.bint (by decide +kernel) rfl) pa_nil)))
      (pe_one (pe_not (pe_callB call_isi (by rfl) N.bisi (by decide +kernel) (pa_cons (pv 0) (pa_cons (pe_bltn (v := .ty "bool") (by rfl) N.bbool (by decide +kernel) rfl) pa_nil))))))), ?_⟩
    refine ⟨v, rfl, v, .ty "int", _, _, isIntB d, rfl, .ty "int", h.ty, kit_int K d, isIntB d, rfl, ?_⟩
    cases hb : isIntB d with
    | true =>
      refine iteT ⟨v, rfl, v, .ty "bool", _, _, isBoolB d, rfl, .ty "bool", h.ty, kit_bool K d, isBoolB d, rfl, ?_⟩
      have e : isNum d = !isBoolB d := by cases d <;> first | rfl | cases hb
      rw [← e]
      exact q
    | false =>
      have e : isNum d = false := by cases d <;> first | rfl | cases hb
      rw [e] at q
      exact iteF q
abbrev sBetween : Stmt := topS 7
theorem scBetween : FnScope ["thing", "low", "high"] ["thing", "low", "high"] (defScope sBetween) := ⟨rfl, rfl, rfl, by decide +kernel, rfl, by decide +kernel, by decide +kernel⟩
def spBtw : Sp := fun vs H Q _ => ∃ (D : DrA) (v : V) (d : PyData) (lo hi : Int), vs = [v, .int lo, .int hi] ∧ Da D H v d ∧ Q (.bl (btw lo hi d)) H
theorem ok_between {f : Addr} {fd : FuncData} (F : Fun K "is_between" "is_between" sBetween f fd) (GN : Has P w K mg base CX0 1 "is_number" ["thing"] spNum) : FnOk P w K mg base CX0 2 f fd ["thing", "low", "high"] spBtw := by
  refine F.ok scBetween (fun vs H Q E h => ?_) (fun cdv A outer s H vs Q E hr h => ?_)
  · obtain ⟨D, v, d, lo, hi, rfl, _⟩ := h
    rfl
  · obtain ⟨D, v, d, lo, hi, rfl, h, q⟩ := h
    refine ⟨_, pss_one (ps_ret (pe_and (pe_h GN hr (by decide) (by rfl) pass0 (pa_cons (pv 0) pa_nil)) (pe_one (pe_chain op_le op_le (pv 1) (pv 0) (pv 2))))), ?_⟩
    refine ⟨v, rfl, D, v, d, rfl, h, isNum d, rfl, ?_⟩
    cases h with
    | int n =>
      refine iteT ⟨_, rfl, _, rfl, _, _, rfl, rfl, _, rfl, ?_⟩
      have q : Q (.bl (decide (lo ≤ n) && decide (n ≤ hi))) H := q
      refine ite2 (fun z => ⟨_, rfl, _, _, rfl, rfl, ?_⟩) (fun z => ?_)
      · rw [z, Bool.true_and] at q
        exact q
      · rw [Bool.not_eq_true] at z
        rw [z, Bool.false_and] at q
        exact q
    | non => exact iteF q
    | bl _ => exact iteF q
    | str _ => exact iteF q
    | lst _ _ _ _ => exact iteF q
    | tup _ _ _ _ => exact iteF q
    | emp _ _ _ => exact iteF q
end
end Lm
namespace Lm
open PySem PySem.Spec PyProof.Rows L2
def isLst : PyData → Bool
  | .list _ => true
  | _ => false
theorem kit_list (K : PySem.W.Frag) : ∀ d : PyData, PySem.W.kitOne K (.type (kindOf d)) (.type "list") = some (isLst d)
  | .none => kit_ty (show kitB "NoneType" "list" = some false by decide +kernel)
  | .bool _ => kit_ty (show kitB "bool" "list" = some false by decide +kernel)
  | .int _ => kit_ty (show kitB "int" "list" = some false by decide +kernel)
  | .str _ => kit_ty (show kitB "str" "list" = some false by decide +kernel)
  | .list _ => kit_ty (show kitB "list" "list" = some true by decide +kernel)
  | .tuple _ => kit_ty (show kitB "tuple" "list" = some false by decide +kernel)
  | .dict _ => kit_ty (show kitB "dict" "list" = some false by decide +kernel)
theorem kit_listing (K : PySem.W.Frag) (d : PyData) : PySem.W.kitAny K (.type (kindOf d)) [.type "list", .type "tuple"] = some (isLst d || isTup d) := by
  unfold PySem.W.kitAny
  rw [kit_list K d]
  cases h : isLst d with
  | true => rfl
  | false =>
    show PySem.W.kitAny K (.type (kindOf d)) [.type "tuple"] = some (isTup d)
    unfold PySem.W.kitAny
    rw [kit_tup K d]
    cases isTup d <;> rfl
section
variable {P : Program} {w : World} {K : PySem.W.Frag} {mg : Str → Option Value} {base : Heap}
abbrev sListing : Stmt := topS 8
theorem scListing : FnScope ["thing"] ["thing"] (defScope sListing) := ⟨rfl, rfl, rfl, by decide +kernel, rfl, by decide +kernel, by decide +kernel⟩
def spListing : Sp := fun vs H Q _ => ∃ (D : DrA) (v : V) (d : PyData), vs = [v] ∧ Da D H v d ∧ ∀ H', Same H H' → Q (.bl (isLst d || isTup d)) H'
theorem ok_listing {f : Addr} {fd : FuncData} (F : Fun K "is_listing" "is_listing" sListing f fd) (N : Bl mg) : FnOk P w K mg base CX0 1 f fd ["thing"] spListing := by
  refine F.ok scListing (fun vs H Q E h => ?_) (fun cdv A outer s H vs Q E hr h => ?_)
  · obtain ⟨D, v, d, rfl, _⟩ := h
    rfl
  · obtain ⟨D, v, d, rfl, h, q⟩ := h
    refine ⟨_, pss_one (ps_ret (pe_callB call_isiT (by rfl) N.bisi (by decide +kernel) (pa_cons (pv 0) (pa_cons (pe_tup (pa_cons (pe_bltn (v := .ty "list") (by rfl) N.blist (by decide +kernel) rfl)
      (pa_cons (pe_bltn (v := .ty "tuple") (by rfl) N.btup (by decide +kernel) rfl) pa_nil))) pa_nil)))), ?_⟩
    refine ⟨v, rfl, (by show 2 ≤ sizeLine; decide), fun p np => ?_⟩
    exact ⟨v, p, _, _, [.type "list", .type "tuple"], _, rfl, upd_same, .cons (.ty "list") (.cons (.ty "tuple") .nil), (h.sm (same_upd np)).ty, kit_listing K d, q _ (same_upd np)⟩
/-! ### is_rising of ints -/
def ascI : List Int → Bool
  | a :: b :: r => decide (a < b) && ascI (b :: r)
  | _ => true
theorem ascI_iff : ∀ {l : List Int}, ascI l = true ↔ Hm.Asc l
  | [] => ⟨fun _ => List.Pairwise.nil, fun _ => rfl⟩
  | [a] => ⟨fun _ => List.pairwise_singleton _ _, fun _ => rfl⟩
  | a :: b :: r => by
    show (decide (a < b) && ascI (b :: r)) = true ↔ _
    unfold Hm.Asc
    rw [Bool.and_eq_true, decide_eq_true_iff, ascI_iff (l := b :: r), List.pairwise_cons (a := a)]
    unfold Hm.Asc
    constructor
    · rintro ⟨h, k⟩
      refine ⟨fun c hc => ?_, k⟩
      rcases List.mem_cons.mp hc with rfl | hc
      · exact h
      · exact Int.lt_trans h ((List.pairwise_cons.mp k).1 c hc)
    · rintro ⟨h, k⟩
      exact ⟨h b (List.mem_cons_self ..), k⟩
theorem ascI_drop : ∀ (l : List Int) (i : Nat) {a b : Int}, l[i]? = some a → l[i + 1]? = some b → ascI (l.drop i) = (decide (a < b) && ascI (l.drop (i + 1)))
  | [], _, _, _, h, _ => by simp at h
  | [_], 0, _, _, _, h => by simp at h
  | [_], _ + 1, _, _, h, _ => by simp at h
  | x :: y :: r, 0, a, b, h1, h2 => by
    simp at h1 h2
    subst h1 h2
    rfl
  | x :: y :: r, i + 1, a, b, h1, h2 => by
    have := ascI_drop (y :: r) i (a := a) (b := b) (by simpa using h1) (by simpa using h2)
    simpa using this
abbrev sRise : Stmt := topS 10
theorem scRise : FnScope ["things", "at"] ["things"] (defScope sRise) := ⟨rfl, rfl, rfl, by decide +kernel, rfl, by decide +kernel, by decide +kernel⟩
def spRise : Sp := fun vs H Q _ => ∃ (a : Addr) (l : List Int), vs = [.ref a] ∧ H a = some (.tup (l.map V.int)) ∧ l.length ≤ 1000 ∧ Q (.bl (ascI l)) H
theorem ok_rise {f : Addr} {fd : FuncData} (F : Fun K "is_rising" "is_rising" sRise f fd) (N : Bl mg) : FnOk P w K mg base CX0 1 f fd ["things"] spRise := by
  refine F.ok scRise (fun vs H Q E h => ?_) (fun cdv A outer s H vs Q E hr h => ?_)
  · obtain ⟨a, l, rfl, _⟩ := h
    rfl
  · obtain ⟨a, l, rfl, h1, hl, q⟩ := h
    refine ⟨_, pss_cons (ps_for PassesOwn.never rfl (pi_range1 (by rfl) N.brng (pa_cons (pe_op op_sub (pe_callB call_len_seq (by rfl) N.blen PySem.boot_len (pa_cons (pv 0) pa_nil)) pe_int) pa_nil)) (pg_name (i := 1) scRise.nd rfl (.inl rfl))
        (pss_one (ps_if (pt_not (pt_cmpR op_lt (pe_ix ix_tup (pv 0) (pv 1) (fun _ _ => rfl)) (pe_ix ix_tup (pv 0) (pe_op op_add (pv 1) pe_int) (fun _ _ => rfl)) (nomark _))) (pss_one (ps_ret pe_bl)) pss_nil)))
      (pss_one (ps_ret pe_bl)), ?_⟩
    have hx : (l.map V.int).length = l.length := List.length_map ..
    refine ⟨_, rfl, a, _, rfl, .inr (SqT.of h1), _, _, rfl, rfl, _, rfl, by omega, by omega, for_range (fun i σ H' => H' = H ∧ ascI (l.drop i) = ascI l ∧ ∃ x1, σ = [some (.ref a), x1]) ⟨rfl, rfl, _, rfl⟩ ?_ ?_⟩
    · rintro i σ H' hi ⟨rfl, hs, x1, rfl⟩
      have hi1 : i + 1 < l.length := by omega
      refine ⟨_, rfl, _, rfl, a, _, _, .int l[i], rfl, rfl, SqT.of h1, ?_, ?_⟩
      · rw [Int.zero_add]
        refine atI_nat ?_
        rw [List.getElem?_map, List.getElem?_eq_getElem (show i < l.length by omega)]
        rfl
      · refine ⟨_, rfl, _, rfl, _, _, rfl, rfl, a, _, _, .int l[i + 1], rfl, rfl, SqT.of h1, ?_, ?_⟩
        · rw [Int.zero_add]
          refine atI_nat (j := i + 1) ?_
          rw [List.getElem?_map, List.getElem?_eq_getElem hi1]
          rfl
        · refine ⟨_, _, rfl, rfl, _, rfl, ?_⟩
          have step := ascI_drop l i (List.getElem?_eq_getElem (show i < l.length by omega)) (List.getElem?_eq_getElem hi1)
          by_cases hlt : l[i] < l[i + 1]
          · rw [decide_eq_true hlt, Bool.true_and] at step
            rw [decide_eq_true hlt]
            exact iteF ⟨rfl, step.symm.trans hs, _, rfl⟩
          · rw [decide_eq_false hlt, Bool.false_and] at step
            rw [← hs, step] at q
            rw [decide_eq_false hlt]
            exact iteT q
    · rintro σ H' ⟨rfl, hs, x1, rfl⟩
      have last : ascI (l.drop (((l.map V.int).length : Int) - 1).toNat) = true := by
        have : (l.drop (((l.map V.int).length : Int) - 1).toNat).length ≤ 1 := by
          rw [List.length_drop]
          omega
        match l.drop (((l.map V.int).length : Int) - 1).toNat, this with
        | [], _ => rfl
        | [_], _ => rfl
        | _ :: _ :: _, h => simp at h
      rw [← hs, last] at q
      exact q
end
end Lm
namespace Lm
open PySem PySem.Spec PyProof.Rows L2
/-- how many items a row of values has -/
def lenD : PyData → Nat
  | .tuple ds => ds.length
  | .list ds => ds.length
  | _ => 0
def GapIs (many : Int) (d : PyData) : Prop := ∃ l : List Int, d = .tuple (l.map .int) ∧ (∀ x ∈ l, 0 ≤ x ∧ x < many) ∧ Hm.Asc l
theorem ints_of {lo hi : Int} : ∀ {ds : List PyData}, ds.all (btw lo hi) = true → ∃ l : List Int, ds = l.map .int ∧ ∀ x ∈ l, lo ≤ x ∧ x ≤ hi
  | [], _ => ⟨[], rfl, fun _ z => nomatch z⟩
  | d :: r, h => by
    rw [List.all_cons, Bool.and_eq_true] at h
    obtain ⟨n, rfl, a, b⟩ := btw_int h.1
    obtain ⟨l, rfl, hl⟩ := ints_of h.2
    refine ⟨n :: l, rfl, fun x hx => ?_⟩
    rcases List.mem_cons.mp hx with rfl | hx
    · exact ⟨a, b⟩
    · exact hl x hx
theorem all_btw {lo hi : Int} {l : List Int} (h : ∀ x ∈ l, lo ≤ x ∧ x ≤ hi) : (l.map PyData.int).all (btw lo hi) = true := by
  rw [List.all_map, List.all_eq_true]
  intro x hx
  exact btw_of (h x hx).1 (h x hx).2
theorem map_int_inj : ∀ {a b : List Int}, a.map PyData.int = b.map PyData.int → a = b
  | [], [], _ => rfl
  | _ :: _, _ :: _, h => by
    rw [List.map_cons, List.map_cons] at h
    injection h with h1 h2
    injection h1 with h1
    rw [h1, map_int_inj h2]
theorem daAll_ints {D : DrA} {H : Hp} : ∀ {bs : List Int} {vs : List V}, DaAll D H vs (bs.map PyData.int) → vs = bs.map V.int
  | [], _, h => by cases h; rfl
  | b :: r, _, h => by
    cases h with
    | cons h1 h2 =>
      cases h1
      rw [daAll_ints h2]
      rfl
section
variable {P : Program} {w : World} {K : PySem.W.Frag} {mg : Str → Option Value} {base : Heap}
abbrev sGap : Stmt := topS 16
theorem scGap : FnScope ["many", "thing", "gap"] ["many", "thing"] (defScope sGap) := ⟨rfl, rfl, rfl, by decide +kernel, rfl, by decide +kernel, by decide +kernel⟩
def spGap : Sp := fun vs H Q _ => ∃ (D : DrA) (many : Int) (v : V) (d : PyData), vs = [.int many, v] ∧ Da D H v d ∧ lenD d ≤ 1000 ∧ ∀ (H' : Hp) (b : Bool), Same H H' → (b = true ↔ GapIs many d) → Q (.bl b) H'
theorem ok_gap {f : Addr} {fd : FuncData} (F : Fun K "is_gap_tuple" "is_gap_tuple" sGap f fd) (N : Bl mg) (GB : Has P w K mg base CX0 2 "is_between" ["thing", "low", "high"] spBtw) (GR : Has P w K mg base CX0 1 "is_rising" ["things"] spRise) : FnOk P w K mg base CX0 3 f fd ["many", "thing"] spGap := by
  refine F.ok scGap (fun vs H Q E h => ?_) (fun cdv A outer s H vs Q E hr h => ?_)
  · obtain ⟨D, many, v, d, rfl, _⟩ := h
    rfl
  · obtain ⟨D, many, v, d, rfl, hd, hl, q⟩ := h
    refine ⟨_, pss_cons (ps_if (pt_not (pt_val (pe_callB call_isi (by rfl) N.bisi (by decide +kernel) (pa_cons (pv 1) (pa_cons (pe_bltn (v := .ty "tuple") (by rfl) N.btup (by decide +kernel) rfl) pa_nil))))) (pss_one (ps_ret pe_bl)) pss_nil)
      (pss_one (ps_ret (pe_and (pe_callB (cr_all rfl) (by rfl) N.ball (by decide +kernel) (pa_cons (pe_lc (own := [("gap", 2)]) (g := gName 2) (tt := tYes) rfl scGap.nd (pi_tup (pv 1)) (blkOk_by (own := [("gap", 2)]) (N := ["many", "thing", "gap"]) (sc := defScope sGap) (by decide +kernel)) (fun _ _ _ _ _ => pg_name (i := 2) scGap.nd rfl (Or.inl rfl))
          (fun _ _ _ _ _ => pts_nil) (fun _ _ _ _ _ => pe_h GB (hr.mono (by decide : 2 ≤ 2)) (by decide) (by rfl) pass0 (pa_cons (pv 2) (pa_cons pe_int (pa_cons (pe_op op_sub (pv 0) pe_int) pa_nil))))) pa_nil))
        (pe_one (pe_h GR hr (by decide) (by rfl) pass0 (pa_cons (pv 1) pa_nil)))))), ?_⟩
    have no : ∀ {H'}, Same H H' → ¬ GapIs many d → Q (.bl false) H' := fun s n => q _ false s ⟨fun z => absurd z (by decide), fun z => absurd z n⟩
    refine ⟨v, rfl, v, .ty "tuple", _, _, isTup d, rfl, .ty "tuple", hd.ty, kit_tup K d, isTup d, rfl, ?_⟩
    have kind : isTup d = false → ¬ GapIs many d := fun e z => by
      obtain ⟨l, rfl, _⟩ := z
      cases e
    cases hd with
    | tup h1 n1 n2 ha =>
      rename_i a xs ds
      have hx := ha.length
      have hl : ds.length ≤ 1000 := hl
      refine iteF ⟨_, rfl, a, rfl, ⟨_, SqT.of h1⟩, fun R nR => lc_tup (K := K) (a := a) (xs := xs) (fun i H' => Same H H' ∧ H' R = some (.lst (((ds.map (btw 0 (many - 1))).take i).map V.bl))) ⟨same_upd nR, upd_same⟩ (fun i H' _ h => SqT.of (h.1 _ _ h1)) ?_ ?_⟩
      · rintro i x H' hx ⟨s1, hR⟩
        obtain ⟨de, hde, hv⟩ := ha.get hx
        have hi : i < ds.length := (List.getElem?_eq_some_iff.mp hde).1
        refine ⟨rfl, _, rfl, _, rfl, _, _, rfl, rfl, D, x, de, 0, many - 1, rfl, hv.sm s1, ⟨_, hR, ?_, same_put s1 nR, ?_⟩⟩
        · rw [List.length_map, List.length_take, List.length_map]
          exact small1000 (by omega)
        · have ht : (ds.map (btw 0 (many - 1))).take (i + 1) = (ds.map (btw 0 (many - 1))).take i ++ [btw 0 (many - 1) de] := by
            rw [List.take_add_one, List.getElem?_map, hde]
            rfl
          rw [ht, List.map_append]
          exact upd_same
      · rintro H1 ⟨s1, hR⟩
        rw [show (ds.map (btw 0 (many - 1))).take xs.length = ds.map (btw 0 (many - 1)) from by rw [hx, ← List.length_map (f := btw 0 (many - 1)), List.take_length]] at hR
        refine ⟨R, ds.map (btw 0 (many - 1)), rfl, SqL.of hR, _, rfl, ?_⟩
        have ea : (ds.map (btw 0 (many - 1))).all id = ds.all (btw 0 (many - 1)) := by rw [List.all_map]; rfl
        rw [ea]
        cases hall : ds.all (btw 0 (many - 1)) with
        | false =>
          refine iteF (no s1 ?_)
          rintro ⟨l, e, k, _⟩
          injection e with e
          subst e
          rw [all_btw fun x hx => ⟨(k x hx).1, by have := (k x hx).2; omega⟩] at hall
          cases hall
        | true =>
          obtain ⟨l, rfl, hk⟩ := ints_of hall
          rw [List.length_map] at hl
          rw [daAll_ints ha] at h1
          refine iteT ⟨_, rfl, a, l, rfl, s1 _ _ h1, hl, q _ _ s1 ?_⟩
          rw [ascI_iff]
          constructor
          · intro h
            exact ⟨l, rfl, fun x hx => ⟨(hk x hx).1, by have := (hk x hx).2; omega⟩, h⟩
          · rintro ⟨l', e, _, h⟩
            injection e with e
            rw [map_int_inj e]
            exact h
    | non => exact iteT (no (fun _ _ z => z) (kind rfl))
    | bl _ => exact iteT (no (fun _ _ z => z) (kind rfl))
    | str _ => exact iteT (no (fun _ _ z => z) (kind rfl))
    | lst _ _ _ _ => exact iteT (no (fun _ _ z => z) (kind rfl))
    | int _ => exact iteT (no (fun _ _ z => z) (kind rfl))
    | emp _ _ _ => exact iteT (no (fun _ _ z => z) (kind rfl))
end
end Lm
namespace Lm
open PySem PySem.Spec PyProof.Rows L2
def rowsD : PyData → Option (List PyData)
  | .list ds => some ds
  | .tuple ds => some ds
  | _ => none
def ManyIs (d : PyData) : Prop := ∃ n : Int, d = .int n ∧ 1 ≤ n ∧ n ≤ 16
theorem manyIs_iff {b : PyData} : ManyIs b ↔ btw 1 16 b = true := by
  constructor
  · rintro ⟨m, rfl, h1, h2⟩
    exact btw_of h1 h2
  · intro h
    obtain ⟨n, rfl, a, b⟩ := btw_int h
    exact ⟨n, rfl, a, b⟩
/-- at i stands the first that is no lot -/
def BadAt (n : Int) (ds : List PyData) (i : Nat) : Prop := (∃ d, ds[i]? = some d ∧ ¬ GapIs n d) ∧ ∀ j d, j < i → ds[j]? = some d → GapIs n d
def iOr (a b : TI) : TI := fun σ H R => a σ H R ∨ b σ H R
def spCheck (BM BL : Addr) : Sp := fun vs H Q E => ∃ (D : DrA) (v1 v2 : V) (m l : PyData), vs = [v1, v2] ∧ Da D H v1 m ∧ Da D H v2 l ∧ lenD l ≤ 1000 ∧ (∀ ds, rowsD l = some ds → ∀ d ∈ ds, lenD d ≤ 1000) ∧
  ((¬ ManyIs m ∧ ∀ H', Same H H' → E (.ref BM) none H') ∨
  (ManyIs m ∧ (∀ ds, rowsD l = some ds → 400 < ds.length) ∧ ∀ H' dx, Same H H' → H' dx = some (.xd [("at", .non)]) → E (.ref BL) (some dx) H') ∨
  ∃ (n : Int) (ds : List PyData), m = .int n ∧ 1 ≤ n ∧ n ≤ 16 ∧ rowsD l = some ds ∧ ds.length ≤ 400 ∧
    ((∃ i : Nat, BadAt n ds i ∧ ∀ H' dx, Same H H' → H' dx = some (.xd [("at", .int i)]) → E (.ref BL) (some dx) H') ∨
    ((∀ d ∈ ds, GapIs n d) ∧ ∀ H', Same H H' → Q .non H')))
section
variable {P : Program} {w : World} {K : PySem.W.Frag} {mg : Str → Option Value} {base : Heap}
abbrev sCheck : Stmt := topS 17
def nCheck : List Str := ["many", "lots", "at", "lot"]
theorem scCheck : FnScope nCheck ["many", "lots"] (defScope sCheck) := ⟨rfl, rfl, rfl, by decide +kernel, rfl, by decide +kernel, by decide +kernel⟩
theorem none_of {H H' : Hp} {p : Addr} (s : Same H H') (n : H' p = none) : H p = none := by
  cases e : H p with
  | none => rfl
  | some o => rw [s _ _ e] at n; cases n
def GapsUp (n : Int) (ds : List PyData) (i : Nat) : Prop := ∀ j d, j < i → ds[j]? = some d → GapIs n d
theorem pi_or {X : Cx} {tg e : Expr} {a b : TI} (h1 : PI X tg e a) (h2 : PI X tg e b) : PI X tg e (iOr a b) := ⟨fun pins s σ H R I h => h.elim (h1.run pins s σ H R I) (h2.run pins s σ H R I)⟩
theorem rows_none {D : DrA} {H : Hp} {v : V} {l : PyData} (h : Da D H v l) (n : rowsD l = none) : (isLst l || isTup l) = false := by
  cases h <;> first | rfl | cases n
theorem rows_some {l : PyData} {ds : List PyData} (n : rowsD l = some ds) : (isLst l || isTup l) = true ∧ lenD l = ds.length := by
  cases l <;> first | cases n | skip
  · exact ⟨rfl, rfl⟩
  · exact ⟨rfl, rfl⟩
theorem rows_at {D : DrA} {H : Hp} {v : V} {l : PyData} {ds : List PyData} (h : Da D H v l) (n : rowsD l = some ds) : ∃ (a : Addr) (xs : List V), v = .ref a ∧ DaAll D H xs ds ∧ ((H a = some (.lst xs)) ∨ (H a = some (.tup xs))) := by
  cases h <;> first | cases n | skip
  · rename_i a xs h n1 n2 ha
    exact ⟨a, xs, rfl, ha, .inl h⟩
  · rename_i a xs h n1 n2 ha
    exact ⟨a, xs, rfl, ha, .inr h⟩
theorem ok_check {BM BL : Addr} {f : Addr} {fd : FuncData} {tm tl : Tok} (F : Fun K "check_lots" "check_lots" sCheck f fd) (N : Bl mg) (MG : mg "MOST_GAPS" = some (.int 16 tm)) (ML : mg "MOST_LOTS" = some (.int 400 tl)) (M1 : XMk K mg "BadMany" BM) (M2 : YMk P K mg base w "BadLots" "at" BL)
    (GB : Has P w K mg base CX0 2 "is_between" ["thing", "low", "high"] spBtw) (GL : Has P w K mg base CX0 1 "is_listing" ["thing"] spListing) (GG : Has P w K mg base CX0 3 "is_gap_tuple" ["many", "thing"] spGap) : FnOk P w K mg base (L2.CX P w) 5 f fd ["many", "lots"] (spCheck BM BL) := by
  refine F.okX scCheck (fun vs H Q E h => ?_) (fun cdv A outer s H vs Q E hr h => ?_)
  · obtain ⟨D, v1, v2, m, l, rfl, _⟩ := h
    rfl
  · obtain ⟨D, v1, v2, m, l, rfl, h1, h2, hl, hll, q⟩ := h
    refine ⟨_, pss_cons (ps_if (pt_not (pt_val (pe_h GB hr (by decide) (by rfl) (E := C8.E0) pass0 (pa_cons (pv 0) (pa_cons pe_int (pa_cons (pe_glob (v := .int 16) (by rfl) MG ⟨tm, rfl⟩) pa_nil)))))) (pss_one (ps_bad rfl M1 (takes_of (E := E) rfl rfl rfl rfl) (by rfl))) pss_nil)
        (pss_cons (ps_if (pw_or (pt_not (pt_val (pe_h GL hr (by decide) (by rfl) (E := C8.E0) pass0 (pa_cons (pv 1) pa_nil))))
            (pw_or1 (pt_cmpR op_gt (pe_callB call_len_seq (by rfl) N.blen PySem.boot_len (pa_cons (pv 1) pa_nil)) (pe_glob (v := .int 400) (by rfl) ML ⟨tl, rfl⟩) (nomark _)))).pt
          (pss_one (ps_badY rfl M2 (takes_of (E := E) rfl rfl rfl rfl) hr (by decide) (by rfl) pe_non)) pss_nil)
        (pss_one (ps_for (passes_of rfl) rfl (pi_or (pi_enum (by rfl) N.benu (pa_cons (pv 1) pa_nil)) (pi_enumT (by rfl) N.benu (pa_cons (pv 1) pa_nil))) (pg_tup rfl (pgs_cons (pg_name (i := 2) scCheck.nd rfl (.inl rfl)) (pgs_cons (pg_name (i := 3) scCheck.nd rfl (.inl rfl)) pgs_nil)))
          (pss_one (ps_if (pt_not (pt_val (pe_h GG hr (by decide) (by rfl) (E := C8.E0) pass0 (pa_cons (pv 0) (pa_cons (pv 3) pa_nil))))) (pss_one (ps_badY rfl M2 (takes_of (E := E) rfl rfl rfl rfl) hr (by decide) (by rfl) (pv 2))) pss_nil))))), ?_⟩
    refine ⟨v1, rfl, D, v1, m, 1, 16, rfl, h1, btw 1 16 m, rfl, ?_⟩
    have idS : Same H H := fun _ _ z => z
    rcases q with ⟨nm, q⟩ | ⟨hm, hlong, q⟩ | ⟨n, ds, rfl, n1, n2, hr', hlen, q⟩
    · have hb : btw 1 16 m = false := by
        cases hb : btw 1 16 m with
        | false => rfl
        | true => exact absurd (manyIs_iff.mpr hb) nm
      rw [hb]
      exact iteT (q H idS)
    · rw [manyIs_iff.mp hm]
      refine iteF ⟨v2, rfl, D, v2, l, rfl, h2, fun H1 s1 => ⟨_, rfl, ?_⟩⟩
      have bad : ∀ {H'}, Same H H' → ((.non : V) = .non ∨ ∃ i : Int, (.non : V) = .int i ∧ i.natAbs < 1000) ∧ ∀ dx, H' dx = none → E (.ref BL) (some dx) (upd H' dx (.xd [("at", .non)])) := fun s => ⟨.inl rfl, fun dx nd => q _ dx (same_put s (none_of s nd)) upd_same⟩
      cases hro : rowsD l with
      | none =>
        rw [rows_none h2 hro]
        exact iteT (bad s1)
      | some ds =>
        rw [(rows_some hro).1]
        obtain ⟨a, xs, rfl, ha, hx⟩ := rows_at h2 hro
        refine iteF ⟨_, rfl, a, xs, rfl, ?_, _, _, rfl, rfl, _, rfl, ?_⟩
        · rcases hx with hx | hx
          · exact .inl (SqL.of (s1 _ _ hx))
          · exact .inr (SqT.of (s1 _ _ hx))
        · have : (400 : Int) < (xs.length : Int) := by
            have := hlong ds hro
            rw [ha.length]
            omega
          rw [decide_eq_true this]
          exact iteT (bad s1)
    · rw [btw_of n1 n2]
      cases h1
      obtain ⟨rk, rl⟩ := rows_some hr'
      obtain ⟨a, xs, rfl, ha, hx⟩ := rows_at h2 hr'
      refine iteF ⟨_, rfl, D, .ref a, l, rfl, h2, fun H1 s1 => ⟨_, rfl, ?_⟩⟩
      rw [rk]
      have hxl := ha.length
      have hx1 : SqL K H1 a xs ∨ SqT K H1 a xs := by
        rcases hx with hx | hx
        · exact .inl (SqL.of (s1 _ _ hx))
        · exact .inr (SqT.of (s1 _ _ hx))
      refine iteF ⟨_, rfl, a, xs, rfl, hx1, _, _, rfl, rfl, _, rfl, ?_⟩
      have hle : ¬ (400 : Int) < (xs.length : Int) := by omega
      rw [decide_eq_false hle]
      refine iteF ?_
      have hnl : GapsUp n ds 0 := fun j d hj => absurd hj (Nat.not_lt_zero _)
      rcases hx with hx | hx
      · refine .inl ⟨_, rfl, a, xs, rfl, SqL.of (s1 _ _ hx), for_it (walk_enumL (xs := xs)) (fun i σ H' => Same H H' ∧ GapsUp n ds i ∧ ∃ x2 x3, σ = [some (.int n), some (.ref a), x2, x3]) ⟨s1, hnl, none, none, rfl⟩ ?_ ?_ ?_⟩
        · intro i σ H' hi hp
          exact SqL.of (hp.1 _ _ hx)
        · intro i x σ H' H'' hi hp hy
          obtain ⟨s2, hg, x2, x3, rfl⟩ := hp
          obtain ⟨T, x, rfl, nT, rfl, hxi⟩ := hy
          obtain ⟨d, hd, hv⟩ := ha.get hxi
          have s3 := same_put s2 (none_of s2 nT) (o := .tup [.int (i : Nat), x])
          refine ⟨T, _, rfl, SqT.of upd_same, rfl, _, _, rfl, _, _, rfl, rfl, ?_⟩
          refine ⟨_, rfl, _, rfl, D, n, x, d, rfl, hv.sm s3, hll ds hr' d (List.mem_of_getElem? hd), fun H3 b s4 hb => ⟨_, rfl, ?_⟩⟩
          have s5 : Same H H3 := fun b o e => s4 b o (s3 b o e)
          cases b with
          | true =>
            refine iteF ⟨s5, fun j e hj he => ?_, _, _, rfl⟩
            rcases Nat.lt_succ_iff_lt_or_eq.mp hj with hj | rfl
            · exact hg j e hj he
            · rw [hd] at he
              cases he
              exact hb.mp rfl
          | false =>
            have bad : ¬ GapIs n d := fun z => absurd (hb.mpr z) (by decide)
            refine iteT ⟨_, rfl, .inr ⟨_, rfl, ?_⟩, fun dx nd => ?_⟩
            · show ((i : Nat) : Int).natAbs < 1000
              omega
            · rcases q with ⟨i', hi', q⟩ | ⟨hall, q⟩
              · have : i' = i := by
                  rcases Nat.lt_trichotomy i' i with h | h | h
                  · obtain ⟨d', hd', nd'⟩ := hi'.1
                    exact absurd (hg i' d' h hd') nd'
                  · exact h
                  · exact absurd (hi'.2 i d h hd) bad
                subst this
                exact q _ dx (same_put s5 (none_of s5 nd)) upd_same
              · exact absurd (hall d (List.mem_of_getElem? hd)) bad
        · intro σ H' hp
          obtain ⟨s2, hg, x2, x3, rfl⟩ := hp
          rcases q with ⟨i', hi', q⟩ | ⟨hall, q⟩
          · obtain ⟨d', hd', nd'⟩ := hi'.1
            exact absurd (hg i' d' (by rw [hxl]; exact (List.getElem?_eq_some_iff.mp hd').1) hd') nd'
          · exact q H' s2
      · refine .inr ⟨_, rfl, a, xs, rfl, SqT.of (s1 _ _ hx), for_it (walk_enumT (xs := xs)) (fun i σ H' => Same H H' ∧ GapsUp n ds i ∧ ∃ x2 x3, σ = [some (.int n), some (.ref a), x2, x3]) ⟨s1, hnl, none, none, rfl⟩ ?_ ?_ ?_⟩
        · intro i σ H' hi hp
          exact SqT.of (hp.1 _ _ hx)
        · intro i x σ H' H'' hi hp hy
          obtain ⟨s2, hg, x2, x3, rfl⟩ := hp
          obtain ⟨T, x, rfl, nT, rfl, hxi⟩ := hy
          obtain ⟨d, hd, hv⟩ := ha.get hxi
          have s3 := same_put s2 (none_of s2 nT) (o := .tup [.int (i : Nat), x])
          refine ⟨T, _, rfl, SqT.of upd_same, rfl, _, _, rfl, _, _, rfl, rfl, ?_⟩
          refine ⟨_, rfl, _, rfl, D, n, x, d, rfl, hv.sm s3, hll ds hr' d (List.mem_of_getElem? hd), fun H3 b s4 hb => ⟨_, rfl, ?_⟩⟩
          have s5 : Same H H3 := fun b o e => s4 b o (s3 b o e)
          cases b with
          | true =>
            refine iteF ⟨s5, fun j e hj he => ?_, _, _, rfl⟩
            rcases Nat.lt_succ_iff_lt_or_eq.mp hj with hj | rfl
            · exact hg j e hj he
            · rw [hd] at he
              cases he
              exact hb.mp rfl
          | false =>
            have bad : ¬ GapIs n d := fun z => absurd (hb.mpr z) (by decide)
            refine iteT ⟨_, rfl, .inr ⟨_, rfl, ?_⟩, fun dx nd => ?_⟩
            · show ((i : Nat) : Int).natAbs < 1000
              omega
            · rcases q with ⟨i', hi', q⟩ | ⟨hall, q⟩
              · have : i' = i := by
                  rcases Nat.lt_trichotomy i' i with h | h | h
                  · obtain ⟨d', hd', nd'⟩ := hi'.1
                    exact absurd (hg i' d' h hd') nd'
                  · exact h
                  · exact absurd (hi'.2 i d h hd) bad
                subst this
                exact q _ dx (same_put s5 (none_of s5 nd)) upd_same
              · exact absurd (hall d (List.mem_of_getElem? hd)) bad
        · intro σ H' hp
          obtain ⟨s2, hg, x2, x3, rfl⟩ := hp
          rcases q with ⟨i', hi', q⟩ | ⟨hall, q⟩
          · obtain ⟨d', hd', nd'⟩ := hi'.1
            exact absurd (hg i' d' (by rw [hxl]; exact (List.getElem?_eq_some_iff.mp hd').1) hd') nd'
          · exact q H' s2
end
end Lm
namespace Lm
open PySem PySem.Spec PyProof.Rows L2
/-- lots as they lie -/
def LotAt (H : Hp) (v : V) (l : List Int) : Prop := ∃ a, v = .ref a ∧ H a = some (.tup (l.map V.int))
inductive LsAt (H : Hp) : List V → Hm.Lots → Prop
  | nil : LsAt H [] []
  | cons {v : V} {vs : List V} {l : List Int} {ls : Hm.Lots} : LotAt H v l → LsAt H vs ls → LsAt H (v :: vs) (l :: ls)
theorem LotAt.sm {H H' : Hp} {v : V} {l : List Int} (h : LotAt H v l) (s : Same H H') : LotAt H' v l := by
  obtain ⟨a, rfl, h⟩ := h
  exact ⟨a, rfl, s _ _ h⟩
theorem LsAt.sm {H H' : Hp} (s : Same H H') : ∀ {vs : List V} {ls : Hm.Lots}, LsAt H vs ls → LsAt H' vs ls
  | _, _, .nil => .nil
  | _, _, .cons h t => .cons (h.sm s) (t.sm s)
theorem LsAt.len {H : Hp} : ∀ {vs : List V} {ls : Hm.Lots}, LsAt H vs ls → vs.length = ls.length
  | _, _, .nil => rfl
  | _, _, .cons _ t => congrArg Nat.succ t.len
theorem LsAt.get {H : Hp} : ∀ {vs : List V} {ls : Hm.Lots} {i : Nat} {v : V}, LsAt H vs ls → vs[i]? = some v → ∃ l, ls[i]? = some l ∧ LotAt H v l
  | _, _, _, _, .nil, e => by simp at e
  | _, _, 0, _, .cons h _, e => by
    simp at e
    subst e
    exact ⟨_, rfl, h⟩
  | _, _, i + 1, _, .cons _ t, e => by
    obtain ⟨l, a, b⟩ := LsAt.get (i := i) t (by simpa using e)
    exact ⟨l, by simpa using a, b⟩
theorem LsAt.snoc {H : Hp} {v : V} {l : List Int} (h : LotAt H v l) : ∀ {vs : List V} {ls : Hm.Lots}, LsAt H vs ls → LsAt H (vs ++ [v]) (ls ++ [l])
  | _, _, .nil => .cons h .nil
  | _, _, .cons a t => .cons a (t.snoc h)
theorem LotAt.off {H : Hp} {R : Addr} {o : HO} {v : V} {l : List Int} (h : ∀ l, H R ≠ some (.tup l)) (k : LotAt H v l) : LotAt (upd H R o) v l := by
  obtain ⟨a, rfl, e⟩ := k
  refine ⟨a, rfl, ?_⟩
  rw [upd_ne (fun z => h _ (z ▸ e))]
  exact e
theorem LsAt.off {H : Hp} {R : Addr} {o : HO} (h : ∀ l, H R ≠ some (.tup l)) : ∀ {vs : List V} {ls : Hm.Lots}, LsAt H vs ls → LsAt (upd H R o) vs ls
  | _, _, .nil => .nil
  | _, _, .cons a t => .cons (a.off h) (t.off h)
theorem no_tup {H : Hp} {R : Addr} {ys : List V} (h : H R = some (.lst ys)) : ∀ l, H R ≠ some (.tup l) := fun l z => by rw [h] at z; cases z
/-- few enough -/
structure Fit (ls : Hm.Lots) : Prop where
  many : ls.length ≤ 500
  each : ∀ l ∈ ls, l.length ≤ 500
theorem in_ints (x : Int) : ∀ l : List Int, inV (.int x) (l.map V.int) = decide (x ∈ l)
  | [] => rfl
  | a :: r => by
    show (eqV (.int a) (.int x) || inV (.int x) (r.map V.int)) = _
    rw [in_ints x r]
    show (decide (a = x) || _) = _
    by_cases h : a = x
    · subst h
      simp
    · have : ¬ x = a := fun z => h z.symm
      simp [h, this]
theorem flat_ints : ∀ l : List Int, (l.map V.int).all flatV = true
  | [] => rfl
  | _ :: r => by
    rw [List.map_cons, List.all_cons, flat_ints r]
    rfl
def retE : Stmt → Expr
  | .Return (some e) _ => e
  | _ => .Name "" ⟨0, 0, 0, 0⟩
def lcSc : Expr → Scope
  | .ListComp _ _ sc _ => sc
  | _ => defScope (.Pass ⟨0, 0, 0, 0⟩)
section
variable {P : Program} {w : World} {K : PySem.W.Frag} {mg : Str → Option Value} {base : Heap}
abbrev sWo : Stmt := topS 18
def nWo : List Str := ["lots", "gap", "lot"]
theorem scWo : FnScope nWo ["lots", "gap"] (defScope sWo) := ⟨rfl, rfl, rfl, by decide +kernel, rfl, by decide +kernel, by decide +kernel⟩
def spWo (f : Hm.Lots → Int → Hm.Lots) : Sp := fun vs H Q _ => ∃ (a : Addr) (xs : List V) (ls : Hm.Lots) (g : Int), vs = [.ref a, .int g] ∧ H a = some (.lst xs) ∧ LsAt H xs ls ∧ Fit ls ∧
  ∀ H' b ys, Same H H' → H b = none → H' b = some (.lst ys) → LsAt H' ys (f ls g) → Q (.ref b) H'
theorem ok_wo {f : Addr} {fd : FuncData} (F : Fun K "lots_without" "lots_without" sWo f fd) (N : Bl mg) : FnOk P w K mg base CX0 1 f fd ["lots", "gap"] (spWo Hm.woL) := by
  refine F.ok scWo (fun vs H Q E h => ?_) (fun cdv A outer s H vs Q E hr h => ?_)
  · obtain ⟨a, xs, ls, g, rfl, _⟩ := h
    rfl
  · obtain ⟨a, xs, ls, g, rfl, ha, hl, hf, q⟩ := h
    refine ⟨_, pss_one (ps_ret (pe_lc (own := [("lot", 2)]) (g := gName 2) rfl scWo.nd (pi_list (pv 0)) (blkOk_by (own := [("lot", 2)]) (N := nWo) (sc := defScope sWo) (by decide +kernel)) (fun _ _ _ _ _ => pg_name (i := 2) scWo.nd rfl (Or.inl rfl))
          (fun _ _ _ _ _ => pts_one (pt_cmpR (show OpR _ _ (rIn K true) from op_notIn_seq) (pv 1) (pv 2) (by rfl))) (fun _ _ _ _ _ => pv 2))), ?_⟩
    have hx := hl.len
    refine ⟨_, rfl, a, rfl, ⟨_, SqL.of ha⟩, fun R nR => lc_list (K := K) (a := a) (xs := xs) (fun i H' => Same H H' ∧ ∃ ys, H' R = some (.lst ys) ∧ LsAt H' ys (Hm.woL (ls.take i) g)) ⟨same_upd nR, [], upd_same, .nil⟩ (fun i H' _ h => SqL.of (h.1 _ _ ha)) ?_ ?_⟩
    · rintro i x H' hx ⟨s1, ys, hR, hy⟩
      obtain ⟨l, hli, b, rfl, hb⟩ := hl.get hx
      have hi : i < ls.length := (List.getElem?_eq_some_iff.mp hli).1
      refine ⟨rfl, _, rfl, _, rfl, b, _, rfl, .inr (SqT.of (s1 _ _ hb)), rfl, flat_ints l, _, rfl, ?_⟩
      have ht : ls.take (i + 1) = ls.take i ++ [l] := by
        rw [List.take_add_one, hli]
        rfl
      have hlen : ys.length ≤ 500 := by
        rw [hy.len]
        have h1 : (Hm.woL (ls.take i) g).length ≤ (ls.take i).length := List.length_filter_le _ _
        rw [List.length_take] at h1
        have := hf.many
        omega
      rw [in_ints]
      by_cases hg : g ∈ l
      · rw [decide_eq_true hg]
        refine iteF ⟨s1, ys, hR, ?_⟩
        have : Hm.woL (ls.take (i + 1)) g = Hm.woL (ls.take i) g := by
          rw [ht]
          unfold Hm.woL
          rw [List.filter_append]
          simp [hg]
        rw [this]
        exact hy
      · rw [decide_eq_false hg]
        refine iteT ⟨_, rfl, ys, hR, small1000 (by omega), same_put s1 nR, _, upd_same, ?_⟩
        have : Hm.woL (ls.take (i + 1)) g = Hm.woL (ls.take i) g ++ [l] := by
          rw [ht]
          unfold Hm.woL
          rw [List.filter_append]
          simp [hg]
        rw [this]
        exact LsAt.snoc (LotAt.off (no_tup hR) ⟨b, rfl, s1 _ _ hb⟩) (hy.off (no_tup hR))
    · rintro H1 ⟨s1, ys, hR, hy⟩
      rw [hx, List.take_length] at hy
      exact q H1 R ys s1 nR hR hy
end
end Lm
namespace Lm
open PySem PySem.Spec PyProof.Rows L2
theorem pi_listK {X : Cx} {tg l : Expr} {tl : TE} (K : PySem.W.Frag) (hl : PE X l tl) (hK : X.K = K := by rfl) : PI X tg l (iList K tl) := hK ▸ pi_list hl
theorem pi_tupK {X : Cx} {tg l : Expr} {tl : TE} (K : PySem.W.Frag) (hl : PE X l tl) (hK : X.K = K := by rfl) : PI X tg l (iTup K tl) := hK ▸ pi_tup hl
def rLen (K : PySem.W.Frag) : List V → Hp → VK → Prop := fun xs H Q => ∃ (p : Addr) (ys : List V), xs = [V.ref p] ∧ (SqL K H p ys ∨ SqT K H p ys) ∧ Q (.int ys.length) H
theorem call_lenK {X : Cx} (K : PySem.W.Frag) (hK : X.K = K := by rfl) : CallR X (.builtin "len") (rLen K) := hK ▸ call_len_seq
def rTupOf (K : PySem.W.Frag) : List V → Hp → VK → Prop := fun xs H Q => ∃ p ys, xs = [.ref p] ∧ ((SqL K H p ys ∧ ∀ l, H l = none → Q (.ref l) (upd H l (.tup ys))) ∨ (SqT K H p ys ∧ Q (.ref p) H))
theorem call_tupK {X : Cx} (K : PySem.W.Frag) (hK : X.K = K := by rfl) : CallR X (.type "tuple") (rTupOf K) := hK ▸ call_tuple_of
theorem filter_take_succ {α : Type} {p : α → Bool} {l : List α} {i : Nat} {x : α} (h : l[i]? = some x) : (l.take (i + 1)).filter p = (l.take i).filter p ++ (if p x = true then [x] else []) := by
  rw [List.take_add_one, h, List.filter_append]
  congr 1
  show [x].filter p = _
  rw [List.filter_cons, List.filter_nil]
section
variable {P : Program} {w : World} {K : PySem.W.Frag} {mg : Str → Option Value} {base : Heap}
abbrev sAbove : Stmt := topS 22
def nAb : List Str := ["lots", "gap", "lot", "other"]
theorem scAb : FnScope nAb ["lots", "gap"] (defScope sAbove) := ⟨rfl, rfl, rfl, by decide +kernel, rfl, by decide +kernel, by decide +kernel⟩
abbrev eAb : Expr := retE ((defBody sAbove).getD 0 (.Pass ⟨0, 0, 0, 0⟩))
theorem ok_above {f : Addr} {fd : FuncData} (F : Fun K "above" "above" sAbove f fd) (N : Bl mg) : FnOk P w K mg base CX0 1 f fd ["lots", "gap"] (spWo Hm.abvL) := by
  refine F.ok scAb (fun vs H Q E h => ?_) (fun cdv A outer s H vs Q E hr h => ?_)
  · obtain ⟨a, xs, ls, g, rfl, _⟩ := h
    rfl
  · obtain ⟨a, xs, ls, g, rfl, ha, hl, hf, q⟩ := h
    refine ⟨_, pss_one (ps_ret (pe_lc (own := [("lot", 2)]) (g := gName 2) (tt := tYes) rfl scAb.nd (pi_list (pv 0)) (blkOk_by (own := [("lot", 2)]) (N := nAb) (sc := defScope sAbove) (by decide +kernel)) (fun _ _ _ _ _ => pg_name (i := 2) scAb.nd rfl (Or.inl rfl))
          (fun _ _ _ _ _ => pts_nil) (fun _ _ _ _ _ => pe_callTy (call_tupK K) (by rfl) N.btup (by decide +kernel) (pa_cons
            (pe_lc (own := [("other", 3)]) (g := gName 3) rfl scAb.nd (pi_tupK K (pv 2)) (blkOk_by (by show blkC nAb ⟨.function, [(".0", .local), ("lot", .local), ("tuple", .globalImplicit), ("gap", .cell)], false, false, []⟩ _ [("other", 3)] = true; decide +kernel)) (fun _ _ _ _ _ => pg_name (i := 3) scAb.nd rfl (Or.inl rfl))
              (fun _ _ _ _ _ => pts_one (pt_cmpR op_gt (pv 3) (pv 1) (nomark _))) (fun _ _ _ _ _ => pv 3)) pa_nil)))), ?_⟩
    have hx := hl.len
    refine ⟨_, rfl, a, rfl, ⟨_, SqL.of ha⟩, fun R nR => lc_list (K := K) (a := a) (xs := xs) (fun i H' => Same H H' ∧ ∃ ys, H' R = some (.lst ys) ∧ LsAt H' ys (Hm.abvL (ls.take i) g)) ⟨same_upd nR, [], upd_same, .nil⟩ (fun i H' _ h => SqL.of (h.1 _ _ ha)) ?_ ?_⟩
    · rintro i x H' hx ⟨s1, ys, hR, hy⟩
      obtain ⟨l, hli, b, rfl, hb⟩ := hl.get hx
      have hi : i < ls.length := (List.getElem?_eq_some_iff.mp hli).1
      have hl5 := hf.each l (List.mem_of_getElem? hli)
      have hm5 := hf.many
      refine ⟨rfl, _, rfl, b, rfl, ⟨_, SqT.of (s1 _ _ hb)⟩, fun R2 nR2 => lc_tup (K := K) (a := b) (xs := l.map V.int) (fun j H2 => Same H' H2 ∧ H2 R2 = some (.lst (((l.take j).filter fun o => decide (g < o)).map V.int))) ⟨same_upd nR2, upd_same⟩ (fun j H2 _ h => SqT.of (h.1 _ _ (s1 _ _ hb))) ?_ ?_⟩
      · rintro j x H2 hxj ⟨s2, hR2⟩
        obtain ⟨z, hz, rfl⟩ := int_at hxj
        have hlen : ((l.take j).filter fun o => decide (g < o)).length ≤ 500 := Nat.le_trans (List.length_filter_le _ _) (by rw [List.length_take]; omega)
        have st := filter_take_succ (p := fun o => decide (g < o)) hz
        refine ⟨rfl, _, rfl, _, rfl, _, _, rfl, rfl, _, rfl, ?_⟩
        by_cases hg : g < z
        · rw [decide_eq_true hg]
          refine iteT ⟨_, rfl, _, hR2, small1000 (by rw [List.length_map]; omega), same_put s2 nR2, ?_⟩
          rw [if_pos (decide_eq_true hg)] at st
          rw [st, List.map_append]
          exact upd_same
        · rw [decide_eq_false hg]
          refine iteF ⟨s2, ?_⟩
          rw [if_neg (by simpa using hg), List.append_nil] at st
          rw [st]
          exact hR2
      · rintro H2 ⟨s2, hR2⟩
        rw [List.length_map, List.take_length] at hR2
        refine ⟨R2, _, rfl, .inl ⟨SqL.of hR2, fun T nT => ?_⟩⟩
        have s3 : Same H' (upd H2 T (.tup ((l.filter fun o => decide (g < o)).map V.int))) := same_put s2 (none_of s2 nT)
        have hRn : H R = none := nR
        have hR3 : (upd H2 T (.tup ((l.filter fun o => decide (g < o)).map V.int))) R = some (.lst ys) := s3 _ _ hR
        have hlen : ys.length ≤ 500 := by
          rw [hy.len]
          unfold Hm.abvL
          rw [List.length_map, List.length_take]
          omega
        refine ⟨ys, hR3, small1000 (by omega), same_put (fun b o e => s3 b o (s1 b o e)) nR, _, upd_same, ?_⟩
        have : Hm.abvL (ls.take (i + 1)) g = Hm.abvL (ls.take i) g ++ [l.filter fun o => decide (g < o)] := by
          rw [List.take_add_one, hli]
          unfold Hm.abvL
          rw [List.map_append]
          rfl
        rw [this]
        exact LsAt.snoc (LotAt.off (no_tup hR3) ⟨T, rfl, upd_same⟩) ((hy.sm s3).off (no_tup hR3))
    · rintro H1 ⟨s1, ys, hR, hy⟩
      rw [hx, List.take_length] at hy
      exact q H1 R ys s1 nR hR hy
end
end Lm
namespace Lm
open PySem PySem.Spec PyProof.Rows L2
theorem put_some (kvs : List (Key × V)) (k j : Key) (y : V) : (valV (putK kvs k y) j).isSome = (decide (j = k) || (valV kvs j).isSome) := by
  rw [valV_put]
  by_cases h : j = k
  · simp [h]
  · simp [h]
theorem merge_some (j : Key) : ∀ (more kvs : List (Key × V)), (valV (mergeK kvs more) j).isSome = ((valV kvs j).isSome || (valV more j).isSome)
  | [], kvs => by
    show (valV kvs j).isSome = _
    rw [valV_nil]
    simp
  | p :: r, kvs => by
    show (valV (mergeK (putK kvs p.1 p.2) r) j).isSome = _
    rw [merge_some j r, put_some]
    by_cases h : p.1 = j
    · rw [valV_pos h]
      simp [h.symm]
    · rw [valV_neg h]
      have : ¬ j = p.1 := fun z => h z.symm
      simp [this]
theorem none_keys (g : Int) : (valV ([] : List (Key × V)) (.inl g)).isSome = true ↔ ∃ c ∈ ([] : Hm.Lots), g ∈ c := by
  constructor
  · intro z
    cases z
  · rintro ⟨c, z, _⟩
    cases z
theorem none_keys2 (g : Int) : (valV ([] : List (Key × V)) (.inl g)).isSome = true ↔ g ∈ ([] : List Int) := by
  constructor
  · intro z
    cases z
  · intro z
    cases z
section
variable {P : Program} {w : World} {K : PySem.W.Frag} {mg : Str → Option Value} {base : Heap}
abbrev sApart : Stmt := topS 19
def nApart : List Str := ["lots", "taken", "count", "lot", "gap"]
theorem scApart : FnScope nApart ["lots"] (defScope sApart) := ⟨rfl, rfl, rfl, by decide +kernel, rfl, by decide +kernel, by decide +kernel⟩
/-- so many lots, no two of which share a gap -/
def Apart (ls cs : Hm.Lots) : Prop := (∀ c ∈ cs, c ∈ ls) ∧ cs.Pairwise fun a b => ∀ g ∈ a, g ∉ b
def spApart : Sp := fun vs H Q _ => ∃ (a : Addr) (xs : List V) (ls : Hm.Lots), vs = [.ref a] ∧ H a = some (.lst xs) ∧ LsAt H xs ls ∧ Fit ls ∧ ∀ H' cs, Same H H' → Apart ls cs → (ls ≠ [] → cs ≠ []) → Q (.int (cs.length : Nat)) H'
theorem ok_apart {f : Addr} {fd : FuncData} (F : Fun K "fewest_apart" "fewest_apart" sApart f fd) (N : Bl mg) : FnOk P w K mg base CX0 1 f fd ["lots"] spApart := by
  refine F.ok scApart (fun vs H Q E h => ?_) (fun cdv A outer s H vs Q E hr h => ?_)
  · obtain ⟨a, xs, ls, rfl, _⟩ := h
    rfl
  · obtain ⟨a, xs, ls, rfl, ha, hl, hf, q⟩ := h
    have hu := hu_of hr
    refine ⟨_, pss_cons (ps_set (i := 1) scApart.nd rfl (.inr rfl) pe_dnewK) (pss_cons (ps_set (i := 2) scApart.nd rfl (.inl rfl) pe_int)
      (pss_cons (ps_for PassesOwn.never rfl (pi_list (pv 0)) (pg_name (i := 3) scApart.nd rfl (Or.inl rfl))
        (pss_one (ps_if (pt_not (pt_val (pe_callB (cr_any rfl) (by rfl) N.bany (by decide +kernel) (pa_cons (pe_lc (own := [("gap", 4)]) (g := gName 4) (tt := tYes) rfl scApart.nd (pi_tup (pv 3)) (blkOk_by (own := [("gap", 4)]) (N := nApart) (sc := defScope sApart) (by decide +kernel)) (fun _ _ _ _ _ => pg_name (i := 4) scApart.nd rfl (Or.inl rfl))
          (fun _ _ _ _ _ => pts_nil) (fun _ _ _ _ _ => pe_cmp (pc_din hu (pv 4) (pv 1)))) pa_nil))))
          (pss_cons (ps_expr (pe_dupd (pv 1) (pe_dc (own := [("gap", 4)]) (g := gName 4) (tt := tYes) rfl scApart.nd (pi_tup (pv 3)) (blkOk_by (own := [("gap", 4)]) (N := nApart) (sc := defScope sApart) (by decide +kernel)) (fun _ _ _ _ _ => pg_name (i := 4) scApart.nd rfl (Or.inl rfl))
            (fun _ _ _ _ _ => pts_nil) (fun _ _ _ _ _ => pv 4) (fun _ _ _ _ _ => pe_bl)) ⟨rfl, rfl, rfl, rfl⟩))
            (pss_one (ps_set (i := 2) scApart.nd rfl (.inl rfl) (pe_op op_add (pv 2) pe_int)))) pss_nil)))
      (pss_one (ps_ret (pv 2))))), ?_⟩
    intro d hd
    have hd0 : H d = none := hd
    refine ⟨_, rfl, a, rfl, ⟨_, SqL.of (same_upd hd0 _ _ ha)⟩, for_list (xs := xs) (fun i σ H' => Same H H' ∧ ∃ (kvs : List (Key × V)) (cs : Hm.Lots) (x3 x4 : Option V), σ = [some (.ref a), some (.ref d), some (.int (cs.length : Nat)), x3, x4] ∧ H' d = some (.dK kvs) ∧ kvs.length ≤ 500 * i ∧ Apart ls cs ∧ (0 < i → cs ≠ []) ∧
      ∀ g : Int, (valV kvs (.inl g)).isSome = true ↔ ∃ c ∈ cs, g ∈ c) ⟨same_upd hd0, [], [], none, none, rfl, upd_same, Nat.zero_le _, ⟨fun _ z => (nomatch z), .nil⟩, (fun z => absurd z (Nat.lt_irrefl 0)), none_keys⟩ (fun i σ H' _ h => SqL.of (h.1 _ _ ha)) ?_ ?_⟩
    · rintro i x σ H' hxi ⟨s1, kvs, cs, x3, x4, rfl, hk, hkl, hap, hne, hkeys⟩
      obtain ⟨l, hli, b, rfl, hb⟩ := hl.get hxi
      have hi : i < ls.length := (List.getElem?_eq_some_iff.mp hli).1
      have hl5 := hf.each l (List.mem_of_getElem? hli)
      have hm5 := hf.many
      have hb1 := s1 _ _ hb
      refine ⟨_, rfl, b, rfl, ⟨_, SqT.of hb1⟩, fun R nR => lc_tup (K := K) (a := b) (xs := l.map V.int) (fun j H2 => Same H' H2 ∧ H2 R = some (.lst (((l.take j).map fun g => (valV kvs (.inl g)).isSome).map V.bl))) ⟨same_upd nR, upd_same⟩ (fun j H2 _ h => SqT.of (h.1 _ _ hb1)) ?_ ?_⟩
      · rintro j x H2 hxj ⟨s2, hR⟩
        obtain ⟨z, hz, rfl⟩ := int_at hxj
        refine ⟨rfl, _, rfl, _, rfl, d, _, rfl, DGet.k (k := .inl z) (s2 _ _ hk), _, hR, ?_, same_put s2 nR, ?_⟩
        · rw [List.length_map, List.length_map, List.length_take]
          exact small1000 (by omega)
        · rw [List.take_add_one, hz, List.map_append, List.map_append]
          exact upd_same
      · rintro H2 ⟨s2, hR⟩
        rw [List.length_map, List.take_length] at hR
        refine ⟨R, _, rfl, SqL.of hR, _, rfl, ?_⟩
        have e : (l.map fun g => (valV kvs (.inl g)).isSome).any id = true ↔ ∃ g ∈ l, ∃ c ∈ cs, g ∈ c := by
          rw [List.any_map, List.any_eq_true]
          constructor
          · rintro ⟨g, hg, h⟩
            exact ⟨g, hg, (hkeys g).mp h⟩
          · rintro ⟨g, hg, h⟩
            exact ⟨g, hg, (hkeys g).mpr h⟩
        have s12 : Same H H2 := fun b o e => s2 b o (s1 b o e)
        cases hany : (l.map fun g => (valV kvs (.inl g)).isSome).any id with
        | true =>
          obtain ⟨g0, _, c0, hc0, _⟩ := e.mp hany
          exact iteF ⟨s12, kvs, cs, _, _, rfl, s2 _ _ hk, by omega, hap, fun _ => List.ne_nil_of_mem hc0, hkeys⟩
        | false =>
          have hno : ∀ g ∈ l, ∀ c ∈ cs, g ∉ c := fun g hg c hc hgc => by
            rw [e.mpr ⟨g, hg, c, hc, hgc⟩] at hany
            cases hany
          refine iteT ⟨_, rfl, d, rfl, .inl ⟨_, .inl (s2 _ _ hk)⟩, _, rfl, b, rfl, ⟨_, SqT.of (s2 _ _ hb1)⟩, fun R2 nR2 => dc_tup (K := K) (a := b) (xs := l.map V.int) (fun j H3 => Same H2 H3 ∧ ∃ kv2, H3 R2 = some (.dK kv2) ∧ kv2.length ≤ j ∧ ∀ g : Int, (valV kv2 (.inl g)).isSome = true ↔ g ∈ l.take j)
            ⟨same_upd nR2, [], upd_same, Nat.le_refl _, none_keys2⟩ (fun j H3 _ h => SqT.of (h.1 _ _ (s2 _ _ hb1))) ?_ ?_⟩
          · rintro j x H3 hxj ⟨s3, kv2, h2, hlen2, hk2⟩
            obtain ⟨z, hz, rfl⟩ := int_at hxj
            have hj : j < l.length := (List.getElem?_eq_some_iff.mp hz).1
            refine ⟨rfl, _, rfl, kv2, .inl z, rfl, h2, small1000 (by omega), same_put s3 nR2, _, upd_same, ?_, fun g => ?_⟩
            · have := length_putK kv2 (.inl z) (.bl true)
              omega
            · rw [put_some, Bool.or_eq_true, hk2, List.take_add_one, hz, List.mem_append, decide_eq_true_iff]
              show (Sum.inl g = Sum.inl z) ∨ _ ↔ _ ∨ g ∈ [z]
              rw [List.mem_singleton, Sum.inl.injEq]
              exact Or.comm
          · rintro H3 ⟨s3, kv2, h2, hlen2, hk2⟩
            rw [List.length_map] at hlen2
            rw [List.length_map, List.take_length] at hk2
            have s13 : Same H H3 := fun b o e => s3 b o (s12 b o e)
            have hd3 := s3 _ _ (s2 _ _ hk)
            have hdR : d ≠ R2 := ne_of_none (s2 _ _ hk) nR2
            refine ⟨kvs, kv2, R2, hd3, rfl, h2, hdR, ?_, ?_⟩
            · exact Nat.le_trans (show kvs.length + kv2.length ≤ 500 * 500 + 500 by omega) (by unfold sizeLine; decide)
            · refine ⟨_, rfl, _, _, rfl, rfl, same_put s13 hd0, mergeK kvs kv2, cs ++ [l], some (.ref b), x4, ?_, upd_same, ?_, ?_, fun _ => by simp, fun g => ?_⟩
              · show [some (V.ref a), some (V.ref d), some (V.int ((cs.length : Nat) + 1)), some (V.ref b), x4] = _
                rw [List.length_append]
                rfl
              · have := length_mergeK kv2 kvs
                omega
              · refine ⟨fun c hc => ?_, List.pairwise_append.mpr ⟨hap.2, List.pairwise_singleton _ _, fun c hc c' hc' g hg => ?_⟩⟩
                · rcases List.mem_append.mp hc with hc | hc
                  · exact hap.1 c hc
                  · rw [List.mem_singleton.mp hc]
                    exact List.mem_of_getElem? hli
                · rw [List.mem_singleton.mp hc']
                  exact fun hgl => hno g hgl c hc hg
              · rw [merge_some, Bool.or_eq_true, hkeys, hk2]
                constructor
                · rintro (⟨c, hc, hg⟩ | hg)
                  · exact ⟨c, List.mem_append_left _ hc, hg⟩
                  · exact ⟨l, List.mem_append_right _ (List.mem_singleton.mpr rfl), hg⟩
                · rintro ⟨c, hc, hg⟩
                  rcases List.mem_append.mp hc with hc | hc
                  · exact .inl ⟨c, hc, hg⟩
                  · rw [List.mem_singleton.mp hc] at hg
                    exact .inr hg
    · rintro σ H' ⟨s1, kvs, cs, x3, x4, rfl, hk, hkl, hap, hne, hkeys⟩
      refine ⟨_, rfl, q H' cs s1 hap fun h0 => hne ?_⟩
      rw [hl.len]
      exact List.length_pos_iff.mpr h0
end
end Lm
namespace Lm
open PySem PySem.Spec PyProof.Rows L2
theorem LsAt.mem {H : Hp} : ∀ {vs : List V} {ls : Hm.Lots} {i : Nat} {v : V}, LsAt H vs ls → vs[i]? = some v → ∃ l, l ∈ ls ∧ ls[i]? = some l ∧ LotAt H v l := fun h e => by
  obtain ⟨l, a, b⟩ := h.get e
  exact ⟨l, List.mem_of_getElem? a, a, b⟩
theorem cut_len {ls : Hm.Lots} {g : Int} : (Hm.cutL ls g).length = ls.length := List.length_map ..
theorem fit_cut {ls : Hm.Lots} {g : Int} (h : Fit ls) : Fit (Hm.cutL ls g) := by
  refine ⟨by rw [cut_len]; exact h.many, fun l hl => ?_⟩
  obtain ⟨l', hl', rfl⟩ := List.mem_map.mp hl
  exact Nat.le_trans (List.length_filter_le _ _) (h.each l' hl')
theorem fit_wo {ls : Hm.Lots} {g : Int} (h : Fit ls) : Fit (Hm.woL ls g) :=
  ⟨Nat.le_trans (List.length_filter_le _ _) h.many, fun l hl => h.each l (Hm.mem_wo.mp hl).1⟩
theorem fit_abv {ls : Hm.Lots} {g : Int} (h : Fit ls) : Fit (Hm.abvL ls g) := by
  refine ⟨by unfold Hm.abvL; rw [List.length_map]; exact h.many, fun l hl => ?_⟩
  obtain ⟨l', hl', rfl⟩ := List.mem_map.mp hl
  exact Nat.le_trans (List.length_filter_le _ _) (h.each l' hl')
theorem fit_cuts {gs : List Int} : ∀ {ls : Hm.Lots}, Fit ls → Fit (Hm.cutsL ls gs) := by
  induction gs with
  | nil => intro ls h; exact h
  | cons g r ih => intro ls h; exact ih (fit_cut h)
theorem lens_of {K : PySem.W.Frag} {H : Hp} {xs : List V} {ls : Hm.Lots} (h : LsAt H xs ls) : ∃ L : Nat → Nat, ∀ (i : Nat) (v : V), xs[i]? = some v → ∃ (b : Addr) (ys : List V), v = .ref b ∧ SqT K H b ys ∧ ys.length = L i := by
  refine ⟨fun i => (ls.getD i []).length, fun i v hv => ?_⟩
  obtain ⟨l, hl, b, rfl, hb⟩ := h.get hv
  refine ⟨b, _, rfl, SqT.of hb, ?_⟩
  rw [List.length_map]
  show l.length = (ls.getD i []).length
  rw [List.getD_eq_getElem?_getD, hl]
  rfl
section
variable {P : Program} {w : World} {K : PySem.W.Frag} {mg : Str → Option Value} {base : Heap}
abbrev sCan : Stmt := topS 20
def nCan : List Str := ["lots", "number", "shortest", "gap", "lot", "other"]
theorem scCan : FnScope nCan ["lots", "number"] (defScope sCan) := ⟨rfl, rfl, rfl, by decide +kernel, rfl, by decide +kernel, by decide +kernel⟩
def spCan (n : Nat) : Sp := fun vs H Q _ => ∃ (a : Addr) (xs : List V) (ls : Hm.Lots) (m : Nat), vs = [.ref a, .int (m : Nat)] ∧ m ≤ n ∧ H a = some (.lst xs) ∧ LsAt H xs ls ∧ Fit ls ∧ ∀ H' b, Same H H' → (b = true ↔ Hm.Can ls m) → Q (.bl b) H'
def spCanBelow : Nat → Sp
  | 0 => fun _ _ _ _ => False
  | n + 1 => spCan n
theorem ok_can_no {f : Addr} {fd : FuncData} (F : Fun K "can_hit" "can_hit" sCan f fd) (j : Nat) : FnOk P w K mg base CX0 (j + 1) f fd ["lots", "number"] (spCanBelow 0) :=
  F.ok scCan (fun vs H Q E h => h.elim) (fun cdv A outer s H vs Q E hr h => h.elim)
def rTupCut (K : PySem.W.Frag) : Prop := True
theorem ok_can {f : Addr} {fd : FuncData} (F : Fun K "can_hit" "can_hit" sCan f fd) (N : Bl mg) (n : Nat) (GW : Has P w K mg base CX0 1 "lots_without" ["lots", "gap"] (spWo Hm.woL)) (GA : Has P w K mg base CX0 1 "fewest_apart" ["lots"] spApart)
    (GC : Has P w K mg base CX0 (n + 2) "can_hit" ["lots", "number"] (spCanBelow n)) : FnOk P w K mg base CX0 (n + 3) f fd ["lots", "number"] (spCan n) := by
  refine F.ok scCan (fun vs H Q E h => ?_) (fun cdv A outer s H vs Q E hr h => ?_)
  · obtain ⟨a, xs, ls, m, rfl, _⟩ := h
    rfl
  · obtain ⟨a, xs, ls, m, rfl, hmn, ha, hl, hf, q⟩ := h
    refine ⟨_, pss_cons (ps_if (pt_not (pt_truth (pv 0) (fun _ => rfl))) (pss_one (ps_ret pe_bl)) pss_nil)
      (pss_cons (ps_set (i := 2) scCan.nd rfl (.inl rfl) (pe_minLen rfl (by rfl) N.bmin (by decide +kernel) (by rfl) N.blen (pv 0)))
      (pss_cons (ps_if (pw_or (pt_not (pt_truth (pv 2) (fun _ => rfl))) (pw_or1 (pt_cmpR op_gt (pe_h GA hr (by omega) (by rfl) pass0 (pa_cons (pv 0) pa_nil)) (pv 1) (nomark _)))).pt (pss_one (ps_ret pe_bl)) pss_nil)
      (pss_cons (ps_for PassesOwn.never rfl (pi_tup (pv 2)) (pg_name (i := 3) scCan.nd rfl (.inr rfl))
        (pss_cons (ps_if (pt_val (pe_h GC hr (by omega) (by rfl) pass0 (pa_cons (pe_h GW hr (by omega) (by rfl) pass0 (pa_cons (pv 0) (pa_cons (pv 3) pa_nil))) (pa_cons (pe_op op_sub (pv 1) pe_int) pa_nil)))) (pss_one (ps_ret pe_bl)) pss_nil)
        (pss_one (ps_setLc (i := 0) (own := [("lot", 4)]) (g := gName 4) (tt := tYes) (by rfl) scCan.nd rfl rfl (sw_true rfl rfl rfl (by decide +kernel)) (pi_list (pv 0))
          (blkOk_by (own := [("lot", 4)]) (N := nCan) (sc := defScope sCan) (by decide +kernel)) (fun _ _ _ _ _ => pg_name (i := 4) scCan.nd rfl (Or.inl rfl))
          (fun _ _ _ _ _ => pts_nil) (fun _ _ _ _ _ => pe_callTy (call_tupK K) (by rfl) N.btup (by decide +kernel) (pa_cons
            (pe_lc (own := [("other", 5)]) (g := gName 5) rfl scCan.nd (pi_tupK K (pv 4)) (blkOk_by (by show blkC nCan ⟨.function, [(".0", .local), ("lot", .local), ("tuple", .globalImplicit), ("gap", .cell)], false, false, []⟩ _ [("other", 5)] = true; decide +kernel)) (fun _ _ _ _ _ => pg_name (i := 5) scCan.nd rfl (Or.inl rfl))
              (fun _ _ _ _ _ => pts_one (pt_cmpR op_ne (pv 5) (pv 3) (nomark _))) (fun _ _ _ _ _ => pv 5)) pa_nil))))))
      (pss_one (ps_ret pe_bl))))), ?_⟩
    have hx := hl.len
    refine ⟨.ref a, rfl, !xs.isEmpty, .inl ⟨xs, SqL.of ha, rfl⟩, ?_⟩
    cases xs with
    | nil =>
      have e0 : ls = [] := List.length_eq_zero_iff.mp hx.symm
      subst e0
      exact iteT (q H true (fun _ _ z => z) ⟨fun _ => Hm.can_nil m, fun _ => rfl⟩)
    | cons x0 xr =>
      refine iteF ?_
      obtain ⟨L, hL⟩ := lens_of (K := K) hl
      refine ⟨.ref a, rfl, a, _, L, rfl, SqL.of ha, Nat.succ_pos _, hL, fun i v hv => ?_⟩
      obtain ⟨l, hlm, hli, b, rfl, hb⟩ := hl.mem hv
      have hne : ls ≠ [] := List.ne_nil_of_mem hlm
      have no : ∀ {H'}, Same H H' → ¬ Hm.Can ls m → Q (.bl false) H' := fun s n => q _ false s ⟨fun z => absurd z (by decide), fun z => absurd z n⟩
      cases hl0 : l with
      | nil =>
        subst hl0
        exact ⟨.ref b, rfl, false, .inr (.inl ⟨_, SqT.of hb, rfl⟩), iteT (iteT (no (fun _ _ z => z) (Hm.can_empty hlm)))⟩
      | cons g0 gr =>
        refine ⟨.ref b, rfl, true, .inr (.inl ⟨_, SqT.of hb, by rw [hl0]; rfl⟩), ?_⟩
        refine iteF ⟨_, rfl, a, _, ls, rfl, ha, hl, hf, fun H1 cs s1 hap hcs => ?_⟩
        have hcn := hcs hne
        refine ⟨_, rfl, _, _, rfl, rfl, _, rfl, ?_⟩
        by_cases hgt : (m : Int) < ((cs.length : Nat) : Int)
        · rw [decide_eq_true hgt]
          refine iteT (no s1 fun z => ?_)
          have := Hm.apart_can hap.1 hap.2 z
          omega
        · rw [decide_eq_false hgt]
          refine iteF ?_
          obtain ⟨m', rfl⟩ : ∃ m', m = m' + 1 := by
            have : 0 < cs.length := List.length_pos_iff.mpr hcn
            exact ⟨m - 1, by omega⟩
          obtain ⟨n', rfl⟩ : ∃ n', n = n' + 1 := ⟨n - 1, by omega⟩
          refine ⟨_, rfl, b, rfl, ⟨_, SqT.of (s1 _ _ hb)⟩, for_tup (K := K) (a := b) (xs := l.map V.int) (fun i σ H' => Same H H' ∧ (Hm.Can ls (m' + 1) → Hm.Can (Hm.cutsL ls (l.take i)) (m' + 1)) ∧
            ∃ a' ys x3 x4 x5, σ = [some (.ref a'), some (.int ((m' + 1 : Nat) : Int)), some (.ref b), x3, x4, x5] ∧ H' a' = some (.lst ys) ∧ LsAt H' ys (Hm.cutsL ls (l.take i))) ⟨s1, id, a, _, none, none, none, rfl, s1 _ _ ha, hl.sm s1⟩ (fun i σ H' _ h => SqT.of (h.1 _ _ hb)) ?_ ?_⟩
          · rintro i x σ H' hxi ⟨s2, hc, a', ys, x3, x4, x5, rfl, ha', hy⟩
            obtain ⟨g, hg, rfl⟩ := int_at hxi
            have fit := fit_cuts (gs := l.take i) hf
            refine ⟨_, rfl, _, rfl, a', ys, _, g, rfl, ha', hy, fit, fun H3 c zs s3 nc hc3 hz => ?_⟩
            refine ⟨_, rfl, _, _, rfl, rfl, c, zs, _, m', ?_, by omega, hc3, hz, fit_wo fit, fun H4 r s4 hr4 => ?_⟩
            · show [V.ref c, V.int (((m' + 1 : Nat) : Int) - 1)] = _
              rw [show ((m' + 1 : Nat) : Int) - 1 = (m' : Int) by omega]
            · have t4 : Same H H4 := fun b o e => s4 b o (s3 b o (s2 b o e))
              refine ⟨r, rfl, ?_⟩
              cases r with
              | true => exact iteT (q H4 true t4 ⟨fun _ => Hm.cuts_can (Hm.can_take (hr4.mp rfl)), fun _ => rfl⟩)
              | false =>
                have nwo : ¬ Hm.Can (Hm.woL (Hm.cutsL ls (l.take i)) g) m' := fun z => absurd (hr4.mpr z) (by decide)
                have ha4 := s4 _ _ (s3 _ _ ha')
                have hy4 := (hy.sm s3).sm s4
                have htk : l.take (i + 1) = l.take i ++ [g] := by rw [List.take_add_one, hg]; rfl
                refine iteF ⟨_, rfl, a', rfl, ⟨_, SqL.of ha4⟩, fun R nR => lc_list (K := K) (a := a') (xs := ys) (fun j H5 => Same H4 H5 ∧ ∃ us, H5 R = some (.lst us) ∧ LsAt H5 us (Hm.cutL ((Hm.cutsL ls (l.take i)).take j) g)) ⟨same_upd nR, [], upd_same, .nil⟩ (fun j H5 _ h => SqL.of (h.1 _ _ ha4)) ?_ ?_⟩
                · rintro j x H5 hxj ⟨s5, us, hR, hu⟩
                  obtain ⟨l', hl'm, hl'i, b', rfl, hb'⟩ := hy4.mem hxj
                  have hj : j < (Hm.cutsL ls (l.take i)).length := (List.getElem?_eq_some_iff.mp hl'i).1
                  have hl5 := fit.each l' hl'm
                  have hm5 := fit.many
                  refine ⟨rfl, _, rfl, b', rfl, ⟨_, SqT.of (s5 _ _ hb')⟩, fun R2 nR2 => lc_tup (K := K) (a := b') (xs := l'.map V.int) (fun k H6 => Same H5 H6 ∧ H6 R2 = some (.lst (((l'.take k).filter fun o => decide (o ≠ g)).map V.int))) ⟨same_upd nR2, upd_same⟩ (fun k H6 _ h => SqT.of (h.1 _ _ (s5 _ _ hb'))) ?_ ?_⟩
                  · rintro k x H6 hxk ⟨s6, hR2⟩
                    obtain ⟨z, hz, rfl⟩ := int_at hxk
                    have hlen : ((l'.take k).filter fun o => decide (o ≠ g)).length ≤ 500 := Nat.le_trans (List.length_filter_le _ _) (by rw [List.length_take]; omega)
                    have st := filter_take_succ (p := fun o => decide (o ≠ g)) hz
                    refine ⟨rfl, _, rfl, _, rfl, rfl, _, rfl, ?_⟩
                    by_cases hg : z = g
                    · subst hg
                      rw [decide_eq_true (show V.int z = V.int z from rfl)]
                      refine iteF ⟨s6, ?_⟩
                      rw [if_neg (by simp), List.append_nil] at st
                      rw [st]
                      exact hR2
                    · rw [decide_eq_false (show ¬ V.int z = V.int g from fun e => hg (V.int.inj e))]
                      refine iteT ⟨_, rfl, _, hR2, small1000 (by rw [List.length_map]; omega), same_put s6 nR2, ?_⟩
                      rw [if_pos (decide_eq_true hg)] at st
                      rw [st, List.map_append]
                      exact upd_same
                  · rintro H6 ⟨s6, hR2⟩
                    rw [List.length_map, List.take_length] at hR2
                    refine ⟨R2, _, rfl, .inl ⟨SqL.of hR2, fun T nT => ?_⟩⟩
                    have s7 : Same H5 (upd H6 T (.tup ((l'.filter fun o => decide (o ≠ g)).map V.int))) := same_put s6 (none_of s6 nT)
                    have hR3 : (upd H6 T (.tup ((l'.filter fun o => decide (o ≠ g)).map V.int))) R = some (.lst us) := s7 _ _ hR
                    have hlen : us.length ≤ 500 := by
                      rw [hu.len, cut_len, List.length_take]
                      omega
                    refine ⟨us, hR3, small1000 (by omega), same_put (fun b o e => s7 b o (s5 b o e)) nR, _, upd_same, ?_⟩
                    have : Hm.cutL ((Hm.cutsL ls (l.take i)).take (j + 1)) g = Hm.cutL ((Hm.cutsL ls (l.take i)).take j) g ++ [l'.filter fun o => decide (o ≠ g)] := by
                      rw [List.take_add_one, hl'i]
                      unfold Hm.cutL
                      rw [List.map_append]
                      rfl
                    rw [this]
                    exact LsAt.snoc (LotAt.off (no_tup hR3) ⟨T, rfl, upd_same⟩) ((hu.sm s7).off (no_tup hR3))
                · rintro H5 ⟨s5, us, hR, hu⟩
                  rw [hy4.len, List.take_length, ← Hm.cutsL_snoc, ← htk] at hu
                  refine ⟨fun b o e => s5 b o (t4 b o e), fun hcan => ?_, R, us, _, _, _, rfl, hR, hu⟩
                  rw [htk, Hm.cutsL_snoc]
                  exact (Hm.can_split (hc hcan)).resolve_left nwo
          · rintro σ H' ⟨s2, hc, a', ys, x3, x4, x5, rfl, ha', hy⟩
            refine no s2 fun z => ?_
            have := hc z
            rw [List.length_map, List.take_length] at this
            exact Hm.cuts_all hlm this
end
end Lm
namespace Lm
open PySem PySem.Spec PyProof.Rows L2
/-- lots of gaps below many -/
def LotsOk (many : Int) (ls : Hm.Lots) : Prop := ∀ l ∈ ls, ∀ x ∈ l, 0 ≤ x ∧ x < many
section
variable {P : Program} {w : World} {K : PySem.W.Frag} {mg : Str → Option Value} {base : Heap}
abbrev sFew : Stmt := topS 21
def nFew : List Str := ["many", "lots", "number"]
theorem scFew : FnScope nFew ["many", "lots"] (defScope sFew) := ⟨rfl, rfl, rfl, by decide +kernel, rfl, by decide +kernel, by decide +kernel⟩
def spFew : Sp := fun vs H Q _ => ∃ (a : Addr) (xs : List V) (ls : Hm.Lots) (many : Nat), vs = [.int (many : Nat), .ref a] ∧ many ≤ 16 ∧ H a = some (.lst xs) ∧ LsAt H xs ls ∧ Fit ls ∧ LotsOk many ls ∧
  ∀ H' v, Same H H' → ((v = .non ∧ [] ∈ ls) ∨ ∃ n : Nat, v = .int (n : Nat) ∧ n ≤ many ∧ Hm.Can ls n ∧ ∀ m, m < n → ¬ Hm.Can ls m) → Q v H'
theorem ok_few {f : Addr} {fd : FuncData} (F : Fun K "fewest_hits" "fewest_hits" sFew f fd) (N : Bl mg) (GC : Has P w K mg base CX0 19 "can_hit" ["lots", "number"] (spCan 16)) : FnOk P w K mg base CX0 20 f fd ["many", "lots"] spFew := by
  refine F.ok scFew (fun vs H Q E h => ?_) (fun cdv A outer s H vs Q E hr h => ?_)
  · obtain ⟨a, xs, ls, many, rfl, _⟩ := h
    rfl
  · obtain ⟨a, xs, ls, many, rfl, hm, ha, hl, hf, hk, q⟩ := h
    refine ⟨_, pss_cons (ps_for PassesOwn.never rfl (pi_range1 (by rfl) N.brng (pa_cons (pe_op op_add (pv 0) pe_int) pa_nil)) (pg_name (i := 2) scFew.nd rfl (.inl rfl))
        (pss_one (ps_if (pt_val (pe_h GC hr (by decide) (by rfl) pass0 (pa_cons (pv 1) (pa_cons (pv 2) pa_nil)))) (pss_one (ps_ret (pv 2))) pss_nil)))
      (pss_one (ps_ret pe_non)), ?_⟩
    refine ⟨_, rfl, _, _, rfl, rfl, _, rfl, by omega, by omega, for_range (fun i σ H' => Same H H' ∧ (∀ m, m < i → ¬ Hm.Can ls m) ∧ ∃ x2, σ = [some (.int (many : Nat)), some (.ref a), x2]) ⟨(fun _ _ z => z), (fun m z => absurd z (Nat.not_lt_zero m)), none, rfl⟩ ?_ ?_⟩
    · rintro i σ H' hi ⟨s1, hno, x2, rfl⟩
      refine ⟨_, rfl, _, rfl, a, xs, ls, i, ?_, by omega, s1 _ _ ha, hl.sm s1, hf, fun H2 b s2 hb => ⟨b, rfl, ?_⟩⟩
      · show [V.ref a, V.int (0 + (i : Int))] = _
        rw [Int.zero_add]
      · have t2 : Same H H2 := fun b o e => s2 b o (s1 b o e)
        cases b with
        | true =>
          refine iteT ⟨_, rfl, q H2 _ t2 (.inr ⟨i, ?_, by omega, hb.mp rfl, hno⟩)⟩
          rw [Int.zero_add]
        | false =>
          refine iteF ⟨t2, fun m hm' => ?_, _, rfl⟩
          rcases Nat.lt_succ_iff_lt_or_eq.mp hm' with z | rfl
          · exact hno m z
          · exact fun z => absurd (hb.mpr z) (by decide)
    · rintro σ H' ⟨s1, hno, x2, rfl⟩
      refine q H' _ s1 (.inl ⟨rfl, ?_⟩)
      by_cases h0 : [] ∈ ls
      · exact h0
      · exact absurd (Hm.can_many h0 hk) (hno many (by omega))
/-! ### first_hits -/
abbrev sFst : Stmt := topS 23
def nFst : List Str := ["many", "lots", "number", "found", "gap"]
theorem scFst : FnScope nFst ["many", "lots"] (defScope sFst) := ⟨rfl, rfl, rfl, by decide +kernel, rfl, by decide +kernel, by decide +kernel⟩
def FirstV (ls : Hm.Lots) (many : Int) (H' : Hp) (v : V) : Prop := (v = .non ∧ [] ∈ ls) ∨ ∃ p f, v = .ref p ∧ H' p = some (.tup (f.map V.int)) ∧ Hm.First ls many f
def spFst : Sp := fun vs H Q _ => ∃ (a : Addr) (xs : List V) (ls : Hm.Lots) (many : Nat), vs = [.int (many : Nat), .ref a] ∧ many ≤ 16 ∧ H a = some (.lst xs) ∧ LsAt H xs ls ∧ Fit ls ∧ LotsOk many ls ∧
  ∀ H' v, Same H H' → FirstV ls many H' v → Q v H'
theorem ok_fst {f : Addr} {fd : FuncData} (F : Fun K "first_hits" "first_hits" sFst f fd) (N : Bl mg) (GC : Has P w K mg base CX0 19 "can_hit" ["lots", "number"] (spCan 16)) (GF : Has P w K mg base CX0 20 "fewest_hits" ["many", "lots"] spFew)
    (GA : Has P w K mg base CX0 1 "above" ["lots", "gap"] (spWo Hm.abvL)) (GW : Has P w K mg base CX0 1 "lots_without" ["lots", "gap"] (spWo Hm.woL)) : FnOk P w K mg base CX0 21 f fd ["many", "lots"] spFst := by
  refine F.ok scFst (fun vs H Q E h => ?_) (fun cdv A outer s H vs Q E hr h => ?_)
  · obtain ⟨a, xs, ls, many, rfl, _⟩ := h
    rfl
  · obtain ⟨a, xs, ls, many, rfl, hm, ha, hl, hf, hk, q⟩ := h
    refine ⟨_, pss_cons (ps_set (i := 2) scFst.nd rfl (.inl rfl) (pe_h GF hr (by decide) (by rfl) pass0 (pa_cons (pv 0) (pa_cons (pv 1) pa_nil))))
      (pss_cons (ps_if (pt_cmpR op_isN (pv 2) pe_non (nomark _)) (pss_one (ps_ret pe_non)) pss_nil)
      (pss_cons (ps_set (i := 3) scFst.nd rfl (.inl rfl) (pe_lst pa_nil))
      (pss_cons (ps_for PassesOwn.never rfl (pi_range1 (by rfl) N.brng (pa_cons (pv 0) pa_nil)) (pg_name (i := 4) scFst.nd rfl (.inl rfl))
        (pss_one (ps_if (pw_and (pt_cmpR op_lt (pe_callB call_len_seq (by rfl) N.blen PySem.boot_len (pa_cons (pv 3) pa_nil)) (pv 2) (nomark _))
            (pw_and1 (pt_val (pe_h GC hr (by decide) (by rfl) pass0 (pa_cons (pe_h GA hr (by decide) (by rfl) pass0 (pa_cons (pe_h GW hr (by decide) (by rfl) pass0 (pa_cons (pv 1) (pa_cons (pv 4) pa_nil))) (pa_cons (pv 4) pa_nil)))
              (pa_cons (pe_op op_sub (pe_op op_sub (pv 2) (pe_callB call_len_seq (by rfl) N.blen PySem.boot_len (pa_cons (pv 3) pa_nil))) pe_int) pa_nil)))))).pt
          (pss_cons (ps_expr (pe_bm PySem.F.plainAttrs_list PySem.F.slot_list_append PySem.F.type_list_append mt_append (pv 3) (pa_cons (pv 4) pa_nil)))
            (pss_one (ps_set (i := 1) scFst.nd rfl (.inl rfl) (pe_h GW hr (by decide) (by rfl) pass0 (pa_cons (pv 1) (pa_cons (pv 4) pa_nil)))))) pss_nil)))
      (pss_one (ps_ret (pe_callTy call_tuple_of (by rfl) N.btup (by decide +kernel) (pa_cons (pv 3) pa_nil))))))), ?_⟩
    refine ⟨_, rfl, _, rfl, a, xs, ls, many, rfl, hm, ha, hl, hf, hk, fun H1 v s1 hv => ⟨v, rfl, rfl, _, rfl, ?_⟩⟩
    rcases hv with ⟨rfl, h0⟩ | ⟨n, rfl, hnm, hcan, hmin⟩
    · exact iteT (q H1 _ s1 (.inl ⟨rfl, h0⟩))
    · refine iteF ⟨Nat.zero_le _, fun p np => ?_⟩
      have t1 : Same H1 (upd H1 p (.lst [])) := same_upd np
      have np0 : H p = none := none_of s1 np
      have hap : a ≠ p := fun z => by rw [← z, s1 _ _ ha] at np; cases np
      have I0 : Hm.Inv ls n ((0 : Nat) : Int) [] ls := Hm.inv_start hcan fun l hl x hx => (hk l hl x hx).1
      refine ⟨_, rfl, _, rfl, by omega, by omega, for_range (fun i σ H' => Same H H' ∧ ∃ (a' : Addr) (ys : List V) (f : List Int) (L : Hm.Lots) (x4 : Option V), σ = [some (.int (many : Nat)), some (.ref a'), some (.int (n : Nat)), some (.ref p), x4] ∧ H' p = some (.lst (f.map V.int)) ∧
        H' a' = some (.lst ys) ∧ LsAt H' ys L ∧ Fit L ∧ a' ≠ p ∧ Hm.Inv ls n (i : Nat) f L) ⟨fun b o e => t1 _ _ (s1 b o e), a, xs, [], ls, none, rfl, upd_same, t1 _ _ (s1 _ _ ha), (hl.sm s1).sm t1, hf, hap, I0⟩ ?_ ?_⟩
      · rintro i σ H' hi ⟨s2, a', ys, f, L, x4, rfl, hp, ha', hy, fit, hne, I⟩
        have fl : f.length ≤ n := I.len
        refine ⟨_, rfl, p, _, rfl, .inl (SqL.of hp), _, rfl, _, _, rfl, rfl, _, rfl, ?_⟩
        rw [List.length_map]
        by_cases hlt : ((f.length : Nat) : Int) < (n : Nat)
        · rw [decide_eq_true hlt]
          have z0 : V.int (0 + (i : Int)) = V.int (i : Nat) := by rw [Int.zero_add]
          refine iteT ⟨_, rfl, _, rfl, a', ys, L, 0 + (i : Int), rfl, ha', hy, fit, fun H3 b zs s3 nb hb hz => ?_⟩
          refine ⟨_, rfl, b, zs, _, 0 + (i : Int), rfl, hb, hz, fit_wo fit, fun H4 c us s4 nc hc hu => ?_⟩
          have t4 : Same H' H4 := fun b o e => s4 b o (s3 b o e)
          have hp4 := t4 _ _ hp
          refine ⟨_, rfl, _, rfl, p, _, rfl, .inl (SqL.of hp4), _, _, rfl, rfl, _, _, rfl, rfl, c, us, _, n - f.length - 1, ?_, by omega, hc, hu, fit_abv (fit_wo fit), fun H5 r s5 hr5 => ⟨r, rfl, ?_⟩⟩
          · rw [List.length_map]
            show [V.ref c, V.int ((n : Int) - (f.length : Nat) - 1)] = _
            rw [show ((n : Int) - (f.length : Nat) - 1) = ((n - f.length - 1 : Nat) : Int) by omega]
          · rw [Int.zero_add] at hr5
            have t5 : Same H' H5 := fun b o e => s5 b o (t4 b o e)
            have hp5 := t5 _ _ hp
            have e1 : ((i + 1 : Nat) : Int) = (i : Int) + 1 := by omega
            cases r with
            | true =>
              refine iteT ⟨_, rfl, .inl ⟨rfl, _, SqL.of hp5⟩, _, rfl, p, _, _, rfl, rfl, hp5, ?_, ?_⟩
              · rw [List.length_map]
                exact small1000 (by omega)
              · have t6 : Same H (upd H5 p (.lst (f.map V.int ++ [V.int (0 + (i : Int))]))) := same_put (fun b o e => t5 b o (s2 b o e)) np0
                have hy6 := ((hy.sm t5).off (no_tup hp5) (o := .lst (f.map V.int ++ [V.int (0 + (i : Int))])))
                have ha6 : (upd H5 p (.lst (f.map V.int ++ [V.int (0 + (i : Int))]))) a' = some (.lst ys) := by rw [upd_ne hne]; exact t5 _ _ ha'
                refine ⟨_, rfl, _, rfl, a', ys, L, 0 + (i : Int), rfl, ha6, hy6, fit, fun H7 d ws s7 nd hd hw => ?_⟩
                refine ⟨fun b o e => s7 b o (t6 b o e), d, ws, f ++ [(i : Int)], Hm.woL L i, _, rfl, ?_, hd, ?_, fit_wo fit, ?_, ?_⟩
                · rw [s7 _ _ upd_same, Int.zero_add, List.map_append]
                  rfl
                · rw [Int.zero_add] at hw
                  exact hw
                · intro z
                  rw [z, upd_same] at nd
                  cases nd
                · rw [e1]
                  exact Hm.inv_take I (by omega) (by omega) (hr5.mp rfl)
            | false =>
              refine iteF ⟨fun b o e => t5 b o (s2 b o e), a', ys, f, L, _, rfl, hp5, t5 _ _ ha', hy.sm t5, fit, hne, ?_⟩
              rw [e1]
              exact Hm.inv_skip I (by omega) fun z => absurd (hr5.mpr z) (by decide)
        · rw [decide_eq_false hlt]
          refine iteF ⟨s2, a', ys, f, L, _, rfl, hp, ha', hy, fit, hne, ?_⟩
          have e1 : ((i + 1 : Nat) : Int) = (i : Int) + 1 := by omega
          rw [e1]
          exact Hm.inv_full I (by omega)
      · rintro σ H' ⟨s2, a', ys, f, L, x4, rfl, hp, ha', hy, fit, hne, I⟩
        refine ⟨_, rfl, p, _, rfl, .inl ⟨SqL.of hp, fun T nT => q _ _ (same_put s2 (none_of s2 nT)) (.inr ⟨T, f, rfl, upd_same, ?_⟩)⟩⟩
        have e2 : (((many : Int)).toNat : Int) = (many : Int) := by omega
        rw [Int.toNat_natCast] at I
        exact Hm.inv_end I (fun l hl x hx => (hk l hl x hx).2) hmin
end
end Lm
namespace Lm
open PySem PySem.Spec PyProof.Rows L2
def lotD (l : List Int) : PyData := .tuple (l.map .int)
theorem asc_len : ∀ {l : List Int} {lo hi : Int}, Hm.Asc l → (∀ x ∈ l, lo ≤ x ∧ x < hi) → (l.length : Int) ≤ max 0 (hi - lo)
  | [], _, _, _, _ => by simp; omega
  | a :: r, lo, hi, h, k => by
    obtain ⟨h1, h2⟩ := List.pairwise_cons.mp h
    have ka := k a (List.mem_cons_self ..)
    have ih := asc_len (l := r) (lo := a + 1) (hi := hi) h2 fun x hx => ⟨by have := h1 x hx; omega, (k x (List.mem_cons_of_mem _ hx)).2⟩
    rw [List.length_cons]
    omega
def GapsOk (n : Int) (ls : Hm.Lots) : Prop := ∀ l ∈ ls, (∀ x ∈ l, 0 ≤ x ∧ x < n) ∧ Hm.Asc l
theorem gaps_of {n : Int} : ∀ {ds : List PyData}, (∀ d ∈ ds, GapIs n d) → ∃ ls : Hm.Lots, ds = ls.map lotD ∧ GapsOk n ls
  | [], _ => ⟨[], rfl, fun _ z => nomatch z⟩
  | d :: r, h => by
    obtain ⟨l, rfl, h1, h2⟩ := h d (List.mem_cons_self ..)
    obtain ⟨ls, rfl, h3⟩ := gaps_of fun d hd => h d (List.mem_cons_of_mem _ hd)
    refine ⟨l :: ls, rfl, fun x hx => ?_⟩
    rcases List.mem_cons.mp hx with rfl | hx
    · exact ⟨h1, h2⟩
    · exact h3 x hx
theorem gaps_fit {n : Int} {ls : Hm.Lots} (h : GapsOk n ls) (hn : n ≤ 16) (hl : ls.length ≤ 500) : Fit ls ∧ LotsOk n ls := by
  refine ⟨⟨hl, fun l hm => ?_⟩, fun l hm => (h l hm).1⟩
  have := asc_len (h l hm).2 (h l hm).1
  omega
theorem da_lot {D : DrA} {H : Hp} {v : V} {l : List Int} (h : Da D H v (lotD l)) : LotAt H v l := by
  unfold lotD at h
  cases h with
  | tup h1 n1 n2 ha =>
    rw [daAll_ints ha] at h1
    exact ⟨_, rfl, h1⟩
theorem da_lots {D : DrA} {H : Hp} : ∀ {ls : Hm.Lots} {vs : List V}, DaAll D H vs (ls.map lotD) → LsAt H vs ls
  | [], _, h => by cases h; exact .nil
  | l :: r, _, h => by
    cases h with
    | cons h1 h2 => exact .cons (da_lot h1) (da_lots h2)
/-- what check_lots asks, and what a good one gives -/
def Asked (BM BL : Addr) (H : Hp) (m l : PyData) (E : XK) (good : Int → Hm.Lots → Prop) : Prop :=
  ((¬ ManyIs m ∧ ∀ H', Same H H' → E (.ref BM) none H') ∨
  (ManyIs m ∧ (∀ ds, rowsD l = some ds → 400 < ds.length) ∧ ∀ H' dx, Same H H' → H' dx = some (.xd [("at", .non)]) → E (.ref BL) (some dx) H') ∨
  ∃ (n : Int) (ds : List PyData), m = .int n ∧ 1 ≤ n ∧ n ≤ 16 ∧ rowsD l = some ds ∧ ds.length ≤ 400 ∧
    ((∃ i : Nat, BadAt n ds i ∧ ∀ H' dx, Same H H' → H' dx = some (.xd [("at", .int i)]) → E (.ref BL) (some dx) H') ∨
    ((∀ d ∈ ds, GapIs n d) ∧ ∀ ls, ds = ls.map lotD → GapsOk n ls → good n ls)))
def Sized (l : PyData) : Prop := lenD l ≤ 1000 ∧ ∀ ds, rowsD l = some ds → ∀ d ∈ ds, lenD d ≤ 1000
def spLeast (BM BL : Addr) : Sp := fun vs H Q E => ∃ (D : DrA) (v1 v2 : V) (m l : PyData), vs = [v1, v2] ∧ Da D H v1 m ∧ Da D H v2 l ∧ Sized l ∧ Asked BM BL H m l E fun n ls => ∀ H' v, Same H H' → FirstV ls n H' v → Q v H'
/-- of a def that says check_lots first, where that refuses -/
def spRef (BM BL : Addr) (k : Nat) : Sp := fun vs H Q E => ∃ (D : DrA) (v1 v2 : V) (m l : PyData) (ws : List V), vs = v1 :: v2 :: ws ∧ ws.length = k ∧ Da D H v1 m ∧ Da D H v2 l ∧ Sized l ∧ Asked BM BL H m l E fun _ _ => False
def spNo : Sp := fun _ _ _ _ => False
section
variable {P : Program} {w : World} {K : PySem.W.Frag} {mg : Str → Option Value} {base : Heap}
theorem asked_check {BM BL : Addr} {D : DrA} {v1 v2 : V} {m l : PyData} {H : Hp} {E : XK} {Q : VK} {good : Int → Hm.Lots → Prop} (h1 : Da D H v1 m) (h2 : Da D H v2 l) (hs : Sized l) (h : Asked BM BL H m l E good)
    (q : ∀ (n : Int) (ls : Hm.Lots), m = .int n → 1 ≤ n → n ≤ 16 → rowsD l = some (ls.map lotD) → ls.length ≤ 400 → GapsOk n ls → good n ls → ∀ H', Same H H' → Q .non H') : spCheck BM BL [v1, v2] H Q E := by
  refine ⟨D, v1, v2, m, l, rfl, h1, h2, hs.1, hs.2, ?_⟩
  rcases h with h | h | ⟨n, ds, rfl, n1, n2, hr, hl, h⟩
  · exact .inl h
  · exact .inr (.inl h)
  · refine .inr (.inr ⟨n, ds, rfl, n1, n2, hr, hl, ?_⟩)
    rcases h with h | ⟨hg, g⟩
    · exact .inl h
    · obtain ⟨ls, rfl, hk⟩ := gaps_of hg
      rw [List.length_map] at hl
      exact .inr ⟨hg, q n ls rfl n1 n2 hr hl hk (g ls rfl hk)⟩
abbrev sLeast : Stmt := topS 24
def nLeast : List Str := ["many", "lots"]
theorem scLeast : FnScope nLeast ["many", "lots"] (defScope sLeast) := ⟨rfl, rfl, rfl, by decide +kernel, rfl, by decide +kernel, by decide +kernel⟩
theorem ok_least {BM BL : Addr} {f : Addr} {fd : FuncData} (F : Fun K "least_hits" "least_hits" sLeast f fd) (N : Bl mg) (GK : Has P w K mg base (L2.CX P w) 5 "check_lots" ["many", "lots"] (spCheck BM BL)) (GF : Has P w K mg base CX0 21 "first_hits" ["many", "lots"] spFst) :
    FnOk P w K mg base (L2.CX P w) 22 f fd ["many", "lots"] (spLeast BM BL) := by
  refine F.okX scLeast (fun vs H Q E h => ?_) (fun cdv A outer s H vs Q E hr h => ?_)
  · obtain ⟨D, v1, v2, m, l, rfl, _⟩ := h
    rfl
  · obtain ⟨D, v1, v2, m, l, rfl, h1, h2, hs, h⟩ := h
    refine ⟨_, pss_cons (ps_expr (pe_h GK hr (by decide) (by rfl) passE (pa_cons (pv 0) (pa_cons (pv 1) pa_nil))))
      (pss_one (ps_ret (pe_h GF hr (by decide) (by rfl) (E := C8.E0) pass0 (pa_cons (pv 0) (pa_cons (pe_callTy call_list_of (by rfl) N.blist (by decide +kernel) (pa_cons (pv 1) pa_nil)) pa_nil))))), ?_⟩
    refine ⟨_, rfl, _, rfl, ?_⟩
    dsimp only [tNil]
    refine asked_check h1 h2 hs h fun n ls e n1 n2 hr' hl hk q H1 s1 => ?_
    subst e
    cases h1
    obtain ⟨a, xs, rfl, ha, hx⟩ := rows_at h2 hr'
    obtain ⟨fit, lk⟩ := gaps_fit hk n2 (by omega)
    have hls := da_lots ha
    obtain ⟨n', rfl⟩ : ∃ n' : Nat, n = (n' : Int) := ⟨n.toNat, by omega⟩
    refine ⟨_, rfl, _, rfl, a, xs, rfl, ?_, fun b nb => ?_⟩
    · rcases hx with hx | hx
      · exact .inl (SqL.of (s1 _ _ hx))
      · exact .inr (SqT.of (s1 _ _ hx))
    · have t2 := same_upd (o := .lst xs) nb
      exact ⟨b, xs, ls, n', rfl, by omega, upd_same, (hls.sm s1).sm t2, fit, lk, fun H3 v s3 hv => q H3 v (fun b o e => s3 b o (t2 b o (s1 b o e))) hv⟩
abbrev sCkN : Stmt := topS 25
theorem scCkN : FnScope ["number"] ["number"] (defScope sCkN) := ⟨rfl, rfl, rfl, by decide +kernel, rfl, by decide +kernel, by decide +kernel⟩
theorem ok_ckN {f : Addr} {fd : FuncData} (F : Fun K "check_number" "check_number" sCkN f fd) : FnOk P w K mg base CX0 1 f fd ["number"] spNo :=
  F.ok scCkN (fun vs H Q E h => h.elim) (fun cdv A outer s H vs Q E hr h => h.elim)
abbrev sNew : Stmt := topS 29
theorem scNew : FnScope ["lots", "number"] ["lots", "number"] (defScope sNew) := ⟨rfl, rfl, rfl, by decide +kernel, rfl, by decide +kernel, by decide +kernel⟩
theorem ok_new {f : Addr} {fd : FuncData} (F : Fun K "new_tree" "new_tree" sNew f fd) : FnOk P w K mg base CX0 1 f fd ["lots", "number"] spNo :=
  F.ok scNew (fun vs H Q E h => h.elim) (fun cdv A outer s H vs Q E hr h => h.elim)
abbrev sIsB : Stmt := topS 31
def nIsB : List Str := ["lots", "taken", "number", "thing", "lot", "gap"]
theorem scIsB : FnScope nIsB ["lots", "taken", "number", "thing"] (defScope sIsB) := ⟨rfl, rfl, rfl, by decide +kernel, rfl, by decide +kernel, by decide +kernel⟩
theorem ok_isB {f : Addr} {fd : FuncData} (F : Fun K "is_tree_behind" "is_tree_behind" sIsB f fd) : FnOk P w K mg base CX0 1 f fd ["lots", "taken", "number", "thing"] spNo :=
  F.ok scIsB (fun vs H Q E h => h.elim) (fun cdv A outer s H vs Q E hr h => h.elim)
abbrev sTree : Stmt := topS 28
def nTree : List Str := ["many", "lots", "number"]
theorem scTree : FnScope nTree ["many", "lots", "number"] (defScope sTree) := ⟨rfl, rfl, rfl, by decide +kernel, rfl, by decide +kernel, by decide +kernel⟩
theorem ok_tree {BM BL : Addr} {f : Addr} {fd : FuncData} (F : Fun K "hit_tree" "hit_tree" sTree f fd) (N : Bl mg) (GK : Has P w K mg base (L2.CX P w) 5 "check_lots" ["many", "lots"] (spCheck BM BL)) (GN : Has P w K mg base CX0 1 "check_number" ["number"] spNo) (GT : Has P w K mg base CX0 1 "new_tree" ["lots", "number"] spNo) :
    FnOk P w K mg base (L2.CX P w) 6 f fd ["many", "lots", "number"] (spRef BM BL 1) := by
  refine F.okX scTree (fun vs H Q E h => ?_) (fun cdv A outer s H vs Q E hr h => ?_)
  · obtain ⟨D, v1, v2, m, l, ws, rfl, hw, _⟩ := h
    match ws, hw with
    | [_], _ => rfl
  · obtain ⟨D, v1, v2, m, l, ws, rfl, hw, h1, h2, hs, h⟩ := h
    obtain ⟨w1, rfl⟩ : ∃ w1, ws = [w1] := match ws, hw with
      | [w1], _ => ⟨w1, rfl⟩
    refine ⟨_, pss_cons (ps_expr (pe_h GK hr (by decide) (by rfl) passE (pa_cons (pv 0) (pa_cons (pv 1) pa_nil))))
      (pss_cons (ps_expr (pe_h GN hr (by decide) (by rfl) (E := C8.E0) pass0 (pa_cons (pv 2) pa_nil)))
      (pss_one (ps_ret (pe_h GT hr (by decide) (by rfl) (E := C8.E0) pass0 (pa_cons (pe_callTy call_list_of (by rfl) N.blist (by decide +kernel) (pa_cons (pv 1) pa_nil)) (pa_cons (pv 2) pa_nil)))))), ?_⟩
    refine ⟨_, rfl, _, rfl, ?_⟩
    dsimp only [tNil]
    exact asked_check h1 h2 hs h fun n ls e n1 n2 hr' hl hk q H1 s1 => q.elim
abbrev sIsT : Stmt := topS 30
def nIsT : List Str := ["many", "lots", "number", "thing"]
theorem scIsT : FnScope nIsT ["many", "lots", "number", "thing"] (defScope sIsT) := ⟨rfl, rfl, rfl, by decide +kernel, rfl, by decide +kernel, by decide +kernel⟩
theorem ok_isT {BM BL : Addr} {f : Addr} {fd : FuncData} (F : Fun K "is_hit_tree" "is_hit_tree" sIsT f fd) (N : Bl mg) (GK : Has P w K mg base (L2.CX P w) 5 "check_lots" ["many", "lots"] (spCheck BM BL)) (GN : Has P w K mg base CX0 1 "check_number" ["number"] spNo) (GT : Has P w K mg base CX0 1 "is_tree_behind" ["lots", "taken", "number", "thing"] spNo) :
    FnOk P w K mg base (L2.CX P w) 6 f fd ["many", "lots", "number", "thing"] (spRef BM BL 2) := by
  refine F.okX scIsT (fun vs H Q E h => ?_) (fun cdv A outer s H vs Q E hr h => ?_)
  · obtain ⟨D, v1, v2, m, l, ws, rfl, hw, _⟩ := h
    match ws, hw with
    | [_, _], _ => rfl
  · obtain ⟨D, v1, v2, m, l, ws, rfl, hw, h1, h2, hs, h⟩ := h
    obtain ⟨w1, w2, rfl⟩ : ∃ w1 w2, ws = [w1, w2] := match ws, hw with
      | [w1, w2], _ => ⟨w1, w2, rfl⟩
    refine ⟨_, pss_cons (ps_expr (pe_h GK hr (by decide) (by rfl) passE (pa_cons (pv 0) (pa_cons (pv 1) pa_nil))))
      (pss_cons (ps_expr (pe_h GN hr (by decide) (by rfl) (E := C8.E0) pass0 (pa_cons (pv 2) pa_nil)))
      (pss_one (ps_ret (pe_h GT hr (by decide) (by rfl) (E := C8.E0) pass0 (pa_cons (pv 1) (pa_cons (pe_lst pa_nil) (pa_cons (pv 2) (pa_cons (pv 3) pa_nil)))))))), ?_⟩
    refine ⟨_, rfl, _, rfl, ?_⟩
    dsimp only [tNil]
    exact asked_check h1 h2 hs h fun n ls e n1 n2 hr' hl hk q H1 s1 => q.elim
end
end Lm
namespace Lm
open PySem PySem.Spec PyProof.Rows L2
section
variable {P : Program} {w : World} {K : PySem.W.Frag} {mg : Str → Option Value} {base : Heap}
/-! ### _law_mixed -/
abbrev sMixed : Stmt := topS 36
theorem scMixed : FnScope ["_law_state", "_law_found", "_law_turn", "_law_prime", "_law_blend", "_law_cell"] ["_law_state"] (defScope sMixed) := ⟨rfl, rfl, rfl, by decide +kernel, rfl, by decide +kernel, by decide +kernel⟩
def spMixed : Sp := fun vs H Q _ => ∃ (D : DrA) (n : Nat), vs = [.ref D.d] ∧ DrawAt D n H ∧ n + 1 ≤ B ∧
  ∀ H' z, DrawAt D (n + 1) H' → Fr D H H' → Q (.int z) H'
theorem ok_mixed {f : Addr} {fd : FuncData} (F : Fun K "_law_mixed_up" "_law_mixed_up" sMixed f fd) (N : Bl mg) : FnOk P w K mg base CX0 1 f fd ["_law_state"] spMixed := by
  refine F.ok scMixed (fun vs H Q E h => ?_) (fun cdv A outer s H vs Q E hr h => ?_)
  · obtain ⟨D, n, rfl, _⟩ := h
    rfl
  · obtain ⟨D, n, rfl, ⟨ws, cs, r, t, h1, h2, h3, h4, h5, h6⟩, hn, q⟩ := h
    have hu := hu_of hr
    have mi := N.bint
    refine ⟨_, pss_cons (ps_dput hu (pv 0) pe_str (pe_op op_add (pe_dget hu (pv 0) pe_str (fun _ _ => rfl)) pe_int) rfl)
      (pss_cons (ps_par (i := 1) (j := 2) rfl scMixed.nd rfl rfl (by decide) rfl rfl (pa_cons pe_int (pa_cons (pe_dget hu (pv 0) pe_str (fun _ _ => rfl)) pa_nil)) rfl)
      (pss_cons (ps_for PassesOwn.never rfl (pi_list (pe_lst (pa_cons pe_int (pa_cons pe_int (pa_cons pe_int (pa_cons pe_int (pa_cons pe_int (pa_cons pe_int pa_nil)))))))) (pg_name (i := 3) scMixed.nd rfl (.inl rfl))
        (pss_cons (ps_set (i := 4) scMixed.nd rfl (.inl rfl) (pe_op op_add (pe_op op_mul pe_int (pv 2)) (pe_op op_fdiv (pv 3) pe_int)))
        (pss_cons (ps_for PassesOwn.never rfl (pi_list (pe_dget hu (pv 0) pe_str (fun _ _ => rfl))) (pg_name (i := 5) scMixed.nd rfl (.inl rfl))
          (pss_one (ps_set (i := 4) scMixed.nd rfl (.inl rfl) (pe_op op_mod (pe_callTy call_int1 (by rfl) mi (by decide +kernel) (pa_cons (pe_op op_add (pe_op op_mul (pv 4) pe_int) (pv 5)) pa_nil)) (pv 3)))))
        (pss_one (ps_set (i := 1) scMixed.nd rfl (.inl rfl) (pe_op op_add (pe_op op_mul (pv 1) pe_int) (pe_op op_mod (pe_callTy call_int1 (by rfl) mi (by decide +kernel) (pa_cons (pe_op op_pow (pv 4) pe_int) pa_nil)) (pv 3))))))))
      (pss_one (ps_ret (pv 1))))), ?_⟩
    refine ⟨_, rfl, D.d, _, rfl, DGet.k (k := .inr "turn") h1, _, _, rfl, rfl, _, rfl, D.d, _, rfl, DPut.k (k := .inr "turn") h1 (by show 4 < sizeLine; decide), ?_⟩
    rw [drF_putT]
    have h1' : (upd H D.d (.dK (drF D r (t + 1)))) D.d = some (.dK (drF D r (t + 1))) := upd_same
    have ewd : D.w ≠ D.d := ne_of h2 h1 (fun z => by cases z)
    have ecd : D.c ≠ D.d := ne_of h3 h1 (fun z => by cases z)
    have h2' : (upd H D.d (.dK (drF D r (t + 1)))) D.w = some (.lst (ws.map V.int)) := by rw [upd_ne ewd]; exact h2
    have h3' : (upd H D.d (.dK (drF D r (t + 1)))) D.c = some (.lst (cs.map V.int)) := by rw [upd_ne ecd]; exact h3
    have fr1 : Fr D H (upd H D.d (.dK (drF D r (t + 1)))) := fun b o e n1 n2 => by rw [upd_ne n1]; exact e
    generalize upd H D.d (.dK (drF D r (t + 1))) = H1 at *
    refine ⟨_, rfl, D.d, _, rfl, DGet.k (k := .inr "turn") h1', _, _, rfl, by show 6 ≤ sizeLine; decide, fun p np => ?_⟩
    have s2 : Same H1 (upd H1 p (.lst [.int 2147483629, .int 2147483587, .int 2147483579, .int 2147483563, .int 2147483549, .int 2147483543])) := same_upd np
    have hp : (upd H1 p (.lst [.int 2147483629, .int 2147483587, .int 2147483579, .int 2147483563, .int 2147483549, .int 2147483543])) p = some _ := upd_same
    have k1 := s2 _ _ h1'
    have k2 := s2 _ _ h2'
    have k3 := s2 _ _ h3'
    generalize upd H1 p (.lst [.int 2147483629, .int 2147483587, .int 2147483579, .int 2147483563, .int 2147483549, .int 2147483543]) = H2 at *
    refine ⟨p, rfl, ⟨_, .inl (.inl hp)⟩, for_list (K := K) (a := p) (xs := [.int 2147483629, .int 2147483587, .int 2147483579, .int 2147483563, .int 2147483549, .int 2147483543])
      (fun i σ H' => H' = H2 ∧ ∃ fo x3 x4 x5, σ = [some (.ref D.d), some (.int fo), some (.int (t + 1)), x3, x4, x5]) ⟨rfl, _, _, _, _, rfl⟩ (fun i σ H' _ h => by rw [h.1]; exact .inl (.inl hp)) ?_ ?_⟩
    · rintro i x σ H' hx ⟨rfl, fo, x3, x4, x5, rfl⟩
      obtain ⟨pr, rfl, p0, p1⟩ : ∃ pr : Int, x = .int pr ∧ 0 < pr ∧ pr < 2 ^ 31 := by
        match i, hx with
        | 0, hx => cases hx; exact ⟨_, rfl, by decide, by decide⟩
        | 1, hx => cases hx; exact ⟨_, rfl, by decide, by decide⟩
        | 2, hx => cases hx; exact ⟨_, rfl, by decide, by decide⟩
        | 3, hx => cases hx; exact ⟨_, rfl, by decide, by decide⟩
        | 4, hx => cases hx; exact ⟨_, rfl, by decide, by decide⟩
        | 5, hx => cases hx; exact ⟨_, rfl, by decide, by decide⟩
        | i + 6, hx => simp at hx
      refine ⟨_, rfl, _, _, rfl, rfl, .inl (by constructor <;> decide), _, rfl, _, _, rfl, rfl, (by constructor <;> decide), _, _, rfl, rfl, ?_⟩
      refine ⟨_, rfl, D.d, _, rfl, DGet.k (k := .inr "cells") k1, ?_⟩
      refine ⟨D.c, rfl, ⟨_, .inl (.inl k3)⟩, for_list (K := K) (a := D.c) (xs := cs.map V.int)
        (fun i σ H'' => H'' = H' ∧ ∃ bl x5, σ = [some (.ref D.d), some (.int fo), some (.int (t + 1)), some (.int pr), some (.int bl), x5] ∧ 0 ≤ bl ∧ bl < 2 ^ 63) ⟨rfl, _, _, rfl, ?_, ?_⟩ (fun i σ H' _ h => by rw [h.1]; exact .inl (.inl k3)) ?_ ?_⟩
      · omega
      · unfold B at hn; omega
      · rintro j y σ H'' hy ⟨rfl, bl, x5, rfl, b0, b1⟩
        obtain ⟨g, _, rfl⟩ := int_at hy
        refine ⟨_, rfl, _, _, rfl, rfl, .inr (by constructor <;> decide), _, rfl, _, _, rfl, rfl, .inl ⟨_, rfl, _, rfl, _, _, rfl, rfl, p0, rfl, _, _, rfl, ?_, ?_⟩⟩
        · exact Int.emod_nonneg _ (by omega)
        · have := Int.emod_lt_of_pos (bl * 48271 + g) p0
          omega
      · rintro σ H'' ⟨rfl, bl, x5, rfl, b0, b1⟩
        refine ⟨_, rfl, _, _, rfl, rfl, .inr (by constructor <;> decide), _, rfl, _, _, rfl, rfl, ⟨by decide, by decide, by omega⟩, .inl ⟨_, rfl, _, rfl, _, _, rfl, rfl, p0, _, _, rfl, rfl, rfl, _, _, _, _, rfl⟩⟩
    · rintro σ H' ⟨rfl, fo, x3, x4, x5, rfl⟩
      refine ⟨_, rfl, q _ _ ⟨ws, cs, r, t + 1, k1, k2, k3, h4, by omega, by omega⟩ (fr1.trans (.of s2))⟩
/-! ### _law_take -/
abbrev sTake : Stmt := topS 37
theorem scTake : FnScope ["_law_state", "_law_size_here", "_law_found"] ["_law_state", "_law_size_here"] (defScope sTake) := ⟨rfl, rfl, rfl, by decide +kernel, rfl, by decide +kernel, by decide +kernel⟩
def spTake : Sp := fun vs H Q _ => ∃ (D : DrA) (n : Nat) (z : Int), vs = [.ref D.d, .int z] ∧ DrawAt D n H ∧ n + 1 ≤ B ∧ 0 < z ∧ z < 1073741824 ∧
  ∀ H' v, DrawAt D (n + 1) H' → Fr D H H' → 0 ≤ v → v < z → Q (.int v) H'
theorem ok_take {f : Addr} {fd : FuncData} (F : Fun K "_law_draw" "_law_draw" sTake f fd) (N : Bl mg) (GM : Has P w K mg base CX0 1 "_law_mixed_up" ["_law_state"] spMixed) : FnOk P w K mg base CX0 2 f fd ["_law_state", "_law_size_here"] spTake := by
  refine F.ok scTake (fun vs H Q E h => ?_) (fun cdv A outer s H vs Q E hr h => ?_)
  · obtain ⟨D, n, z, rfl, _⟩ := h
    rfl
  · obtain ⟨D, n, z, rfl, h, hn, z0, z1, q⟩ := h
    have hu := hu_of hr
    have hu64 : (A.deeper (envOfC "_law_draw" (defScope sTake) s.heap.objs.size f cdv)).units + 64 < cLine := by
      have := hr.un
      omega
    refine ⟨_, C8.pss_cut (ps_if (pt_cmpR op_eq (pe_dget hu (pv 0) pe_str (fun _ _ => rfl)) pe_int (nomark _))
        (pss_one (ps_dput hu (pv 0) pe_str (pe_ifExp (pt_cmpR (op_neD hu64) (pe_dget hu (pv 0) pe_str (fun _ _ => rfl)) (pe_lst pa_nil) (nomark _))
          (pe_bm PySem.F.plainAttrs_list PySem.F.slot_list_pop PySem.F.type_list_pop mt_popAt (pe_dget hu (pv 0) pe_str (fun _ _ => rfl)) (pa_cons pe_int pa_nil))
          (pe_h GM hr (by decide) (by rfl) pass0 (pa_cons (pv 0) pa_nil))) rfl)) pss_nil)
      (pss_cons (ps_set (i := 2) scTake.nd rfl (.inl rfl) (pe_op op_mod (pe_callTy call_int1 (by rfl) N.bint (by decide +kernel) (pa_cons (pe_dget hu (pv 0) pe_str (fun _ _ => rfl)) pa_nil)) (pv 1)))
      (pss_cons (ps_dput hu (pv 0) pe_str (pe_op op_fdiv (pe_dget hu (pv 0) pe_str (fun _ _ => rfl)) (pv 1)) rfl)
      (pss_one (ps_ret (pv 2))))), ?_⟩
    refine ⟨fun σ H1 => σ = [some (.ref D.d), some (.int z), none] ∧ DrawAt D (n + 1) H1 ∧ Fr D H H1, ?_, ?_⟩
    · obtain ⟨ws, cs, r, t, h1, h2, h3, h4, h5, h6⟩ := id h
      refine ⟨_, rfl, D.d, _, rfl, DGet.k (k := .inr "rest") h1, rfl, _, rfl, ite2 (fun e => ?_) (fun e => ?_)⟩
      · -- draw['wide'] != []
        refine ⟨_, rfl, D.d, _, rfl, DGet.k (k := .inr "wide") h1, Nat.zero_le _, fun p np => ?_⟩
        have s1 : Same H (upd H p (.lst [])) := same_upd np
        have d1 : DrawAt D n (upd H p (.lst [])) := h.new np
        have hp : (upd H p (.lst [])) p = some (.lst []) := upd_same
        have k1 := s1 _ _ h1
        have k2 := s1 _ _ h2
        have k3 := s1 _ _ h3
        generalize upd H p (.lst []) = H1 at *
        refine ⟨.list (ws.map .int), .list [], .lst (SqL.of k2) (dp_ints ws), .lst (SqL.of hp) .nil, shaped_ints ws, by decide +kernel, _, rfl, ?_⟩
        cases ws with
        | nil =>
          refine iteF ?_
          refine ⟨_, rfl, D, n, rfl, d1, hn, fun H2 v d2 f2 => ?_⟩
          obtain ⟨ws', cs', r', t', g1, g2, g3, g4, g5, g6⟩ := d2
          refine ⟨_, rfl, D.d, _, rfl, DPut.k (k := .inr "rest") g1 (by show 4 < sizeLine; decide), rfl, ?_, ?_⟩
          · rw [drF_putR]
            exact ⟨ws', cs', v, t', upd_same, by rw [upd_ne (ne_of g2 g1 (fun z => by cases z))]; exact g2, by rw [upd_ne (ne_of g3 g1 (fun z => by cases z))]; exact g3, g4, g5, g6⟩
          · intro b o eb n1 n2
            rw [upd_ne n1]
            exact f2 b o (s1 b o eb) n1 n2
        | cons y ys =>
          refine iteT ?_
          refine ⟨_, rfl, D.d, _, rfl, DGet.k (k := .inr "wide") k1, .inl ⟨rfl, _, .inl (.inl k2)⟩, D.w, _, 0, 0, .int y, rfl, rfl, k2, by decide, by decide, by simp [seqIndex?], rfl, ?_⟩
          have ewd : D.w ≠ D.d := ne_of k2 k1 (fun z => by cases z)
          have k1' : (upd H1 D.w (.lst (ys.map V.int))) D.d = some (.dK (drF D r t)) := by rw [upd_ne ewd.symm]; exact k1
          refine ⟨_, rfl, D.d, _, rfl, DPut.k (k := .inr "rest") k1' (by show 4 < sizeLine; decide), rfl, ?_, ?_⟩
          · rw [drF_putR]
            refine ⟨ys, cs, y, t, upd_same, ?_, ?_, h4, h5, by omega⟩
            · rw [upd_ne ewd]
              exact upd_same
            · rw [upd_ne (ne_of k3 k1 (fun z => by cases z)), upd_ne h4.2]
              exact k3
          · intro b o eb n1 n2
            rw [upd_ne n1, upd_ne n2]
            exact s1 b o eb
      · exact ⟨rfl, h.mono (by omega), Fr.refl D H⟩
    · rintro σ H1 ⟨rfl, ⟨ws, cs, r, t, h1, h2, h3, h4, h5, h6⟩, f1⟩
      refine ⟨_, rfl, D.d, _, rfl, DGet.k (k := .inr "rest") h1, .inl ⟨_, rfl, _, rfl, _, _, rfl, rfl, z0, ?_⟩⟩
      refine ⟨_, rfl, D.d, _, rfl, DGet.k (k := .inr "rest") h1, _, rfl, _, _, rfl, rfl, ⟨z0, z1⟩, _, rfl, D.d, _, rfl, DPut.k (k := .inr "rest") h1 (by show 4 < sizeLine; decide), ?_⟩
      rw [drF_putR]
      refine ⟨_, rfl, q _ _ ⟨ws, cs, _, t, upd_same, by rw [upd_ne (ne_of h2 h1 (fun z => by cases z))]; exact h2, by rw [upd_ne (ne_of h3 h1 (fun z => by cases z))]; exact h3, h4, h5, h6⟩ ?_ ?_ ?_⟩
      · intro b o eb n1 n2
        rw [upd_ne n1]
        exact f1 b o eb n1 n2
      · exact Int.emod_nonneg _ (by omega)
      · exact Int.emod_lt_of_pos _ z0
/-! ### _law_pick -/
abbrev sPick : Stmt := topS 34
theorem scPick : FnScope ["_law_state", "_law_several"] ["_law_state", "_law_several"] (defScope sPick) := ⟨rfl, rfl, rfl, by decide +kernel, rfl, by decide +kernel, by decide +kernel⟩
def spPick : Sp := fun vs H Q _ => ∃ (D : DrA) (n : Nat) (l : Addr) (xs : List V), vs = [.ref D.d, .ref l] ∧ DrawAt D n H ∧ n + 1 ≤ B ∧ H l = some (.lst xs) ∧ l ≠ D.w ∧ xs ≠ [] ∧ xs.length < 1073741824 ∧
  ∀ (H' : Hp) (i : Nat) (v : V), xs[i]? = some v → DrawAt D (n + 1) H' → Fr D H H' → Q v H'
theorem ok_pick {f : Addr} {fd : FuncData} (F : Fun K "_law_pick" "_law_pick" sPick f fd) (N : Bl mg) (GT : Has P w K mg base CX0 2 "_law_draw" ["_law_state", "_law_size_here"] spTake) : FnOk P w K mg base CX0 3 f fd ["_law_state", "_law_several"] spPick := by
  refine F.ok scPick (fun vs H Q E h => ?_) (fun cdv A outer s H vs Q E hr h => ?_)
  · obtain ⟨D, n, l, xs, rfl, _⟩ := h
    rfl
  · obtain ⟨D, n, l, xs, rfl, h, hn, hl, lw, x0, x1, q⟩ := h
    refine ⟨_, pss_one (ps_ret (pe_ix ix_list (pv 1) (pe_h GT hr (by decide) (by rfl) pass0 (pa_cons (pv 0) (pa_cons (pe_callB call_len_seq (by rfl) N.blen PySem.boot_len (pa_cons (pv 1) pa_nil)) pa_nil))) (fun _ _ => rfl))), ?_⟩
    have ld : l ≠ D.d := by
      obtain ⟨ws, cs, r, t, h1, _⟩ := h
      exact ne_of hl h1 (fun z => by cases z)
    refine ⟨_, rfl, _, rfl, .ref l, rfl, l, xs, rfl, .inl (SqL.of hl), D, n, _, rfl, h, hn, ?_, ?_, ?_⟩
    · cases xs with
      | nil => exact absurd rfl x0
      | cons a r => rw [List.length_cons]; omega
    · omega
    · intro H' v d' f' v0 v1
      have hl' := f' _ _ hl ld lw
      obtain ⟨j, rfl⟩ : ∃ j : Nat, v = (j : Int) := ⟨v.toNat, by omega⟩
      have hj : j < xs.length := by omega
      refine ⟨l, xs, _, xs[j], rfl, rfl, SqL.of hl', atI_nat (List.getElem?_eq_getElem hj), q H' j _ (List.getElem?_eq_getElem hj) d' f'⟩
/-! ### _law_begun -/
abbrev sBegun : Stmt := topS 33
theorem scBegun : FnScope ["_law_script", "_law_wide", "_law_cell"] ["_law_script"] (defScope sBegun) := ⟨rfl, rfl, rfl, by decide +kernel, rfl, by decide +kernel, by decide +kernel⟩
def spBegun (K : PySem.W.Frag) : Sp := fun vs H Q _ => ∃ (a : Addr) (ns : List Int), vs = [.ref a] ∧ SqL K H a (ns.map V.int) ∧ ns.length ≤ 63 ∧
  ∀ (H' : Hp) (D : DrA), Same H H' → DrawAt D 0 H' → H D.d = none → H D.w = none → Q (.ref D.d) H'
theorem ok_begun {f : Addr} {fd : FuncData} (F : Fun K "_law_begun" "_law_begun" sBegun f fd) (N : Bl mg) : FnOk P w K mg base CX0 1 f fd ["_law_script"] (spBegun K) := by
  refine F.ok scBegun (fun vs H Q E h => ?_) (fun cdv A outer s H vs Q E hr h => ?_)
  · obtain ⟨a, ns, rfl, _⟩ := h
    rfl
  · obtain ⟨a, ns, rfl, hS, hl, q⟩ := h
    refine ⟨_, pss_cons (ps_setLc (i := 1) (own := [("_law_cell", 2)]) (g := gName 2) (by rfl) scBegun.nd rfl rfl (sw_true rfl rfl rfl (by decide +kernel)) (pi_list (pv 0))
        (blkOk_by (own := [("_law_cell", 2)]) (N := ["_law_script", "_law_wide", "_law_cell"]) (sc := defScope sBegun) (by decide +kernel)) (fun _ _ _ _ _ => pg_name (i := 2) scBegun.nd rfl (Or.inl rfl))
        (fun _ _ _ _ _ => pts_one (pt_cmpR op_ge (pe_callB call_abs (by rfl) N.babs (by decide +kernel) (pa_cons (pv 2) pa_nil)) (pe_op op_pow pe_int pe_int) (nomark _)))
        (fun _ _ _ _ _ => pe_op op_sub (pe_callB call_abs (by rfl) N.babs (by decide +kernel) (pa_cons (pv 2) pa_nil)) (pe_op op_pow pe_int pe_int)))
      (pss_one (ps_ret (pe_disp (pps_cons pe_str (pv 1) (pps_cons pe_str (pe_lc (own := [("_law_cell", 2)]) (g := gName 2) (tt := tYes) rfl scBegun.nd (pi_list (pv 0))
          (blkOk_by (own := [("_law_cell", 2)]) (N := ["_law_script", "_law_wide", "_law_cell"]) (sc := defScope sBegun) (by decide +kernel)) (fun _ _ _ _ _ => pg_name (i := 2) scBegun.nd rfl (Or.inl rfl)) (fun _ _ _ _ _ => pts_nil)
          (fun _ _ _ _ _ => pe_op op_mod (pe_callTy call_int1 (by rfl) N.bint (by decide +kernel) (pa_cons (pe_callB call_abs (by rfl) N.babs (by decide +kernel) (pa_cons (pv 2) pa_nil)) pa_nil)) pe_int))
        (pps_cons pe_str pe_int (pps_cons pe_str pe_int pps_nil)))) (by rfl) (by rfl) (fun z => by cases z) (by decide)))), ?_⟩
    refine ⟨.ref a, rfl, a, rfl, ⟨_, hS⟩, fun W nW => lc_list (K := K) (a := a) (xs := ns.map V.int)
      (fun i H' => Same H H' ∧ ∃ acc : List Int, H' W = some (.lst (acc.map V.int)) ∧ acc.length ≤ i) ⟨same_upd nW, [], upd_same, Nat.zero_le _⟩ (fun i H' _ h => h.1.seq hS) ?_ ?_⟩
    · rintro i x H' hx ⟨sm, acc, hW, hi⟩
      obtain ⟨z, _, rfl⟩ := int_at hx
      refine ⟨rfl, _, rfl, z, rfl, _, _, rfl, rfl, ⟨by decide, by decide, by decide⟩, _, _, rfl, rfl, _, rfl, ite2 (fun c => ?_) (fun c => ?_)⟩
      · refine ⟨_, rfl, z, rfl, _, _, rfl, rfl, ⟨by decide, by decide, by decide⟩, _, _, rfl, rfl, acc.map V.int, hW, ?_, same_put sm nW, acc ++ [(if z < 0 then -z else z) - 10 ^ Int.toNat 18], ?_, ?_⟩
        · rw [List.length_map]
          have hi' : i < (ns.map V.int).length := (List.getElem?_eq_some_iff.mp hx).1
          rw [List.length_map] at hi'
          exact small1000 (by omega)
        · rw [List.map_append]
          exact upd_same
        · rw [List.length_append]
          exact Nat.add_le_add_right hi 1
      · exact ⟨sm, acc, hW, by omega⟩
    · rintro H1 ⟨sm, acc, hW, hi⟩
      intro p np
      have hpW : p ≠ W := fun z => by rw [z, hW] at np; cases np
      refine ⟨.ref W, rfl, .ref a, rfl, a, rfl, ⟨_, (sm.trans (same_upd np)).seq hS⟩, fun C nC => lc_list (K := K) (a := a) (xs := ns.map V.int)
        (fun i H' => Same (upd H1 p (.dK [])) H' ∧ ∃ acc : List Int, H' C = some (.lst (acc.map V.int)) ∧ acc.length ≤ i ∧ ∀ x ∈ acc, 0 ≤ x ∧ x < 2147483629) ⟨same_upd nC, [], upd_same, Nat.zero_le _, (fun x hx => by cases hx)⟩ (fun i H' _ h => (sm.trans ((same_upd np).trans h.1)).seq hS) ?_ ?_⟩
      · rintro i x H' hx ⟨sm2, acc2, hC, hi2, hb⟩
        obtain ⟨z, _, rfl⟩ := int_at hx
        refine ⟨rfl, _, rfl, z, rfl, .inl ⟨_, rfl, _, _, rfl, rfl, (by show (0 : Int) < 2147483629; decide), acc2.map V.int, hC, ?_, same_put sm2 nC, acc2 ++ [(if z < 0 then -z else z) % 2147483629], ?_, ?_, ?_⟩⟩
        · rw [List.length_map]
          have hi' : i < (ns.map V.int).length := (List.getElem?_eq_some_iff.mp hx).1
          rw [List.length_map] at hi'
          exact small1000 (by omega)
        · rw [List.map_append]
          exact upd_same
        · rw [List.length_append]
          exact Nat.add_le_add_right hi2 1
        · intro x hx
          rcases List.mem_append.mp hx with hx | hx
          · exact hb x hx
          · rw [List.mem_singleton.mp hx]
            exact ⟨Int.emod_nonneg _ (by decide), Int.emod_lt_of_pos _ (by decide)⟩
      · rintro H2 ⟨sm2, acc2, hC, hi2, hb⟩
        have hp : H2 p = some (.dK []) := sm2 _ _ upd_same
        have hW2 : H2 W = some (.lst (acc.map V.int)) := sm2 _ _ (by rw [upd_ne hpW.symm]; exact hW)
        refine ⟨hp, drF ⟨p, W, C⟩ 0 0, rfl, (by show 4 ≤ 15; decide), ?_⟩
        have e : mergeK [] (drF ⟨p, W, C⟩ 0 0) = drF ⟨p, W, C⟩ 0 0 := rfl
        rw [e]
        have nCW : C ≠ W := by
          intro z
          rw [z, upd_ne hpW.symm, hW] at nC
          cases nC
        have nCp : C ≠ p := by
          intro z
          rw [z, upd_same] at nC
          cases nC
        have np0 : H p = none := by
          cases e : H p with
          | none => rfl
          | some o => rw [sm _ _ e] at np; cases np
        refine q _ ⟨p, W, C⟩ ?_ ⟨acc, acc2, 0, 0, upd_same, ?_, ?_, ⟨hb, nCW⟩, by decide, by decide⟩ np0 nW
        · exact same_put (sm.trans ((same_upd np).trans sm2)) np0
        · rw [upd_ne hpW.symm]
          exact hW2
        · rw [upd_ne nCp]
          exact hC
end
end Lm
namespace Lm
open PySem PySem.Spec PyProof.Rows L2
/-! ### lots as data -/
theorem dp_lot {K : PySem.W.Frag} {H : Hp} {v : V} {l : List Int} (h : LotAt H v l) : Dp K H v (lotD l) := by
  obtain ⟨a, rfl, h⟩ := h
  exact .tup (SqT.of h) (dp_ints l)
theorem dp_lots {K : PySem.W.Frag} {H : Hp} : ∀ {vs : List V} {ls : Hm.Lots}, LsAt H vs ls → DpAll K H vs (ls.map lotD)
  | _, _, .nil => .nil
  | _, _, .cons h t => .cons (dp_lot h) (dp_lots t)
theorem canLay_lots : ∀ ls : Hm.Lots, PyData.canLayAll0 (ls.map lotD) = true
  | [] => by simp [PyData.canLayAll0]
  | l :: r => by
    have h1 : PyData.canLayAll0 (l.map PyData.int) = true := by
      induction l with
      | nil => simp [PyData.canLayAll0]
      | cons n r ih => simp [PyData.canLayAll0, PyData.canLay0, ih]
    simp [PyData.canLayAll0, PyData.canLay0, lotD, h1, canLay_lots r]
theorem depth_lots : ∀ ls : Hm.Lots, PyData.depthAll (ls.map lotD) ≤ 2
  | [] => by simp [PyData.depthAll]
  | l :: r => by
    have h2 : PyData.depthAll (l.map PyData.int) ≤ 1 := by
      induction l with
      | nil => simp [PyData.depthAll]
      | cons n r ih =>
        simp [PyData.depthAll, PyData.depth]
        omega
    have ih := depth_lots r
    simp [PyData.depthAll, PyData.depth, lotD]
    omega
theorem shaped_lots (ls : Hm.Lots) : SeqAt.shaped (.list (ls.map lotD)) = true := by
  have h1 := canLay_lots ls
  have h2 := depth_lots ls
  unfold SeqAt.shaped
  simp [PyData.canLay0, PyData.depth, h1]
  omega
theorem shaped_lot (l : List Int) : SeqAt.shaped (lotD l) = true := by
  have h1 := canLay_lots [l]
  have h2 := depth_lots [l]
  simp [PyData.canLayAll0, PyData.depthAll] at h1 h2
  unfold SeqAt.shaped
  rw [h1]
  simp
  omega
theorem eqv_nil_ints (ns : List Int) : PyData.eqv (.list (ns.map .int)) (.list []) = ns.isEmpty := by
  cases ns with
  | nil => simp [PyData.eqv, PyData.eqvAll]
  | cons n r => simp [PyData.eqv, PyData.eqvAll]
theorem eqv_nil_lots (ls : Hm.Lots) : PyData.eqv (.list (ls.map lotD)) (.list []) = ls.isEmpty := by
  cases ls with
  | nil => simp [PyData.eqv, PyData.eqvAll]
  | cons n r => simp [PyData.eqv, PyData.eqvAll]
/-- a lot that the gaps do not hit -/
def missL (gs l : List Int) : Bool := (l.filter fun g => decide (g ∈ gs)).isEmpty
theorem missL_iff {gs l : List Int} : missL gs l = true ↔ ¬ ∃ g, g ∈ l ∧ g ∈ gs := by
  unfold missL
  rw [List.isEmpty_iff, List.filter_eq_nil_iff]
  constructor
  · rintro h ⟨g, h1, h2⟩
    exact h g h1 (decide_eq_true h2)
  · intro h g h1 h2
    exact h ⟨g, h1, of_decide_eq_true h2⟩
theorem hits_iff {gs : List Int} {ls : Hm.Lots} : (ls.filter (missL gs)).isEmpty = true ↔ Hm.hitsL ls gs := by
  rw [List.isEmpty_iff, List.filter_eq_nil_iff]
  constructor
  · intro h l hl
    by_cases z : ∃ g, g ∈ l ∧ g ∈ gs
    · exact z
    · exact absurd (missL_iff.mpr z) (h l hl)
  · intro h l hl z
    exact missL_iff.mp z (h l hl)
theorem LsAt.take {H : Hp} (n : Nat) : ∀ {vs : List V} {ls : Hm.Lots}, LsAt H vs ls → LsAt H (vs.take n) (ls.take n) := by
  induction n with
  | zero => intro vs ls _; exact .nil
  | succ n ih =>
    intro vs ls h
    cases h with
    | nil => exact .nil
    | cons a b => exact .cons a (ih b)
section
variable {P : Program} {w : World} {K : PySem.W.Frag} {mg : Str → Option Value} {base : Heap}
abbrev sHit : Stmt := topS 39
def nHit : List Str := ["_law_lots", "_law_gaps_here", "_law_lot", "_law_gap"]
theorem scHit : FnScope nHit ["_law_lots", "_law_gaps_here"] (defScope sHit) := ⟨rfl, rfl, rfl, by decide +kernel, rfl, by decide +kernel, by decide +kernel⟩
def spHit : Sp := fun vs H Q _ => ∃ (a t : Addr) (xs : List V) (ls : Hm.Lots) (gs : List Int), vs = [.ref a, .ref t] ∧ H a = some (.lst xs) ∧ LsAt H xs ls ∧ Fit ls ∧ H t = some (.tup (gs.map V.int)) ∧
  ∀ H' b, Same H H' → (b = true ↔ Hm.hitsL ls gs) → Q (.bl b) H'
theorem ok_hit {f : Addr} {fd : FuncData} (F : Fun K "_law_do_hit" "_law_do_hit" sHit f fd) : FnOk P w K mg base CX0 1 f fd ["_law_lots", "_law_gaps_here"] spHit := by
  refine F.ok scHit (fun vs H Q E h => ?_) (fun cdv A outer s H vs Q E hr h => ?_)
  · obtain ⟨a, t, xs, ls, gs, rfl, _⟩ := h
    rfl
  · obtain ⟨a, t, xs, ls, gs, rfl, ha, hl, hf, ht, q⟩ := h
    have hu64 : (A.deeper (envOfC "_law_do_hit" (defScope sHit) s.heap.objs.size f cdv)).units + 64 < cLine := by
      have := hr.un
      omega
    refine ⟨_, pss_one (ps_ret (pe_cmpR (op_eqD hu64) (pe_lc (own := [("_law_lot", 2)]) (g := gName 2) rfl scHit.nd (pi_list (pv 0))
        (blkOk_by (own := [("_law_lot", 2)]) (N := nHit) (sc := defScope sHit) (by decide +kernel)) (fun _ _ _ _ _ => pg_name (i := 2) scHit.nd rfl (Or.inl rfl))
        (fun _ _ _ _ _ => pts_one (pt_cmpR (show OpR _ _ (rEqD K) from op_eqD hu64) (pe_lc (own := [("_law_gap", 3)]) (g := gName 3) rfl scHit.nd (pi_tupK K (pv 2))
            (blkOk_by (by show blkC nHit ⟨.function, [(".0", .local), ("_law_lot", .local), ("_law_gaps_here", .cell)], false, false, []⟩ _ [("_law_gap", 3)] = true; decide +kernel)) (fun _ _ _ _ _ => pg_name (i := 3) scHit.nd rfl (Or.inl rfl))
            (fun _ _ _ _ _ => pts_one (pt_cmpR (show OpR _ _ (rIn K false) from op_in_seq) (pv 3) (pv 1) (by rfl))) (fun _ _ _ _ _ => pv 3)) (pe_lst pa_nil) (nomark _)))
        (fun _ _ _ _ _ => pv 2)) (pe_lst pa_nil) (nomark _))), ?_⟩
    have hx := hl.len
    refine ⟨_, rfl, a, rfl, ⟨_, SqL.of ha⟩, fun R nR => lc_list (K := K) (a := a) (xs := xs) (fun i H' => Same H H' ∧ ∃ ys, H' R = some (.lst ys) ∧ LsAt H' ys ((ls.take i).filter (missL gs))) ⟨same_upd nR, [], upd_same, .nil⟩ (fun i H' _ h => SqL.of (h.1 _ _ ha)) ?_ ?_⟩
    · rintro i x H' hx ⟨s1, ys, hR, hy⟩
      obtain ⟨l, hli, b, rfl, hb⟩ := hl.get hx
      have hi : i < ls.length := (List.getElem?_eq_some_iff.mp hli).1
      have hl5 := hf.each l (List.mem_of_getElem? hli)
      have hm5 := hf.many
      refine ⟨rfl, _, rfl, b, rfl, ⟨_, SqT.of (s1 _ _ hb)⟩, fun R2 nR2 => lc_tup (K := K) (a := b) (xs := l.map V.int) (fun j H2 => Same H' H2 ∧ H2 R2 = some (.lst (((l.take j).filter fun g => decide (g ∈ gs)).map V.int))) ⟨same_upd nR2, upd_same⟩ (fun j H2 _ h => SqT.of (h.1 _ _ (s1 _ _ hb))) ?_ ?_⟩
      · rintro j x H2 hxj ⟨s2, hR2⟩
        obtain ⟨z, hz, rfl⟩ := int_at hxj
        have hlen : ((l.take j).filter fun g => decide (g ∈ gs)).length ≤ 500 := Nat.le_trans (List.length_filter_le _ _) (by rw [List.length_take]; omega)
        have st := filter_take_succ (p := fun g => decide (g ∈ gs)) hz
        refine ⟨rfl, _, rfl, _, rfl, t, _, rfl, .inr (SqT.of (s2 _ _ (s1 _ _ ht))), rfl, flat_ints gs, _, rfl, ?_⟩
        rw [if_neg (by decide), in_ints]
        by_cases hg : z ∈ gs
        · rw [decide_eq_true hg]
          refine iteT ⟨_, rfl, _, hR2, small1000 (by rw [List.length_map]; omega), same_put s2 nR2, ?_⟩
          rw [if_pos (decide_eq_true hg)] at st
          rw [st, List.map_append]
          exact upd_same
        · rw [decide_eq_false hg]
          refine iteF ⟨s2, ?_⟩
          rw [if_neg (by simpa using hg), List.append_nil] at st
          rw [st]
          exact hR2
      · rintro H2 ⟨s2, hR2⟩
        rw [List.length_map, List.take_length] at hR2
        refine ⟨Nat.zero_le _, fun Z nZ => ?_⟩
        have s3 : Same H' (upd H2 Z (.lst [])) := same_put s2 (none_of s2 nZ)
        have hR2' : (upd H2 Z (.lst [])) R2 = _ := same_upd nZ _ _ hR2
        refine ⟨_, _, .lst (SqL.of hR2') (dp_ints _), .lst (SqL.of upd_same) .nil, shaped_ints _, by decide +kernel, _, rfl, ?_⟩
        rw [eqv_nil_ints]
        have st := filter_take_succ (p := missL gs) hli
        have hR3 := s3 _ _ hR
        have hlen : ys.length ≤ 500 := by
          rw [hy.len]
          have h1 : ((ls.take i).filter (missL gs)).length ≤ (ls.take i).length := List.length_filter_le _ _
          rw [List.length_take] at h1
          omega
        show (if missL gs l = true then _ else _)
        cases hm : missL gs l with
        | true =>
          refine iteT ⟨_, rfl, ys, hR3, small1000 (by omega), same_put (fun b o e => s3 b o (s1 b o e)) nR, _, upd_same, ?_⟩
          rw [if_pos hm] at st
          rw [st]
          exact LsAt.snoc (LotAt.off (no_tup hR3) ⟨b, rfl, s3 _ _ (s1 _ _ hb)⟩) ((hy.sm s3).off (no_tup hR3))
        | false =>
          refine iteF ⟨fun b o e => s3 b o (s1 b o e), ys, hR3, ?_⟩
          rw [if_neg (by rw [hm]; decide), List.append_nil] at st
          rw [st]
          exact hy.sm s3
    · rintro H1 ⟨s1, ys, hR, hy⟩
      rw [hx, List.take_length] at hy
      refine ⟨Nat.zero_le _, fun Z nZ => ?_⟩
      have s3 : Same H (upd H1 Z (.lst [])) := same_put s1 (none_of s1 nZ)
      have t3 : Same H1 (upd H1 Z (.lst [])) := same_upd nZ
      refine ⟨_, _, .lst (SqL.of (t3 _ _ hR)) (dp_lots (hy.sm t3)), .lst (SqL.of upd_same) .nil, shaped_lots _, by decide +kernel, ?_⟩
      rw [eqv_nil_lots]
      exact q _ _ s3 hits_iff
end
end Lm
namespace Lm
open PySem PySem.Spec PyProof.Rows L2
theorem LotAt.fr {D : DrA} {n : Nat} {H H' : Hp} {v : V} {l : List Int} (h : LotAt H v l) (dr : DrawAt D n H) (f : Fr D H H') : LotAt H' v l := by
  obtain ⟨a, rfl, e⟩ := h
  obtain ⟨ws, cs, r, t, h1, h2, _⟩ := dr
  exact ⟨a, rfl, f _ _ e (ne_of e h1 (fun z => by cases z)) (ne_of e h2 (fun z => by cases z))⟩
theorem LsAt.fr {D : DrA} {n : Nat} {H H' : Hp} (dr : DrawAt D n H) (f : Fr D H H') : ∀ {vs : List V} {ls : Hm.Lots}, LsAt H vs ls → LsAt H' vs ls
  | _, _, .nil => .nil
  | _, _, .cons h t => .cons (h.fr dr f) (t.fr dr f)
theorem LotAt.da {D : DrA} {n : Nat} {H : Hp} {v : V} {l : List Int} (h : LotAt H v l) (dr : DrawAt D n H) : Da D H v (lotD l) := by
  obtain ⟨a, rfl, e⟩ := h
  obtain ⟨ws, cs, r, t, h1, h2, _⟩ := dr
  exact .tup e (ne_of e h1 (fun z => by cases z)) (ne_of e h2 (fun z => by cases z)) (.ints l)
theorem LsAt.da {D : DrA} {n : Nat} {H : Hp} (dr : DrawAt D n H) : ∀ {vs : List V} {ls : Hm.Lots}, LsAt H vs ls → DaAll D H vs (ls.map lotD)
  | _, _, .nil => .nil
  | _, _, .cons h t => .cons (h.da dr) (t.da dr)
theorem draw_put {D : DrA} {n m : Nat} {H H' : Hp} {f : Addr} {o : HO} (d0 : DrawAt D n H) (nf : H f = none) (dr : DrawAt D m H') : DrawAt D m (upd H' f o) := by
  obtain ⟨_, _, _, _, k1, k2, k3, _⟩ := d0
  obtain ⟨ws, cs, r, t, h1, h2, h3, h4, h5, h6⟩ := dr
  exact ⟨ws, cs, r, t, by rw [upd_ne (ne_of_none k1 nf)]; exact h1, by rw [upd_ne (ne_of_none k2 nf)]; exact h2, by rw [upd_ne (ne_of_none k3 nf)]; exact h3, h4, h5, h6⟩
theorem fr_put {D : DrA} {H H' : Hp} {f : Addr} {o : HO} (fr : Fr D H H') (nf : H f = none) : Fr D H (upd H' f o) := fun b x e n1 n2 => by
  rw [upd_ne (ne_of_none e nf)]
  exact fr b x e n1 n2
theorem asc_snoc {l : List Int} {z : Int} (h : Hm.Asc l) (k : ∀ x ∈ l, x < z) : Hm.Asc (l ++ [z]) :=
  List.pairwise_append.mpr ⟨h, List.pairwise_singleton _ _, fun x hx y hy => by rw [List.mem_singleton.mp hy]; exact k x hx⟩
theorem rg_ints (a b : Int) : rgV a b = ((List.range (b - a).toNat).map fun i => a + (i : Nat)).map V.int := by
  unfold rgV
  rw [List.map_map]
  rfl
theorem rg_gap {a b many : Int} (h0 : 0 ≤ a) (h1 : b ≤ many) : (∀ x ∈ (List.range (b - a).toNat).map (fun i : Nat => a + (i : Nat)), 0 ≤ x ∧ x < many) ∧ Hm.Asc ((List.range (b - a).toNat).map fun i : Nat => a + (i : Nat)) := by
  refine ⟨fun x hx => ?_, ?_⟩
  · obtain ⟨i, hi, rfl⟩ := List.mem_map.mp hx
    have := List.mem_range.mp hi
    show 0 ≤ a + (i : Int) ∧ a + (i : Int) < many
    omega
  · unfold Hm.Asc
    rw [List.pairwise_map]
    refine List.pairwise_lt_range.imp fun h => ?_
    omega
section
variable {P : Program} {w : World} {K : PySem.W.Frag} {mg : Str → Option Value} {base : Heap}
abbrev sDrawn : Stmt := topS 38
def nDrawn : List Str := ["_law_state", "_law_many_here", "_law_found", "_law_turn", "_law_one", "_law_two", "_law_way", "_law_lot", "_law_gap"]
theorem scDrawn : FnScope nDrawn ["_law_state", "_law_many_here"] (defScope sDrawn) := ⟨rfl, rfl, rfl, by decide +kernel, rfl, by decide +kernel, by decide +kernel⟩
def spDrawn : Sp := fun vs H Q _ => ∃ (D : DrA) (n : Nat) (many : Int), vs = [.ref D.d, .int many] ∧ DrawAt D n H ∧ n + 100 ≤ B ∧ 1 ≤ many ∧ many ≤ 8 ∧
  ∀ (H' : Hp) (f : Addr) (ys : List V) (ls : Hm.Lots), H f = none → H' f = some (.lst ys) → LsAt H' ys ls → ls.length ≤ 7 → GapsOk many ls → DrawAt D (n + 100) H' → Fr D H H' → Q (.ref f) H'
theorem ok_drawn {f : Addr} {fd : FuncData} (F : Fun K "_law_drawn_lots" "_law_drawn_lots" sDrawn f fd) (N : Bl mg) (GT : Has P w K mg base CX0 2 "_law_draw" ["_law_state", "_law_size_here"] spTake) : FnOk P w K mg base CX0 3 f fd ["_law_state", "_law_many_here"] spDrawn := by
  refine F.ok scDrawn (fun vs H Q E h => ?_) (fun cdv A outer s H vs Q E hr h => ?_)
  · obtain ⟨D, n, many, rfl, _⟩ := h
    rfl
  · obtain ⟨D, n, many, rfl, dr, hn, m1, m8, q⟩ := h
    have hu64 : (A.deeper (envOfC "_law_drawn_lots" (defScope sDrawn) s.heap.objs.size f cdv)).units + 64 < cLine := by
      have := hr.un
      omega
    refine ⟨_, pss_cons (ps_set (i := 2) scDrawn.nd rfl (.inl rfl) (pe_lst pa_nil))
      (pss_cons (ps_for PassesOwn.never rfl (pi_range1 (by rfl) N.brng (pa_cons (pe_h GT hr (by decide) (by rfl) pass0 (pa_cons (pv 0) (pa_cons pe_int pa_nil))) pa_nil)) (pg_name (i := 3) scDrawn.nd rfl (.inl rfl))
        (pss_cons (ps_asg (pe_tup (pa_cons (pe_h GT hr (by decide) (by rfl) pass0 (pa_cons (pv 0) (pa_cons (pv 1) pa_nil))) (pa_cons (pe_h GT hr (by decide) (by rfl) pass0 (pa_cons (pv 0) (pa_cons (pv 1) pa_nil))) (pa_cons (pe_h GT hr (by decide) (by rfl) pass0 (pa_cons (pv 0) (pa_cons pe_int pa_nil))) pa_nil))))
            (pg_tup rfl (pgs_cons (pg_name (i := 4) scDrawn.nd rfl (.inr rfl)) (pgs_cons (pg_name (i := 5) scDrawn.nd rfl (.inr rfl)) (pgs_cons (pg_name (i := 6) scDrawn.nd rfl (.inl rfl)) pgs_nil)))))
        (pss_cons (ps_setLc (i := 7) (own := [("_law_gap", 8)]) (g := gName 8) (by rfl) scDrawn.nd rfl rfl (sw_true rfl rfl rfl (by decide +kernel)) (pi_range1 (by rfl) N.brng (pa_cons (pv 1) pa_nil))
            (blkOk_by (own := [("_law_gap", 8)]) (N := nDrawn) (sc := defScope sDrawn) (by decide +kernel)) (fun _ _ _ _ _ => pg_name (i := 8) scDrawn.nd rfl (Or.inl rfl))
            (fun _ _ _ _ _ => pts_one (pt_cmpR op_eq (pe_h GT (hr.mono (by decide : 2 ≤ 2)) (by decide) (by rfl) pass0 (pa_cons (pv 0) (pa_cons pe_int pa_nil))) pe_int (nomark _))) (fun _ _ _ _ _ => pv 8))
        (C8.pss_cut (ps_if (pt_cmpR op_eq (pv 6) pe_int (nomark _))
            (pss_one (ps_set (i := 7) scDrawn.nd rfl (.inl rfl) (pe_listRg rfl (by rfl) N.blist (prg_2 (by rfl) N.brng (pe_callB (call_min2 rfl) (by rfl) N.bmin (by decide +kernel) (pa_cons (pv 4) (pa_cons (pv 5) pa_nil)))
              (pe_op op_add (pe_callB (call_max2 rfl) (by rfl) N.bmax (by decide +kernel) (pa_cons (pv 4) (pa_cons (pv 5) pa_nil))) pe_int)))))
            (pss_one (ps_if (pt_cmpR op_eq (pv 6) pe_int (nomark _))
              (pss_one (ps_setLc (i := 7) (own := [("_law_gap", 8)]) (g := gName 8) (by rfl) scDrawn.nd rfl rfl (sw_true rfl rfl rfl (by decide +kernel)) (pi_range1 (by rfl) N.brng (pa_cons (pv 1) pa_nil))
                (blkOk_by (own := [("_law_gap", 8)]) (N := nDrawn) (sc := defScope sDrawn) (by decide +kernel)) (fun _ _ _ _ _ => pg_name (i := 8) scDrawn.nd rfl (Or.inl rfl))
                (fun _ _ _ _ _ => pts_one (pw_or (pt_cmpR op_ge (pv 8) (pv 4) (nomark _)) (pw_or1 (pt_cmpR op_le (pv 8) (pv 5) (nomark _)))).pt) (fun _ _ _ _ _ => pv 8))) pss_nil)))
        (pss_one (ps_expr (pe_bm PySem.F.plainAttrs_list PySem.F.slot_list_append PySem.F.type_list_append mt_append (pv 2) (pa_cons (pe_callTy call_tuple_of (by rfl) N.btup (by decide +kernel) (pa_cons
            (pe_ifExp (pw_or (pt_cmpR (op_neD hu64) (pv 7) (pe_lst pa_nil) (nomark _)) (pw_or1 (pt_cmpR op_eq (pe_h GT hr (by decide) (by rfl) pass0 (pa_cons (pv 0) (pa_cons pe_int pa_nil))) pe_int (nomark _)))).pt (pv 7) (pe_lst (pa_cons (pv 4) pa_nil))) pa_nil)) pa_nil))))))))
      (pss_one (ps_ret (pv 2)))), ?_⟩
    refine ⟨Nat.zero_le _, fun p np => ?_⟩
    have op := dr.off np
    have d0 : DrawAt D n (upd H p (.lst [])) := dr.new np
    have s0 : Same H (upd H p (.lst [])) := same_upd np
    refine ⟨_, rfl, D, n, 8, rfl, d0, by omega, by decide, by decide, fun H1 u d1 f1 u0 u8 => ?_⟩
    have hp1 := f1 _ _ upd_same op.1 op.2
    have f01 : Fr D H H1 := (Fr.of s0).trans f1
    refine ⟨u, rfl, by omega, by omega, for_range (fun i σ H' => Fr D H H' ∧ DrawAt D (n + 1 + 12 * i) H' ∧ ∃ (ys : List V) (ls : Hm.Lots) (x3 x4 x5 x6 x7 x8 : Option V), σ = [some (.ref D.d), some (.int many), some (.ref p), x3, x4, x5, x6, x7, x8] ∧ H' p = some (.lst ys) ∧
      LsAt H' ys ls ∧ ls.length = i ∧ GapsOk many ls) ⟨f01, d1, [], [], none, none, none, none, none, none, rfl, hp1, .nil, rfl, (fun _ z => nomatch z)⟩ ?_ ?_⟩
    · rintro i σ H' hi ⟨fr, d2, ys, ls, x3, x4, x5, x6, x7, x8, rfl, hp, hy, hlen, hk⟩
      have hi7 : i < 7 := by omega
      refine ⟨_, rfl, _, rfl, D, _, many, rfl, d2, by omega, by omega, by omega, fun H2 one d3 f3 o0 o1 => ?_⟩
      refine ⟨_, rfl, _, rfl, D, _, many, rfl, d3, by omega, by omega, by omega, fun H3 two d4 f4 t0 t1 => ?_⟩
      refine ⟨_, rfl, D, _, 4, rfl, d4, by omega, by decide, by decide, fun H4 way d5 f5 w0 w1 => ?_⟩
      refine ⟨by show 3 ≤ sizeLine; decide, fun T nT => ⟨T, _, rfl, SqT.of upd_same, rfl, _, _, rfl, _, _, rfl, _, _, rfl, rfl, ?_⟩⟩
      have f24 : Fr D H' (upd H4 T (.tup [.int one, .int two, .int way])) := (f3.trans (f4.trans f5)).trans (.of (same_upd nT))
      have d6 := d5.new nT (o := .tup [.int one, .int two, .int way])
      have hp6 := f24 _ _ hp op.1 op.2
      have hy6 := hy.fr d2 f24
      have fr6 := fr.trans f24
      generalize upd H4 T (.tup [.int one, .int two, .int way]) = H6 at *
      refine ⟨_, rfl, _, rfl, by omega, by omega, fun R nR => lc_range (fun j H' => Fr D H6 H' ∧ DrawAt D (n + 1 + 12 * i + 3 + j) H' ∧ ∃ acc : List Int, H' R = some (.lst (acc.map V.int)) ∧ Hm.Asc acc ∧ ∀ x ∈ acc, 0 ≤ x ∧ x < (j : Int)) ⟨.of (same_upd nR), d6.new nR, [], upd_same, .nil, (fun _ z => nomatch z)⟩ ?_ ?_⟩
      · rintro j H7 hj ⟨f7, d7, acc, hR, ha, hb⟩
        have oR := d6.off nR
        refine ⟨rfl, _, rfl, D, _, 3, rfl, d7, by omega, by decide, by decide, fun H8 v d8 f8 v0 v3 => ?_⟩
        have hR8 := f8 _ _ hR oR.1 oR.2
        refine ⟨rfl, _, rfl, ite2 (fun c => ?_) (fun c => ?_)⟩
        · refine ⟨_, rfl, _, hR8, ?_, fr_put (f7.trans f8) nR, draw_put d6 nR d8, acc ++ [0 + (j : Int)], ?_, asc_snoc ha fun x hx => ?_, fun x hx => ?_⟩
          · rw [List.length_map]
            have := asc_len ha hb
            exact small1000 (by omega)
          · rw [List.map_append]
            exact upd_same
          · have := (hb x hx).2
            omega
          · rcases List.mem_append.mp hx with hx | hx
            · have := hb x hx
              omega
            · rw [List.mem_singleton.mp hx]
              omega
        · refine ⟨f7.trans f8, d8, acc, hR8, ha, fun x hx => ?_⟩
          have := hb x hx
          omega
      · rintro H7 ⟨f7, d7, acc, hR, ha, hb⟩
        have e8 : (many.toNat : Int) = many := by omega
        have oR := d6.off nR
        have hp7 := f7 _ _ hp6 op.1 op.2
        have hy7 := hy6.fr d6 f7
        have fr7 := fr6.trans f7
        have hb7 : ∀ x ∈ acc, 0 ≤ x ∧ x < many := fun x hx => by have := hb x hx; omega
        refine ⟨fun σ H8 => ∃ (x7 x8 : Option V) (L : Addr) (l : List Int), σ = [some (.ref D.d), some (.int many), some (.ref p), some (.int (0 + (i : Int))), some (.int one), some (.int two), some (.int way), x7, x8] ∧ x7 = some (.ref L) ∧ Same H7 H8 ∧ H8 L = some (.lst (l.map V.int)) ∧ (∀ x ∈ l, 0 ≤ x ∧ x < many) ∧ Hm.Asc l ∧ L ≠ D.d ∧ L ≠ D.w, ?_, ?_⟩
        · refine ⟨_, rfl, rfl, _, rfl, ite2 (fun c => ?_) (fun c => ?_)⟩
          · refine ⟨_, rfl, _, rfl, _, _, rfl, _, rfl, _, rfl, _, _, rfl, _, _, rfl, rfl, ?_⟩
            have lo0 : 0 ≤ (if two < one then two else one) := by split <;> omega
            have lo1 : (if two < one then two else one) ≤ 16777216 := by split <;> omega
            have hi1 : (if two > one then two else one) + 1 ≤ many := by split <;> omega
            have hi0 : 0 ≤ (if two > one then two else one) + 1 := by split <;> omega
            refine ⟨_, _, rfl, rfl, RgOk.of_le lo0 (by omega) lo1 hi0, fun L nL => ⟨_, _, L, _, rfl, rfl, same_upd nL, ?_, (rg_gap lo0 hi1).1, (rg_gap lo0 hi1).2, (d7.off nL).1, (d7.off nL).2⟩⟩
            rw [rg_ints]
            exact upd_same
          · refine ⟨_, rfl, rfl, _, rfl, ite2 (fun c => ?_) (fun c => ?_)⟩
            · refine ⟨_, rfl, _, rfl, by omega, by omega, fun R2 nR2 => lc_range (fun j H9 => Same H7 H9 ∧ ∃ ac2 : List Int, H9 R2 = some (.lst (ac2.map V.int)) ∧ Hm.Asc ac2 ∧ ∀ x ∈ ac2, 0 ≤ x ∧ x < (j : Int)) ⟨same_upd nR2, [], upd_same, .nil, (fun _ z => nomatch z)⟩ ?_ ?_⟩
              · rintro j H9 hj ⟨s9, ac2, hR2, ha2, hb2⟩
                have yes : some (HO.lst (ac2.map V.int)) = some (HO.lst (ac2.map V.int)) → (∃ ac : List V, H9 R2 = some (.lst ac) ∧ ac.length < sizeLine ∧ Same H7 (upd H9 R2 (.lst (ac ++ [V.int (0 + (j : Int))]))) ∧ ∃ ac3 : List Int, (upd H9 R2 (.lst (ac ++ [V.int (0 + (j : Int))]))) R2 = some (.lst (ac3.map V.int)) ∧ Hm.Asc ac3 ∧ ∀ x ∈ ac3, 0 ≤ x ∧ x < ((j + 1 : Nat) : Int)) := fun _ => by
                  refine ⟨_, hR2, ?_, same_put s9 nR2, ac2 ++ [0 + (j : Int)], ?_, asc_snoc ha2 fun x hx => ?_, fun x hx => ?_⟩
                  · rw [List.length_map]
                    have := asc_len ha2 hb2
                    exact small1000 (by omega)
                  · rw [List.map_append]
                    exact upd_same
                  · have := (hb2 x hx).2
                    omega
                  · rcases List.mem_append.mp hx with hx | hx
                    · have := hb2 x hx
                      omega
                    · rw [List.mem_singleton.mp hx]
                      omega
                have non : Same H7 H9 ∧ ∃ ac3 : List Int, H9 R2 = some (.lst (ac3.map V.int)) ∧ Hm.Asc ac3 ∧ ∀ x ∈ ac3, 0 ≤ x ∧ x < ((j + 1 : Nat) : Int) := ⟨s9, ac2, hR2, ha2, fun x hx => by have := hb2 x hx; omega⟩
                refine ⟨rfl, _, rfl, _, rfl, _, _, rfl, rfl, _, rfl, ite2 (fun c => ?_) (fun c => ?_)⟩
                · exact iteT ⟨_, rfl, yes rfl⟩
                · refine ⟨_, rfl, _, rfl, _, _, rfl, rfl, _, rfl, ite2 (fun c => ?_) (fun c => ?_)⟩
                  · exact ⟨_, rfl, yes rfl⟩
                  · exact non
              · rintro H9 ⟨s9, ac2, hR2, ha2, hb2⟩
                exact ⟨_, _, R2, ac2, rfl, rfl, s9, hR2, (fun x hx => by have := hb2 x hx; omega), ha2, (d7.off nR2).1, (d7.off nR2).2⟩
            · exact ⟨_, _, R, acc, rfl, rfl, (fun _ _ z => z), hR, hb7, ha, oR.1, oR.2⟩
        · rintro σ H8 ⟨x7, x8, L, l, rfl, rfl, s8, hL, hl, al, Ld, Lw⟩
          have fin : ∀ (H9 : Hp) (T2 : Addr) (l' : List Int) (m' : Nat), Fr D H H9 → DrawAt D m' H9 → m' ≤ n + 1 + 12 * (i + 1) → H9 p = some (.lst ys) → LsAt H9 ys ls → H9 T2 = none → (∀ x ∈ l', 0 ≤ x ∧ x < many) → Hm.Asc l' →
              (upd H9 T2 (.tup (l'.map V.int))) p = some (.lst ys) ∧ ys.length < sizeLine ∧ Fr D H (upd (upd H9 T2 (.tup (l'.map V.int))) p (.lst (ys ++ [V.ref T2]))) ∧ DrawAt D (n + 1 + 12 * (i + 1)) (upd (upd H9 T2 (.tup (l'.map V.int))) p (.lst (ys ++ [V.ref T2]))) ∧
              LsAt (upd (upd H9 T2 (.tup (l'.map V.int))) p (.lst (ys ++ [V.ref T2]))) (ys ++ [V.ref T2]) (ls ++ [l']) ∧ (ls ++ [l']).length = i + 1 ∧ GapsOk many (ls ++ [l']) := by
            intro H9 T2 l' m' fr9 d9 hm9 hp9 hy9 nT2 k1 k2
            have s10 := same_upd (o := .tup (l'.map V.int)) nT2
            have hp10 := s10 _ _ hp9
            refine ⟨hp10, small1000 (by rw [hy9.len]; omega), fr_put (fr9.trans (.of s10)) np, draw_put dr np ((d9.new nT2).mono hm9), LsAt.snoc (LotAt.off (no_tup hp10) ⟨T2, rfl, upd_same⟩) ((hy9.sm s10).off (no_tup hp10)), by rw [List.length_append, hlen]; rfl, fun l hl => ?_⟩
            rcases List.mem_append.mp hl with hl | hl
            · exact hk l hl
            · rw [List.mem_singleton.mp hl]
              exact ⟨k1, k2⟩
          have fr8 := fr7.trans (.of s8)
          have d8 := d7.sm s8
          have hp8 := s8 _ _ hp7
          have hy8 := hy7.sm s8
          refine ⟨_, rfl, .inl ⟨rfl, _, SqL.of hp8⟩, _, rfl, Nat.zero_le _, fun Z nZ => ?_⟩
          have sZ := same_upd (o := .lst []) nZ
          refine ⟨_, _, .lst (SqL.of (sZ _ _ hL)) (dp_ints l), .lst (SqL.of upd_same) .nil, shaped_ints l, by decide +kernel, _, rfl, ?_⟩
          rw [eqv_nil_ints]
          have fr9 := fr8.trans (.of sZ)
          have d9 := d8.new nZ (o := .lst [])
          have hp9 := sZ _ _ hp8
          have hy9 := hy8.sm sZ
          have hL9 := sZ _ _ hL
          generalize upd H8 Z (.lst []) = H9 at *
          have one9 : (∀ x ∈ [one], 0 ≤ x ∧ x < many) ∧ Hm.Asc [one] := ⟨fun x hx => by rw [List.mem_singleton.mp hx]; omega, List.pairwise_singleton _ _⟩
          cases l with
          | cons z0 zr =>
            refine iteT (iteT ⟨_, rfl, L, _, rfl, .inl ⟨SqL.of hL9, fun T2 nT2 => ?_⟩⟩)
            obtain ⟨a1, a2, a3, a4, a5, a6, a7⟩ := fin H9 T2 _ _ fr9 d9 (by omega) hp9 hy9 nT2 hl al
            exact ⟨p, ys, _, rfl, rfl, a1, a2, a3, a4, _, _, _, _, _, _, _, _, rfl, upd_same, a5, a6, a7⟩
          | nil =>
            refine iteF ⟨_, rfl, D, _, 6, rfl, d9, by omega, by decide, by decide, fun H10 v d10 f10 v0 v6 => ?_⟩
            have fr10 := fr9.trans f10
            have hp10 := f10 _ _ hp9 op.1 op.2
            have hy10 := hy9.fr d9 f10
            refine ⟨rfl, _, rfl, ite2 (fun c => ?_) (fun c => ?_)⟩
            · refine ⟨_, rfl, L, _, rfl, .inl ⟨SqL.of (f10 _ _ hL9 Ld Lw), fun T2 nT2 => ?_⟩⟩
              obtain ⟨a1, a2, a3, a4, a5, a6, a7⟩ := fin H10 T2 [] _ fr10 d10 (by omega) hp10 hy10 nT2 hl al
              exact ⟨p, ys, _, rfl, rfl, a1, a2, a3, a4, _, _, _, _, _, _, _, _, rfl, upd_same, a5, a6, a7⟩
            · refine ⟨_, rfl, by show 1 ≤ sizeLine; decide, fun Y nY => ⟨Y, _, rfl, .inl ⟨SqL.of upd_same, fun T2 nT2 => ?_⟩⟩⟩
              have sY := same_upd (o := .lst [.int one]) nY
              obtain ⟨a1, a2, a3, a4, a5, a6, a7⟩ := fin _ T2 [one] _ (fr10.trans (.of sY)) (d10.new nY) (by omega) (sY _ _ hp10) (hy10.sm sY) nT2 one9.1 one9.2
              exact ⟨p, ys, _, rfl, rfl, a1, a2, a3, a4, _, _, _, _, _, _, _, _, rfl, upd_same, a5, a6, a7⟩
    · rintro σ H' ⟨fr, d2, ys, ls, x3, x4, x5, x6, x7, x8, rfl, hp, hy, hlen, hk⟩
      exact ⟨_, rfl, q H' p ys ls np hp hy (by omega) hk (d2.mono (by omega)) fr⟩
end
end Lm
/-! sorted(lots, key=lambda x: (len(x), x)). -/
namespace Lm
open PySem PySem.Spec PyProof.Rows L2 LamX
/-! ### the order -/
def LtL (a b : List Int) : Prop := a.length < b.length ∨ (a.length = b.length ∧ a < b)
instance (a b : List Int) : Decidable (LtL a b) := by unfold LtL; exact inferInstance
def keyD (l : List Int) : PyData := .tuple [.int (l.length : Nat), lotD l]
theorem eqvAll_ints : ∀ a b : List Int, PyData.eqvAll (a.map .int) (b.map .int) = decide (a = b)
  | [], [] => by simp [PyData.eqvAll]
  | [], _ :: _ => by simp [PyData.eqvAll]
  | _ :: _, [] => by simp [PyData.eqvAll]
  | x :: xs, y :: ys => by
    show PyData.eqvAll (.int x :: xs.map .int) (.int y :: ys.map .int) = _
    rw [PyData.eqvAll, eqvAll_ints xs ys]
    by_cases h : x = y
    · simp [PyData.eqv, h]
    · simp [PyData.eqv, h]
theorem eqv_lots (a b : List Int) : PyData.eqv (lotD a) (lotD b) = decide (a = b) := by
  unfold lotD
  simp only [PyData.eqv]
  exact eqvAll_ints a b
theorem alike_lots (a b : List Int) : PySem.W.alike (lotD a) (lotD b) = true := by
  unfold lotD
  simp only [PySem.W.alike]
  exact PySem.W.alike_ints a b
theorem alike_keys (a b : List Int) : PySem.W.alike (keyD a) (keyD b) = true := by
  have := alike_lots a b
  unfold keyD
  simp [PySem.W.alike, PySem.W.alikeAll, this]
theorem lt_lots (a b : List Int) : PySem.W.dataLt (lotD a) (lotD b) = decide (a < b) := by
  unfold lotD
  rw [PySem.W.dataLt_tuple]
  exact PySem.W.dataLt_ints a b
theorem lt_keys (a b : List Int) : PySem.W.dataLt (keyD a) (keyD b) = decide (LtL a b) := by
  unfold keyD
  rw [PySem.W.dataLt_pair (by simp [PySem.W.alike]) (alike_lots a b), eqv_lots, lt_lots, PySem.W.dataLt_int]
  have e : PyData.eqv (.int (a.length : Nat)) (.int (b.length : Nat)) = decide (a.length = b.length) := by
    simp only [PyData.eqv]
    by_cases h : a.length = b.length
    · simp [h]
    · have : ¬ ((a.length : Nat) : Int) = (b.length : Nat) := by omega
      simp [h]
      exact this
  rw [e]
  unfold LtL
  by_cases h : a.length = b.length
  · by_cases k : a = b
    · subst k
      have : ¬ a < a := List.lt_irrefl a
      simp [this]
    · simp [h, k]
  · have e2 : (((a.length : Nat) : Int) < (b.length : Nat)) ↔ a.length < b.length := by omega
    simp [h]
theorem depth_key (l : List Int) : (keyD l).depth ≤ 4 := by
  have := depth_lots [l]
  unfold keyD
  simp only [List.map_cons, List.map_nil] at this
  simp [PyData.depth, PyData.depthAll] at this ⊢
  omega
/-! ### the key, told of one lot -/
theorem key_call {prog : Program} {w : World} {A : Around} {s : Shared} {mg mb : Str → Option Value} {f c' t : Addr} {qual x : Str} {params : Arguments} {scope : Scope} {pm ctv : Value} {p0 p1 p2 p3 p5 : Pos} {p4 : Nat} {its : Array Value} {d : PyData} {n : Nat}
    (hroom : A.depth < recursionLimit) (ho : s.heap.get? f = some (PySem.W.kla_obj "<lambda>" qual params (.Tuple [.Call (.Name "len" p0) [.Name x p1] [] p2, .Name x p3] p4 p5) scope [] pm c' ctv))
    (hcd : s.heap.CodeRec (.ref c') qual) (lim : s.heap.NoLimit) (hns : s.heap.Ns mainGlobals mg) (hl : mg "len" = none) (hb : s.heap.Ns builtinsNs mb) (hbl : mb "len" = some (.builtin "len"))
    (hk : scope.kind = .function) (hco : scope.isCoroutine = false) (hgen : scope.isGenerator = false) (hnm : scope.names = [(x, .local), ("len", .globalImplicit)]) (hx : (x == ("__debug__" : Str)) = false) (hxl : (("len" : Str) == x) = false)
    (hbind : ∀ v, bindArgs (PySem.W.kla_fn "<lambda>" qual params (.Tuple [.Call (.Name "len" p0) [.Name x p1] [] p2, .Name x p3] p4 p5) scope [] pm (.ref c') ctv) ⟨[v], []⟩ = pure [(x, v)])
    (ht : IsTup s.heap t its) (hsz : its.size = n) (hfit : (n : Int) < 2 ^ 63) (rd : Reads s.heap (.ref t) d []) :
    wpAny (model prog w) A (call (.ref f) [.ref t]) (PySem.W.KeyPure (.tuple [.int (n : Nat), d]) s) (fun _ _ => False) s := by
  refine wpAny_call (PySem.W.kla_callFunE hroom ho rfl hco hgen rfl hcd ?_)
  rw [hbind]
  refine wpAny_pure (wpAny_newFunctionEnv (fun y hy => ?_) (fun y hy => ?_) (fun h₁ hns1 hsb => ⟨lim.fresh _ hsb, ?_⟩) hk)
  · have hy : y ∈ scope.names := hy
    rw [hnm] at hy
    simp at hy
    rcases hy with rfl | rfl <;> (intro e; cases e)
  · obtain rfl := List.mem_singleton.mp hy
    show scope.names.lookup x = some .local
    rw [hnm]
    simp [List.lookup]
  · show codeAny _ _ (.expr _ (PySem.W.envX qual scope s.heap.objs.size f (.ref c') [])) _ _
    have kp : ∀ b o, s.heap.get? b = some o → h₁.get? b = some o := fun b o e => hsb.extBut b o (Nat.ne_of_lt (Heap.lt_size e)) (Heap.get?_push_of_some _ e)
    have kL : (PySem.W.envX qual scope s.heap.objs.size f (.ref c') []).kindOf x = some .local := by
      show scope.names.lookup x = some .local
      rw [hnm]
      simp [List.lookup]
    have kG : (PySem.W.envX qual scope s.heap.objs.size f (.ref c') []).kindOf "len" = some .globalImplicit := by
      show scope.names.lookup ("len" : Str) = some .globalImplicit
      rw [hnm]
      simp [List.lookup, hxl]
    have hm1 : ([(x, Value.ref t)] : List (Str × Value)).reverse.lookup x = some (.ref t) := by simp [List.lookup]
    refine PySem.W.kla_codeExpr (wpAny_Tuple_spliced (Calls.spliced_cons ?_))
    refine Call_ (Calls.Name_function_global hk kG (Calls.loadGlobal_builtin (hns.keeps kp) hl (hb.keeps kp) hbl ?_))
    refine Calls.callWith_builtin rfl (Calls.evalArgs_plain (Calls.spliced_cons (wpAny_Name (wpAny_loadName_local hk kL hns1 hm1 (Calls.spliced_nil ?_)) hx)))
    refine len_tuple (ht.keeps kp) (by rw [hsz]; exact hfit) ?_
    refine Calls.spliced_cons (wpAny_Name (wpAny_loadName_local hk kL hns1 hm1 (Calls.spliced_nil ⟨by show 2 ≤ sizeLine; decide, ?_⟩)) hx)
    rw [hsz]
    exact ⟨_, _, rfl, fun b o e => Heap.get?_push_of_some _ (kp b o e), .tuple (Heap.get?_push_size _ rfl) rfl rfl (.cons (.int _ _) (.cons (PyProof.Rows.Reads.keeps (fun b o e => Heap.get?_push_of_some _ (kp b o e)) rd) .nil))⟩
/-! ### the rule -/
/-- the raw value u is the lot b.1, which stands as b.2 -/
def LotR (h : Heap) (u : Value) (b : List Int × V) : Prop := ∃ (t : Addr) (its : Array Value), b.2 = .ref t ∧ u = .ref t ∧ IsTup h t its ∧ its.size = b.1.length ∧ b.1.length ≤ sizeLine ∧ Reads h (.ref t) (lotD b.1) []
theorem readsAll_ints {h : Heap} : ∀ {l : List Int} {us : List Value}, Vals (l.map V.int) us → ReadsAll h us (l.map .int) []
  | [], _, r => by cases r; exact .nil
  | x :: r, _, v => by
    cases v with
    | cons v1 v2 =>
      obtain ⟨t, rfl⟩ := v1
      exact .cons (.int x t) (readsAll_ints v2)
theorem lotR_of {P : Program} {w : World} {H : Hp} {h : Heap} {v : V} {u : Value} {l : List Int} (k : HOk P w H h) (a : LotAt H v l) (r : RelV v u) : LotR h u (l, v) := by
  obtain ⟨t, rfl, e⟩ := a
  obtain ⟨hz, its, rv, ht⟩ := k t _ e
  obtain rfl : u = Value.ref t := r
  have hl := rv.length
  rw [List.length_map] at hl hz
  refine ⟨t, its.toArray, rfl, rfl, ht, by rw [List.size_toArray]; exact hl.symm, hz, ?_⟩
  obtain ⟨o, e1, e2, n, e3⟩ := ht
  exact .tuple e1 e2 e3 (by simpa using readsAll_ints rv)
theorem each_lots {P : Program} {w : World} {H : Hp} {h : Heap} (k : HOk P w H h) : ∀ {xs : List V} {ls : Hm.Lots} {its : List Value}, LsAt H xs ls → Vals xs its → PySem.W.EachIs (LotR h) its (ls.zip xs)
  | _, _, _, .nil, .nil => .nil
  | _, _, _, .cons a b, .cons c d => .cons (lotR_of k a c) (each_lots k b d)
theorem vals_lots {h : Heap} : ∀ {out : List Value} {bs : List (List Int × V)}, PySem.W.EachIs (LotR h) out bs → Vals (bs.map (·.2)) out
  | _, _, .nil => .nil
  | _, _, .cons a b => by
    refine .cons ?_ (vals_lots b)
    obtain ⟨t, its, e1, e2, _⟩ := a
    show L2.RelV (Prod.snd _) _
    rw [e1, e2]
    exact rfl
theorem zip_at {H : Hp} : ∀ {xs : List V} {ls : Hm.Lots}, LsAt H xs ls → ∀ b ∈ ls.zip xs, LotAt H b.2 b.1
  | _, _, .nil, _, hb => by cases hb
  | _, _, .cons a t, b, hb => by
    rcases List.mem_cons.mp hb with rfl | hb
    · exact a
    · exact zip_at t b hb
theorem at_zip {H : Hp} : ∀ {bs : List (List Int × V)}, (∀ b ∈ bs, LotAt H b.2 b.1) → LsAt H (bs.map (·.2)) (bs.map (·.1))
  | [], _ => .nil
  | b :: r, h => .cons (h b (List.mem_cons_self ..)) (at_zip fun c hc => h c (List.mem_cons_of_mem _ hc))
/-- sorted(e, key=lambda x: (len(x), x)), e lots -/
def tSortLots (K : PySem.W.Frag) (T : List (Addr × Str)) (te : TE) : TE := fun σ H Q => te σ H fun x H1 => Tabs T H1 ∧ ∀ H2, ExtN H1 H2 → Tabs T H2 → ∃ (a : Addr) (xs : List V) (ls : Hm.Lots), x = .ref a ∧ SqL K H2 a xs ∧ LsAt H2 xs ls ∧
  ∀ (p : Addr) (ys : List V) (ls' : Hm.Lots), H2 p = none → LsAt H2 ys ls' → ls'.Perm ls → ls'.Pairwise (fun a b => ¬ LtL b a) → Q (.ref p) (upd H2 p (.lst ys))
theorem pe_sortLots {X : Cx} {T : List (Addr × Str)} {c Pt : Addr} {e : Expr} {te : TE} {x : Str} {params : Arguments} {scope : Scope} {j : Nat} {p pos p0 p1 p2 p3 p5 lpos kp : Pos} {p4 : Nat} (hg : Gl X "sorted") (hm : X.mg "sorted" = none) (hm2 : X.mg "len" = none) (hr : Room j X.A) (he : PE X e te)
    (TB : LamX.TabB X.base X.mg c Pt) (hcode : X.env.code = .ref c) (hmT : (Pt, X.env.qual ++ "<lambda>") ∈ T) (hu : ∀ p ∈ T, p.1 = Pt → p.2 = X.env.qual ++ "<lambda>") (hdef : defaultsOf params X.env = ([], []))
    (hk : scope.kind = .function) (hco : scope.isCoroutine = false) (hgen : scope.isGenerator = false) (hnm : scope.names = [(x, .local), ("len", .globalImplicit)]) (hx : (x == ("__debug__" : Str)) = false) (hxl : (("len" : Str) == x) = false)
    (hbind : ∀ (q : Str) (pm cv ctv v : Value), bindArgs (PySem.W.kla_fn "<lambda>" q params (.Tuple [.Call (.Name "len" p0) [.Name x p1] [] p2, .Name x p3] p4 p5) scope [] pm cv ctv) ⟨[v], []⟩ = pure [(x, v)])
    (hs0 : starEach [e] X.env = (false, eval e X.env) :: starEach [] X.env := by rfl) (hst : backTo pos (starEach [e] X.env) = (false, eval e X.env) :: backTo pos (starEach [] X.env) := by rfl) (hpl : (backTo pos (starEach [e] X.env)).any (·.1) = false := by rfl)
    (hks : backToKw pos (keywordEach [⟨some (Str.ofString "key"), .Lambda params (.Tuple [.Call (.Name "len" p0) [.Name x p1] [] p2, .Name x p3] p4 p5) scope lpos, kp⟩] X.env) = [(some (Str.ofString "key"), do let v ← eval (.Lambda params (.Tuple [.Call (.Name "len" p0) [.Name x p1] [] p2, .Name x p3] p4 p5) scope lpos) X.env; standAt pos; pure v)] := by rfl) :
    PE X (.Call (.Name "sorted" p) [e] [⟨some (Str.ofString "key"), .Lambda params (.Tuple [.Call (.Name "len" p0) [.Name x p1] [] p2, .Name x p3] p4 p5) scope lpos, kp⟩] pos) (tSortLots X.K T te) := by
  refine ⟨fun pins s σ H Q I h => ?_⟩
  refine wpAny_Call_Name_kw (ld_blt I hg hm (u := .builtin "sorted") (by decide +kernel) ?_)
  have ha : PA X [e] (tCons te tNil) := pa_cons he pa_nil hs0
  refine PyProof.Rows.callWith_kw (thn (ha.run pos pins s σ H (fun vs H1 => ∃ x, vs = [x] ∧ Tabs T H1 ∧ ∀ H2, ExtN H1 H2 → Tabs T H2 → ∃ (a : Addr) (xs : List V) (ls : Hm.Lots), x = .ref a ∧ SqL X.K H2 a xs ∧ LsAt H2 xs ls ∧
      ∀ (p : Addr) (ys : List V) (ls' : Hm.Lots), H2 p = none → LsAt H2 ys ls' → ls'.Perm ls → ls'.Pairwise (fun a b => ¬ LtL b a) → Q (.ref p) (upd H2 p (.lst ys))) I ?_) fun us s1 hh => ?_) hst hpl (by rw [hks]; rfl) (by rw [hks]; rfl)
  · show te σ H _
    refine cast (congrArg (te σ H) (funext fun x => funext fun H1 => propext ⟨fun k => ⟨x, rfl, k⟩, ?_⟩)) h
    rintro ⟨y, e, k⟩
    cases e
    exact k
  · obtain ⟨vs, H1, I1, r1, y, rfl, T1, k⟩ := hh
    rw [hks]
    have hfree : ∀ y ∈ scope.names, y.2 = .free → ∃ c, X.env.cells.lookup y.1 = some c := fun y hy e => by
      rw [hnm] at hy
      simp at hy
      rcases hy with rfl | rfl <;> cases e
    have hclo : cloFrom X.env.cells scope.names [] = [] := by
      rw [hnm]
      rfl
    refine wpAny_evalAll_cons (wpAny_bind (lam_make2 I1 TB hcode hmT hu T1 hdef hfree fun f c' pm ctv H2 s2 I2 eN T2 hf hfn hfr hco2 => wpAny_bind (wpAny_standAt (wpAny_pure (wpAny_evalAll_nil ?_)))))
    rw [hclo] at hf
    obtain ⟨a, xs, ls, rfl, hq, hls, q⟩ := k H2 eN T2
    obtain ⟨u, rfl, r⟩ := vals1 r1
    obtain rfl : u = Value.ref a := r
    obtain ⟨its, rv, hl, hz⟩ := I2.list hq
    obtain ⟨⟨oc, vs, tt, g1, g2, g3⟩, _, _⟩ := I2.hok c' _ hco2
    have hx1 : xs.length = ls.length := hls.len
    have each := each_lots I2.hok hls rv
    have hbl : (ls.zip xs).length = ls.length := by rw [List.length_zip]; omega
    obtain ⟨mb, b1, b2⟩ := I2.mod.blt
    have hun := hr.units
    have hn := line63
    refine PySem.W.sorted_key_data (b := false) (fun b : List Int × V => keyD b.1) hl.isList each (PySem.W.AllAlike.of fun b b' => alike_keys b.1 b'.1) (PySem.W.Sortable.tuples fun b => ⟨_, _, rfl⟩) (by rw [hbl, ← hx1]; exact hz) (fun b _ => ?_) (ksk_s1 _ _) (fun _ => ksk_l1 _ _) (fun _ => ksk_t1 _ _)
      (fun v b hR _ h tk kp => ?_) fun out cc h' tk kp _ hD _ eo => ?_
    · have := depth_key b.1
      omega
    · obtain ⟨t, it, e1, e2, e3, e4, e5, e6⟩ := hR
      subst e2
      exact key_call (mg := X.mg) (mb := mb) (show X.A.depth < recursionLimit from hr.depth) (kp _ _ hf) ⟨c', oc, vs, tt, rfl, kp _ _ g1, g2, g3⟩ ((I2.mod.nolimit.keeps I2.bk).keeps kp) ((I2.mod.glob.keeps I2.bk).keeps kp) hm2 ((b1.keeps I2.bk).keeps kp) ((b2 "len" (by decide)).trans PySem.boot_len) hk hco hgen hnm hx hxl (fun v => hbind _ _ _ _ v) (e3.keeps kp) e4
        (by omega) (PyProof.Rows.Reads.keeps kp e6)
    · have hpm : (List.mergeSort (ls.zip xs) (PySem.W.dataLe false fun b : List Int × V => keyD b.1)).Perm (ls.zip xs) := List.mergeSort_perm ..
      have hsn := PySem.W.sort_pairwise (PySem.W.sortLe_total (listOrd itemOrd) false fun b : List Int × V => PySem.W.keyToks (keyD b.1)) (ls.zip xs)
      generalize hbs : List.mergeSort (ls.zip xs) (PySem.W.dataLe false fun b : List Int × V => keyD b.1) = bs at *
      have rv2 := vals_lots eo
      have hlen : (bs.map (·.2)).length ≤ sizeLine := by
        rw [List.length_map, hpm.length_eq, hbl, ← hx1]
        exact hz
      refine ⟨.ref _, upd H2 (s2.heap.objs.size + 1) (.lst (bs.map (·.2))), I2.laid (t' := tk) kp (Nat.le_succ _) ⟨hlen, out, cc, rv2, hD⟩, rfl, q _ _ (bs.map (·.1)) (I2.hok.fresh (Nat.le_succ _)) (at_zip fun b hb => zip_at hls b (hpm.mem_iff.mp hb)) ?_ ?_⟩
      · have e := hpm.map (·.1)
        rwa [List.map_fst_zip (by omega)] at e
      · rw [List.pairwise_map]
        refine List.Pairwise.imp (fun {b b'} hbb => ?_) (hbs ▸ hsn)
        have hbb : (!PySem.W.dataLt (keyD b'.1) (keyD b.1)) = true := hbb
        rw [lt_keys, Bool.not_eq_true', decide_eq_false_iff_not] at hbb
        exact hbb
end Lm
namespace Lm
open PySem PySem.Spec PyProof.Rows L2 LamX
def allL : Nat → Hm.Lots
  | 0 => [[]]
  | n + 1 => allL n ++ (allL n).map (· ++ [(n : Int)])
theorem allL_len : ∀ n, (allL n).length = 2 ^ n
  | 0 => rfl
  | n + 1 => by
    show (allL n ++ (allL n).map (· ++ [(n : Int)])).length = _
    rw [List.length_append, List.length_map, allL_len n, Nat.pow_succ]
    omega
theorem allL_each : ∀ n, ∀ l ∈ allL n, l.length ≤ n
  | 0, l, h => by
    have h : l ∈ [[]] := h
    rw [List.mem_singleton.mp h]
    exact Nat.zero_le _
  | n + 1, l, h => by
    have h : l ∈ allL n ++ (allL n).map (· ++ [(n : Int)]) := h
    rcases List.mem_append.mp h with h | h
    · exact Nat.le_succ_of_le (allL_each n l h)
    · obtain ⟨l', h', rfl⟩ := List.mem_map.mp h
      have := allL_each n l' h'
      rw [List.length_append]
      exact Nat.succ_le_succ this
theorem allL_mem : ∀ (n : Nat) (l : List Int), l ∈ allL n ↔ Hm.Asc l ∧ ∀ x ∈ l, 0 ≤ x ∧ x < (n : Int)
  | 0, l => by
    constructor
    · intro h
      have h : l ∈ [[]] := h
      rw [List.mem_singleton.mp h]
      exact ⟨.nil, fun _ z => nomatch z⟩
    · rintro ⟨_, h⟩
      cases l with
      | nil => exact List.mem_singleton.mpr rfl
      | cons x r =>
        have := h x (List.mem_cons_self ..)
        omega
  | n + 1, l => by
    show l ∈ allL n ++ (allL n).map (· ++ [(n : Int)]) ↔ _
    rw [List.mem_append]
    constructor
    · rintro (h | h)
      · obtain ⟨a, b⟩ := (allL_mem n l).mp h
        exact ⟨a, fun x hx => by have := b x hx; omega⟩
      · obtain ⟨l', h', rfl⟩ := List.mem_map.mp h
        obtain ⟨a, b⟩ := (allL_mem n l').mp h'
        refine ⟨asc_snoc a fun x hx => (b x hx).2, fun x hx => ?_⟩
        rcases List.mem_append.mp hx with hx | hx
        · have := b x hx
          omega
        · rw [List.mem_singleton.mp hx]
          omega
    · rintro ⟨a, b⟩
      rcases List.eq_nil_or_concat l with rfl | ⟨l', y, rfl⟩
      · exact .inl ((allL_mem n []).mpr ⟨.nil, fun _ z => nomatch z⟩)
      · rw [List.concat_eq_append] at *
        have hy := b y (List.mem_append_right _ (List.mem_singleton.mpr rfl))
        obtain ⟨a1, _, a3⟩ := List.pairwise_append.mp a
        have lt : ∀ x ∈ l', x < y := fun x hx => a3 x hx y (List.mem_singleton.mpr rfl)
        by_cases e : y = (n : Int)
        · subst e
          exact .inr (List.mem_map.mpr ⟨l', (allL_mem n l').mpr ⟨a1, fun x hx => ⟨(b x (List.mem_append_left _ hx)).1, lt x hx⟩⟩, rfl⟩)
        · refine .inl ((allL_mem n _).mpr ⟨a, fun x hx => ?_⟩)
          have hb := b x hx
          rcases List.mem_append.mp hx with hx | hx
          · have := lt x hx
            omega
          · rw [List.mem_singleton.mp hx] at hb ⊢
            omega
theorem ExtN.none {H H' : Hp} {f : Addr} (e : ExtN H H') (n : H' f = none) : ∀ b o, H b = some o → (∀ ps, o ≠ .tbl ps) → b ≠ f := fun b o h k z => by
  have := e b o h k
  rw [z, n] at this
  cases this
theorem LsAt.app {H : Hp} : ∀ {xs ys : List V} {ls ms : Hm.Lots}, LsAt H xs ls → LsAt H ys ms → LsAt H (xs ++ ys) (ls ++ ms)
  | _, _, _, _, .nil, h => h
  | _, _, _, _, .cons a t, h => .cons a (t.app h)
theorem LotAt.ext {H H' : Hp} {v : V} {l : List Int} (h : LotAt H v l) (e : ExtN H H') : LotAt H' v l := by
  obtain ⟨a, rfl, k⟩ := h
  exact ⟨a, rfl, e _ _ k fun _ z => by cases z⟩
theorem LsAt.ext {H H' : Hp} (e : ExtN H H') : ∀ {xs : List V} {ls : Hm.Lots}, LsAt H xs ls → LsAt H' xs ls
  | _, _, .nil => .nil
  | _, _, .cons a t => .cons (a.ext e) (t.ext e)
section
variable {P : Program} {w : World} {K : PySem.W.Frag} {mg : Str → Option Value} {base : Heap}
abbrev sAll : Stmt := topS 40
abbrev sLaw : Stmt := topS 42
def nAll : List Str := ["_law_many_here", "_law_found", "_law_gap", "_law_lot"]
theorem scAll : FnScope nAll ["_law_many_here"] (defScope sAll) := ⟨rfl, rfl, rfl, by decide +kernel, rfl, by decide +kernel, by decide +kernel⟩
/-- the tables of the law's lambdas, and of the one that sorts -/
def TT (Pt Pu : Addr) : List (Addr × Str) := [(Pt, (envOfC "law" (defScope sLaw) 0 0 .none).qual ++ "<lambda>"), (Pu, (envOfC "_law_all_lots" (defScope sAll) 0 0 .none).qual ++ "<lambda>")]
def spAll (T : List (Addr × Str)) : Sp := fun vs H Q _ => ∃ many : Nat, vs = [.int (many : Nat)] ∧ many ≤ 8 ∧ Tabs T H ∧
  ∀ (H' : Hp) (f : Addr) (ys : List V) (ls : Hm.Lots), ExtN H H' → Tabs T H' → (∀ b o, H b = some o → (∀ ps, o ≠ .tbl ps) → b ≠ f) → H' f = some (.lst ys) → LsAt H' ys ls → ls.Perm (allL many) → ls.Pairwise (fun a b => ¬ LtL b a) → Q (.ref f) H'
theorem ok_all {f c Pt Pu : Addr} {oc kV doc pm ct : Value} {od an : Option Addr} {osl : Array (Option Value)} (lk : K.lookup f = some ⟨oc, od, .func (PySem.W.fnOf "_law_all_lots" "_law_all_lots" (defArgs sAll) (defBody sAll) (defScope sAll) .none kV doc pm an (.ref c) ct), osl⟩) (hcd : PySem.W.codeIn K (.ref c) "_law_all_lots" = true)
    (N : Bl mg) (TB : LamX.TabB base mg c Pu) (ne : Pt ≠ Pu) :
    FnOk P w K mg base CX0 4 f (PySem.W.fnOf "_law_all_lots" "_law_all_lots" (defArgs sAll) (defBody sAll) (defScope sAll) .none kV doc pm an (.ref c) ct) ["_law_many_here"] (spAll (TT Pt Pu)) := by
  refine fn_of lk hcd scAll (fun vs H Q E h => ?_) fun A outer s H vs Q E hr h => ?_
  · obtain ⟨many, rfl, _⟩ := h
    rfl
  · obtain ⟨many, rfl, m8, hT, q⟩ := h
    suffices hh : ∃ t, PSs (cxOf CX0 P w K mg base nAll "_law_all_lots" (defScope sAll) f (.ref c) A outer s H E).nox (defBody sAll) t ∧ t { nx := fun _ H' => Q .non H', rt := Q } (L2.start nAll [.int (many : Nat)]) H by
      obtain ⟨t, h1, h2⟩ := hh
      exact ⟨t, h1.nox, h2⟩
    refine ⟨_, pss_cons (ps_set (i := 1) scAll.nd rfl (.inl rfl) (pe_lst (pa_cons (pe_tup pa_nil) pa_nil)))
      (pss_cons (ps_for PassesOwn.never rfl (pi_range1 (by rfl) N.brng (pa_cons (pv 0) pa_nil)) (pg_name (i := 2) scAll.nd rfl (.inr rfl))
        (pss_one (ps_set (i := 1) scAll.nd rfl (.inl rfl) (pe_op op_cat (pv 1) (pe_lc (own := [("_law_lot", 3)]) (g := gName 3) (tt := tYes) rfl scAll.nd (pi_listK K (pv 1)) (blkOk_by (own := [("_law_lot", 3)]) (N := nAll) (sc := defScope sAll) (by decide +kernel)) (fun _ _ _ _ _ => pg_name (i := 3) scAll.nd rfl (Or.inl rfl))
          (fun _ _ _ _ _ => pts_nil) (fun _ _ _ _ _ => pe_op (show OpR _ _ (rCatA K) from op_catA) (pv 3) (pe_tup (pa_cons (pv 2) pa_nil))))))))
      (pss_one (ps_ret (pe_sortLots (T := TT Pt Pu) (x := "_law_lot") (by rfl) N.bsrt N.blen hr (pv 1) TB rfl (List.mem_cons_of_mem _ (List.mem_cons_self ..)) (fun p hp e => ?_) rfl rfl rfl rfl rfl (by decide) (by decide) (fun _ _ _ _ _ => rfl))))), ?_⟩
    · rcases List.mem_cons.mp hp with rfl | hp
      · exact absurd e ne
      · rw [List.mem_singleton.mp hp]
        rfl
    · refine ⟨by show 0 ≤ sizeLine; decide, fun t0 nt0 => ?_⟩
      have s0 : Same H (upd H t0 (.tup [])) := same_upd nt0
      have ht0 : (upd H t0 (.tup [])) t0 = some (.tup []) := upd_same
      generalize upd H t0 (.tup []) = H0 at *
      refine ⟨by show 1 ≤ sizeLine; decide, fun p0 np0 => ?_⟩
      have s1 : Same H (upd H0 p0 (.lst [.ref t0])) := fun b o e => same_upd np0 b o (s0 b o e)
      have hp0 : (upd H0 p0 (.lst [.ref t0])) p0 = some (.lst [.ref t0]) := upd_same
      have ht1 : (upd H0 p0 (.lst [.ref t0])) t0 = some (.tup []) := same_upd np0 _ _ ht0
      generalize upd H0 p0 (.lst [.ref t0]) = H1 at *
      refine ⟨_, rfl, _, rfl, by omega, by omega, for_range (fun i σ H' => Same H H' ∧ ∃ (p : Addr) (ys : List V) (x2 x3 : Option V), σ = [some (.int (many : Nat)), some (.ref p), x2, x3] ∧ H' p = some (.lst ys) ∧ LsAt H' ys (allL i)) ⟨s1, p0, [.ref t0], none, none, rfl, hp0, .cons ⟨t0, rfl, ht1⟩ .nil⟩ ?_ ?_⟩
      · rintro i σ H' hi ⟨s2, p, ys, x2, x3, rfl, hp, hy⟩
        have hl := hy.len
        have hi8 : i < 8 := by omega
        have hp2 : ys.length ≤ 128 := by
          rw [hl, allL_len]
          exact Nat.pow_le_pow_right (n := 2) (by decide) (show i ≤ 7 by omega)
        refine ⟨_, rfl, _, rfl, p, rfl, ⟨_, SqL.of hp⟩, fun R nR => lc_list (K := K) (a := p) (xs := ys) (fun j H'' => Same H' H'' ∧ ∃ zs, H'' R = some (.lst zs) ∧ LsAt H'' zs (((allL i).take j).map (· ++ [(i : Int)]))) ⟨same_upd nR, [], upd_same, .nil⟩ (fun j H'' _ h => SqL.of (h.1 _ _ hp)) ?_ ?_⟩
        · rintro j x H'' hx ⟨s3, zs, hR, hz⟩
          obtain ⟨l, hli, b, rfl, hb⟩ := hy.get hx
          have hj : j < ys.length := (List.getElem?_eq_some_iff.mp hx).1
          have ll := allL_each i l (List.mem_of_getElem? hli)
          have hzl : zs.length ≤ 128 := by
            rw [hz.len, List.length_map, List.length_take]
            omega
          have st : ((allL i).take (j + 1)).map (· ++ [(i : Int)]) = ((allL i).take j).map (· ++ [(i : Int)]) ++ [l ++ [(i : Int)]] := by
            rw [List.take_add_one, hli, List.map_append]
            rfl
          refine ⟨rfl, _, rfl, _, rfl, by show 1 ≤ sizeLine; decide, fun u nu => ?_⟩
          have s4 : Same H'' (upd H'' u (.tup [.int (0 + (i : Int))])) := same_upd nu
          have hu : (upd H'' u (.tup [.int (0 + (i : Int))])) u = some (.tup [.int (0 + (i : Int))]) := upd_same
          generalize upd H'' u (.tup [.int (0 + (i : Int))]) = H3 at *
          have hb3 := s4 _ _ (s3 _ _ hb)
          have fin : ∀ (H4 : Hp) (r : Addr), Same H3 H4 → H4 r = some (.tup ((l ++ [(i : Int)]).map V.int)) → H4 R = some (.lst zs) ∧ zs.length < sizeLine ∧ Same H' (upd H4 R (.lst (zs ++ [V.ref r]))) ∧ ∃ zs', (upd H4 R (.lst (zs ++ [V.ref r]))) R = some (.lst zs') ∧ LsAt (upd H4 R (.lst (zs ++ [V.ref r]))) zs' (((allL i).take (j + 1)).map (· ++ [(i : Int)])) := by
            intro H4 r s5 hr4
            have s45 : Same H'' H4 := fun b o e => s5 b o (s4 b o e)
            have hR4 := s45 _ _ hR
            refine ⟨hR4, small1000 (by omega), same_put (fun b o e => s45 b o (s3 b o e)) nR, _, upd_same, ?_⟩
            rw [st]
            exact LsAt.snoc (LotAt.off (no_tup hR4) ⟨r, rfl, hr4⟩) ((hz.sm s45).off (no_tup hR4))
          refine ⟨b, u, _, _, rfl, rfl, SqT.of hb3, SqT.of hu, ?_, fun e => ?_, fun _ e => ?_, fun _ _ r nr => ?_⟩
          · rw [List.length_map]
            exact small10000 (by show l.length + 1 ≤ 10000; omega)
          · obtain rfl : l = [] := by simpa using e
            obtain ⟨k1, k2, k3, k4⟩ := fin H3 u (fun _ _ z => z) (by rw [hu, Int.zero_add]; rfl)
            exact ⟨_, k1, k2, k3, k4⟩
          · cases e
          · obtain ⟨k1, k2, k3, k4⟩ := fin (upd H3 r (.tup (l.map V.int ++ [.int (0 + (i : Int))]))) r (same_upd nr) (by rw [upd_same, Int.zero_add, List.map_append]; rfl)
            exact ⟨_, k1, k2, k3, k4⟩
        · rintro H'' ⟨s3, zs, hR, hz⟩
          rw [hl, List.take_length] at hz
          refine ⟨p, R, ys, zs, rfl, rfl, s3 _ _ hp, hR, ?_, fun p2 np2 => ?_⟩
          · have : zs.length = (allL i).length := by rw [hz.len, List.length_map]
            exact small10000 (by omega)
          · have s4 : Same H'' (upd H'' p2 (.lst (ys ++ zs))) := same_upd np2
            refine ⟨fun b o e => s4 b o (s3 b o (s2 b o e)), p2, ys ++ zs, _, _, rfl, upd_same, ?_⟩
            exact LsAt.app ((hy.sm s3).sm s4) (hz.sm s4)
      · rintro σ H' ⟨s2, p, ys, x2, x3, rfl, hp, hy⟩
        refine ⟨_, rfl, hT.ext s2, fun H2 eN T2 => ⟨p, ys, _, rfl, SqL.of (eN _ _ hp fun _ z => by cases z), hy.ext eN, fun r zs ls' nr hz hpm hs => ?_⟩⟩
        have e02 : ExtN H H2 := (ExtN.of s2).trans eN
        have s5 : Same H2 (upd H2 r (.lst zs)) := same_upd nr
        rw [Int.toNat_natCast] at hpm
        exact q _ r zs ls' (e02.trans (.of s5)) (T2.ext s5) (ExtN.none e02 nr) upd_same (hz.sm s5) hpm hs
end
end Lm
namespace Lm
open PySem PySem.Spec PyProof.Rows L2 LamX
/-! ### the heap without one object -/
def hid (p : Addr) (H : Hp) : Hp := fun b => if b = p then none else H b
theorem hid_at {p b : Addr} {H : Hp} {o : HO} (h : hid p H b = some o) : b ≠ p ∧ H b = some o := by
  have h : (if b = p then none else H b) = some o := h
  by_cases e : b = p
  · rw [if_pos e] at h
    cases h
  · rw [if_neg e] at h
    exact ⟨e, h⟩
theorem hid_of {p b : Addr} {H : Hp} {o : HO} (n : b ≠ p) (h : H b = some o) : hid p H b = some o := (if_neg n).trans h
theorem hid_sm {p : Addr} {H H' : Hp} (s : Same H H') : Same (hid p H) (hid p H') := fun b o e => by
  obtain ⟨n, h⟩ := hid_at e
  exact hid_of n (s _ _ h)
theorem hid_fr {p : Addr} {D : DrA} {H H' : Hp} (f : Fr D H H') : Fr D (hid p H) (hid p H') := fun b o e n1 n2 => by
  obtain ⟨n, h⟩ := hid_at e
  exact hid_of n (f _ _ h n1 n2)
theorem hid_put {p : Addr} {H : Hp} {o : HO} : Same (hid p H) (upd H p o) := fun b x e => by
  obtain ⟨n, h⟩ := hid_at e
  rw [upd_ne n]
  exact h
/-! ### rows of data that keep R -/
def Pk (R : PyData → Prop) (D : DrA) (H : Hp) (xs : List V) : Prop := ∃ ds, DaAll D H xs ds ∧ ∀ d ∈ ds, R d
section
variable {R : PyData → Prop} {D : DrA} {n : Nat} {H H' : Hp} {xs : List V} {v : V} {d : PyData} {Q : VK}
theorem Pk.nil : Pk R D H [] := ⟨[], .nil, fun _ z => nomatch z⟩
theorem Pk.add (h : Pk R D H xs) (s : Same H H') (hv : Da D H' v d) (r : R d) : Pk R D H' (xs ++ [v]) := by
  obtain ⟨ds, h1, h2⟩ := h
  refine ⟨ds ++ [d], (h1.sm s).app (.cons hv .nil), fun e he => ?_⟩
  rcases List.mem_append.mp he with he | he
  · exact h2 e he
  · rw [List.mem_singleton.mp he]
    exact r
theorem Pk.sm (h : Pk R D H xs) (s : Same H H') : Pk R D H' xs := by
  obtain ⟨ds, h1, h2⟩ := h
  exact ⟨ds, h1.sm s, h2⟩
variable {p0 p : Addr} {ys : List V} {ds : List PyData} {o0 : HO}
theorem hid_tup (dr : DrawAt D n H) (h : DaAll D (hid p0 H) ys ds) (np : H p = none) (hp : H p0 = some o0) : Same H (upd H p (.tup ys)) ∧ DrawAt D n (upd H p (.tup ys)) ∧ Da D (hid p0 (upd H p (.tup ys))) (.ref p) (.tuple ds) :=
  ⟨same_upd np, dr.new np, .tup (hid_of (fun z => by rw [z, hp] at np; cases np) upd_same) (dr.off np).1 (dr.off np).2 (h.sm (hid_sm (same_upd np)))⟩
theorem hid_lst (dr : DrawAt D n H) (h : DaAll D (hid p0 H) ys ds) (np : H p = none) (hp : H p0 = some o0) : Same H (upd H p (.lst ys)) ∧ DrawAt D n (upd H p (.lst ys)) ∧ Da D (hid p0 (upd H p (.lst ys))) (.ref p) (.list ds) :=
  ⟨same_upd np, dr.new np, .lst (hid_of (fun z => by rw [z, hp] at np; cases np) upd_same) (dr.off np).1 (dr.off np).2 (h.sm (hid_sm (same_upd np)))⟩
theorem hid_emp (dr : DrawAt D n H) (np : H p = none) (hp : H p0 = some o0) : Same H (upd H p (.dK [])) ∧ DrawAt D n (upd H p (.dK [])) ∧ Da D (hid p0 (upd H p (.dK []))) (.ref p) (.dict []) :=
  ⟨same_upd np, dr.new np, .emp (hid_of (fun z => by rw [z, hp] at np; cases np) upd_same) (dr.off np).1 (dr.off np).2⟩
theorem pick_P {l : Addr} {E : XK} (dr : DrawAt D n H) (hn : n + 1 ≤ B) (G : Hp → Hp) (gf : ∀ {H'}, Fr D H H' → Fr D (G H) (G H')) (h : Pk R D (G H) xs) (hl : H l = some (.lst xs)) (h0 : xs ≠ []) (h1 : xs.length < 1073741824) (lw : l ≠ D.w)
    (q : ∀ (H' : Hp) (v : V) (d : PyData), DrawAt D (n + 1) H' → Fr D H H' → R d → Da D (G H') v d → Q v H') : spPick [.ref D.d, .ref l] H Q E := by
  obtain ⟨ds, h2, h3⟩ := h
  refine ⟨D, n, l, xs, rfl, dr, hn, hl, lw, h0, h1, fun H' i v e d' f' => ?_⟩
  obtain ⟨d, k2, k3⟩ := (h2.fr (gf f').t).get e
  exact q H' v d d' f' (h3 d (List.mem_of_getElem? k2)) k3
end
theorem daAll_set {D : DrA} {H : Hp} {v : V} {d : PyData} (hv : Da D H v d) : ∀ {xs : List V} {ds : List PyData} (j : Nat), DaAll D H xs ds → DaAll D H (xs.set j v) (ds.set j d)
  | _, _, _, .nil => .nil
  | _, _, 0, .cons _ t => .cons hv t
  | _, _, j + 1, .cons a t => .cons a (daAll_set hv j t)
theorem daAll_rep {D : DrA} {H : Hp} {v : V} {d : PyData} (hv : Da D H v d) : ∀ k : Nat, DaAll D H (List.replicate k [v]).flatten (List.replicate k d)
  | 0 => .nil
  | k + 1 => .cons hv (daAll_rep hv k)
/-! ### no lots -/
def NG (many : Int) (d : PyData) : Prop := ¬ GapIs many d ∧ lenD d ≤ 1000
theorem ng_kind {many : Int} {d : PyData} (h : isTup d = false) (l : lenD d ≤ 1000) : NG many d := by
  refine ⟨?_, l⟩
  rintro ⟨ls, rfl, _⟩
  cases h
theorem ng_int {many x : Int} (h : ¬ (0 ≤ x ∧ x < many)) : NG many (.tuple [.int x]) := by
  refine ⟨?_, Nat.le_of_ble_eq_true rfl⟩
  rintro ⟨l, e, k, _⟩
  injection e with e
  have : [x] = l := map_int_inj e
  subst this
  exact h (k x (List.mem_cons_self ..))
theorem ng_two {many x y : Int} (h : ¬ x < y) : NG many (.tuple [.int x, .int y]) := by
  refine ⟨?_, Nat.le_of_ble_eq_true rfl⟩
  rintro ⟨l, e, _, k⟩
  injection e with e
  have : [x, y] = l := map_int_inj e
  subst this
  exact h ((List.pairwise_cons.mp k).1 y (List.mem_cons_self ..))
theorem ng_head {many : Int} {d : PyData} (h : ∀ i, d ≠ .int i) : NG many (.tuple [d]) := by
  refine ⟨?_, Nat.le_of_ble_eq_true rfl⟩
  rintro ⟨l, e, _, _⟩
  injection e with e
  cases l with
  | nil => cases e
  | cons a r =>
    injection e with e
    exact h a e
theorem ng_bool {many : Int} {b : Bool} : NG many (.tuple [.bool b]) := ng_head fun _ z => by cases z
theorem ng_str {many : Int} {x : Str} : NG many (.tuple [.str x]) := ng_head fun _ z => by cases z
/-- what is refused, and where -/
def Bent (many : Int) (d : PyData) (x : V) : Prop := (∃ (i : Nat) (ds : List PyData), x = .int (i : Nat) ∧ i ≤ 400 ∧ rowsD d = some ds ∧ ds.length ≤ 400 ∧ BadAt many ds i) ∨ (x = .non ∧ ∀ ds, rowsD d = some ds → 400 < ds.length)
theorem none_fr {D : DrA} {H H' : Hp} {t : Addr} (f : Fr D H H') (n : H' t = none) (n1 : t ≠ D.d) (n2 : t ≠ D.w) : H t = none := by
  cases e : H t with
  | none => rfl
  | some o =>
    rw [f _ _ e n1 n2] at n
    cases n
theorem sized_rows {d : PyData} {ds : List PyData} (h : rowsD d = some ds) (hl : ds.length ≤ 1000) (hk : ∀ e ∈ ds, lenD e ≤ 1000) : Sized d := by
  constructor
  · cases d with
    | list es => cases h; exact hl
    | tuple es => cases h; exact hl
    | none => exact Nat.zero_le _
    | bool _ => exact Nat.zero_le _
    | int _ => exact Nat.zero_le _
    | str _ => exact Nat.zero_le _
    | dict _ => exact Nat.zero_le _
  · intro es he
    rw [h] at he
    cases he
    exact hk
/-- no row of at most 400 -/
def NR (d : PyData) : Prop := (∀ ds, rowsD d = some ds → 400 < ds.length) ∧ Sized d
theorem nr_kind {d : PyData} (h : rowsD d = none) (l : lenD d = 0) : NR d := by
  refine ⟨fun ds e => ?_, ?_, fun ds e => ?_⟩
  · rw [h] at e
    cases e
  · rw [l]
    exact Nat.zero_le _
  · rw [h] at e
    cases e
theorem nr_long : NR (.list (List.replicate (Int.toNat 401) (.tuple []))) := by
  have e : ∀ ds, rowsD (.list (List.replicate (Int.toNat 401) (.tuple []))) = some ds → ds = List.replicate (Int.toNat 401) (.tuple []) := fun ds h => by cases h; rfl
  refine ⟨fun ds h => ?_, ?_, fun ds h d hd => ?_⟩
  · rw [e ds h, List.length_replicate]
    decide
  · show (List.replicate (Int.toNat 401) (PyData.tuple [])).length ≤ 1000
    rw [List.length_replicate]
    decide
  · rw [e ds h] at hd
    rw [List.eq_of_mem_replicate hd]
    exact Nat.zero_le _
section
variable {P : Program} {w : World} {K : PySem.W.Frag} {mg : Str → Option Value} {base : Heap}
abbrev sBent : Stmt := topS 41
def nBent : List Str := ["_law_state", "_law_many_here", "_law_lots", "_law_found", "_law_spot", "_law_some"]
theorem scBent : FnScope nBent ["_law_state", "_law_many_here", "_law_lots"] (defScope sBent) := ⟨rfl, rfl, rfl, by decide +kernel, rfl, by decide +kernel, by decide +kernel⟩
def spBent : Sp := fun vs H Q _ => ∃ (D : DrA) (n : Nat) (many : Int) (a : Addr) (xs : List V) (ls : Hm.Lots), vs = [.ref D.d, .int many, .ref a] ∧ DrawAt D n H ∧ n + 4 ≤ B ∧ 1 ≤ many ∧ many ≤ 8 ∧ H a = some (.lst xs) ∧ LsAt H xs ls ∧ ls ≠ [] ∧ ls.length ≤ 10 ∧ GapsOk many ls ∧
  ∀ (H' : Hp) (t : Addr) (v x : V) (d : PyData), H t = none → H' t = some (.tup [v, x]) → Da D H' v d → Sized d → Bent many d x → DrawAt D (n + 4) H' → Fr D H H' → Q (.ref t) H'
theorem ok_bent {f : Addr} {fd : FuncData} (F : Fun K "_law_bent_lots" "_law_bent_lots" sBent f fd) (N : Bl mg) (GT : Has P w K mg base CX0 2 "_law_draw" ["_law_state", "_law_size_here"] spTake) (GP : Has P w K mg base CX0 3 "_law_pick" ["_law_state", "_law_several"] spPick) :
    FnOk P w K mg base CX0 4 f fd ["_law_state", "_law_many_here", "_law_lots"] spBent := by
  refine F.ok scBent (fun vs H Q E h => ?_) (fun cdv A outer s H vs Q E hr h => ?_)
  · obtain ⟨D, n, many, a, xs, ls, rfl, _⟩ := h
    rfl
  · obtain ⟨D, n, many, a, xs, ls, rfl, dr, hn, m1, m8, ha, hls, l0, l10, hk, q⟩ := h
    have hu := hu_of hr
    refine ⟨_, pss_cons (ps_par (i := 3) (j := 4) rfl scBent.nd rfl rfl (by decide) rfl rfl (pa_cons (pe_callTy call_list_of (by rfl) N.blist (by decide +kernel) (pa_cons (pv 2) pa_nil)) (pa_cons (pe_h GT hr (by decide) (by rfl) pass0 (pa_cons (pv 0) (pa_cons (pe_callB call_len_seq (by rfl) N.blen PySem.boot_len (pa_cons (pv 2) pa_nil)) pa_nil))) pa_nil)) rfl)
      (pss_cons (ps_set (i := 5) scBent.nd rfl (.inl rfl) (pe_lst (pa_cons pe_non (pa_cons (pe_lst (pa_cons pe_int pa_nil)) (pa_cons (pe_tup (pa_cons (pv 1) pa_nil)) (pa_cons (pe_tup (pa_cons (pe_un un_neg pe_int) pa_nil)) (pa_cons (pe_tup (pa_cons pe_int (pa_cons pe_int pa_nil)))
          (pa_cons (pe_tup (pa_cons pe_bl pa_nil)) (pa_cons (pe_tup (pa_cons pe_str pa_nil)) (pa_cons pe_int (pa_cons pe_dnewK (pa_cons pe_str pa_nil))))))))))))
      (C8.pss_cut (ps_if (pt_cmpR op_gt (pv 1) pe_int (nomark _)) (pss_one (ps_expr (pe_bm PySem.F.plainAttrs_list PySem.F.slot_list_append PySem.F.type_list_append mt_append (pv 5) (pa_cons (pe_tup (pa_cons pe_int (pa_cons pe_int pa_nil))) pa_nil)))) pss_nil)
      (pss_cons (ps_asg (pe_h GP hr (by decide) (by rfl) pass0 (pa_cons (pv 0) (pa_cons (pv 5) pa_nil))) (pg_sub (pv 3) (pv 4) set_list))
      (pss_cons (ps_if (pt_cmpR op_gt (pe_h GT hr (by decide) (by rfl) pass0 (pa_cons (pv 0) (pa_cons pe_int pa_nil))) pe_int (nomark _))
        (pss_one (ps_ret (pe_tup (pa_cons (pe_h GP hr (by decide) (by rfl) pass0 (pa_cons (pv 0) (pa_cons (pe_lst (pa_cons (pv 3) (pa_cons (pe_callTy call_tuple_of (by rfl) N.btup (by decide +kernel) (pa_cons (pv 3) pa_nil)) pa_nil))) pa_nil))) (pa_cons (pv 4) pa_nil))))) pss_nil)
      (pss_one (ps_ret (pe_tup (pa_cons (pe_h GP hr (by decide) (by rfl) pass0 (pa_cons (pv 0) (pa_cons (pe_lst (pa_cons pe_non (pa_cons pe_dnewK (pa_cons pe_int (pa_cons pe_str (pa_cons (pe_op op_rep (pe_lst (pa_cons (pe_tup pa_nil) pa_nil)) pe_int) pa_nil)))))) pa_nil))) (pa_cons pe_non pa_nil))))))))), ?_⟩
    have hxl := hls.len
    refine ⟨_, rfl, a, xs, rfl, .inl (SqL.of ha), fun p0 np0 => ?_⟩
    have s0 : Same H (upd H p0 (.lst xs)) := same_upd np0
    have o0 := dr.off np0
    have hp0 : (upd H p0 (.lst xs)) p0 = some (.lst xs) := upd_same
    have d0 := dr.new np0 (o := .lst xs)
    have ha0 := s0 _ _ ha
    have hls0 := hls.sm s0
    have fr0 : Fr D H (upd H p0 (.lst xs)) := .of s0
    generalize upd H p0 (.lst xs) = H0 at *
    have hpos : 0 < xs.length := by
      rw [hxl]
      exact List.length_pos_iff.mpr l0
    refine ⟨_, rfl, _, rfl, a, xs, rfl, .inl (SqL.of ha0), D, n, _, rfl, d0, by omega, by omega, by omega, fun H1 v0 d1 f1 v00 v01 => ?_⟩
    obtain ⟨j, rfl⟩ : ∃ j : Nat, v0 = (j : Int) := ⟨v0.toNat, by omega⟩
    have hj : j < xs.length := by omega
    have hp1 := f1 _ _ hp0 o0.1 o0.2
    have hls1 := hls0.fr d0 f1
    have fr1 : Fr D H H1 := fr0.trans f1
    refine ⟨_, _, rfl, ?_⟩
    have k1 : Pk (NG many) D (hid p0 H1) [.non] := Pk.nil.add (fun _ _ z => z) .non (ng_kind rfl (Nat.zero_le _))
    refine ⟨by show 1 ≤ sizeLine; decide, fun p2 np2 => ?_⟩
    obtain ⟨s2, d2, h2⟩ := hid_lst d1 (.cons (.int 0) .nil) np2 hp1
    have hp2 := s2 _ _ hp1
    have k2 := (k1.add (hid_sm s2) h2 (ng_kind rfl (Nat.le_of_ble_eq_true rfl)))
    generalize upd H1 p2 (.lst [.int 0]) = H2 at *
    refine ⟨_, rfl, ?_⟩
    refine ⟨by show 1 ≤ sizeLine; decide, fun p3 np3 => ?_⟩
    obtain ⟨s3, d3, h3⟩ := hid_tup d2 (.cons (.int many) .nil) np3 hp2
    have hp3 := s3 _ _ hp2
    have k3 := (k2.add (hid_sm s3) h3 (ng_int (by omega)))
    generalize upd H2 p3 (.tup [.int many]) = H3 at *
    refine ⟨1, rfl, ?_⟩
    refine ⟨by show 1 ≤ sizeLine; decide, fun p4 np4 => ?_⟩
    obtain ⟨s4, d4, h4⟩ := hid_tup d3 (.cons (.int (-1)) .nil) np4 hp3
    have hp4 := s4 _ _ hp3
    have k4 := (k3.add (hid_sm s4) h4 (ng_int (by omega)))
    generalize upd H3 p4 (.tup [.int (-1)]) = H4 at *
    refine ⟨by show 2 ≤ sizeLine; decide, fun p5 np5 => ?_⟩
    obtain ⟨s5, d5, h5⟩ := hid_tup d4 (.cons (.int 0) (.cons (.int 0) .nil)) np5 hp4
    have hp5 := s5 _ _ hp4
    have k5 := (k4.add (hid_sm s5) h5 (ng_two (by omega)))
    generalize upd H4 p5 (.tup [.int 0, .int 0]) = H5 at *
    refine ⟨by show 1 ≤ sizeLine; decide, fun p6 np6 => ?_⟩
    obtain ⟨s6, d6, h6⟩ := hid_tup d5 (.cons (.bl true) .nil) np6 hp5
    have hp6 := s6 _ _ hp5
    have k6 := (k5.add (hid_sm s6) h6 (ng_bool))
    generalize upd H5 p6 (.tup [.bl true]) = H6 at *
    refine ⟨by show 1 ≤ sizeLine; decide, fun p7 np7 => ?_⟩
    obtain ⟨s7, d7, h7⟩ := hid_tup d6 (.cons (.str "0") .nil) np7 hp6
    have hp7 := s7 _ _ hp6
    have k7 := (k6.add (hid_sm s7) h7 (ng_str))
    generalize upd H6 p7 (.tup [.str "0"]) = H7 at *
    have k7 := k7.add (fun _ _ z => z) (.int 0) (ng_kind rfl (Nat.zero_le _))
    refine fun p8 np8 => ?_
    obtain ⟨s8, d8, h8⟩ := hid_emp d7 np8 hp7
    have hp8 := s8 _ _ hp7
    have k8 := (k7.add (hid_sm s8) h8 (ng_kind rfl (Nat.zero_le _)))
    generalize upd H7 p8 (.dK []) = H8 at *
    have k8 := k8.add (fun _ _ z => z) (.str "0") (ng_kind rfl (Nat.zero_le _))
    refine ⟨by show 10 ≤ sizeLine; decide, fun pz npz => ?_⟩
    have oz := d8.off npz
    have k8 : Pk (NG many) D (hid p0 H8) [.non, .ref p2, .ref p3, .ref p4, .ref p5, .ref p6, .ref p7, .int 0, .ref p8, .str "0"] := k8
    have s18 : Same H1 H8 := s2.trans (s3.trans (s4.trans (s5.trans (s6.trans (s7.trans s8)))))
    have sz := same_upd (o := .lst [.non, .ref p2, .ref p3, .ref p4, .ref p5, .ref p6, .ref p7, .int 0, .ref p8, .str "0"]) npz
    have nz0 : pz ≠ p0 := fun z => by rw [z, hp8] at npz; cases npz
    refine ⟨fun σ H' => σ = [some (.ref D.d), some (.int many), some (.ref a), some (.ref p0), some (.int (j : Nat)), some (.ref pz)] ∧ ∃ zs : List V, H' pz = some (.lst zs) ∧ zs ≠ [] ∧ zs.length ≤ 20 ∧ Pk (NG many) D (hid p0 H') zs ∧ DrawAt D (n + 1) H' ∧ Fr D H1 H' ∧ H' p0 = some (.lst xs) ∧ LsAt H' xs ls, ?_, ?_⟩
    · refine ⟨_, rfl, _, _, rfl, rfl, _, rfl, ite2 (fun c => ?_) (fun c => ?_)⟩
      · refine ⟨_, rfl, .inl ⟨rfl, _, SqL.of upd_same⟩, by show 2 ≤ sizeLine; decide, fun p9 np9 => ?_⟩
        have hpz := same_upd (o := .tup [.int 1, .int 0]) np9 _ _ (upd_same (H := H8) (a := pz) (o := .lst [.non, .ref p2, .ref p3, .ref p4, .ref p5, .ref p6, .ref p7, .int 0, .ref p8, .str "0"]))
        have s9 := same_upd (o := .tup [.int 1, .int 0]) np9
        have np9' : H8 p9 = none := none_of sz np9
        have n9z : p9 ≠ pz := fun z => by rw [z, upd_same] at np9; cases np9
        obtain ⟨s9', d9', h9'⟩ := hid_tup d8 (.cons (.int 1) (.cons (.int 0) .nil)) np9' hp8
        have k9 := k8.add (hid_sm s9') h9' (ng_two (many := many) (by omega))
        have sub9 : Same (upd H8 p9 (.tup [.int 1, .int 0])) (upd (upd (upd H8 pz (.lst [.non, .ref p2, .ref p3, .ref p4, .ref p5, .ref p6, .ref p7, .int 0, .ref p8, .str "0"])) p9 (.tup [.int 1, .int 0])) pz (.lst ([.non, .ref p2, .ref p3, .ref p4, .ref p5, .ref p6, .ref p7, .int 0, .ref p8, .str "0"] ++ [.ref p9]))) := fun b o e => by
          by_cases e9 : b = p9
          · rw [e9] at e ⊢
            rw [upd_ne n9z, upd_same]
            rwa [upd_same] at e
          · rw [upd_ne e9] at e
            have ez := ne_of_none e npz
            rw [upd_ne ez, upd_ne e9, upd_ne ez]
            exact e
        have s19 := (s18.trans sz).trans s9
        generalize upd (upd H8 pz (.lst [.non, .ref p2, .ref p3, .ref p4, .ref p5, .ref p6, .ref p7, .int 0, .ref p8, .str "0"])) p9 (.tup [.int 1, .int 0]) = H9 at *
        have pzd : pz ≠ D.d ∧ pz ≠ D.w := oz
        have sub : Same H1 (upd H9 pz (.lst ([.non, .ref p2, .ref p3, .ref p4, .ref p5, .ref p6, .ref p7, .int 0, .ref p8, .str "0"] ++ [.ref p9]))) := fun b o e => by
          rw [upd_ne (ne_of_none (s18 _ _ e) npz)]
          exact s19 b o e
        refine ⟨pz, _, _, rfl, rfl, hpz, small1000 (Nat.le_of_ble_eq_true rfl), rfl, _, upd_same, by simp, by simp, ?_, ?_, .of sub, sub _ _ hp1, hls1.sm sub⟩
        · exact k9.sm (hid_sm sub9)
        · exact d1.sm sub
      · exact ⟨rfl, _, upd_same, by simp, by simp, k8.sm (hid_sm sz), d8.new npz, .of (s18.trans sz), sz _ _ hp8, (hls1.sm s18).sm sz⟩
    · rintro σ H' ⟨rfl, zs, hz, z0, z20, kz, dz, fz, hp', hls'⟩
      refine ⟨_, rfl, _, rfl, pick_P (E := C8.E0) dz (by omega) (hid p0) hid_fr kz hz z0 (by omega) oz.2 fun H2 v d e2 g2 ng hv => ?_⟩
      have hp2' := g2 _ _ hp' o0.1 o0.2
      have hls2 := hls'.fr dz g2
      have fr2 : Fr D H H2 := fr1.trans (fz.trans g2)
      have ixj : ixN xs.length ((j : Nat) : Int) = some j := by
        unfold ixN
        rw [if_pos (by omega), if_pos (by omega)]
        simp
      refine ⟨_, rfl, _, rfl, p0, xs, (j : Nat), j, rfl, rfl, hp2', ixj, ?_⟩
      have fr3 : Fr D H (upd H2 p0 (.lst (xs.set j v))) := fr_put fr2 np0
      have d3' : DrawAt D (n + 2) (upd H2 p0 (.lst (xs.set j v))) := draw_put dr np0 e2
      have hp3' : (upd H2 p0 (.lst (xs.set j v))) p0 = some (.lst (xs.set j v)) := upd_same
      have hda : DaAll D (upd H2 p0 (.lst (xs.set j v))) (xs.set j v) ((ls.map lotD).set j d) := daAll_set (hv.sm hid_put) j ((hls2.off (no_tup hp2')).da d3')
      generalize upd H2 p0 (.lst (xs.set j v)) = H3' at *
      have hbad : BadAt many ((ls.map lotD).set j d) j := by
        refine ⟨⟨d, by rw [List.getElem?_set_self (by rw [List.length_map]; omega)], ng.1⟩, fun i e hi he => ?_⟩
        rw [List.getElem?_set_ne (by omega), List.getElem?_map] at he
        cases hl : ls[i]? with
        | none =>
          rw [hl] at he
          cases he
        | some l =>
          rw [hl] at he
          cases he
          obtain ⟨h1, h2⟩ := hk l (List.mem_of_getElem? hl)
          exact ⟨l, rfl, h1, h2⟩
      have hlen : ((ls.map lotD).set j d).length = ls.length := by rw [List.length_set, List.length_map]
      have hsz : ∀ e ∈ (ls.map lotD).set j d, lenD e ≤ 1000 := fun e he => by
        rcases List.mem_or_eq_of_mem_set he with he | rfl
        · obtain ⟨l, hl, rfl⟩ := List.mem_map.mp he
          have := asc_len (hk l hl).2 (hk l hl).1
          show (l.map PyData.int).length ≤ 1000
          rw [List.length_map]
          omega
        · exact ng.2
      refine ⟨_, rfl, D, n + 2, 3, rfl, d3', by omega, by decide, by decide, fun H4' u e4 g4 u0 u3 => ?_⟩
      have hp4' := g4 _ _ hp3' o0.1 o0.2
      have hda4 := hda.fr g4.t
      have fr4 := fr3.trans g4
      refine ⟨_, _, rfl, rfl, _, rfl, ite2 (fun c => ?_) (fun c => ?_)⟩
      · refine ⟨_, rfl, _, rfl, _, rfl, p0, _, rfl, .inl ⟨SqL.of hp4', fun t1 nt1 => ?_⟩⟩
        have st := same_upd (o := .tup (xs.set j v)) nt1
        have dt := e4.new nt1 (o := .tup (xs.set j v))
        have ht : Da D (upd H4' t1 (.tup (xs.set j v))) (.ref t1) (.tuple ((ls.map lotD).set j d)) := .tup upd_same (e4.off nt1).1 (e4.off nt1).2 (hda4.sm st)
        have hl : Da D (upd H4' t1 (.tup (xs.set j v))) (.ref p0) (.list ((ls.map lotD).set j d)) := .lst (st _ _ hp4') o0.1 o0.2 (hda4.sm st)
        generalize upd H4' t1 (.tup (xs.set j v)) = H5' at *
        refine ⟨by show 2 ≤ sizeLine; decide, fun pl npl => ?_⟩
        have sl := same_upd (o := .lst [.ref p0, .ref t1]) npl
        have kk : Pk (fun e => rowsD e = some ((ls.map lotD).set j d)) D (upd H5' pl (.lst [.ref p0, .ref t1])) [.ref p0, .ref t1] := ⟨[_, _], .cons (hl.sm sl) (.cons (ht.sm sl) .nil), fun e he => by
          rcases List.mem_cons.mp he with rfl | he
          · rfl
          · rw [List.mem_singleton.mp he]
            rfl⟩
        refine pick_P (E := C8.E0) (dt.new npl) (by omega) (fun H => H) (fun f => f) kk upd_same (by simp) (by simp) (dt.off npl).2 fun H6' v' d' e6 g6 r6 hv6 => ?_
        refine ⟨_, rfl, by show 2 ≤ sizeLine; decide, fun T nT => ?_⟩
        have sT := same_upd (o := .tup [v', .int (j : Nat)]) nT
        have frT0 : Fr D H H6' := fr4.trans ((Fr.of (st.trans sl)).trans g6)
        have frT : Fr D H (upd H6' T (.tup [v', .int (j : Nat)])) := frT0.trans (.of sT)
        refine q _ T v' (.int (j : Nat)) d' ?_ upd_same (hv6.sm sT) ?_ (.inl ⟨j, _, rfl, by omega, r6, by omega, hbad⟩) ((e6.new nT).mono (by omega)) frT
        · exact none_fr frT0 nT (e6.off nT).1 (e6.off nT).2
        · exact sized_rows r6 (by omega) hsz
      · refine ⟨_, rfl, fun q1 nq1 => ?_⟩
        have t1 := same_upd (o := .dK []) nq1
        have e5 := e4.new nq1 (o := .dK [])
        have w1 : Da D (upd H4' q1 (.dK [])) (.ref q1) (.dict []) := .emp upd_same (e4.off nq1).1 (e4.off nq1).2
        generalize upd H4' q1 (.dK []) = H5' at *
        refine ⟨by show 0 ≤ sizeLine; decide, fun q2 nq2 => ?_⟩
        have t2 := same_upd (o := .tup []) nq2
        have e6 := e5.new nq2 (o := .tup [])
        have w2 : Da D (upd H5' q2 (.tup [])) (.ref q2) (.tuple []) := .tup upd_same (e5.off nq2).1 (e5.off nq2).2 .nil
        generalize upd H5' q2 (.tup []) = H6' at *
        refine ⟨by show 1 ≤ sizeLine; decide, fun q3 nq3 => ?_⟩
        have t3 := same_upd (o := .lst [.ref q2]) nq3
        have e7 := e6.new nq3 (o := .lst [.ref q2])
        have hq3 : (upd H6' q3 (.lst [.ref q2])) q3 = some (.lst [.ref q2]) := upd_same
        generalize upd H6' q3 (.lst [.ref q2]) = H7' at *
        refine ⟨q3, 401, _, rfl, rfl, hq3, by decide, by decide, by show 401 ≤ sizeLine; decide, fun q4 nq4 => ?_⟩
        have t4 := same_upd (o := .lst (List.replicate (Int.toNat 401) [V.ref q2]).flatten) nq4
        have e8 := e7.new nq4 (o := .lst (List.replicate (Int.toNat 401) [V.ref q2]).flatten)
        have w4 : Da D (upd H7' q4 (.lst (List.replicate (Int.toNat 401) [V.ref q2]).flatten)) (.ref q4) (.list (List.replicate (Int.toNat 401) (.tuple []))) := .lst upd_same (e7.off nq4).1 (e7.off nq4).2 (daAll_rep (((w2.sm t3).sm t4)) _)
        have w14 := ((w1.sm t2).sm t3).sm t4
        have s44 := ((t1.trans t2).trans t3).trans t4
        generalize upd H7' q4 (.lst (List.replicate (Int.toNat 401) [V.ref q2]).flatten) = H8' at *
        refine ⟨by show 5 ≤ sizeLine; decide, fun q5 nq5 => ?_⟩
        have t5 := same_upd (o := .lst [.non, .ref q1, .int 5, .str "lots", .ref q4]) nq5
        have kk : Pk NR D (upd H8' q5 (.lst [.non, .ref q1, .int 5, .str "lots", .ref q4])) [.non, .ref q1, .int 5, .str "lots", .ref q4] := ⟨[.none, .dict [], .int 5, .str "lots", .list (List.replicate (Int.toNat 401) (.tuple []))], .cons .non (.cons (w14.sm t5) (.cons (.int 5) (.cons (.str "lots") (.cons (w4.sm t5) .nil)))), fun e he => by
          rcases List.mem_cons.mp he with rfl | he
          · exact nr_kind rfl rfl
          · rcases List.mem_cons.mp he with rfl | he
            · exact nr_kind rfl rfl
            · rcases List.mem_cons.mp he with rfl | he
              · exact nr_kind rfl rfl
              · rcases List.mem_cons.mp he with rfl | he
                · exact nr_kind rfl rfl
                · rw [List.mem_singleton.mp he]
                  exact nr_long⟩
        refine pick_P (E := C8.E0) (e8.new nq5) (by omega) (fun H => H) (fun f => f) kk upd_same (by simp) (by simp) (e8.off nq5).2 fun H9' v' d' e9 g9 r9 hv9 => ?_
        refine ⟨by show 2 ≤ sizeLine; decide, fun T nT => ?_⟩
        have sT := same_upd (o := .tup [v', .non]) nT
        have frT0 : Fr D H H9' := fr4.trans ((Fr.of (s44.trans t5)).trans g9)
        exact q _ T v' .non d' (none_fr frT0 nT (e9.off nT).1 (e9.off nT).2) upd_same (hv9.sm sT) r9.2 (.inr ⟨rfl, r9.1⟩) ((e9.new nT).mono (by omega)) (frT0.trans (.of sT))
end
end Lm
namespace Lm
open PySem PySem.Spec PyProof.Rows L2 LamX
/-! ### the one first tuple -/
theorem lt_of_Lt {f t : List Int} (h : Hm.Lt f t) : f < t := by
  obtain ⟨p, x, y, r, s, rfl, rfl, h⟩ := h
  induction p with
  | nil => exact List.cons_lt_cons_iff.mpr (.inl h)
  | cons a p ih => exact List.cons_lt_cons_iff.mpr (.inr ⟨rfl, ih⟩)
theorem ltL_irrefl (l : List Int) : ¬ LtL l l := by
  rintro (h | ⟨_, h⟩)
  · exact Nat.lt_irrefl _ h
  · exact List.lt_irrefl l h
theorem first_due {ls : Hm.Lots} {m : Int} {f g : List Int} (F : Hm.First ls m f) (a : Hm.Asc g) (b : ∀ x ∈ g, 0 ≤ x ∧ x < m) (h : Hm.hitsL ls g) (k : ∀ t, Hm.Asc t → (∀ x ∈ t, 0 ≤ x ∧ x < m) → Hm.hitsL ls t → ¬ LtL t g) : f = g := by
  have h1 := k f F.asc F.low F.hit
  have h2 := F.few g h
  have h3 : g.length = f.length := by
    by_cases e : g.length = f.length
    · exact e
    · exact absurd (.inl (by omega)) h1
  rcases F.least g a h3 (fun x hx => (b x hx).1) h with e | e
  · exact e.symm
  · exact absurd (.inr ⟨h3.symm, lt_of_Lt e⟩) h1
theorem due_min {ls ss : Hm.Lots} (pw : ss.Pairwise fun a b => ¬ LtL b a) {j : Nat} {l : List Int} (hj : ss[j]? = some l) (hb : ∀ t ∈ ss.take j, ¬ Hm.hitsL ls t) : ∀ t ∈ ss, Hm.hitsL ls t → ¬ LtL t l := by
  intro t ht hh
  obtain ⟨i, hi, rfl⟩ := List.getElem_of_mem ht
  obtain ⟨hj', rfl⟩ := List.getElem?_eq_some_iff.mp hj
  rcases Nat.lt_trichotomy i j with h | h | h
  · refine absurd hh (hb _ ?_)
    exact List.mem_of_getElem? (i := i) (by rw [List.getElem?_take, if_pos h, List.getElem?_eq_getElem hi])
  · subst h
    exact ltL_irrefl _
  · exact List.pairwise_iff_getElem.mp pw j i hj' hi h
theorem asc_ext : ∀ {a b : List Int}, Hm.Asc a → Hm.Asc b → (∀ x, x ∈ a ↔ x ∈ b) → a = b
  | [], [], _, _, _ => rfl
  | [], y :: s, _, _, h => by
    have := (h y).mpr (List.mem_cons_self ..)
    cases this
  | x :: r, [], _, _, h => by
    have := (h x).mp (List.mem_cons_self ..)
    cases this
  | x :: r, y :: s, ha, hb, h => by
    obtain ⟨a1, a2⟩ := List.pairwise_cons.mp ha
    obtain ⟨b1, b2⟩ := List.pairwise_cons.mp hb
    have exy : x = y := by
      rcases List.mem_cons.mp ((h x).mp (List.mem_cons_self ..)) with e | e
      · exact e
      · rcases List.mem_cons.mp ((h y).mpr (List.mem_cons_self ..)) with e2 | e2
        · exact e2.symm
        · have := b1 x e
          have := a1 y e2
          omega
    subst exy
    congr 1
    refine asc_ext a2 b2 fun z => ?_
    constructor
    · intro hz
      rcases List.mem_cons.mp ((h z).mp (List.mem_cons_of_mem _ hz)) with e | e
      · have := a1 z hz
        omega
      · exact e
    · intro hz
      rcases List.mem_cons.mp ((h z).mpr (List.mem_cons_of_mem _ hz)) with e | e
      · have := b1 z hz
        omega
      · exact e
theorem first_two {f : List Int} (F : Hm.First [[0, 15], [3], [3, 4]] 16 f) : f = [0, 3] := by
  have hit2 : Hm.hitsL [[0, 15], [3], [3, 4]] [0, 3] := by
    intro l hl
    simp at hl
    rcases hl with rfl | rfl | rfl
    · exact ⟨0, by simp, by simp⟩
    · exact ⟨3, by simp, by simp⟩
    · exact ⟨3, by simp, by simp⟩
  have len := F.few _ hit2
  obtain ⟨x, x1, x2⟩ := F.hit [0, 15] (by simp)
  obtain ⟨y, y1, y2⟩ := F.hit [3] (by simp)
  have y1 : y = 3 := by simpa using y1
  subst y1
  have x1 : x = 0 ∨ x = 15 := by simpa using x1
  have asc := F.asc
  match f, len with
  | [], _ => cases y2
  | [a], _ =>
    rw [List.mem_singleton] at x2 y2
    omega
  | [a, b], _ =>
    have ab : a < b := (List.pairwise_cons.mp asc).1 b (by simp)
    have x2 : x = a ∨ x = b := by simpa using x2
    have y2 : (3 : Int) = a ∨ (3 : Int) = b := by simpa using y2
    rcases F.least [0, 3] (List.pairwise_cons.mpr ⟨fun z hz => by rw [List.mem_singleton.mp hz]; decide, List.pairwise_singleton _ _⟩) rfl (fun z hz => by simp at hz; omega) hit2 with e | e
    · exact e.symm
    · have e := lt_of_Lt e
      have : (a = 0 ∧ b = 3) ∨ (a = 3 ∧ b = 15) := by omega
      rcases this with ⟨rfl, rfl⟩ | ⟨rfl, rfl⟩
      · rfl
      · exact absurd e (by decide)
  | _ :: _ :: _ :: _, h => exact absurd h (by simp)
theorem first_nil {m : Int} {f : List Int} (F : Hm.First [] m f) : f = [] := by
  have := F.few [] (fun _ z => nomatch z)
  exact List.length_eq_zero_iff.mp (by simpa using this)
def upTo (n : Nat) : List Int := (List.range n).map fun i : Nat => (0 : Int) + (i : Int)
theorem upTo_mem {n : Nat} {x : Int} : x ∈ upTo n ↔ 0 ≤ x ∧ x < (n : Int) := by
  unfold upTo
  rw [List.mem_map]
  constructor
  · rintro ⟨i, hi, rfl⟩
    have := List.mem_range.mp hi
    omega
  · rintro ⟨h1, h2⟩
    exact ⟨x.toNat, List.mem_range.mpr (by omega), by omega⟩
theorem upTo_asc (n : Nat) : Hm.Asc (upTo n) := by
  unfold upTo Hm.Asc
  rw [List.pairwise_map]
  refine List.pairwise_lt_range.imp fun h => ?_
  omega
theorem first_ones {n : Nat} {f : List Int} (F : Hm.First ((upTo n).map fun i => [i]) (n : Nat) f) : f = upTo n := by
  refine asc_ext F.asc (upTo_asc n) fun x => ⟨fun hx => upTo_mem.mpr (F.low x hx), fun hx => ?_⟩
  obtain ⟨g, h1, h2⟩ := F.hit [x] (List.mem_map.mpr ⟨x, hx, rfl⟩)
  rw [List.mem_singleton.mp h1] at h2
  exact h2
/-! ### repr -/
theorem call_reprD {X : Cx} (K : PySem.W.Frag) (hg : X.A.guards = some []) (hu : X.A.units + 64 < cLine) (hK : X.K = K := by rfl) : CallR X (.builtin "repr") (fun xs H Q => ∃ (a : Addr) (d : PyData), xs = [.ref a] ∧ Dp K H (.ref a) d ∧ d.showable = true ∧ d.hasDict = false ∧ d.depth ≤ 8 ∧ d.shown.length ≤ sizeLine ∧ Q (.str d.shown) H) := by
  intro pins s σ H xs us Q I r h
  obtain ⟨a, d, rfl, hd, h1, h2, h3, h4, q⟩ := h
  obtain ⟨u, rfl, rx⟩ := vals1 r
  obtain rfl : u = Value.ref a := rx
  subst hK
  obtain ⟨as, rd⟩ := Dp.reads I d (.ref a) (.ref a) hd rfl
  exact repr_of_reads' rd h1 (fun z => by rw [h2] at z; cases z) hg (by omega) (fun _ _ e => e) (fun h' u tk hk => ⟨.str d.shown, H, I.kept (t' := tk) hk, ⟨_, rfl⟩, q⟩) h4
/-- repr of a whole number or None -/
def shN : V → Str
  | .int i => toString i
  | _ => "None"
theorem call_reprN {X : Cx} : CallR X (.builtin "repr") (fun xs H Q => ∃ v : V, xs = [v] ∧ (v = .non ∨ ∃ i : Int, v = .int i ∧ i.natAbs.log2 < 1920) ∧ Q (.str (shN v)) H) := by
  intro pins s σ H xs us Q I r h
  obtain ⟨v, rfl, hv, q⟩ := h
  obtain ⟨u, rfl, rx⟩ := vals1 r
  rcases hv with rfl | ⟨i, rfl, hi⟩
  · obtain rfl : u = Value.none := rx
    exact PySem.P.repr_of_none ⟨.str "None", H, I.tok _, ⟨_, rfl⟩, q⟩
  · obtain ⟨t, rfl⟩ := rx
    exact PySem.P.repr_of_int hi ⟨.str (toString i), H, I.tok _, ⟨_, rfl⟩, q⟩
/-- rows of lots in small numbers -/
theorem ints_show : ∀ {l : List Int}, (∀ x ∈ l, 0 ≤ x ∧ x < 16) → PyData.showableAll (l.map .int) = true ∧ PyData.hasDictAll (l.map .int) = false ∧ PyData.intsShortAll 13 (l.map .int) = true ∧ PyData.weightAll (l.map .int) ≤ 5 * l.length ∧ PyData.canLayAll0 (l.map .int) = true
  | [], _ => ⟨rfl, rfl, rfl, Nat.zero_le _, by simp [PyData.canLayAll0]⟩
  | x :: r, h => by
    obtain ⟨a, b, c, d, e⟩ := ints_show (l := r) fun y hy => h y (List.mem_cons_of_mem _ hy)
    have hx := h x (List.mem_cons_self ..)
    obtain ⟨k, rfl⟩ : ∃ k : Nat, x = (k : Int) := ⟨x.toNat, by omega⟩
    have k16 : k < 16 := by omega
    have small : ∀ k : Nat, k < 16 → (PyData.showable (.int (k : Int)) = true ∧ decide ((PyData.shown (.int (k : Int))).length ≤ 13) = true ∧ PyData.weight (.int (k : Int)) ≤ 4) := by decide +kernel
    obtain ⟨s1, s2, s3⟩ := small k k16
    refine ⟨?_, ?_, ?_, ?_, ?_⟩
    · show (PyData.showable (.int (k : Int)) && _) = true
      rw [s1, a]
      rfl
    · show (PyData.hasDict (.int (k : Int)) || _) = false
      rw [b]
      rfl
    · show (PyData.intsShort 13 (.int (k : Int)) && _) = true
      rw [c]
      simpa [PyData.intsShort] using s2
    · show PyData.weight (.int (k : Int)) + 1 + PyData.weightAll (r.map .int) ≤ 5 * (r.length + 1)
      omega
    · simp [PyData.canLayAll0, PyData.canLay0, e]
theorem lot_show {l : List Int} (h : ∀ x ∈ l, 0 ≤ x ∧ x < 16) : (lotD l).showable = true ∧ (lotD l).hasDict = false ∧ (lotD l).intsShort 13 = true ∧ (lotD l).weight ≤ 5 * l.length ∧ (lotD l).canLay0 = true := by
  obtain ⟨a, b, c, d, e⟩ := ints_show h
  unfold lotD
  refine ⟨?_, ?_, ?_, ?_, ?_⟩
  · simpa only [PyData.showable] using a
  · simpa only [PyData.hasDict] using b
  · simpa only [PyData.intsShort] using c
  · simpa only [PyData.weight] using d
  · simpa only [PyData.canLay0] using e
theorem lots_show : ∀ {ls : Hm.Lots}, (∀ l ∈ ls, (∀ x ∈ l, 0 ≤ x ∧ x < 16) ∧ l.length ≤ 20) → PyData.showableAll (ls.map lotD) = true ∧ PyData.hasDictAll (ls.map lotD) = false ∧ PyData.intsShortAll 13 (ls.map lotD) = true ∧ PyData.weightAll (ls.map lotD) ≤ 101 * ls.length ∧ PyData.canLayAll0 (ls.map lotD) = true
  | [], _ => ⟨rfl, rfl, rfl, Nat.zero_le _, by simp [PyData.canLayAll0]⟩
  | l :: r, h => by
    obtain ⟨a, b, c, d, e⟩ := lots_show (ls := r) fun y hy => h y (List.mem_cons_of_mem _ hy)
    obtain ⟨h1, h2⟩ := h l (List.mem_cons_self ..)
    obtain ⟨a1, b1, c1, d1, e1⟩ := lot_show h1
    refine ⟨?_, ?_, ?_, ?_, ?_⟩
    · show (PyData.showable (lotD l) && _) = true
      rw [a1, a]
      rfl
    · show (PyData.hasDict (lotD l) || _) = false
      rw [b1, b]
      rfl
    · show (PyData.intsShort 13 (lotD l) && _) = true
      rw [c1, c]
      rfl
    · show PyData.weight (lotD l) + 1 + PyData.weightAll (r.map lotD) ≤ 101 * (r.length + 1)
      omega
    · simp [PyData.canLayAll0, e1, e]
/-- a list of lots that repr tells -/
theorem list_show {ls : Hm.Lots} (h : ∀ l ∈ ls, (∀ x ∈ l, 0 ≤ x ∧ x < 16) ∧ l.length ≤ 20) (hl : ls.length ≤ 1000) : (PyData.list (ls.map lotD)).showable = true ∧ (PyData.list (ls.map lotD)).hasDict = false ∧ (PyData.list (ls.map lotD)).depth ≤ 8 ∧ (PyData.list (ls.map lotD)).shown.length ≤ sizeLine := by
  obtain ⟨a, b, c, d, e⟩ := lots_show h
  have dp := depth_lots ls
  have dep : (PyData.list (ls.map lotD)).depth ≤ 8 := by
    simp only [PyData.depth]
    omega
  refine ⟨by simpa only [PyData.showable] using a, by simpa only [PyData.hasDict] using b, dep, ?_⟩
  refine PyData.shown_fits_of_layable0 (B := 13) (by decide) (by decide) ?_ (by simpa only [PyData.intsShort] using c)
  have w : (PyData.list (ls.map lotD)).weight ≤ 2 ^ 20 := by
    simp only [PyData.weight]
    have e : (2 : Nat) ^ 20 = 1048576 := by decide
    omega
  show (PyData.canLay0 _ && decide (PyData.depth _ ≤ 64) && decide (PyData.weight _ ≤ 2 ^ 20)) = true
  rw [Bool.and_eq_true, Bool.and_eq_true]
  exact ⟨⟨by simpa only [PyData.canLay0] using e, decide_eq_true (by omega)⟩, decide_eq_true w⟩
end Lm
namespace Lm
open PySem PySem.Spec PyProof.Rows L2 LamX
/-! ### _law_caught: what is raised, or None -/
abbrev sCaught : Stmt := topS 35
def nCaught : List Str := ["_law_work", "_law_error"]
theorem scCaught : FnScope nCaught ["_law_work"] (defScope sCaught) := ⟨rfl, rfl, rfl, by decide +kernel, rfl, by decide +kernel, by decide +kernel⟩
def TCaught (K : PySem.W.Frag) (CS : Addr) : (XK → Hp → VK → Prop) → Hp → VK → Prop := fun tl H Q =>
  tl (fun cls d H' => PySem.W.exmOne K cls (.ref CS) = some true ∧ ∀ a, H' a = none → Q (.ref a) (upd H' a (ExI a cls d))) H (fun _ H' => Q .non H')
theorem caught_gives {X : Cx} {g CS : Addr} {cdg : Value} {q : Str} (hme : X.mg "LaneError" = some (.ref CS)) :
    GivesTo X nCaught "_law_caught" (defScope sCaught) g cdg (defBody sCaught) "_law_work" q (TCaught X.K CS) := by
  intro f c' s H Q tl act hc h
  refine ⟨_, pss_cons (ps_tryT (X := (cxOf C8.CX0 X.prog X.w X.K X.mg X.base nCaught "_law_caught" (defScope sCaught) g cdg X.A X.stack s H C8.E0).nox) (c := .ref CS) (i := 1)
      (tb := fun W D σ H => ∃ Ech : XK, (∀ cls d σ' H', Ech cls d H' → W cls d σ' H') ∧ σ[0]? = some (some (.ref f)) ∧ H c' = some (CodeO c' q) ∧ tl Ech H fun _ H' => D.nx σ H')
      rfl rfl scCaught.nd rfl rfl ⟨rfl, by decide, .inl hme⟩ (fun W pn xe tk _ => ?_) (fun a pn => pss_one (ps_ret (pv 1))))
    (pss_one (ps_ret pe_non)), ?_⟩
  · refine ⟨fun pins s' σ H' D I h' => ?_⟩
    obtain ⟨Ech, hW, h1, h2, h3⟩ := h'
    exact (pss_one (ps_expr (act W pn xe Ech _ _ tk hW))).run pins s' σ H' D I ⟨h1, h2, h3⟩
  · refine ⟨fun cls d H' => PySem.W.exmOne X.K cls (.ref CS) = some true ∧ ∀ a, H' a = none → Q (.ref a) (upd H' a (ExI a cls d)), ?_, rfl, hc, h⟩
    rintro cls d σ' H' ⟨e, k⟩
    refine ⟨e, fun a hl na => ?_⟩
    have hl : σ'.length = 2 := hl
    match σ', hl with
    | [x0, x1], _ => exact ⟨_, rfl, k a na⟩
/-! ### what the law calls -/
def nLaw : List Str := ["_law_script", "_law_state", "_law_turn", "_law_many_here", "_law_lots", "_law_shown", "_law_due", "_law_lot", "_law_odd", "_law_spot", "_law_several", "_law_error", "_law_wrong"]
theorem scLaw : FnScope nLaw ["_law_script"] (defScope sLaw) := ⟨rfl, rfl, rfl, by decide +kernel, rfl, by decide +kernel, by decide +kernel⟩
def forBody : Stmt → List Stmt
  | .For (body := b) .. => b
  | _ => []
def lawSt (i : Nat) : Stmt := (forBody ((defBody sLaw).getD 1 (.Pass ⟨0, 0, 0, 0⟩))).getD i (.Pass ⟨0, 0, 0, 0⟩)
/-- the slots of the law's names -/
def S (x : Nat → Option V) : L2.St := [x 0, x 1, x 2, x 3, x 4, x 5, x 6, x 7, x 8, x 9, x 10, x 11, x 12]
def sx (x : Nat → Option V) (i : Nat) (v : Option V) : Nat → Option V := fun j => if j = i then v else x j
/-- an own exception class: where it stands, what isinstance and except tell of it -/
structure XCls (K : PySem.W.Frag) (mg : Str → Option Value) (CS : Addr) (x : Str) (C : Addr) : Prop where
  at_ : mg x = some (.ref C)
  ex : ExcC K C
  kit : PySem.W.kitOne K (.ref C) (.ref C) = some true
  exm : PySem.W.exmOne K (.ref C) (.ref CS) = some true
structure Callees (P : Program) (w : World) (K : PySem.W.Frag) (mg : Str → Option Value) (base : Heap) (CS BM BL : Addr) (T : List (Addr × Str)) : Prop where
  N : Bl mg
  GB : Has P w K mg base CX0 1 "_law_begun" ["_law_script"] (spBegun K)
  GP : Has P w K mg base CX0 3 "_law_pick" ["_law_state", "_law_several"] spPick
  GT : Has P w K mg base CX0 2 "_law_draw" ["_law_state", "_law_size_here"] spTake
  GD : Has P w K mg base CX0 3 "_law_drawn_lots" ["_law_state", "_law_many_here"] spDrawn
  GH : Has P w K mg base CX0 1 "_law_do_hit" ["_law_lots", "_law_gaps_here"] spHit
  GA : Has P w K mg base CX0 4 "_law_all_lots" ["_law_many_here"] (spAll T)
  GE : Has P w K mg base CX0 4 "_law_bent_lots" ["_law_state", "_law_many_here", "_law_lots"] spBent
  lh : Has P w K mg base (L2.CX P w) 22 "least_hits" ["many", "lots"] (spLeast BM BL)
  lhk : HasK P w K mg base (L2.CX P w) 22 "least_hits" ["many", "lots"] ["lots", "many"] List.reverse (spLeast BM BL)
  ht : Has P w K mg base (L2.CX P w) 6 "hit_tree" ["many", "lots", "number"] (spRef BM BL 1)
  it : Has P w K mg base (L2.CX P w) 6 "is_hit_tree" ["many", "lots", "number", "thing"] (spRef BM BL 2)
  lane : mg "LaneError" = some (.ref CS)
  bm : XCls K mg CS "BadMany" BM
  bl : XCls K mg CS "BadLots" BL
  xf : XfC K BL
  no : PySem.W.findIn K (.ref BL) "at" = some none
  caught : ∃ (g : Addr) (fd : FuncData), mg "_law_caught" = some (.ref g) ∧ PySem.W.keepIn K (.ref g) = true ∧ L2.Binds K fd ["_law_work"] [] ∧ Fun K "_law_caught" "_law_caught" sCaught g fd
theorem pe_caught {CS : Addr} {X : Cx} {T : List (Addr × Str)} {c Pt : Addr} {k : Nat} {params : Arguments} {body : Expr} {scope : Scope} {t : XK → TE} {p lpos pos : Pos} (hca : ∃ (g : Addr) (fd : FuncData), X.mg "_law_caught" = some (.ref g) ∧ PySem.W.keepIn X.K (.ref g) = true ∧ L2.Binds X.K fd ["_law_work"] [] ∧ Fun X.K "_law_caught" "_law_caught" sCaught g fd)
    (hme : X.mg "LaneError" = some (.ref CS)) (TB : LamX.TabB X.base X.mg c Pt) (hcode : X.env.code = .ref c) (hmT : (Pt, X.env.qual ++ "<lambda>") ∈ T) (hu : ∀ p ∈ T, p.1 = Pt → p.2 = X.env.qual ++ "<lambda>") (hr : Room (k + 2) X.A) (hg : Gl X "_law_caught") (L : LamS X.env.scope scope) (hdef : defaultsOf params X.env = ([], []))
    (hbind : ∀ (q : Str) (cl : List (Str × Addr)) (pm cv ctv : Value), bindArgs (PySem.W.kla_fn "<lambda>" q params body scope cl pm cv ctv) ⟨[], []⟩ = pure [])
    (hbody : ∀ (A : Around) (outer : List Env) (s : Shared) (H : Hp) (E : XK) (f c' : Addr), Room k (A.deeper (lamEnv X scope s.heap.objs.size f c')) → PE (lamCx X A outer s H E scope f c') body (t E)) :
    PE X (.Call (.Name "_law_caught" p) [.Lambda params body scope lpos] [] pos) (tLam T (TCaught X.K CS) t) := by
  obtain ⟨g, fd, hm, hk, hb, F⟩ := hca
  obtain ⟨oc, od, kV, doc, pm, an, cdv, ct, osl, rfl, lk, hcd⟩ := F.ex
  exact pe_lamcall (Ng := nCaught) hg hm hk lk hcd hb scCaught rfl (.inl rfl) (caught_gives hme) TB hcode hmT hu hr L hdef hbind hbody
/-- where the law's own statements run -/
abbrev XL (P : Program) (w : World) (K : PySem.W.Frag) (mg : Str → Option Value) (base : Heap) (f : Addr) (cdv : Value) (A : Around) (outer : List Env) (s : Shared) (H : Hp) (E : XK) : Cx := (cxOf C8.CX0 P w K mg base nLaw "law" (defScope sLaw) f cdv A outer s H E).nox
theorem passLam {X : Cx} {A : Around} {outer : List Env} {s : Shared} {H : Hp} {E : XK} {scope : Scope} {f c' : Addr} : Passes (L2.CX X.prog X.w) (lamCx X A outer s H E scope f c') E := by
  have tk : Takes (lamCx X A outer s H E scope f c') (fun cls d _ H => E cls d H) := takes_of (E := E) rfl rfl rfl rfl
  exact passes_call tk (fun _ _ _ _ h => h)
theorem Tabs.fr {T : List (Addr × Str)} {D : DrA} {n : Nat} {H H' : Hp} (t : Tabs T H) (dr : DrawAt D n H) (f : Fr D H H') : Tabs T H' := by
  obtain ⟨ws, cs, r, tt, h1, h2, _⟩ := id dr
  intro p hp
  obtain ⟨ps, e1, e2, e3⟩ := t p hp
  refine ⟨ps, f _ _ e1 (ne_of e1 h1 (fun z => by cases z)) (ne_of e1 h2 (fun z => by cases z)), e2, fun pos cv hc => ?_⟩
  obtain ⟨c, a, b⟩ := e3 pos cv hc
  exact ⟨c, a, f _ _ b (ne_of b h1 (fun z => by unfold CodeO at z; cases z)) (ne_of b h2 (fun z => by unfold CodeO at z; cases z))⟩
theorem DrawAt.ext {D : DrA} {n : Nat} {H H' : Hp} (h : DrawAt D n H) (e : ExtN H H') : DrawAt D n H' := h.same e
theorem extN_frT {D : DrA} {H H' : Hp} (e : ExtN H H') : FrT D H H' := fun b o h _ _ n => e b o h n
/-! ### one statement after the other -/
def StepS (X : Cx) (st : List Stmt) (I J : L2.St → Hp → Prop) : Prop := ∃ t, PSs X st t ∧ ∀ D σ H, I σ H → (∀ σ' H', J σ' H' → D.nx σ' H') → t D σ H
theorem steps_nil {X : Cx} {I : L2.St → Hp → Prop} : StepS X [] I I := ⟨_, pss_nil, fun D σ H h q => q σ H h⟩
def Step (X : Cx) (st : Stmt) (I J : L2.St → Hp → Prop) : Prop := ∃ t, PS X st t ∧ ∀ D σ H, I σ H → (∀ σ' H', J σ' H' → D.nx σ' H') → t D σ H
theorem steps_cons {X : Cx} {st : Stmt} {r : List Stmt} {I J L : L2.St → Hp → Prop} (h1 : Step X st I J) (h2 : StepS X r J L) : StepS X (st :: r) I L := by
  obtain ⟨t1, p1, q1⟩ := h1
  obtain ⟨t2, p2, q2⟩ := h2
  exact ⟨_, pss_cons p1 p2, fun D σ H h q => q1 _ σ H h fun σ' H' h' => q2 _ σ' H' h' q⟩
theorem steps_all {ι : Type} {X : Cx} {st : List Stmt} {I J : ι → L2.St → Hp → Prop} (h : ∀ i, StepS X st (I i) (J i)) :
    ∃ t, PSs X st t ∧ ∀ i D σ H, I i σ H → (∀ σ' H', J i σ' H' → D.nx σ' H') → t D σ H :=
  ⟨fun D σ H => ∃ i, Classical.choose (h i) D σ H, ⟨fun pins s σ H D I ⟨i, q⟩ => (Classical.choose_spec (h i)).1.run pins s σ H D I q⟩, fun i D σ H hI hN => ⟨i, (Classical.choose_spec (h i)).2 D σ H hI hN⟩⟩
end Lm
namespace Lm
open PySem PySem.Spec PyProof.Rows L2 LamX
def shL (ls : Hm.Lots) : Str := (PyData.list (ls.map lotD)).shown
/-- what stands behind the lots of one turn -/
structure LI (T : List (Addr × Str)) (n : Nat) (D : DrA) (m : Nat) (a : Addr) (xs : List V) (ls : Hm.Lots) (x : Nat → Option V) (H : Hp) : Prop where
  x1 : x 1 = some (.ref D.d)
  x3 : x 3 = some (.int (m : Nat))
  x4 : x 4 = some (.ref a)
  x5 : x 5 = some (.str (shL ls))
  m1 : 1 ≤ m
  m8 : m ≤ 8
  ha : H a = some (.lst xs)
  hl : LsAt H xs ls
  l7 : ls.length ≤ 7
  gk : GapsOk (m : Nat) ls
  ad : a ≠ D.d
  aw : a ≠ D.w
  dr : DrawAt D n H
  tb : Tabs T H
section
variable {T : List (Addr × Str)} {n : Nat} {D : DrA} {m : Nat} {a : Addr} {xs : List V} {ls : Hm.Lots} {x : Nat → Option V} {H H' : Hp}
theorem LI.set (h : LI T n D m a xs ls x H) (i : Nat) (v : Option V) (hi : i ≠ 1 ∧ i ≠ 3 ∧ i ≠ 4 ∧ i ≠ 5 := by decide) : LI T n D m a xs ls (sx x i v) H :=
  ⟨(if_neg hi.1.symm).trans h.x1, (if_neg hi.2.1.symm).trans h.x3, (if_neg hi.2.2.1.symm).trans h.x4, (if_neg hi.2.2.2.symm).trans h.x5, h.m1, h.m8, h.ha, h.hl, h.l7, h.gk, h.ad, h.aw, h.dr, h.tb⟩
theorem LI.fr {n' : Nat} (h : LI T n D m a xs ls x H) (f : Fr D H H') (d : DrawAt D n' H') : LI T n' D m a xs ls x H' :=
  ⟨h.x1, h.x3, h.x4, h.x5, h.m1, h.m8, f _ _ h.ha h.ad h.aw, h.hl.fr h.dr f, h.l7, h.gk, h.ad, h.aw, d, Lm.Tabs.fr h.tb h.dr f⟩
theorem LI.sm (h : LI T n D m a xs ls x H) (s : Same H H') : LI T n D m a xs ls x H' := h.fr (.of s) (h.dr.sm s)
theorem LI.ext (h : LI T n D m a xs ls x H) (e : ExtN H H') (t : Tabs T H') : LI T n D m a xs ls x H' :=
  ⟨h.x1, h.x3, h.x4, h.x5, h.m1, h.m8, e _ _ h.ha (fun _ z => by cases z), h.hl.ext e, h.l7, h.gk, h.ad, h.aw, h.dr.ext e, t⟩
theorem LI.mono {n' : Nat} (h : LI T n D m a xs ls x H) (k : n ≤ n') : LI T n' D m a xs ls x H := ⟨h.x1, h.x3, h.x4, h.x5, h.m1, h.m8, h.ha, h.hl, h.l7, h.gk, h.ad, h.aw, h.dr.mono k, h.tb⟩
theorem LI.fit (h : LI T n D m a xs ls x H) : Fit ls ∧ LotsOk (m : Nat) ls := gaps_fit h.gk (by have := h.m8; omega) (by have := h.l7; omega)
end
theorem gaps_show {m : Nat} {ls : Hm.Lots} (h : GapsOk (m : Nat) ls) (hm : m ≤ 16) : ∀ l ∈ ls, (∀ x ∈ l, 0 ≤ x ∧ x < 16) ∧ l.length ≤ 20 := fun l hl => by
  obtain ⟨h1, h2⟩ := h l hl
  have := asc_len h2 h1
  exact ⟨fun x hx => by have := h1 x hx; omega, by omega⟩
/-- the law's own answer -/
def Due (ls : Hm.Lots) (m : Nat) (v : V) (H : Hp) : Prop := (v = .non ∧ ∀ t, Hm.Asc t → (∀ x ∈ t, 0 ≤ x ∧ x < (m : Int)) → ¬ Hm.hitsL ls t) ∨
  ∃ g, LotAt H v g ∧ Hm.Asc g ∧ (∀ x ∈ g, 0 ≤ x ∧ x < (m : Int)) ∧ Hm.hitsL ls g ∧ ∀ t, Hm.Asc t → (∀ x ∈ t, 0 ≤ x ∧ x < (m : Int)) → Hm.hitsL ls t → ¬ LtL t g
theorem Due.sm {ls : Hm.Lots} {m : Nat} {v : V} {H H' : Hp} (h : Due ls m v H) (s : Same H H') : Due ls m v H' := by
  rcases h with h | ⟨g, a, b⟩
  · exact .inl h
  · exact .inr ⟨g, a.sm s, b⟩
/-- .. as far as i lots have been seen -/
def DueTo (ls ss : Hm.Lots) (i : Nat) (v : V) (H : Hp) : Prop := (v = .non ∧ ∀ t ∈ ss.take i, ¬ Hm.hitsL ls t) ∨ ∃ j g, ss[j]? = some g ∧ LotAt H v g ∧ Hm.hitsL ls g ∧ ∀ t ∈ ss.take j, ¬ Hm.hitsL ls t
theorem DueTo.sm {ls ss : Hm.Lots} {i : Nat} {v : V} {H H' : Hp} (h : DueTo ls ss i v H) (s : Same H H') : DueTo ls ss i v H' := by
  rcases h with h | ⟨j, g, a, b, c⟩
  · exact .inl h
  · exact .inr ⟨j, g, a, b.sm s, c⟩
theorem DueTo.fin {ls ss : Hm.Lots} {m : Nat} {v : V} {H : Hp} (h : DueTo ls ss ss.length v H) (hp : ss.Perm (allL m)) (pw : ss.Pairwise fun a b => ¬ LtL b a) : Due ls m v H := by
  have mem : ∀ t, Hm.Asc t → (∀ x ∈ t, 0 ≤ x ∧ x < (m : Int)) → t ∈ ss := fun t a b => hp.mem_iff.mpr ((allL_mem m t).mpr ⟨a, b⟩)
  rcases h with ⟨h1, h2⟩ | ⟨j, g, h1, h2, h3, h4⟩
  · rw [List.take_length] at h2
    exact .inl ⟨h1, fun t a b => h2 t (mem t a b)⟩
  · obtain ⟨a, b⟩ := (allL_mem m g).mp (hp.mem_iff.mp (List.mem_of_getElem? h1))
    exact .inr ⟨g, h2, a, b, h3, fun t a b hh => due_min pw h1 h4 t (mem t a b) hh⟩
section
variable {P : Program} {w : World} {K : PySem.W.Frag} {mg : Str → Option Value} {base : Heap} {CS BM BL f c Pt : Addr} {A : Around} {outer : List Env} {s : Shared} {H0 : Hp} {E : XK} {cdv : Value} {T : List (Addr × Str)} {D : DrA} {n : Nat}
abbrev LX (P : Program) (w : World) (K : PySem.W.Frag) (mg : Str → Option Value) (base : Heap) (f : Addr) (cdv : Value) (A : Around) (outer : List Env) (s : Shared) (H : Hp) (E : XK) (i : Nat) (I J : L2.St → Hp → Prop) : Prop := Step (XL P w K mg base f cdv A outer s H E) (lawSt i) I J
def J0 (T : List (Addr × Str)) (D : DrA) (n : Nat) : L2.St → Hp → Prop := fun σ H => ∃ x, σ = S x ∧ x 1 = some (.ref D.d) ∧ DrawAt D n H ∧ Tabs T H
def J1 (T : List (Addr × Str)) (D : DrA) (n : Nat) : L2.St → Hp → Prop := fun σ H => ∃ x m, σ = S x ∧ x 1 = some (.ref D.d) ∧ x 3 = some (.int ((m : Nat) : Int)) ∧ 1 ≤ m ∧ m ≤ 8 ∧ DrawAt D (n + 1) H ∧ Tabs T H
def J2 (T : List (Addr × Str)) (D : DrA) (n : Nat) : L2.St → Hp → Prop := fun σ H => ∃ x m a xs ls, σ = S x ∧ x 1 = some (.ref D.d) ∧ x 3 = some (.int ((m : Nat) : Int)) ∧ x 4 = some (.ref a) ∧ 1 ≤ m ∧ m ≤ 8 ∧ H a = some (.lst xs) ∧ LsAt H xs ls ∧ ls.length ≤ 7 ∧ GapsOk (m : Nat) ls ∧ a ≠ D.d ∧ a ≠ D.w ∧ DrawAt D (n + 101) H ∧ Tabs T H
def J3 (T : List (Addr × Str)) (D : DrA) (n : Nat) : L2.St → Hp → Prop := fun σ H => ∃ x m a xs ls, σ = S x ∧ LI T (n + 101) D m a xs ls x H ∧ x 6 = some .non
def J4 (T : List (Addr × Str)) (D : DrA) (n : Nat) : L2.St → Hp → Prop := fun σ H => ∃ x m a xs ls v, σ = S x ∧ LI T (n + 101) D m a xs ls x H ∧ x 6 = some v ∧ Due ls m v H
def J6 (T : List (Addr × Str)) (D : DrA) (n : Nat) : L2.St → Hp → Prop := fun σ H => ∃ x m a xs ls, σ = S x ∧ LI T (n + 101) D m a xs ls x H
theorem st0 (C : Callees P w K mg base CS BM BL T) (hr : Room 30 (A.deeper (envOfC "law" (defScope sLaw) s.heap.objs.size f cdv))) (hn : n + 1000 ≤ B) : LX P w K mg base f cdv A outer s H0 E 0 (J0 T D n) (J1 T D n) := by
  refine ⟨_, ps_set (i := 3) scLaw.nd rfl (.inr rfl) (pe_op op_add pe_int (pe_h C.GT hr (by decide) (by rfl) (E := C8.E0) pass0 (pa_cons (pv 1) (pa_cons pe_int pa_nil)))), ?_⟩
  rintro Dn σ H ⟨x, rfl, h1, dr, tb⟩ hN
  refine ⟨_, congrArg some h1, D, n, 8, rfl, dr, by omega, by decide, by decide, fun H1 u d1 f1 u0 u8 => ⟨_, _, rfl, rfl, ?_⟩⟩
  obtain ⟨m, rfl⟩ : ∃ m : Nat, u = (m : Int) := ⟨u.toNat, by omega⟩
  have e : V.int (1 + (m : Int)) = V.int ((1 + m : Nat) : Int) := by congr 1
  exact hN _ _ ⟨sx x 3 (some (.int (1 + (m : Int)))), 1 + m, rfl, h1, by rw [← e]; rfl, by omega, by omega, d1, Lm.Tabs.fr tb dr f1⟩
theorem st1 (C : Callees P w K mg base CS BM BL T) (hr : Room 30 (A.deeper (envOfC "law" (defScope sLaw) s.heap.objs.size f cdv))) (hn : n + 1000 ≤ B) : LX P w K mg base f cdv A outer s H0 E 1 (J1 T D n) (J2 T D n) := by
  refine ⟨_, ps_set (i := 4) scLaw.nd rfl (.inl rfl) (pe_h C.GD hr (by decide) (by rfl) (E := C8.E0) pass0 (pa_cons (pv 1) (pa_cons (pv 3) pa_nil))), ?_⟩
  rintro Dn σ H ⟨x, m, rfl, h1, h3, m1, m8, dr, tb⟩ hN
  refine ⟨_, congrArg some h1, _, congrArg some h3, D, n + 1, (m : Nat), rfl, dr, by omega, by omega, by omega, fun H1 a xs ls na ha hl l7 gk d1 f1 => ?_⟩
  exact hN _ _ ⟨sx x 4 (some (.ref a)), m, a, xs, ls, rfl, h1, h3, rfl, m1, m8, ha, hl, l7, gk, (dr.off na).1, (dr.off na).2, d1, Lm.Tabs.fr tb dr f1⟩
theorem st2 (C : Callees P w K mg base CS BM BL T) (hr : Room 30 (A.deeper (envOfC "law" (defScope sLaw) s.heap.objs.size f cdv))) (hg : A.guards = some []) : LX P w K mg base f cdv A outer s H0 E 2 (J2 T D n) (J3 T D n) := by
  have hgg : (A.deeper (envOfC "law" (defScope sLaw) s.heap.objs.size f cdv)).guards = some [] := hg
  refine ⟨_, ps_par (i := 5) (j := 6) rfl scLaw.nd rfl rfl (by decide) rfl rfl (pa_cons (pe_callB (call_reprD K hgg hr.units) (by rfl) C.N.brep (by decide +kernel) (pa_cons (pv 4) pa_nil)) (pa_cons pe_non pa_nil)) rfl, ?_⟩
  rintro Dn σ H ⟨x, m, a, xs, ls, rfl, h1, h3, h4, m1, m8, ha, hl, l7, gk, ad, aw, dr, tb⟩ hN
  obtain ⟨k1, k2, k3, k4⟩ := list_show (gaps_show gk (by omega)) (by omega)
  refine ⟨_, congrArg some h4, a, _, rfl, .lst (SqL.of ha) (dp_lots hl), k1, k2, k3, k4, _, _, rfl, ?_⟩
  exact hN _ _ ⟨sx (sx x 5 (some (.str (shL ls)))) 6 (some .non), m, a, xs, ls, rfl, ⟨h1, h3, h4, rfl, m1, m8, ha, hl, l7, gk, ad, aw, dr, tb⟩, rfl⟩
theorem st3 (C : Callees P w K mg base CS BM BL T) (hr : Room 30 (A.deeper (envOfC "law" (defScope sLaw) s.heap.objs.size f cdv))) : LX P w K mg base f cdv A outer s H0 E 3 (J3 T D n) (J4 T D n) := by
  refine ⟨_, ps_for PassesOwn.never rfl (pi_listK K (pe_h C.GA hr (by decide) (by rfl) (E := C8.E0) pass0 (pa_cons (pv 3) pa_nil))) (pg_name (i := 7) scLaw.nd rfl (.inl rfl))
    (pss_one (ps_if (pw_and (pt_cmpR op_isN (pv 6) pe_non (nomark _)) (pw_and1 (pt_val (pe_h C.GH hr (by decide) (by rfl) (E := C8.E0) pass0 (pa_cons (pv 4) (pa_cons (pv 7) pa_nil)))))).pt
      (pss_one (ps_set (i := 6) scLaw.nd rfl (.inl rfl) (pv 7))) pss_nil)), ?_⟩
  rintro Dn σ H ⟨x, m, a, xs, ls, rfl, I, h6⟩ hN
  refine ⟨_, congrArg some I.x3, m, rfl, I.m8, I.tb, fun H1 F ys ss e1 T1 nF hF hy hp pw => ?_⟩
  have I1 := I.ext e1 T1
  refine ⟨F, rfl, ⟨_, SqL.of hF⟩, for_list (K := K) (a := F) (xs := ys) (fun i σ H' => Same H1 H' ∧ ∃ x v, σ = S x ∧ LI T (n + 101) D m a xs ls x H' ∧ x 6 = some v ∧ DueTo ls ss i v H')
    ⟨fun _ _ z => z, x, .non, rfl, I1, h6, .inl ⟨rfl, fun _ z => by rw [List.take_zero] at z; cases z⟩⟩ (fun i σ H' _ h => SqL.of (h.1 _ _ hF)) ?_ ?_⟩
  · rintro i u σ H' hu ⟨s1, x, v, rfl, I, h6, hd⟩
    obtain ⟨l, hli, b, rfl, hb⟩ := hy.get hu
    have hb' := s1 _ _ hb
    have I7 := I.set 7 (some (.ref b))
    refine ⟨_, congrArg some h6, rfl, _, rfl, ?_⟩
    rcases hd with ⟨rfl, hd⟩ | ⟨j, g, k1, k2, k3⟩
    · refine iteT ⟨_, congrArg some I.x4, _, rfl, a, b, xs, ls, l, rfl, I.ha, I.hl, I.fit.1, hb', fun H2 r s2 hr => ⟨r, rfl, ?_⟩⟩
      have hd' : ∀ t ∈ ss.take (i + 1), t ∈ ss.take i ∨ t = l := fun t ht => by
        rw [List.take_add_one, hli] at ht
        rcases List.mem_append.mp ht with ht | ht
        · exact .inl ht
        · exact .inr (by simpa using ht)
      cases r with
      | true =>
        refine iteT ⟨_, rfl, fun b o e => s2 b o (s1 b o e), sx (sx x 7 (some (.ref b))) 6 (some (.ref b)), .ref b, rfl, (I7.sm s2).set 6 _, rfl, .inr ⟨i, l, hli, ⟨b, rfl, s2 _ _ hb'⟩, hr.mp rfl, hd⟩⟩
      | false =>
        refine iteF ⟨fun b o e => s2 b o (s1 b o e), sx x 7 (some (.ref b)), .non, rfl, I7.sm s2, h6, .inl ⟨rfl, fun t ht => ?_⟩⟩
        rcases hd' t ht with h | rfl
        · exact hd t h
        · exact fun z => absurd (hr.mpr z) (by decide)
    · obtain ⟨q, rfl, hq⟩ := k2
      exact iteF ⟨s1, sx x 7 (some (.ref b)), .ref q, rfl, I7, h6, .inr ⟨j, g, k1, ⟨q, rfl, hq⟩, k3⟩⟩
  · rintro σ H' ⟨s1, x, v, rfl, I, h6, hd⟩
    rw [hy.len] at hd
    exact hN _ _ ⟨x, m, a, xs, ls, v, rfl, I, h6, hd.fin hp pw⟩
end
end Lm
namespace Lm
open PySem PySem.Spec PyProof.Rows L2 LamX
theorem lotD_inj {a b : List Int} (h : lotD a = lotD b) : a = b := by
  unfold lotD at h
  injection h with h
  exact map_int_inj h
theorem lots_inj : ∀ {a b : Hm.Lots}, a.map lotD = b.map lotD → a = b
  | [], [], _ => rfl
  | [], _ :: _, h => by cases h
  | _ :: _, [], h => by cases h
  | x :: r, y :: s, h => by
    rw [List.map_cons, List.map_cons] at h
    injection h with h1 h2
    rw [lotD_inj h1, lots_inj h2]
theorem gap_lot {n : Int} {ls : Hm.Lots} (h : GapsOk n ls) : ∀ d ∈ ls.map lotD, GapIs n d := fun d hd => by
  obtain ⟨l, hl, rfl⟩ := List.mem_map.mp hd
  exact ⟨l, rfl, (h l hl).1, (h l hl).2⟩
theorem sized_lots {d : PyData} {ls : Hm.Lots} {n : Int} (h : rowsD d = some (ls.map lotD)) (k : GapsOk n ls) (hn : n ≤ 16) (hl : ls.length ≤ 400) : Sized d := by
  refine sized_rows h (by rw [List.length_map]; omega) fun e he => ?_
  obtain ⟨l, hm, rfl⟩ := List.mem_map.mp he
  have := asc_len (k l hm).2 (k l hm).1
  show (l.map PyData.int).length ≤ 1000
  rw [List.length_map]
  omega
/-- what is asked rightly is answered -/
theorem asked_good {BM BL : Addr} {H : Hp} {m : Nat} {d : PyData} {ls : Hm.Lots} {E : XK} {good : Int → Hm.Lots → Prop} (m1 : 1 ≤ m) (m2 : m ≤ 16) (hd : rowsD d = some (ls.map lotD)) (hl : ls.length ≤ 400) (k : GapsOk (m : Nat) ls) (g : good (m : Nat) ls) : Asked BM BL H (.int (m : Nat)) d E good :=
  .inr (.inr ⟨(m : Nat), ls.map lotD, rfl, by omega, by omega, hd, by rw [List.length_map]; exact hl, .inr ⟨gap_lot k, fun ls' e _ => by rw [← lots_inj e]; exact g⟩⟩)
theorem ask_least {BM BL : Addr} {D : DrA} {n m : Nat} {a : Addr} {xs : List V} {ls : Hm.Lots} {H : Hp} {Q : VK} {E : XK} (dr : DrawAt D n H) (m1 : 1 ≤ m) (m2 : m ≤ 16) (ha : H a = some (.lst xs) ∨ H a = some (.tup xs)) (ad : a ≠ D.d) (aw : a ≠ D.w) (hl : LsAt H xs ls) (l4 : ls.length ≤ 400) (k : GapsOk (m : Nat) ls)
    (q : ∀ H' v, Same H H' → FirstV ls (m : Nat) H' v → Q v H') : spLeast BM BL [.int (m : Nat), .ref a] H Q E := by
  rcases ha with ha | ha
  · exact ⟨D, _, _, .int (m : Nat), .list (ls.map lotD), rfl, .int _, .lst ha ad aw (hl.da dr), sized_lots rfl k (by omega) l4, asked_good m1 m2 rfl l4 k q⟩
  · exact ⟨D, _, _, .int (m : Nat), .tuple (ls.map lotD), rfl, .int _, .tup ha ad aw (hl.da dr), sized_lots rfl k (by omega) l4, asked_good m1 m2 rfl l4 k q⟩
/-- a value as data: None or a lot -/
def Dv (v : V) (d : PyData) (H : Hp) : Prop := (v = .non ∧ d = .none) ∨ ∃ g, LotAt H v g ∧ d = lotD g
theorem Dv.sm {v : V} {d : PyData} {H H' : Hp} (h : Dv v d H) (s : Same H H') : Dv v d H' := by
  rcases h with h | ⟨g, a, b⟩
  · exact .inl h
  · exact .inr ⟨g, a.sm s, b⟩
theorem Dv.dp {K : PySem.W.Frag} {v : V} {d : PyData} {H : Hp} (h : Dv v d H) : Dp K H v d := by
  rcases h with ⟨rfl, rfl⟩ | ⟨g, a, rfl⟩
  · exact .non
  · exact dp_lot a
theorem no_empty {ls : Hm.Lots} {m : Nat} (k : GapsOk (m : Nat) ls) (h : ∀ t, Hm.Asc t → (∀ x ∈ t, 0 ≤ x ∧ x < (m : Int)) → ¬ Hm.hitsL ls t) : [] ∈ ls := by
  by_cases e : [] ∈ ls
  · exact e
  · refine absurd (fun l hl => ?_) (h (upTo m) (upTo_asc m) fun x hx => upTo_mem.mp hx)
    cases l with
    | nil => exact absurd hl e
    | cons x r => exact ⟨x, List.mem_cons_self .., upTo_mem.mpr ((k _ hl).1 x (List.mem_cons_self ..))⟩
theorem some_empty {ls : Hm.Lots} {g : List Int} (h : Hm.hitsL ls g) : [] ∉ ls := fun e => by
  obtain ⟨x, a, _⟩ := h [] e
  cases a
/-- the one data that the law and the program tell -/
structure DueD (ls : Hm.Lots) (m : Nat) (d : PyData) : Prop where
  two : (PyData.list [d, d]).showable = true ∧ (PyData.list [d, d]).hasDict = false ∧ (PyData.list [d, d]).depth ≤ 8 ∧ (PyData.list [d, d]).shown.length ≤ sizeLine
  non : d = .none ↔ [] ∈ ls
  same : ∀ H v, FirstV ls (m : Nat) H v → Dv v d H
theorem Due.data {ls : Hm.Lots} {m : Nat} {v : V} {H : Hp} (m16 : m ≤ 16) (k : GapsOk (m : Nat) ls) (h : Due ls m v H) : ∃ d, Dv v d H ∧ DueD ls m d := by
  rcases h with ⟨rfl, h⟩ | ⟨g, a, b, c, e, f⟩
  · have em := no_empty k h
    refine ⟨.none, .inl ⟨rfl, rfl⟩, ⟨⟨by decide +kernel, by decide +kernel, by decide +kernel, by decide +kernel⟩, ⟨fun _ => em, fun _ => rfl⟩, fun H' w hw => ?_⟩⟩
    rcases hw with ⟨rfl, _⟩ | ⟨p, t, _, _, F⟩
    · exact .inl ⟨rfl, rfl⟩
    · exact absurd F.hit (h t F.asc F.low)
  · have em := some_empty e
    have kg : GapsOk (m : Nat) [g, g] := fun l hl => by
      have : l = g := by simpa using hl
      rw [this]
      exact ⟨c, b⟩
    refine ⟨lotD g, .inr ⟨g, a, rfl⟩, ⟨list_show (ls := [g, g]) (gaps_show kg m16) (Nat.le_of_ble_eq_true rfl), ⟨fun z => (nomatch (show PyData.tuple (g.map .int) = .none from z)), fun z => absurd z em⟩, fun H' w hw => ?_⟩⟩
    rcases hw with ⟨_, z⟩ | ⟨p, t, rfl, ht, F⟩
    · exact absurd z em
    · have := first_due F b c e f
      subst this
      exact .inr ⟨t, ⟨p, rfl, ht⟩, rfl⟩
section
variable {P : Program} {w : World} {K : PySem.W.Frag} {mg : Str → Option Value} {base : Heap} {CS BM BL f c Pt : Addr} {A : Around} {outer : List Env} {s : Shared} {H0 : Hp} {E : XK} {cdv : Value} {T : List (Addr × Str)} {D : DrA} {n : Nat}
theorem st4 (C : Callees P w K mg base CS BM BL T) (hr : Room 30 (A.deeper (envOfC "law" (defScope sLaw) s.heap.objs.size f cdv))) (hg : A.guards = some []) : LX P w K mg base f cdv A outer s H0 E 4 (J4 T D n) (J4 T D n) := by
  have hgg : (A.deeper (envOfC "law" (defScope sLaw) s.heap.objs.size f cdv)).guards = some [] := hg
  refine ⟨_, ps_if (pt_cmpR op_ne
        (pe_callB (call_reprD K hgg hr.units) (by rfl) C.N.brep (by decide +kernel) (pa_cons (pe_lst (pa_cons (pe_h C.lh hr (by decide) (by rfl) passL (pa_cons (pv 3) (pa_cons (pv 4) pa_nil)))
          (pa_cons (pe_hK C.lhk hr (by decide) (by rfl) passL (pk_cons (pe_callTy (call_tupK K) (by rfl) C.N.btup (by decide +kernel) (pa_cons (pv 4) pa_nil)) (pk_cons (pv 3) pk_nil))) pa_nil))) pa_nil))
        (pe_callB (call_reprD K hgg hr.units) (by rfl) C.N.brep (by decide +kernel) (pa_cons (pe_lst (pa_cons (pv 6) (pa_cons (pv 6) pa_nil))) pa_nil)) (nomark _)) (pss_one (ps_ret pe_bl)) pss_nil, ?_⟩
  rintro Dn σ H ⟨x, m, a, xs, ls, v, rfl, I, h6, hd⟩ hN
  have m8 := I.m8
  obtain ⟨d, dv, DD⟩ := hd.data (by omega) I.gk
  obtain ⟨k1, k2, k3, k4⟩ := DD.two
  have l4 : ls.length ≤ 400 := by have := I.l7; omega
  refine ⟨_, congrArg some I.x3, _, congrArg some I.x4, ask_least I.dr I.m1 (by omega) (.inl I.ha) I.ad I.aw I.hl l4 I.gk fun H1 v1 s1 hv1 => ?_⟩
  have I1 := I.sm s1
  refine ⟨_, congrArg some I.x4, a, xs, rfl, .inl ⟨SqL.of I1.ha, fun t nt => ?_⟩⟩
  have s2 := same_upd (o := .tup xs) nt
  have ot := I1.dr.off nt
  have I2 := I1.sm s2
  have ht : (upd H1 t (.tup xs)) t = some (.tup xs) := upd_same
  generalize upd H1 t (.tup xs) = H2 at *
  refine ⟨_, congrArg some I.x3, rfl, ask_least I2.dr I.m1 (by omega) (.inr ht) ot.1 ot.2 I2.hl l4 I.gk fun H3 v2 s3 hv2 => ?_⟩
  have I3 := I2.sm s3
  have d1 := ((DD.same _ _ hv1).sm s2).sm s3
  have d2 := DD.same _ _ hv2
  refine ⟨by show 2 ≤ sizeLine; decide, fun p np => ?_⟩
  have s4 := same_upd (o := .lst [v1, v2]) np
  have I4 := I3.sm s4
  refine ⟨p, .list [d, d], rfl, .lst (SqL.of upd_same) (.cons (d1.sm s4).dp (.cons (d2.sm s4).dp .nil)), k1, k2, k3, k4, ?_⟩
  have dv4 := (((dv.sm s1).sm s2).sm s3).sm s4
  have hd4 := (((hd.sm s1).sm s2).sm s3).sm s4
  generalize upd H3 p (.lst [v1, v2]) = H4 at *
  refine ⟨_, congrArg some h6, _, congrArg some h6, by show 2 ≤ sizeLine; decide, fun p5 np5 => ?_⟩
  have s5 := same_upd (o := .lst [v, v]) np5
  have I5 := I4.sm s5
  refine ⟨p5, .list [d, d], rfl, .lst (SqL.of upd_same) (.cons (dv4.sm s5).dp (.cons (dv4.sm s5).dp .nil)), k1, k2, k3, k4, rfl, _, rfl, ite2 (fun z => ?_) (fun _ => ?_)⟩
  · rw [Bool.not_eq_true', decide_eq_false_iff_not] at z
    exact absurd rfl z
  · exact hN _ _ ⟨x, m, a, xs, ls, v, rfl, I5, h6, hd4.sm s5⟩
theorem any_empty {ls : Hm.Lots} : ((ls.map lotD).any fun z => PyData.eqv z (.tuple [])) = decide ([] ∈ ls) := by
  rw [List.any_map]
  have e : ∀ l : List Int, PyData.eqv (lotD l) (.tuple []) = decide (l = []) := fun l => eqv_lots l []
  have : ((fun z => PyData.eqv z (.tuple [])) ∘ lotD) = fun l : List Int => decide (l = []) := by
    funext l
    exact e l
  rw [this]
  by_cases h : [] ∈ ls
  · rw [decide_eq_true h, List.any_eq_true]
    exact ⟨[], h, by simp⟩
  · rw [decide_eq_false h, List.any_eq_false]
    intro l hl z
    have z : l = [] := by simpa using z
    subst z
    exact h hl
theorem st5 (C : Callees P w K mg base CS BM BL T) (hr : Room 30 (A.deeper (envOfC "law" (defScope sLaw) s.heap.objs.size f cdv))) : LX P w K mg base f cdv A outer s H0 E 5 (J4 T D n) (J6 T D n) := by
  have hu65 : (A.deeper (envOfC "law" (defScope sLaw) s.heap.objs.size f cdv)).units + 65 < cLine := by
    have := hr.un
    omega
  refine ⟨_, ps_if (pt_cmpR (op_neD hr.units) (pe_cmpR op_isN (pv 6) pe_non (nomark _)) (pe_cmpR (op_inD hu65) (pe_tup pa_nil) (pv 4) (by rfl)) (nomark _)) (pss_one (ps_ret pe_bl)) pss_nil, ?_⟩
  rintro Dn σ H ⟨x, m, a, xs, ls, v, rfl, I, h6, hd⟩ hN
  have m8 := I.m8
  obtain ⟨d, dv, DD⟩ := hd.data (by omega) I.gk
  refine ⟨_, congrArg some h6, rfl, by show 0 ≤ sizeLine; decide, fun t nt => ?_⟩
  have s1 := same_upd (o := .tup []) nt
  have I1 := I.sm s1
  refine ⟨_, congrArg some I.x4, .tuple [], ls.map lotD, .tup (SqT.of upd_same) .nil, .lst (SqL.of I1.ha) (dp_lots I1.hl), by decide +kernel, shaped_lots ls, ?_⟩
  rw [any_empty]
  have e : decide (v = V.non) = decide ([] ∈ ls) := by
    rcases dv with ⟨rfl, rfl⟩ | ⟨g, ⟨q, rfl, _⟩, rfl⟩
    · rw [decide_eq_true (DD.non.mp rfl)]
      exact decide_eq_true rfl
    · have hno : [] ∉ ls := fun z => nomatch (show PyData.tuple (g.map .int) = .none from DD.non.mpr z)
      rw [decide_eq_false hno]
      exact decide_eq_false fun z => by cases z
  refine ⟨.bool _, .bool _, .bl _, .bl _, rfl, rfl, _, rfl, ?_⟩
  rw [e]
  have : (!PyData.eqv (.bool (decide ([] ∈ ls))) (.bool (decide ([] ∈ ls)))) = false := by
    cases decide ([] ∈ ls) <;> rfl
  rw [this]
  exact iteF (hN _ _ ⟨x, m, a, xs, ls, rfl, I1⟩)
def J7 (T : List (Addr × Str)) (D : DrA) (n : Nat) : L2.St → Hp → Prop := fun σ H => ∃ x m a xs ls vo od sp, σ = S x ∧ LI T (n + 105) D m a xs ls x H ∧ x 8 = some vo ∧ x 9 = some sp ∧ Da D H vo od ∧ Sized od ∧ Bent (m : Nat) od sp
theorem st6 (C : Callees P w K mg base CS BM BL T) (hr : Room 30 (A.deeper (envOfC "law" (defScope sLaw) s.heap.objs.size f cdv))) (hn : n + 1000 ≤ B) : LX P w K mg base f cdv A outer s H0 E 6 (J6 T D n) (J7 T D n) := by
  refine ⟨_, ps_asg (pe_h C.GE hr (by decide) (by rfl) (E := C8.E0) pass0 (pa_cons (pv 1) (pa_cons (pv 3) (pa_cons (pe_op op_cat (pv 4) (pe_lst (pa_cons (pe_tup (pa_cons pe_int pa_nil)) pa_nil))) pa_nil))))
    (pg_tup rfl (pgs_cons (pg_name (i := 8) scLaw.nd rfl (.inr rfl)) (pgs_cons (pg_name (i := 9) scLaw.nd rfl (.inr rfl)) pgs_nil))), ?_⟩
  rintro Dn σ H ⟨x, m, a, xs, ls, rfl, I⟩ hN
  have l7 := I.l7
  have hxl := I.hl.len
  have m1 := I.m1
  refine ⟨_, congrArg some I.x1, _, congrArg some I.x3, _, congrArg some I.x4, by show 1 ≤ sizeLine; decide, fun t nt => ?_⟩
  have s1 := same_upd (o := .tup [.int 0]) nt
  have I1 := I.sm s1
  have ht : (upd H t (.tup [.int 0])) t = some (.tup [.int 0]) := upd_same
  generalize upd H t (.tup [.int 0]) = H1 at *
  refine ⟨by show 1 ≤ sizeLine; decide, fun p np => ?_⟩
  have s2 := same_upd (o := .lst [.ref t]) np
  have I2 := I1.sm s2
  have hp : (upd H1 p (.lst [.ref t])) p = some (.lst [.ref t]) := upd_same
  have ht2 := s2 _ _ ht
  generalize upd H1 p (.lst [.ref t]) = H2 at *
  refine ⟨a, p, xs, [.ref t], rfl, rfl, I2.ha, hp, small10000 (by show xs.length + 1 ≤ 10000; omega), fun q nq => ?_⟩
  have s3 := same_upd (o := .lst (xs ++ [.ref t])) nq
  have I3 := I2.sm s3
  have gk : GapsOk (m : Nat) (ls ++ [[0]]) := fun l hl => by
    rcases List.mem_append.mp hl with hl | hl
    · exact I.gk l hl
    · rw [List.mem_singleton.mp hl]
      exact ⟨fun y hy => by rw [List.mem_singleton.mp hy]; omega, List.pairwise_singleton _ _⟩
  refine ⟨D, n + 101, (m : Nat), q, xs ++ [.ref t], ls ++ [[0]], rfl, I3.dr, by omega, by omega, by have := I.m8; omega, upd_same, LsAt.app I3.hl (.cons ⟨t, rfl, s3 _ _ ht2⟩ .nil), by simp, by rw [List.length_append]; show ls.length + 1 ≤ 10; omega, gk, fun H4 tt vo sp od nt4 ht4 hod sz bt d4 f4 => ?_⟩
  refine ⟨tt, _, rfl, SqT.of ht4, rfl, _, _, rfl, _, _, rfl, rfl, ?_⟩
  have I4 := I3.fr f4 d4
  exact hN _ _ ⟨sx (sx x 8 (some vo)) 9 (some sp), m, a, xs, ls, vo, od, sp, rfl, (I4.set 8 _).set 9 _, rfl, rfl, hod, sz, bt⟩
end
end Lm
namespace Lm
open PySem PySem.Spec PyProof.Rows L2 LamX
/-! ### behind one object -/
theorem hid_sub {p : Addr} {H : Hp} : Same (hid p H) H := fun _ _ e => (hid_at e).2
theorem hid_ext {p : Addr} {H H' : Hp} (x : ExtN H H') : ExtN (hid p H) (hid p H') := fun b o e k => by
  obtain ⟨n, h⟩ := hid_at e
  exact hid_of n (x _ _ h k)
theorem hid_self {p : Addr} {H : Hp} {o : HO} : hid p (upd H p o) = hid p H := by
  funext b
  show (if b = p then none else upd H p o b) = (if b = p then none else H b)
  by_cases e : b = p
  · rw [if_pos e, if_pos e]
  · rw [if_neg e, if_neg e, upd_ne e]
theorem hid_new {p : Addr} {H : Hp} {o : HO} (n : H p = none) : Same H (hid p (upd H p o)) := fun b x e => by
  have k := ne_of_none e n
  exact hid_of k (by rw [upd_ne k]; exact e)
theorem tabs_hid {T : List (Addr × Str)} {p : Addr} {H : Hp} {es : List V} (t : Tabs T H) (h : H p = some (.lst es)) : Tabs T (hid p H) := by
  intro q hq
  obtain ⟨ps, e1, e2, e3⟩ := t q hq
  refine ⟨ps, hid_of (ne_of e1 h (fun z => by cases z)) e1, e2, fun pos cv hc => ?_⟩
  obtain ⟨c, a, b⟩ := e3 pos cv hc
  exact ⟨c, a, hid_of (ne_of b h (fun z => by unfold CodeO at z; cases z)) b⟩
/-! ### what was raised -/
def ErrL (BL : Addr) (sp : V) (H : Hp) (e : V) : Prop := ∃ a dx, e = .ref a ∧ H a = some (ExI a (.ref BL) (some dx)) ∧ H dx = some (.xd [("at", sp)])
theorem ErrL.ext {BL : Addr} {sp e : V} {H H' : Hp} (h : ErrL BL sp H e) (x : ExtN H H') : ErrL BL sp H' e := by
  obtain ⟨a, dx, rfl, h1, h2⟩ := h
  exact ⟨a, dx, rfl, x _ _ h1 (fun _ z => by unfold ExI at z; cases z), x _ _ h2 fun _ z => by cases z⟩
def ErrM (BM : Addr) (H : Hp) (e : V) : Prop := ∃ a, e = .ref a ∧ H a = some (ExI a (.ref BM) none)
theorem ErrM.ext {BM : Addr} {e : V} {H H' : Hp} (h : ErrM BM H e) (x : ExtN H H') : ErrM BM H' e := by
  obtain ⟨a, rfl, h1⟩ := h
  exact ⟨a, rfl, x _ _ h1 fun _ z => by unfold ExI at z; cases z⟩
theorem asked_bent {BM BL : Addr} {H : Hp} {m : Nat} {od : PyData} {sp : V} {E : XK} {good : Int → Hm.Lots → Prop} (m1 : 1 ≤ m) (m8 : m ≤ 16) (bt : Bent (m : Nat) od sp) (q : ∀ H' dx, Same H H' → H' dx = some (.xd [("at", sp)]) → E (.ref BL) (some dx) H') : Asked BM BL H (.int (m : Nat)) od E good := by
  rcases bt with ⟨i, ds, rfl, _, hr, hl, bad⟩ | ⟨rfl, h⟩
  · exact .inr (.inr ⟨(m : Nat), ds, rfl, by omega, by omega, hr, hl, .inl ⟨i, bad, q⟩⟩)
  · exact .inr (.inl ⟨⟨(m : Nat), rfl, by omega, by omega⟩, h, q⟩)
theorem Bent.spot {m : Int} {od : PyData} {sp : V} (bt : Bent m od sp) : sp = .non ∨ ∃ i : Int, sp = .int i ∧ i.natAbs.log2 < 1920 := by
  rcases bt with ⟨i, ds, rfl, hi, _⟩ | ⟨rfl, _⟩
  · refine .inr ⟨_, rfl, ?_⟩
    show i.log2 < 1920
    by_cases h0 : i = 0
    · rw [h0]
      decide
    · have : i.log2 < 10 := (Nat.log2_lt h0).mpr (by omega)
      omega
  · exact .inl rfl
def rIsY (K : PySem.W.Frag) (D : Addr) : List V → Hp → VK → Prop := fun xs H Q => ∃ (a dd : Addr) (fs : List (Str × V)) (c : V) (cv : Value) (b : Bool), xs = [.ref a, c] ∧ H a = some (ExI a (.ref D) (some dd)) ∧ H dd = some (.xd fs) ∧ (∀ u, RelV c u → u = cv) ∧ PySem.W.kitOne K (.ref D) cv = some b ∧ Q (.bl b) H
theorem call_isYK {X : Cx} (K : PySem.W.Frag) {D : Addr} (C : ExcC K D) (hK : X.K = K := by rfl) : CallR X (.builtin "isinstance") (rIsY K D) := by
  subst hK
  exact call_isY C
def rIsX (K : PySem.W.Frag) (D : Addr) : List V → Hp → VK → Prop := fun xs H Q => ∃ (a : Addr) (c : V) (cv : Value) (b : Bool), xs = [.ref a, c] ∧ H a = some (ExI a (.ref D) none) ∧ (∀ u, RelV c u → u = cv) ∧ PySem.W.kitOne K (.ref D) cv = some b ∧ Q (.bl b) H
theorem call_isXK {X : Cx} (K : PySem.W.Frag) {D : Addr} (C : ExcC K D) (hK : X.K = K := by rfl) : CallR X (.builtin "isinstance") (rIsX K D) := by
  subst hK
  exact call_isX C
theorem pe_xatK {X : Cx} (K : PySem.W.Frag) {e : Expr} {te : TE} {pos : Pos} {f : Str} (he : PE X e te) (hK : X.K = K := by rfl) (hb : attributeBase e f X.env (eval e X.env) = eval e X.env := by rfl) : PE X (.Attribute e f pos) (tXat K f te) := by
  subst hK
  exact pe_xat he hb
section
variable {P : Program} {w : World} {K : PySem.W.Frag} {mg : Str → Option Value} {base : Heap} {CS BM BL f c Pt : Addr} {A : Around} {outer : List Env} {s : Shared} {H0 : Hp} {E : XK} {T : List (Addr × Str)} {D : DrA} {n : Nat}
def JE (BL : Addr) (T : List (Addr × Str)) (D : DrA) (n k : Nat) : L2.St → Hp → Prop := fun σ H => ∃ x m a xs ls vo od sp sv es, σ = S x ∧ x 10 = some (.ref sv) ∧ H sv = some (.lst es) ∧ es.length = k ∧ (∀ e ∈ es, ErrL BL sp (hid sv H) e) ∧
  LI T (n + 105) D m a xs ls x (hid sv H) ∧ x 8 = some vo ∧ x 9 = some sp ∧ Da D (hid sv H) vo od ∧ Sized od ∧ Bent (m : Nat) od sp
/-- the table of the law's lambdas -/
def TOk (T : List (Addr × Str)) (Pt : Addr) : Prop := (Pt, (envOfC "law" (defScope sLaw) 0 0 .none).qual ++ "<lambda>") ∈ T ∧ ∀ p ∈ T, p.1 = Pt → p.2 = (envOfC "law" (defScope sLaw) 0 0 .none).qual ++ "<lambda>"
theorem st7 (C : Callees P w K mg base CS BM BL T) (hr : Room 30 (A.deeper (envOfC "law" (defScope sLaw) s.heap.objs.size f (.ref c)))) (TB : LamX.TabB base mg c Pt) (hT : TOk T Pt) : LX P w K mg base f (.ref c) A outer s H0 E 7 (J7 T D n) (JE BL T D n 1) := by
  refine ⟨_, ps_set (i := 10) scLaw.nd rfl (.inl rfl) (pe_lst (pa_cons
    (pe_caught (T := T) C.caught C.lane TB rfl hT.1 hT.2 (hr.mono (by decide : 24 ≤ 30)) (by rfl) (show LamS (defScope sLaw) _ from lamS_by (by decide +kernel)) rfl (fun _ _ _ _ _ => rfl)
      (fun A outer s H E f c' hr => pe_h C.lh hr (by decide) (by rfl) passLam (pa_cons (pv 3) (pa_cons (pv 8) pa_nil)))) pa_nil)), ?_⟩
  rintro Dn σ H ⟨x, m, a, xs, ls, vo, od, sp, rfl, I, h8, h9, hod, sz, bt⟩ hN
  refine ⟨I.tb, fun H1 e1 T1 => ?_⟩
  have I1 := I.ext e1 T1
  have hod1 := hod.fr (extN_frT e1)
  refine ⟨_, congrArg some I.x3, _, congrArg some h8, D, _, _, .int (m : Nat), od, rfl, .int _, hod1, sz, asked_bent I.m1 (by have := I.m8; omega) bt fun H2 dx s2 hx => ⟨C.bl.exm, fun e ne => ?_⟩⟩
  have s3 := same_upd (o := ExI e (.ref BL) (some dx)) ne
  have hx3 := s3 _ _ hx
  have he3 : (upd H2 e (ExI e (.ref BL) (some dx))) e = some (ExI e (.ref BL) (some dx)) := upd_same
  have I3 := (I1.sm s2).sm s3
  have hod3 := (hod1.sm s2).sm s3
  generalize upd H2 e (ExI e (.ref BL) (some dx)) = H3 at *
  refine ⟨by show 1 ≤ sizeLine; decide, fun sv nsv => ?_⟩
  have s4 := hid_new (o := .lst [.ref e]) nsv
  refine hN _ _ ⟨sx x 10 (some (.ref sv)), m, a, xs, ls, vo, od, sp, sv, [.ref e], rfl, rfl, upd_same, rfl, fun y hy => ?_, (I3.sm s4).set 10 _, h8, h9, hod3.sm s4, sz, bt⟩
  rw [List.mem_singleton.mp hy]
  exact ⟨e, dx, rfl, s4 _ _ he3, s4 _ _ hx3⟩
/-- one more is caught -/
theorem more_err {x : Nat → Option V} {m : Nat} {a : Addr} {xs : List V} {ls : Hm.Lots} {vo : V} {od : PyData} {sp : V} {sv : Addr} {es : List V} {k : Nat} {H H1 H2 : Hp} {e dx : Addr} (h10 : x 10 = some (.ref sv)) (hsv : H sv = some (.lst es)) (hk : es.length = k) (herr : ∀ y ∈ es, ErrL BL sp (hid sv H) y)
    (I : LI T (n + 105) D m a xs ls x (hid sv H)) (h8 : x 8 = some vo) (h9 : x 9 = some sp) (hod : Da D (hid sv H) vo od) (sz : Sized od) (bt : Bent (m : Nat) od sp) (e1 : ExtN H H1) (T1 : Tabs T H1) (s2 : Same H1 H2) (hx : H2 dx = some (.xd [("at", sp)])) (ne : H2 e = none) :
    (upd H2 e (ExI e (.ref BL) (some dx))) sv = some (.lst es) ∧ JE BL T D n (k + 1) (S x) (upd (upd H2 e (ExI e (.ref BL) (some dx))) sv (.lst (es ++ [.ref e]))) := by
  have hsv1 : H1 sv = some (.lst es) := e1 _ _ hsv (fun _ z => by cases z)
  have s3 := same_upd (o := ExI e (.ref BL) (some dx)) ne
  have hx3 := s3 _ _ hx
  have he3 : (upd H2 e (ExI e (.ref BL) (some dx))) e = some (ExI e (.ref BL) (some dx)) := upd_same
  have hsv3 := s3 _ _ (s2 _ _ hsv1)
  have I3 := (I.ext (hid_ext e1) (tabs_hid T1 hsv1)).sm (hid_sm (s2.trans s3))
  have x3 : ExtN (hid sv H) (hid sv (upd H2 e (ExI e (.ref BL) (some dx)))) := (hid_ext e1).trans (.of (hid_sm (s2.trans s3)))
  have hod3 := hod.fr (extN_frT x3)
  have err3 : ∀ y ∈ es, ErrL BL sp (hid sv (upd H2 e (ExI e (.ref BL) (some dx)))) y := fun y hy => (herr y hy).ext x3
  generalize upd H2 e (ExI e (.ref BL) (some dx)) = H3 at *
  refine ⟨hsv3, x, m, a, xs, ls, vo, od, sp, sv, es ++ [.ref e], rfl, h10, upd_same, by rw [List.length_append, hk]; rfl, ?_, ?_, h8, h9, ?_, sz, bt⟩
  · intro y hy
    rw [hid_self]
    rcases List.mem_append.mp hy with hy | hy
    · exact err3 y hy
    · rw [List.mem_singleton.mp hy]
      exact ⟨e, dx, rfl, hid_of (ne_of he3 hsv3 (fun z => by unfold ExI at z; cases z)) he3, hid_of (ne_of hx3 hsv3 (fun z => by cases z)) hx3⟩
  · rw [hid_self]
    exact I3
  · rw [hid_self]
    exact hod3
theorem st8 (C : Callees P w K mg base CS BM BL T) (hr : Room 30 (A.deeper (envOfC "law" (defScope sLaw) s.heap.objs.size f (.ref c)))) (TB : LamX.TabB base mg c Pt) (hT : TOk T Pt) : LX P w K mg base f (.ref c) A outer s H0 E 8 (JE BL T D n 1) (JE BL T D n 2) := by
  refine ⟨_, ps_expr (pe_bm PySem.F.plainAttrs_list PySem.F.slot_list_append PySem.F.type_list_append mt_append (pv 10) (pa_cons
    (pe_caught (T := T) C.caught C.lane TB rfl hT.1 hT.2 (hr.mono (by decide : 24 ≤ 30)) (by rfl) (show LamS (defScope sLaw) _ from lamS_by (by decide +kernel)) rfl (fun _ _ _ _ _ => rfl)
      (fun A outer s H E f c' hr => pe_h C.ht hr (by decide) (by rfl) passLam (pa_cons (pv 3) (pa_cons (pv 8) (pa_cons pe_non pa_nil))))) pa_nil)), ?_⟩
  rintro Dn σ H ⟨x, m, a, xs, ls, vo, od, sp, sv, es, rfl, h10, hsv, hk, herr, I, h8, h9, hod, sz, bt⟩ hN
  refine ⟨_, congrArg some h10, .inl ⟨rfl, _, SqL.of hsv⟩, I.tb.ext hid_sub, fun H1 e1 T1 => ?_⟩
  have hod1 := (hod.sm hid_sub).fr (extN_frT e1)
  refine ⟨_, congrArg some I.x3, _, congrArg some h8, D, _, _, .int (m : Nat), od, [.non], rfl, rfl, .int _, hod1, sz, asked_bent I.m1 (by have := I.m8; omega) bt fun H2 dx s2 hx => ⟨C.bl.exm, fun e ne => ?_⟩⟩
  obtain ⟨q1, q2⟩ := more_err h10 hsv hk herr I h8 h9 hod sz bt e1 T1 s2 hx ne
  exact ⟨sv, es, _, rfl, rfl, q1, small1000 (by omega), hN _ _ q2⟩
theorem st9 (C : Callees P w K mg base CS BM BL T) (hr : Room 30 (A.deeper (envOfC "law" (defScope sLaw) s.heap.objs.size f (.ref c)))) (TB : LamX.TabB base mg c Pt) (hT : TOk T Pt) : LX P w K mg base f (.ref c) A outer s H0 E 9 (JE BL T D n 2) (JE BL T D n 3) := by
  refine ⟨_, ps_expr (pe_bm PySem.F.plainAttrs_list PySem.F.slot_list_append PySem.F.type_list_append mt_append (pv 10) (pa_cons
    (pe_caught (T := T) C.caught C.lane TB rfl hT.1 hT.2 (hr.mono (by decide : 24 ≤ 30)) (by rfl) (show LamS (defScope sLaw) _ from lamS_by (by decide +kernel)) rfl (fun _ _ _ _ _ => rfl)
      (fun A outer s H E f c' hr => pe_h C.it hr (by decide) (by rfl) passLam (pa_cons (pv 3) (pa_cons (pv 8) (pa_cons pe_non (pa_cons pe_non pa_nil)))))) pa_nil)), ?_⟩
  rintro Dn σ H ⟨x, m, a, xs, ls, vo, od, sp, sv, es, rfl, h10, hsv, hk, herr, I, h8, h9, hod, sz, bt⟩ hN
  refine ⟨_, congrArg some h10, .inl ⟨rfl, _, SqL.of hsv⟩, I.tb.ext hid_sub, fun H1 e1 T1 => ?_⟩
  have hod1 := (hod.sm hid_sub).fr (extN_frT e1)
  refine ⟨_, congrArg some I.x3, _, congrArg some h8, D, _, _, .int (m : Nat), od, [.non, .non], rfl, rfl, .int _, hod1, sz, asked_bent I.m1 (by have := I.m8; omega) bt fun H2 dx s2 hx => ⟨C.bl.exm, fun e ne => ?_⟩⟩
  obtain ⟨q1, q2⟩ := more_err h10 hsv hk herr I h8 h9 hod sz bt e1 T1 s2 hx ne
  exact ⟨sv, es, _, rfl, rfl, q1, small1000 (by omega), hN _ _ q2⟩
def J11 (T : List (Addr × Str)) (D : DrA) (n : Nat) : L2.St → Hp → Prop := fun σ H => ∃ x m a xs ls vo od, σ = S x ∧ LI T (n + 105) D m a xs ls x H ∧ x 8 = some vo ∧ Da D H vo od ∧ Sized od
theorem st10 (C : Callees P w K mg base CS BM BL T) (hr : Room 30 (A.deeper (envOfC "law" (defScope sLaw) s.heap.objs.size f (.ref c)))) : LX P w K mg base f (.ref c) A outer s H0 E 10 (JE BL T D n 3) (J11 T D n) := by
  refine ⟨_, ps_if (pt_cmpR (op_neD hr.units) (pe_lc (own := [("_law_error", 11)]) (g := gName 11) rfl scLaw.nd (pi_listK K (pv 10)) (blkOk_by (own := [("_law_error", 11)]) (N := nLaw) (sc := defScope sLaw) (by decide +kernel)) (fun _ _ _ _ _ => pg_name (i := 11) scLaw.nd rfl (Or.inl rfl))
      (fun _ _ _ _ _ => pts_one (pw_or (pt_not (pt_val (pe_callB (call_isYK K C.bl.ex) (by rfl) C.N.bisi (by decide +kernel) (pa_cons (pv 11) (pa_cons (pe_glob (v := V.ref BL) (by rfl) C.bl.at_ rfl) pa_nil)))))
        (pw_or1 (pt_cmpR op_ne (pe_callB call_reprN (by rfl) C.N.brep (by decide +kernel) (pa_cons (pe_xatK K (pv 11)) pa_nil)) (pe_callB call_reprN (by rfl) C.N.brep (by decide +kernel) (pa_cons (pv 9) pa_nil)) (nomark _)))).pt) (fun _ _ _ _ _ => pe_int))
    (pe_lst pa_nil) (nomark _)) (pss_one (ps_ret pe_bl)) pss_nil, ?_⟩
  rintro Dn σ H ⟨x, m, a, xs, ls, vo, od, sp, sv, es, rfl, h10, hsv, hk, herr, I, h8, h9, hod, sz, bt⟩ hN
  refine ⟨_, congrArg some h10, sv, rfl, ⟨_, SqL.of hsv⟩, fun R nR => lc_list (K := K) (a := sv) (xs := es) (fun i H' => Same H H' ∧ H' R = some (.lst [])) ⟨same_upd nR, upd_same⟩ (fun i H' _ h => SqL.of (h.1 _ _ hsv)) ?_ ?_⟩
  · rintro i y H' hy ⟨s1, hR⟩
    obtain ⟨e, dx, rfl, he, hx⟩ := herr y (List.mem_of_getElem? hy)
    have he' := s1 _ _ (hid_sub _ _ he)
    have hx' := s1 _ _ (hid_sub _ _ hx)
    have no : ∀ {X Y : Prop}, Y → (if (!decide (V.str (shN sp) = V.str (shN sp))) = true then X else Y) := fun h => by
      rw [decide_eq_true rfl]
      exact h
    exact ⟨rfl, _, rfl, e, dx, _, .ref BL, .ref BL, true, rfl, he', hx', fun _ r => r, C.bl.kit, true, rfl, iteT (B := True) ⟨_, rfl, e, BL, dx, _, sp, rfl, C.xf, C.no, he', hx', rfl, sp, rfl, bt.spot, _, congrArg some h9, sp, rfl, bt.spot, rfl, _, rfl, no ⟨s1, hR⟩⟩⟩
  · rintro H1 ⟨s1, hR⟩
    refine ⟨by show 0 ≤ sizeLine; decide, fun Z nZ => ?_⟩
    have s2 : Same H (upd H1 Z (.lst [])) := same_put s1 (none_of s1 nZ)
    refine ⟨.list [], .list [], .lst (SqL.of (same_upd nZ _ _ hR)) .nil, .lst (SqL.of upd_same) .nil, by decide +kernel, by decide +kernel, _, rfl, ?_⟩
    exact iteF (hN _ _ ⟨x, m, a, xs, ls, vo, od, rfl, (I.sm hid_sub).sm s2, h8, (hod.sm hid_sub).sm s2, sz⟩)
end
end Lm
namespace Lm
open PySem PySem.Spec PyProof.Rows L2 LamX
theorem noMany_kind {d : PyData} (h : isNum d = false) : ¬ ManyIs d := by
  rintro ⟨n, rfl, _⟩
  cases h
theorem noMany_int {n : Int} (h : ¬ (1 ≤ n ∧ n ≤ 16)) : ¬ ManyIs (.int n) := by
  rintro ⟨k, e, a, b⟩
  injection e with e
  subst e
  exact h ⟨a, b⟩
section
variable {P : Program} {w : World} {K : PySem.W.Frag} {mg : Str → Option Value} {base : Heap} {CS BM BL f c Pt : Addr} {A : Around} {outer : List Env} {s : Shared} {H0 : Hp} {E : XK} {T : List (Addr × Str)} {D : DrA} {n : Nat}
def J12 (T : List (Addr × Str)) (D : DrA) (n : Nat) : L2.St → Hp → Prop := fun σ H => ∃ x m a xs ls vo od vw dw, σ = S x ∧ LI T (n + 106) D m a xs ls x H ∧ x 8 = some vo ∧ Da D H vo od ∧ Sized od ∧ x 12 = some vw ∧ Da D H vw dw ∧ ¬ ManyIs dw
theorem st11 (C : Callees P w K mg base CS BM BL T) (hr : Room 30 (A.deeper (envOfC "law" (defScope sLaw) s.heap.objs.size f (.ref c)))) (hn : n + 1000 ≤ B) : LX P w K mg base f (.ref c) A outer s H0 E 11 (J11 T D n) (J12 T D n) := by
  refine ⟨_, ps_set (i := 12) scLaw.nd rfl (.inr rfl) (pe_h C.GP hr (by decide) (by rfl) (E := C8.E0) pass0 (pa_cons (pv 1) (pa_cons (pe_lst (pa_cons pe_non (pa_cons pe_int (pa_cons pe_int (pa_cons pe_bl (pa_cons pe_str (pa_cons (pe_un un_neg pe_int) (pa_cons (pe_tup (pa_cons pe_int pa_nil)) pa_nil)))))))) pa_nil))), ?_⟩
  rintro Dn σ H ⟨x, m, a, xs, ls, vo, od, rfl, I, h8, hod, sz⟩ hN
  refine ⟨_, congrArg some I.x1, 1, rfl, by show 1 ≤ sizeLine; decide, fun p1 np1 => ?_⟩
  obtain ⟨s1, d1, h1⟩ := tup_da I.dr (.cons (.int 4) .nil) np1
  have I1 := I.sm s1
  have hod1 := hod.sm s1
  generalize upd H p1 (.tup [.int 4]) = H1 at *
  refine ⟨by show 7 ≤ sizeLine; decide, fun p2 np2 => ?_⟩
  have s2 := same_upd (o := .lst [.non, .int 0, .int 17, .bl true, .str "4", .int (-1), .ref p1]) np2
  have I2 := I1.sm s2
  have kk : Pk (fun d => ¬ ManyIs d) D (upd H1 p2 (.lst [.non, .int 0, .int 17, .bl true, .str "4", .int (-1), .ref p1])) [.non, .int 0, .int 17, .bl true, .str "4", .int (-1), .ref p1] :=
    ⟨[.none, .int 0, .int 17, .bool true, .str "4", .int (-1), .tuple [.int 4]], .cons .non (.cons (.int 0) (.cons (.int 17) (.cons (.bl true) (.cons (.str "4") (.cons (.int (-1)) (.cons (h1.sm s2) .nil)))))), fun d hd => by
      have hd : d = .none ∨ d = .int 0 ∨ d = .int 17 ∨ d = .bool true ∨ d = .str "4" ∨ d = .int (-1) ∨ d = .tuple [.int 4] := by simpa using hd
      rcases hd with rfl | rfl | rfl | rfl | rfl | rfl | rfl
      · exact noMany_kind rfl
      · exact noMany_int (by omega)
      · exact noMany_int (by omega)
      · exact noMany_kind rfl
      · exact noMany_kind rfl
      · exact noMany_int (by omega)
      · exact noMany_kind rfl⟩
  refine pick_P (E := C8.E0) I2.dr (by omega) (fun H => H) (fun f => f) kk upd_same (by simp) (by simp) (I1.dr.off np2).2 fun H3 v d d3 f3 hm hv => ?_
  exact hN _ _ ⟨sx x 12 (some v), m, a, xs, ls, vo, od, v, d, rfl, (I2.fr f3 d3).set 12 _, h8, (hod1.sm s2).fr f3.t, sz, rfl, hv, hm⟩
def JW (BM : Addr) (T : List (Addr × Str)) (D : DrA) (n k : Nat) : L2.St → Hp → Prop := fun σ H => ∃ x m a xs ls vo od vw dw sv es, σ = S x ∧ x 10 = some (.ref sv) ∧ H sv = some (.lst es) ∧ es.length = k ∧ (∀ e ∈ es, ErrM BM (hid sv H) e) ∧
  LI T (n + 106) D m a xs ls x (hid sv H) ∧ x 8 = some vo ∧ Da D (hid sv H) vo od ∧ Sized od ∧ x 12 = some vw ∧ Da D (hid sv H) vw dw ∧ ¬ ManyIs dw
theorem st12 (C : Callees P w K mg base CS BM BL T) (hr : Room 30 (A.deeper (envOfC "law" (defScope sLaw) s.heap.objs.size f (.ref c)))) (TB : LamX.TabB base mg c Pt) (hT : TOk T Pt) : LX P w K mg base f (.ref c) A outer s H0 E 12 (J12 T D n) (JW BM T D n 1) := by
  refine ⟨_, ps_set (i := 10) scLaw.nd rfl (.inl rfl) (pe_lst (pa_cons
    (pe_caught (T := T) C.caught C.lane TB rfl hT.1 hT.2 (hr.mono (by decide : 24 ≤ 30)) (by rfl) (show LamS (defScope sLaw) _ from lamS_by (by decide +kernel)) rfl (fun _ _ _ _ _ => rfl)
      (fun A outer s H E f c' hr => pe_h C.lh hr (by decide) (by rfl) passLam (pa_cons (pv 12) (pa_cons (pv 8) pa_nil)))) pa_nil)), ?_⟩
  rintro Dn σ H ⟨x, m, a, xs, ls, vo, od, vw, dw, rfl, I, h8, hod, sz, h12, hw, hno⟩ hN
  refine ⟨I.tb, fun H1 e1 T1 => ?_⟩
  have I1 := I.ext e1 T1
  have hod1 := hod.fr (extN_frT e1)
  have hw1 := hw.fr (extN_frT e1)
  refine ⟨_, congrArg some h12, _, congrArg some h8, D, _, _, dw, od, rfl, hw1, hod1, sz, .inl ⟨hno, fun H2 s2 => ⟨C.bm.exm, fun e ne => ?_⟩⟩⟩
  have s3 := same_upd (o := ExI e (.ref BM) none) ne
  have he3 : (upd H2 e (ExI e (.ref BM) none)) e = some (ExI e (.ref BM) none) := upd_same
  have I3 := (I1.sm s2).sm s3
  have hod3 := (hod1.sm s2).sm s3
  have hw3 := (hw1.sm s2).sm s3
  generalize upd H2 e (ExI e (.ref BM) none) = H3 at *
  refine ⟨by show 1 ≤ sizeLine; decide, fun sv nsv => ?_⟩
  have s4 := hid_new (o := .lst [.ref e]) nsv
  refine hN _ _ ⟨sx x 10 (some (.ref sv)), m, a, xs, ls, vo, od, vw, dw, sv, [.ref e], rfl, rfl, upd_same, rfl, fun y hy => ?_, (I3.sm s4).set 10 _, h8, hod3.sm s4, sz, h12, hw3.sm s4, hno⟩
  rw [List.mem_singleton.mp hy]
  exact ⟨e, rfl, s4 _ _ he3⟩
theorem more_many {x : Nat → Option V} {m : Nat} {a : Addr} {xs : List V} {ls : Hm.Lots} {vo vw : V} {od dw : PyData} {sv : Addr} {es : List V} {k : Nat} {H H1 H2 : Hp} {e : Addr} (h10 : x 10 = some (.ref sv)) (hsv : H sv = some (.lst es)) (hk : es.length = k) (herr : ∀ y ∈ es, ErrM BM (hid sv H) y)
    (I : LI T (n + 106) D m a xs ls x (hid sv H)) (h8 : x 8 = some vo) (hod : Da D (hid sv H) vo od) (sz : Sized od) (h12 : x 12 = some vw) (hw : Da D (hid sv H) vw dw) (hno : ¬ ManyIs dw) (e1 : ExtN H H1) (T1 : Tabs T H1) (s2 : Same H1 H2) (ne : H2 e = none) :
    (upd H2 e (ExI e (.ref BM) none)) sv = some (.lst es) ∧ JW BM T D n (k + 1) (S x) (upd (upd H2 e (ExI e (.ref BM) none)) sv (.lst (es ++ [.ref e]))) := by
  have hsv1 : H1 sv = some (.lst es) := e1 _ _ hsv (fun _ z => by cases z)
  have s3 := same_upd (o := ExI e (.ref BM) none) ne
  have he3 : (upd H2 e (ExI e (.ref BM) none)) e = some (ExI e (.ref BM) none) := upd_same
  have hsv3 := s3 _ _ (s2 _ _ hsv1)
  have I3 := (I.ext (hid_ext e1) (tabs_hid T1 hsv1)).sm (hid_sm (s2.trans s3))
  have x3 : ExtN (hid sv H) (hid sv (upd H2 e (ExI e (.ref BM) none))) := (hid_ext e1).trans (.of (hid_sm (s2.trans s3)))
  have hod3 := hod.fr (extN_frT x3)
  have hw3 := hw.fr (extN_frT x3)
  have err3 : ∀ y ∈ es, ErrM BM (hid sv (upd H2 e (ExI e (.ref BM) none))) y := fun y hy => (herr y hy).ext x3
  generalize upd H2 e (ExI e (.ref BM) none) = H3 at *
  refine ⟨hsv3, x, m, a, xs, ls, vo, od, vw, dw, sv, es ++ [.ref e], rfl, h10, upd_same, by rw [List.length_append, hk]; rfl, ?_, ?_, h8, ?_, sz, h12, ?_, hno⟩
  · intro y hy
    rw [hid_self]
    rcases List.mem_append.mp hy with hy | hy
    · exact err3 y hy
    · rw [List.mem_singleton.mp hy]
      exact ⟨e, rfl, hid_of (ne_of he3 hsv3 (fun z => by unfold ExI at z; cases z)) he3⟩
  · rw [hid_self]
    exact I3
  · rw [hid_self]
    exact hod3
  · rw [hid_self]
    exact hw3
theorem st13 (C : Callees P w K mg base CS BM BL T) (hr : Room 30 (A.deeper (envOfC "law" (defScope sLaw) s.heap.objs.size f (.ref c)))) (TB : LamX.TabB base mg c Pt) (hT : TOk T Pt) : LX P w K mg base f (.ref c) A outer s H0 E 13 (JW BM T D n 1) (JW BM T D n 2) := by
  refine ⟨_, ps_expr (pe_bm PySem.F.plainAttrs_list PySem.F.slot_list_append PySem.F.type_list_append mt_append (pv 10) (pa_cons
    (pe_caught (T := T) C.caught C.lane TB rfl hT.1 hT.2 (hr.mono (by decide : 24 ≤ 30)) (by rfl) (show LamS (defScope sLaw) _ from lamS_by (by decide +kernel)) rfl (fun _ _ _ _ _ => rfl)
      (fun A outer s H E f c' hr => pe_h C.ht hr (by decide) (by rfl) passLam (pa_cons (pv 12) (pa_cons (pv 8) (pa_cons pe_non pa_nil))))) pa_nil)), ?_⟩
  rintro Dn σ H ⟨x, m, a, xs, ls, vo, od, vw, dw, sv, es, rfl, h10, hsv, hk, herr, I, h8, hod, sz, h12, hw, hno⟩ hN
  refine ⟨_, congrArg some h10, .inl ⟨rfl, _, SqL.of hsv⟩, I.tb.ext hid_sub, fun H1 e1 T1 => ?_⟩
  have hod1 := (hod.sm hid_sub).fr (extN_frT e1)
  have hw1 := (hw.sm hid_sub).fr (extN_frT e1)
  refine ⟨_, congrArg some h12, _, congrArg some h8, D, _, _, dw, od, [.non], rfl, rfl, hw1, hod1, sz, .inl ⟨hno, fun H2 s2 => ⟨C.bm.exm, fun e ne => ?_⟩⟩⟩
  obtain ⟨q1, q2⟩ := more_many h10 hsv hk herr I h8 hod sz h12 hw hno e1 T1 s2 ne
  exact ⟨sv, es, _, rfl, rfl, q1, small1000 (by omega), hN _ _ q2⟩
theorem st14 (C : Callees P w K mg base CS BM BL T) (hr : Room 30 (A.deeper (envOfC "law" (defScope sLaw) s.heap.objs.size f (.ref c)))) (TB : LamX.TabB base mg c Pt) (hT : TOk T Pt) : LX P w K mg base f (.ref c) A outer s H0 E 14 (JW BM T D n 2) (JW BM T D n 3) := by
  refine ⟨_, ps_expr (pe_bm PySem.F.plainAttrs_list PySem.F.slot_list_append PySem.F.type_list_append mt_append (pv 10) (pa_cons
    (pe_caught (T := T) C.caught C.lane TB rfl hT.1 hT.2 (hr.mono (by decide : 24 ≤ 30)) (by rfl) (show LamS (defScope sLaw) _ from lamS_by (by decide +kernel)) rfl (fun _ _ _ _ _ => rfl)
      (fun A outer s H E f c' hr => pe_h C.it hr (by decide) (by rfl) passLam (pa_cons (pv 12) (pa_cons (pv 8) (pa_cons pe_non (pa_cons pe_non pa_nil)))))) pa_nil)), ?_⟩
  rintro Dn σ H ⟨x, m, a, xs, ls, vo, od, vw, dw, sv, es, rfl, h10, hsv, hk, herr, I, h8, hod, sz, h12, hw, hno⟩ hN
  refine ⟨_, congrArg some h10, .inl ⟨rfl, _, SqL.of hsv⟩, I.tb.ext hid_sub, fun H1 e1 T1 => ?_⟩
  have hod1 := (hod.sm hid_sub).fr (extN_frT e1)
  have hw1 := (hw.sm hid_sub).fr (extN_frT e1)
  refine ⟨_, congrArg some h12, _, congrArg some h8, D, _, _, dw, od, [.non, .non], rfl, rfl, hw1, hod1, sz, .inl ⟨hno, fun H2 s2 => ⟨C.bm.exm, fun e ne => ?_⟩⟩⟩
  obtain ⟨q1, q2⟩ := more_many h10 hsv hk herr I h8 hod sz h12 hw hno e1 T1 s2 ne
  exact ⟨sv, es, _, rfl, rfl, q1, small1000 (by omega), hN _ _ q2⟩
theorem st15 (C : Callees P w K mg base CS BM BL T) (hr : Room 30 (A.deeper (envOfC "law" (defScope sLaw) s.heap.objs.size f (.ref c)))) (hg : A.guards = some []) : LX P w K mg base f (.ref c) A outer s H0 E 15 (JW BM T D n 3) (J0 T D (n + 106)) := by
  have hgg : (A.deeper (envOfC "law" (defScope sLaw) s.heap.objs.size f (.ref c))).guards = some [] := hg
  refine ⟨_, ps_if (pw_or (pt_cmpR (op_neD hr.units) (pe_lc (own := [("_law_error", 11)]) (g := gName 11) rfl scLaw.nd (pi_listK K (pv 10)) (blkOk_by (own := [("_law_error", 11)]) (N := nLaw) (sc := defScope sLaw) (by decide +kernel)) (fun _ _ _ _ _ => pg_name (i := 11) scLaw.nd rfl (Or.inl rfl))
      (fun _ _ _ _ _ => pts_one (pt_not (pt_val (pe_callB (call_isXK K C.bm.ex) (by rfl) C.N.bisi (by decide +kernel) (pa_cons (pv 11) (pa_cons (pe_glob (v := V.ref BM) (by rfl) C.bm.at_ rfl) pa_nil)))))) (fun _ _ _ _ _ => pe_int))
    (pe_lst pa_nil) (nomark _)) (pw_or1 (pt_cmpR op_ne (pe_callB (call_reprD K hgg hr.units) (by rfl) C.N.brep (by decide +kernel) (pa_cons (pv 4) pa_nil)) (pv 5) (nomark _)))).pt (pss_one (ps_ret pe_bl)) pss_nil, ?_⟩
  rintro Dn σ H ⟨x, m, a, xs, ls, vo, od, vw, dw, sv, es, rfl, h10, hsv, hk, herr, I, h8, hod, sz, h12, hw, hno⟩ hN
  refine ⟨_, congrArg some h10, sv, rfl, ⟨_, SqL.of hsv⟩, fun R nR => lc_list (K := K) (a := sv) (xs := es) (fun i H' => Same H H' ∧ H' R = some (.lst [])) ⟨same_upd nR, upd_same⟩ (fun i H' _ h => SqL.of (h.1 _ _ hsv)) ?_ ?_⟩
  · rintro i y H' hy ⟨s1, hR⟩
    obtain ⟨e, rfl, he⟩ := herr y (List.mem_of_getElem? hy)
    have he' := s1 _ _ (hid_sub _ _ he)
    exact ⟨rfl, _, rfl, e, .ref BM, .ref BM, true, rfl, he', fun _ r => r, C.bm.kit, true, rfl, s1, hR⟩
  · rintro H1 ⟨s1, hR⟩
    refine ⟨by show 0 ≤ sizeLine; decide, fun Z nZ => ?_⟩
    have s2 : Same H (upd H1 Z (.lst [])) := same_put s1 (none_of s1 nZ)
    have I2 := (I.sm hid_sub).sm s2
    have m8 := I.m8
    have l7 := I.l7
    obtain ⟨k1, k2, k3, k4⟩ := list_show (gaps_show I.gk (by omega)) (by omega)
    have no : ∀ {X Y : Prop}, Y → (if (!decide (V.str (shL ls) = V.str (shL ls))) = true then X else Y) := fun h => by
      rw [decide_eq_true rfl]
      exact h
    refine ⟨.list [], .list [], .lst (SqL.of (same_upd nZ _ _ hR)) .nil, .lst (SqL.of upd_same) .nil, by decide +kernel, by decide +kernel, _, rfl, ?_⟩
    exact iteF ⟨_, congrArg some I.x4, a, _, rfl, .lst (SqL.of I2.ha) (dp_lots I2.hl), k1, k2, k3, k4, _, congrArg some I.x5, rfl, _, rfl, no (hN _ _ ⟨x, rfl, I2.x1, I2.dr, I2.tb⟩)⟩
end
end Lm
namespace Lm
open PySem PySem.Spec PyProof.Rows L2 LamX
theorem first_only {ls : Hm.Lots} {m : Nat} {H : Hp} {v : V} {g : List Int} (h : FirstV ls (m : Nat) H v) (em : [] ∉ ls) (u : ∀ f, Hm.First ls (m : Nat) f → f = g) : LotAt H v g := by
  rcases h with ⟨_, z⟩ | ⟨p, f, rfl, hp, F⟩
  · exact absurd z em
  · rw [← u f F]
    exact ⟨p, rfl, hp⟩
theorem gaps_one {m : Nat} {l : List Int} (a : Hm.Asc l) (b : ∀ x ∈ l, 0 ≤ x ∧ x < (m : Int)) : GapsOk (m : Nat) [l] := fun k hk => by
  rw [List.mem_singleton.mp hk]
  exact ⟨b, a⟩
theorem gaps_cons {m : Nat} {l : List Int} {ls : Hm.Lots} (a : Hm.Asc l) (b : ∀ x ∈ l, 0 ≤ x ∧ x < (m : Int)) (h : GapsOk (m : Nat) ls) : GapsOk (m : Nat) (l :: ls) := fun k hk => by
  rcases List.mem_cons.mp hk with rfl | hk
  · exact ⟨b, a⟩
  · exact h k hk
theorem gaps_nil {m : Nat} : GapsOk (m : Nat) [] := fun _ z => nomatch z
theorem asc_one (x : Int) : Hm.Asc [x] := List.pairwise_singleton _ _
theorem asc_two {x y : Int} (h : x < y) : Hm.Asc [x, y] := List.pairwise_cons.mpr ⟨fun z hz => by rw [List.mem_singleton.mp hz]; exact h, asc_one y⟩
theorem low_one {m : Nat} {x : Int} (h : 0 ≤ x ∧ x < (m : Int)) : ∀ z ∈ [x], 0 ≤ z ∧ z < (m : Int) := fun z hz => by rw [List.mem_singleton.mp hz]; exact h
theorem low_two {m : Nat} {x y : Int} (h : 0 ≤ x ∧ x < (m : Int)) (k : 0 ≤ y ∧ y < (m : Int)) : ∀ z ∈ [x, y], 0 ≤ z ∧ z < (m : Int) := fun z hz => by
  rcases List.mem_cons.mp hz with rfl | hz
  · exact h
  · rw [List.mem_singleton.mp hz]
    exact k
theorem gaps_ex : GapsOk ((16 : Nat) : Int) [[0, 15], [3], [3, 4]] :=
  gaps_cons (asc_two (by decide)) (low_two (by decide) (by decide)) (gaps_cons (asc_one 3) (low_one (by decide)) (gaps_cons (asc_two (by decide)) (low_two (by decide) (by decide)) gaps_nil))
theorem gaps_ones : GapsOk ((16 : Nat) : Int) ((upTo 16).map fun i => [i]) := fun l hl => by
  obtain ⟨i, hi, rfl⟩ := List.mem_map.mp hl
  exact ⟨low_one (upTo_mem.mp hi), asc_one i⟩
theorem dp_tup {K : PySem.W.Frag} {H : Hp} {p : Addr} {l : List Int} (h : H p = some (.tup (l.map V.int))) : Dp K H (.ref p) (lotD l) := dp_lot ⟨p, rfl, h⟩
theorem eqv_self (l : List Int) : PyData.eqv (lotD l) (lotD l) = true := by
  rw [eqv_lots]
  exact decide_eq_true rfl
section
variable {P : Program} {w : World} {K : PySem.W.Frag} {mg : Str → Option Value} {base : Heap} {CS BM BL f c Pt : Addr} {A : Around} {outer : List Env} {s : Shared} {H0 : Hp} {E : XK} {T : List (Addr × Str)} {D : DrA} {n : Nat}
theorem law_lap (C : Callees P w K mg base CS BM BL T) (hr : Room 30 (A.deeper (envOfC "law" (defScope sLaw) s.heap.objs.size f (.ref c)))) (hg : A.guards = some []) (TB : LamX.TabB base mg c Pt) (hT : TOk T Pt) (hn : n + 1000 ≤ B) :
    StepS (XL P w K mg base f (.ref c) A outer s H0 E) (forBody ((defBody sLaw).getD 1 (.Pass ⟨0, 0, 0, 0⟩))) (J0 T D n) (J0 T D (n + 106)) := by
  show StepS (XL P w K mg base f (.ref c) A outer s H0 E) [lawSt 0, lawSt 1, lawSt 2, lawSt 3, lawSt 4, lawSt 5, lawSt 6, lawSt 7, lawSt 8, lawSt 9, lawSt 10, lawSt 11, lawSt 12, lawSt 13, lawSt 14, lawSt 15] (J0 T D n) (J0 T D (n + 106))
  exact steps_cons (st0 C hr hn) (steps_cons (st1 C hr hn) (steps_cons (st2 C hr hg) (steps_cons (st3 C hr) (steps_cons (st4 C hr hg) (steps_cons (st5 C hr) (steps_cons (st6 C hr hn) (steps_cons (st7 C hr TB hT) (steps_cons (st8 C hr TB hT) (steps_cons (st9 C hr TB hT) (steps_cons (st10 C hr)
    (steps_cons (st11 C hr hn) (steps_cons (st12 C hr TB hT) (steps_cons (st13 C hr TB hT) (steps_cons (st14 C hr TB hT) (steps_cons (st15 C hr hg) steps_nil)))))))))))))))
def spLaw (K : PySem.W.Frag) (T : List (Addr × Str)) : Sp := fun vs H Q _ => ∃ (a : Addr) (ns : List Int), vs = [.ref a] ∧ SqL K H a (ns.map V.int) ∧ ns.length ≤ 63 ∧ Tabs T H ∧ ∀ H', Q (.bl true) H'
theorem law_body (C : Callees P w K mg base CS BM BL T) (hr : Room 30 (A.deeper (envOfC "law" (defScope sLaw) s.heap.objs.size f (.ref c)))) (hg : A.guards = some []) (TB : LamX.TabB base mg c Pt) (hT : TOk T Pt) {vs : List V} {Q : VK} (h : spLaw K T vs H0 Q E) :
    ∃ t, PSs (XL P w K mg base f (.ref c) A outer s H0 E) (defBody sLaw) t ∧ t { nx := fun _ H' => Q .non H', rt := Q } (L2.start nLaw vs) H0 := by
  obtain ⟨a, ns, rfl, hS, hl, tb, q⟩ := h
  obtain ⟨tB, hB, rB⟩ := steps_all (ι := { p : DrA × Nat // p.2 + 1000 ≤ B }) (I := fun p => J0 T p.1.1 p.1.2) (J := fun p => J0 T p.1.1 (p.1.2 + 106)) fun p => law_lap (P := P) (w := w) (outer := outer) (s := s) (H0 := H0) (E := E) (f := f) C hr hg TB hT p.2
  refine ⟨_, pss_cons (ps_set (i := 1) scLaw.nd rfl (.inl rfl) (pe_h C.GB hr (by decide) (by rfl) (E := C8.E0) pass0 (pa_cons (pv 0) pa_nil)))
    (pss_cons (ps_for PassesOwn.never rfl (pi_range1 (by rfl) C.N.brng (pa_cons (pe_op op_add pe_int (pe_callB (call_min2 rfl) (by rfl) C.N.bmin (by decide +kernel) (pa_cons (pe_callB call_len_seq (by rfl) C.N.blen PySem.boot_len (pa_cons (pv 0) pa_nil)) (pa_cons pe_int pa_nil)))) pa_nil)) (pg_name (i := 2) scLaw.nd rfl (.inl rfl)) hB)
    (pss_cons (ps_if (pw_or (pt_cmpR (op_neD hr.units) (pe_h C.lh hr (by decide) (by rfl) passL (pa_cons pe_int (pa_cons (pe_lst (pa_cons (pe_tup (pa_cons pe_int (pa_cons pe_int pa_nil))) (pa_cons (pe_tup (pa_cons pe_int pa_nil)) (pa_cons (pe_tup (pa_cons pe_int (pa_cons pe_int pa_nil))) pa_nil)))) pa_nil)))
        (pe_tup (pa_cons pe_int (pa_cons pe_int pa_nil))) (nomark _))
        (pw_or1 (pt_cmpR (op_neD hr.units) (pe_h C.lh hr (by decide) (by rfl) passL (pa_cons pe_int (pa_cons (pe_lst pa_nil) pa_nil))) (pe_tup pa_nil) (nomark _)))).pt (pss_one (ps_ret pe_bl)) pss_nil)
    (pss_one (ps_ret (pe_cmpR (op_eqD hr.units) (pe_h C.lh hr (by decide) (by rfl) passL (pa_cons pe_int (pa_cons (pe_lc (own := [("_law_spot", 9)]) (g := gName 9) (tt := tYes) rfl scLaw.nd (pi_range1 (by rfl) C.N.brng (pa_cons pe_int pa_nil)) (blkOk_by (own := [("_law_spot", 9)]) (N := nLaw) (sc := defScope sLaw) (by decide +kernel)) (fun _ _ _ _ _ => pg_name (i := 9) scLaw.nd rfl (Or.inl rfl))
        (fun _ _ _ _ _ => pts_nil) (fun _ _ _ _ _ => pe_tup (pa_cons (pv 9) pa_nil))) pa_nil)))
        (pe_tupRg rfl (by rfl) C.N.btup (prg_1 (by rfl) C.N.brng pe_int)) (nomark _)))))), ?_⟩
  refine ⟨_, rfl, a, ns, rfl, hS, hl, fun H1 D s1 d1 _ _ => ?_⟩
  obtain ⟨m, hm, hm0, hm1⟩ : ∃ m : Int, m = (if (6 : Int) < ((ns.map V.int).length : Int) then 6 else ((ns.map V.int).length : Int)) ∧ 0 ≤ m ∧ m ≤ 6 := by
    refine ⟨_, rfl, ?_, ?_⟩ <;> split <;> omega
  refine ⟨_, rfl, a, _, rfl, .inl (s1.seq hS), _, _, rfl, ?_⟩
  rw [← hm]
  refine ⟨_, _, rfl, rfl, 2 + m, rfl, by omega, by omega, for_range (fun i σ H' => J0 T D (i * 106) σ H') ⟨sx (sx (fun _ => none) 0 (some (.ref a))) 1 (some (.ref D.d)), rfl, rfl, d1.mono (by omega), tb.ext s1⟩ ?_ ?_⟩
  · rintro i σ H' hi ⟨x, rfl, h1, d, t⟩
    have hi : i < 8 := by omega
    have hb : i * 106 + 1000 ≤ B := by unfold B; omega
    refine rB ⟨(D, i * 106), hb⟩ _ _ _ ⟨sx x 2 (some (.int (0 + (i : Int)))), rfl, h1, d, t⟩ fun σ' H'' h => ?_
    have e : (i + 1) * 106 = i * 106 + 106 := by omega
    show J0 T D ((i + 1) * 106) σ' H''
    rw [e]
    exact h
  · rintro σ H' ⟨x, rfl, h1, d, t⟩
    refine ⟨by show 2 ≤ sizeLine; decide, fun p1 np1 => ?_⟩
    have t1 := same_upd (o := .tup [.int 0, .int 15]) np1
    have k1 : LotAt (upd H' p1 (.tup [.int 0, .int 15])) (.ref p1) [0, 15] := ⟨p1, rfl, upd_same⟩
    have d1 := d.sm t1
    generalize upd H' p1 (.tup [.int 0, .int 15]) = G1 at *
    refine ⟨by show 1 ≤ sizeLine; decide, fun p2 np2 => ?_⟩
    have t2 := same_upd (o := .tup [.int 3]) np2
    have k2 : LotAt (upd G1 p2 (.tup [.int 3])) (.ref p2) [3] := ⟨p2, rfl, upd_same⟩
    have d2 := d1.sm t2
    have k1 := k1.sm t2
    generalize upd G1 p2 (.tup [.int 3]) = G2 at *
    refine ⟨by show 2 ≤ sizeLine; decide, fun p3 np3 => ?_⟩
    have t3 := same_upd (o := .tup [.int 3, .int 4]) np3
    have k3 : LotAt (upd G2 p3 (.tup [.int 3, .int 4])) (.ref p3) [3, 4] := ⟨p3, rfl, upd_same⟩
    have d3 := d2.sm t3
    have k1 := k1.sm t3
    have k2 := k2.sm t3
    generalize upd G2 p3 (.tup [.int 3, .int 4]) = G3 at *
    refine ⟨by show 3 ≤ sizeLine; decide, fun p4 np4 => ?_⟩
    have t4 := same_upd (o := .lst [.ref p1, .ref p2, .ref p3]) np4
    have o4 := d3.off np4
    refine ask_least (m := 16) (d3.sm t4) (by decide) (by decide) (.inl upd_same) o4.1 o4.2 (.cons (k1.sm t4) (.cons (k2.sm t4) (.cons (k3.sm t4) .nil))) (by decide) gaps_ex fun G5 v s5 hv => ?_
    have d5 := (d3.sm t4).sm s5
    have lv := first_only hv (by decide) fun f F => first_two F
    refine ⟨by show 2 ≤ sizeLine; decide, fun p6 np6 => ?_⟩
    have t6 := same_upd (o := .tup [.int 0, .int 3]) np6
    refine ⟨lotD [0, 3], lotD [0, 3], dp_lot (lv.sm t6), dp_tup upd_same, shaped_lot _, shaped_lot _, _, rfl, ?_⟩
    rw [eqv_self]
    have d6 := d5.sm t6
    generalize upd G5 p6 (.tup [.int 0, .int 3]) = G6 at *
    refine iteF ⟨by show 0 ≤ sizeLine; decide, fun p7 np7 => ?_⟩
    have t7 := same_upd (o := .lst []) np7
    have o7 := d6.off np7
    refine ask_least (m := 1) (d6.sm t7) (by decide) (by decide) (.inl upd_same) o7.1 o7.2 .nil (by decide) gaps_nil fun G8 v8 s8 hv8 => ?_
    have d8 := (d6.sm t7).sm s8
    have lv8 := first_only hv8 (by decide) fun f F => first_nil F
    refine ⟨by show 0 ≤ sizeLine; decide, fun p9 np9 => ?_⟩
    have t9 := same_upd (o := .tup []) np9
    refine ⟨lotD [], lotD [], dp_lot (lv8.sm t9), dp_tup (l := []) upd_same, shaped_lot _, shaped_lot _, _, rfl, ?_⟩
    rw [eqv_self]
    have d9 := d8.sm t9
    generalize upd G8 p9 (.tup []) = G9 at *
    refine iteF ?_
    refine ⟨_, rfl, by decide, by decide, fun R nR => lc_range (fun j H'' => Same G9 H'' ∧ ∃ zs, H'' R = some (.lst zs) ∧ LsAt H'' zs ((upTo j).map fun i => [i])) ⟨same_upd nR, [], upd_same, .nil⟩ ?_ ?_⟩
    · rintro j H'' hj ⟨s1, zs, hR, hz⟩
      have hj : j < 16 := hj
      refine ⟨rfl, _, rfl, by show 1 ≤ sizeLine; decide, fun u nu => ?_⟩
      have s2 : Same H'' (upd H'' u (.tup [.int (0 + (j : Int))])) := same_upd nu
      have hR2 := s2 _ _ hR
      have hzl : zs.length = j := by
        rw [hz.len, List.length_map]
        unfold upTo
        rw [List.length_map, List.length_range]
      have st : ((upTo (j + 1)).map fun i => [i]) = ((upTo j).map fun i => [i]) ++ [[0 + (j : Int)]] := by
        unfold upTo
        rw [List.range_succ, List.map_append, List.map_append]
        rfl
      refine ⟨zs, hR2, small1000 (by omega), same_put (fun b o e => s2 b o (s1 b o e)) nR, _, upd_same, ?_⟩
      rw [st]
      exact LsAt.snoc (LotAt.off (no_tup hR2) ⟨u, rfl, upd_same⟩) ((hz.sm s2).off (no_tup hR2))
    · rintro H'' ⟨s1, zs, hR, hz⟩
      have oR := d9.off nR
      have dR := d9.sm s1
      have hz : LsAt H'' zs ((upTo 16).map fun i => [i]) := hz
      refine ask_least (m := 16) dR (by decide) (by decide) (.inl hR) oR.1 oR.2 hz (by decide) gaps_ones fun H3 v3 s3 hv3 => ?_
      have lv3 := first_only hv3 (by decide) fun f F => first_ones F
      refine ⟨_, rfl, RgOk.of_le (by decide) (by decide) (by decide) (by decide), fun p np => ?_⟩
      have s4 := same_upd (o := .tup (rgV 0 16)) np
      refine ⟨lotD (upTo 16), lotD (upTo 16), dp_lot (lv3.sm s4), dp_tup (by rw [upd_same, rg_ints]; rfl), shaped_lot _, shaped_lot _, ?_⟩
      rw [eqv_self]
      exact q _
end
end Lm
/-! The end of a law row whose run is told at the caller itself, with several tables of code objects. -/
namespace Lm
open PySem PySem.Spec PyProof.Rows L2 LamX
/-- the run of the law's def at fa, called by the row's own caller; cs: code objects and their tables -/
def RunAts (P : Program) (w : World) (K : PySem.W.Frag) (mg : Str → Option Value) (fa a : Addr) (cs : List (Addr × Addr)) (ns : List Int) (s : Shared) : Prop :=
  ∀ (base : Heap) (H : Hp), K.In base → base.Ns mainGlobals mg → (∀ p ∈ cs, LamX.TabB base mg p.1 p.2) → Env0 P w K mg base callerA [] s H → (∀ p ∈ cs, H p.2 = some (.tbl #[])) → SqL K H a (ns.map V.int) →
    codeAny (model P w) callerA (.call (.ref fa) ⟨[.ref a], []⟩) (CR C8.CX0 [] P w H s (fun v _ => v = .bl true) fun _ _ _ => False) s
/-- b is one of the tables -/
def InT (cs : List (Addr × Addr)) (b : Addr) : Prop := ∃ p ∈ cs, p.2 = b
instance (cs : List (Addr × Addr)) (b : Addr) : Decidable (InT cs b) := by unfold InT; exact inferInstance
section
variable {P : Program} {w : World} {K : PySem.W.Frag} {mg mb : Str → Option Value} {fa a : Addr} {cs : List (Addr × Addr)} {s : Shared} {vs : List Value} {ns : List Int}
theorem ends_core (inK : K.In s.heap) (nsG : s.heap.Ns mainGlobals mg) (nsB : s.heap.Ns builtinsNs mb) (boot : ∀ x : Str, x ≠ "__name__" → mb x = bootBuiltins x) (lim : s.heap.NoLimit) (gens : s.gens = #[])
    (tab : ∀ p ∈ cs, s.heap.get? p.2 = some { cls := .none, data := .fields #[] }) (tabK : ∀ p ∈ cs, K.lookup p.2 = none) (code : ∀ p ∈ cs, PySem.W.CodeHd s.heap p.1 p.2) (bmod : ∃ (bm : Addr) (ob : Obj), mg "__builtins__" = some (.ref bm) ∧ bm ≠ builtinsNs ∧ s.heap.get? bm = some ob ∧ ob.cls = .type "module" ∧ ob.dict = some builtinsNs ∧ ob.data = .plain)
    (scr : s.heap.get? a = some { cls := .type "list", data := .seq vs.toArray }) (run : RunAts P w K mg fa a cs ns s)
    (H : Hp) (hP : ∀ p ∈ cs, H p.2 = some (.tbl #[])) (hA : H a = none ∨ ∃ o xs, H a = some (.frz o (.lst xs))) (hS : SqL K H a (ns.map V.int)) (ok : HOk P w H s.heap) (only : ∀ b, H b ≠ none → b = a ∨ InT cs b) (aK : H a ≠ none → K.lookup a = none) :
    codeAny (model P w) callerA (.call (.ref fa) ⟨[.ref a], []⟩) (fun r s' => r = .ok (.ret (.bool true)) ∧ OldK s.heap s'.heap ∧ s'.os = s.os ∧ AllBare s'.gens) s := by
  have tabI : ∀ {b : Addr}, InT cs b → s.heap.get? b = some { cls := .none, data := .fields #[] } := fun ⟨p, hp, e⟩ => e ▸ tab p hp
  have out : ∀ {b : Addr}, b ≠ a → ¬ InT cs b → H b = none := fun {b} h1 h2 => by
    cases q : H b with
    | none => rfl
    | some u => exact ((only b (by rw [q]; exact Option.some_ne_none u)).elim h1 h2).elim
  have seen : ∀ {b : Addr} {o : Obj}, s.heap.get? b = some o → b ≠ a → ¬ InT cs b → (hidT s.heap H).get? b = some o := fun e h1 h2 => hidT_get e (out h1 h2)
  have offA : ∀ {b : Addr} {o : Obj}, s.heap.get? b = some o → (∀ vs n, o.data ≠ .seq vs n) → b ≠ a := fun e h z => by
    rw [z, scr] at e
    injection e with e
    exact h _ _ (congrArg Obj.data e).symm
  have offP : ∀ {b : Addr} {o : Obj}, s.heap.get? b = some o → o.data ≠ .fields #[] → ¬ InT cs b := fun e h z => by
    rw [tabI z] at e
    injection e with e
    exact h (congrArg Obj.data e).symm
  have dicts : ∀ {b : Addr} {m : Str → Option Value}, s.heap.Ns b m → ¬ InT cs b ∧ (hidT s.heap H).Ns b m := fun ⟨o, es, ep, e, d, r⟩ => by
    have hp := offP e (by rw [d]; intro z; cases z)
    exact ⟨hp, o, es, ep, seen e (offA e (by rw [d]; intro _ _ z; cases z)) hp, d, r⟩
  have frag : K.In (hidT s.heap H) := by
    intro b o e
    have g := inK b o e
    by_cases hb : InT cs b
    · obtain ⟨p, hp, ep⟩ := hb
      rw [← ep, tabK p hp] at e
      cases e
    · by_cases ha : b = a
      · by_cases hn : H a = none
        · exact hidT_get g (by rw [ha]; exact hn)
        · rw [ha, aK hn] at e
          cases e
      · exact seen g ha hb
  have world : L2.Mod K mg (hidT s.heap H) := by
    obtain ⟨mc, l1, l2⟩ := lim
    exact ⟨frag, (dicts nsG).2, ⟨mb, (dicts nsB).2, boot⟩, ⟨mc, (dicts l1).2, l2⟩⟩
  have tables : ∀ p ∈ cs, LamX.TabB (hidT s.heap H) mg p.1 p.2 := by
    intro p hp
    refine ⟨?_, ?_, fun z => (dicts nsG).1 ⟨p, hp, z.symm⟩⟩
    · obtain ⟨o, us, z1, z2, z3, z4, z5, z6, z7, e, y1, y2, y3, y4⟩ := code p hp
      refine ⟨o, us, z1, z2, z3, z4, z5, z6, z7, seen e (offA e ?_) (offP e ?_), y1, y2, y3, y4⟩
      · intro _ _ z
        rw [y2] at z
        cases z
      · intro z
        rw [y2] at z
        injection z with z
        rw [z] at y3
        simp at y3
    · obtain ⟨bm, ob, b1, b2, b3, b4, b5, b6⟩ := bmod
      have hp' := offP b3 (by rw [b6]; intro z; cases z)
      refine ⟨bm, ob, b1, b2, ?_, fun z => hp' ⟨p, hp, z.symm⟩, seen b3 (offA b3 (by rw [b6]; intro _ _ z; cases z)) hp', b4, b5, b6⟩
      intro z
      obtain ⟨o, es, ep, e, d, _⟩ := nsG
      rw [← z, b3] at e
      injection e with e
      rw [← e, b6] at d
      cases d
  have env : Env0 P w K mg (hidT s.heap H) callerA [] s H :=
    ⟨rfl, world, fun _ _ e => of_hidT e, Nat.le_of_eq (hidT_size s.heap H), trivial, (fun _ z => nomatch z), ok, AllBare.of_eq gens⟩
  refine codeAny_mono (run _ H frag (dicts nsG).2 tables env hP hS) ?_
  intro r s' hr
  match r, hr with
  | .ok (.ret u), hr =>
    obtain ⟨_, H', os, bare, un, ok', r', rfl⟩ := hr
    obtain rfl : u = Value.bool true := r'
    have kept : ∀ b o, ¬ InT cs b → s.heap.get? b = some o → s'.heap.get? b = some o := by
      intro b o hb e
      by_cases ha : b = a
      · rcases hA with hn | ⟨o1, xs, hf⟩
        · exact un.keep b o e (by rw [ha]; exact hn) (fun z => nomatch (show b ∈ ([] : List Addr) from z)) (fun z => nomatch z)
        · have e1 := (ok a _ hf).1
          have e2 := (ok' a _ (un.frzs a o1 _ hf)).1
          rw [ha] at e ⊢
          rw [e1] at e
          rw [e2, ← e]
      · exact un.keep b o e (out ha hb) (fun z => nomatch (show b ∈ ([] : List Addr) from z)) (fun z => nomatch z)
    have grown : ∀ p ∈ cs, ∃ more : Array Value, s'.heap.get? p.2 = some { cls := .none, data := .fields more } := by
      intro p hp
      obtain ⟨more, hm⟩ := un.tbls p.2 #[] (hP p hp)
      exact ⟨_, ok' p.2 _ hm⟩
    refine ⟨rfl, ⟨fun b o e => ?_, fun b o e => ?_⟩, os, bare⟩
    · by_cases hb : InT cs b
      · obtain ⟨p, hp, rfl⟩ := hb
        obtain ⟨more, g⟩ := grown p hp
        rw [tab p hp] at e
        injection e with e
        subst e
        exact .inr (.inl ⟨((code p hp).tab (tab p hp)).isCodeTable, rfl, #[], more, rfl, by rw [Array.empty_append]; exact g⟩)
      · exact .inl (kept b o hb e)
    · by_cases hb : InT cs b
      · obtain ⟨p, hp, rfl⟩ := hb
        obtain ⟨more, g⟩ := grown p hp
        exact ⟨_, g⟩
      · exact ⟨o, kept b o hb e⟩
  | .ok .next, hr => exact hr.elim
  | .ok .brk, hr => exact hr.elim
  | .ok .cont, hr => exact hr.elim
  | .error e, hr => exact hr.elim
/-- from what the head leaves -/
theorem ends_run (inK : K.In s.heap) (nsG : s.heap.Ns mainGlobals mg) (nsB : s.heap.Ns builtinsNs mb) (boot : ∀ x : Str, x ≠ "__name__" → mb x = bootBuiltins x) (lim : s.heap.NoLimit) (gens : s.gens = #[])
    (tab : ∀ p ∈ cs, s.heap.get? p.2 = some { cls := .none, data := .fields #[] }) (tabK : ∀ p ∈ cs, K.lookup p.2 = none) (code : ∀ p ∈ cs, PySem.W.CodeHd s.heap p.1 p.2) (bmod : ∃ (bm : Addr) (ob : Obj), mg "__builtins__" = some (.ref bm) ∧ bm ≠ builtinsNs ∧ s.heap.get? bm = some ob ∧ ob.cls = .type "module" ∧ ob.dict = some builtinsNs ∧ ob.data = .plain)
    (scr : s.heap.get? a = some { cls := .type "list", data := .seq vs.toArray }) (hni : IntsAre vs ns) (len : ns.length ≤ sizeLine) (run : RunAts P w K mg fa a cs ns s) :
    codeAny (model P w) callerA (.call (.ref fa) ⟨[.ref a], []⟩) (fun r s' => r = .ok (.ret (.bool true)) ∧ OldK s.heap s'.heap ∧ s'.os = s.os ∧ AllBare s'.gens) s := by
  have rv := vals_ints hni
  have lv := hni.length
  have aP : ¬ InT cs a := fun ⟨p, hp, e⟩ => by
    have h := tab p hp
    rw [e, scr] at h
    injection h with z
    have z := congrArg Obj.data z
    cases z
  have inI : ∀ p ∈ cs, InT cs p.2 := fun p hp => ⟨p, hp, rfl⟩
  cases hk : K.lookup a with
  | some o =>
    have e := inK a o hk
    rw [scr] at e
    cases e
    refine ends_core inK nsG nsB boot lim gens tab tabK code bmod scr run (fun b => if InT cs b then some (.tbl #[]) else none) (fun p hp => if_pos (inI p hp)) (.inl (if_neg aP)) ?_ (fun b u z => ?_) (fun b z => ?_) (fun z => absurd (if_neg aP) z)
    · exact .inr ⟨_, vs.toArray, _, hk, rfl, rfl, rfl, by rw [List.size_toArray, lv]; exact len, by simpa using rv⟩
    · have z : (if InT cs b then some (HO.tbl #[]) else none) = some u := z
      by_cases hb : InT cs b
      · rw [if_pos hb] at z
        cases z
        obtain ⟨p, hp, rfl⟩ := hb
        exact tab p hp
      · rw [if_neg hb] at z
        cases z
    · by_cases hb : InT cs b
      · exact .inr hb
      · exact absurd (if_neg hb) z
  | none =>
    refine ends_core inK nsG nsB boot lim gens tab tabK code bmod scr run (fun b => if b = a then some (.frz { cls := .type "list", data := .seq vs.toArray } (.lst (ns.map V.int))) else if InT cs b then some (.tbl #[]) else none)
      (fun p hp => (if_neg (fun (z : p.2 = a) => aP (z ▸ inI p hp))).trans (if_pos (inI p hp))) (.inr ⟨_, _, if_pos rfl⟩) (.inl (.inr ⟨_, if_pos rfl⟩)) (fun b u z => ?_) (fun b z => ?_) (fun _ => hk)
    · have z : (if b = a then some (HO.frz { cls := .type "list", data := .seq vs.toArray } (.lst (ns.map V.int))) else if InT cs b then some (.tbl #[]) else none) = some u := z
      by_cases ha : b = a
      · subst ha
        rw [if_pos rfl] at z
        cases z
        exact ⟨scr, by rw [List.length_map]; exact len, vs, _, rv, scr⟩
      · rw [if_neg ha] at z
        by_cases hb : InT cs b
        · rw [if_pos hb] at z
          cases z
          obtain ⟨p, hp, rfl⟩ := hb
          exact tab p hp
        · rw [if_neg hb] at z
          cases z
    · by_cases ha : b = a
      · exact .inl ha
      · by_cases hb : InT cs b
        · exact .inr hb
        · exact absurd ((if_neg ha).trans (if_neg hb)) z
end
end Lm
namespace Lm
open PySem PySem.Spec PyProof.Rows L2 LamX
/-- the fields of a code object that a lambda's making reads -/
def CodeF (vs : Array Value) (Pt : Addr) : Prop := ∃ file tf flags tg inF text tt, vs[11]? = some (.ref Pt) ∧ vs.getD 11 .none = .ref Pt ∧ vs.getD 18 .none = .str file tf ∧ vs.getD 7 .none = .int flags tg ∧ vs.getD 9 .none = .bool inF ∧ vs.getD 10 .none = .int text tt
/-- the def of the name x, its code object and its table, as the head leaves them -/
structure DefC (K : PySem.W.Frag) (mg : Str → Option Value) (x : Str) (fa c Pt : Addr) : Prop where
  ex : ∃ (o : Obj) (fd : FuncData) (dd : Option Addr) (vs : Array Value) (sl : Array (Option Value)), mg x = some (.ref fa) ∧ K.lookup fa = some o ∧ o.data = .func fd ∧ fd.code = .ref c ∧ K.lookup c = some ⟨.type "code", dd, .fields vs, sl⟩ ∧ CodeF vs Pt ∧ c ≠ Pt ∧ K.lookup Pt = none
theorem walk_guards {l : PySem.W.OpenLaw} {n : Nat} {q : Program} {loose : List Str} {XP : (Str → Option Value) → Heap → Prop} {YP : World → Heap → Prop} {d : DefRec} {x2 : Str} {K : Params → PySem.W.Frag} (most : l.most = some n) (fits : n ≤ sizeLine) (plain : d.params.defaults = [])
    (isRec : ((recsOf q).any fun e => e.name == d.name) = true) (isRec2 : ((recsOf q).any fun e => e.name == x2) = true) (hY : ∀ (w : World) (h : Heap), YP w h → (K w.params).In h)
    (F : ∀ (w : World) (mg : Str → Option Value) (fa : Addr) (h : Heap), (K w.params).In h → h.Ns mainGlobals mg → mg d.name = some (.ref fa) →
      ∃ (c Pt fu cu Pu : Addr), DefC (K w.params) mg d.name fa c Pt ∧ DefC (K w.params) mg x2 fu cu Pu ∧ ∀ (s : Shared) (a : Addr) (ns : List Int), ns.length ≤ n → RunAts l.prog w (K w.params) mg fa a [(c, Pt), (cu, Pu)] ns s) :
    PySem.W.WalkO q loose XP YP l.row.toRowW d [] (fun f vs => PySem.call f vs) := by
  refine Att.attach_callB most plain ?_
  intro w s₀ s mg mb fa o pm cd doc a vs ns G Y ho hd hcd hmg hobj hints hlen hbits hg
  have inK := hY w _ Y
  obtain ⟨c, Pt, fu, cu, Pu, D1, D2, run⟩ := F w mg fa _ inK G.T.g hmg
  have one : ∀ {x : Str} {fb c Pt : Addr}, ((recsOf q).any fun e => e.name == x) = true → DefC (K w.params) mg x fb c Pt → PySem.W.CodeHd s.heap c Pt ∧ s.heap.get? Pt = some { cls := .none, data := .fields #[] } ∧ (K w.params).lookup Pt = none := by
    intro x fb c Pt ir D
    obtain ⟨o1, fd, dd, us, sl, k0, k1, k2, k3, k4, cf, cP, kP⟩ := D.ex
    obtain ⟨file, tf, flags, tg, inF, text, tt, r1, r2, r3, r4, r5, r6⟩ := cf
    refine ⟨⟨_, us, file, tf, flags, tg, inF, text, tt, inK _ _ k4, rfl, rfl, r1, r2, r3, r4, r5, r6, cP⟩, ?_, kP⟩
    obtain ⟨e, hm, he⟩ := List.any_eq_true.mp ir
    obtain ⟨b, o2, fd2, c2, P2, h1, h2, h3, h4, h5, ⟨oc, vc, e1, _, e3, e4⟩, hP⟩ := G.T.tab e hm
    have he : e.name = x := beq_iff_eq.mp he
    rw [he, k0] at h1
    injection h1 with h1
    injection h1 with h1
    subst h1
    rw [inK _ _ k1] at h2
    injection h2 with h2
    subst h2
    rw [k2] at h3
    injection h3 with h3
    subst h3
    rw [k3] at h4
    injection h4 with h4
    subst h4
    rw [inK _ _ k4] at e1
    injection e1 with e1
    subst e1
    injection e3 with e3
    subst e3
    rw [r1] at e4
    injection e4 with e4
    injection e4 with e4
    rw [e4]
    exact hP
  obtain ⟨a1, a2, a3⟩ := one isRec D1
  obtain ⟨b1, b2, b3⟩ := one isRec2 D2
  have all : ∀ {Z : Addr × Addr → Prop}, Z (c, Pt) → Z (cu, Pu) → ∀ p ∈ [(c, Pt), (cu, Pu)], Z p := fun z1 z2 p hp => by
    rcases List.mem_cons.mp hp with rfl | hp
    · exact z1
    · rw [List.mem_singleton.mp hp]
      exact z2
  exact ends_run inK G.T.g G.T.b G.T.builtins G.T.nolimit hg (all (Z := fun p => s.heap.get? p.2 = some { cls := .none, data := .fields #[] }) a2 b2) (all (Z := fun p => (K w.params).lookup p.2 = none) a3 b3) (all (Z := fun p => PySem.W.CodeHd s.heap p.1 p.2) a1 b1) G.T.bmain hobj hints (Nat.le_trans hlen fits) (run s a ns hlen)
/-! ### the defs where the head leaves them -/
structure At (K : PySem.W.Frag) (mg : Str → Option Value) (x : Str) (st : Stmt) : Prop where
  ex : ∃ (f : Addr) (fd : FuncData), mg x = some (.ref f) ∧ Fun K x x st f fd
theorem at_mk {K : PySem.W.Frag} {h : Heap} {mg : Str → Option Value} {x : Str} {st : Stmt} {f : Addr} {oc kV doc pm cdv ct : Value} {od an : Option Addr} {osl : Array (Option Value)} (X : K.In h) (G : h.Ns mainGlobals mg) (a : PySem.W.nsIn K mainGlobals x = some (some (.ref f)))
    (l : K.lookup f = some ⟨oc, od, .func (PySem.W.fnOf x x (defArgs st) (defBody st) (defScope st) .none kV doc pm an cdv ct), osl⟩) (c : PySem.W.codeIn K cdv x = true) (k : PySem.W.keepIn K (.ref f) = true) : At K mg x st :=
  ⟨f, _, PySem.W.mg_of X G a, fun_mk l c k⟩
theorem has_of {P : Program} {w : World} {K : PySem.W.Frag} {mg : Str → Option Value} {base : Heap} {CX : CXT} {k : Nat} {x : Str} {st : Stmt} {ps : List Str} {sp : Sp} (h : At K mg x st) (b : ∀ f fd, Fun K x x st f fd → L2.Binds K fd ps []) (ok : ∀ f fd, Fun K x x st f fd → FnOk P w K mg base CX k f fd ps sp) :
    Has P w K mg base CX k x ps sp := by
  obtain ⟨f, fd, m, F⟩ := h.ex
  exact ⟨f, fd, m, F.kp, b f fd F, ok f fd F⟩
theorem bl_mk {K : PySem.W.Frag} {h : Heap} {mg : Str → Option Value} (X : K.In h) (G : h.Ns mainGlobals mg) (z1 : PySem.W.nsIn K mainGlobals "int" = some none) (z2 : PySem.W.nsIn K mainGlobals "len" = some none) (z3 : PySem.W.nsIn K mainGlobals "isinstance" = some none) (z4 : PySem.W.nsIn K mainGlobals "bool" = some none)
    (z5 : PySem.W.nsIn K mainGlobals "tuple" = some none) (z6 : PySem.W.nsIn K mainGlobals "list" = some none) (z7 : PySem.W.nsIn K mainGlobals "str" = some none) (z8 : PySem.W.nsIn K mainGlobals "max" = some none) (z9 : PySem.W.nsIn K mainGlobals "range" = some none)
    (z10 : PySem.W.nsIn K mainGlobals "abs" = some none) (z11 : PySem.W.nsIn K mainGlobals "all" = some none) (z12 : PySem.W.nsIn K mainGlobals "min" = some none) (z13 : PySem.W.nsIn K mainGlobals "repr" = some none)
    (z14 : PySem.W.nsIn K mainGlobals "any" = some none) (z15 : PySem.W.nsIn K mainGlobals "sorted" = some none) (z16 : PySem.W.nsIn K mainGlobals "enumerate" = some none) : Bl mg :=
  ⟨PySem.W.mg_none_of X G z1, PySem.W.mg_none_of X G z2, PySem.W.mg_none_of X G z3, PySem.W.mg_none_of X G z4, PySem.W.mg_none_of X G z5, PySem.W.mg_none_of X G z6, PySem.W.mg_none_of X G z7, PySem.W.mg_none_of X G z8, PySem.W.mg_none_of X G z9, PySem.W.mg_none_of X G z10, PySem.W.mg_none_of X G z11, PySem.W.mg_none_of X G z12, PySem.W.mg_none_of X G z13,
    PySem.W.mg_none_of X G z14, PySem.W.mg_none_of X G z15, PySem.W.mg_none_of X G z16⟩
/-- the law's own defs -/
structure Defs (K : PySem.W.Frag) (mg : Str → Option Value) : Prop where
  begun : At K mg "_law_begun" sBegun
  pick : At K mg "_law_pick" sPick
  caught : At K mg "_law_caught" sCaught
  mixed : At K mg "_law_mixed_up" sMixed
  take : At K mg "_law_draw" sTake
  drawn : At K mg "_law_drawn_lots" sDrawn
  hit : At K mg "_law_do_hit" sHit
  bent : At K mg "_law_bent_lots" sBent
/-- the program's defs -/
structure PDefs (K : PySem.W.Frag) (mg : Str → Option Value) : Prop where
  number : At K mg "is_number" sNumber
  between : At K mg "is_between" sBetween
  listing : At K mg "is_listing" sListing
  rise : At K mg "is_rising" sRise
  gap : At K mg "is_gap_tuple" sGap
  check : At K mg "check_lots" sCheck
  wo : At K mg "lots_without" sWo
  apart : At K mg "fewest_apart" sApart
  can : At K mg "can_hit" sCan
  few : At K mg "fewest_hits" sFew
  above : At K mg "above" sAbove
  fst : At K mg "first_hits" sFst
  least : At K mg "least_hits" sLeast
  ckN : At K mg "check_number" sCkN
  tree : At K mg "hit_tree" sTree
  new : At K mg "new_tree" sNew
  isT : At K mg "is_hit_tree" sIsT
  isB : At K mg "is_tree_behind" sIsB
end Lm
namespace Lm
open PySem PySem.Spec PyProof.Rows L2 LamX
def clsBody : Stmt → List Stmt
  | .ClassDef (body := b) .. => b
  | _ => []
abbrev sIni : Stmt := (clsBody (topS 3)).getD 0 (.Pass ⟨0, 0, 0, 0⟩)
theorem txt_ini : InitTxt sIni "at" := ⟨rfl, ⟨_, _, _, _, _, _, _, _, _, _, _, _, _, _, _, ⟨0, 0, 0, 0⟩, rfl, Nat.le_of_ble_eq_true rfl, fun env => ⟨_, rfl⟩⟩, rfl, _, _, rfl, rfl⟩
section
variable {P : Program} {w : World} {K : PySem.W.Frag} {mg : Str → Option Value} {base : Heap}
theorem hasK_of {CX : CXT} {k : Nat} {x : Str} {st : Stmt} {ps ks : List Str} {sp : Sp} (h : At K mg x st)
    (to : ∀ (kV doc pm : Value) (an : Option Addr) (cdv ct : Value) (ws : List Value), ws.length = ks.length → bindArgs (PySem.W.fnOf x x (defArgs st) (defBody st) (defScope st) .none kV doc pm an cdv ct) ⟨[], ks.zip ws⟩ = pure (ps.zip ws.reverse))
    (ok : ∀ f fd, Fun K x x st f fd → FnOk P w K mg base CX k f fd ps sp) : HasK P w K mg base CX k x ps ks List.reverse sp := by
  obtain ⟨f, fd, m, F⟩ := h.ex
  have ok' := ok f fd F
  have kp := F.kp
  obtain ⟨oc, od, kV, doc, pm, an, cdv, ct, osl, rfl, lk, hcd⟩ := F.ex
  refine ⟨f, _, fun _ ws => ws.reverse, m, kp, ⟨fun s us ws inK hu hw => ?_, fun r rz => rz.reverse⟩, ok'⟩
  cases us with
  | nil => exact .of_eq (to kV doc pm an cdv ct ws hw)
  | cons _ _ => cases hu
/-- an own exception class, as the head leaves it -/
structure XFacts (K : PySem.W.Frag) (x : Str) (CS C : Addr) : Prop where
  a : PySem.W.nsIn K mainGlobals x = some (some (.ref C))
  h1 : PySem.W.findIn K (.ref C) "__getattribute__" = some (some (.builtin "BaseException.__getattribute__"))
  h2 : PySem.W.findIn K (.ref C) "__getattr__" = some none
  h3 : PySem.W.subIn K (.ref C) (.type "BaseException") = some true
  h4 : PySem.W.hasDictIn K C = true
  h5 : PySem.W.findIn K (.ref C) "__class__" = some (some (.builtin "object.__class__"))
  h6 : PySem.W.specialIn K (.builtin "object.__class__") "__get__" = some (some (.builtin "getset_descriptor.__get__"))
  h7 : PySem.W.takesIn K (.builtin "object.__class__") = some true
  h8 : PySem.W.mroIn K C (.type "object") = some true
  e1 : PySem.W.isClsIn K CS = true
  e2 : PySem.W.typeIn K (.ref CS) = some (.type "type")
  e3 : PySem.W.subIn K (.ref C) (.ref CS) = some true
  e4 : PySem.W.subIn K (.ref CS) (.type "BaseException") = some true
  kC : PySem.W.keepIn K (.ref C) = true
  ty : PySem.W.typeIn K (.ref C) = some (.type "type")
theorem kit_own (K : PySem.W.Frag) (C : Addr) : PySem.W.kitOne K (.ref C) (.ref C) = some true := by
  unfold PySem.W.kitOne
  rw [if_pos (beq_self_eq_true _)]
theorem exm_own {K : PySem.W.Frag} {C S : Addr} (b : PySem.W.subIn K (.ref S) (.type "BaseException") = some true) (i : PySem.W.isClsIn K S = true) (t : PySem.W.typeIn K (.ref S) = some (.type "type")) (u : PySem.W.subIn K (.ref C) (.ref S) = some true) : PySem.W.exmOne K (.ref C) (.ref S) = some true := by
  have i' : (PySem.W.clsIn K S).isSome = true := i
  unfold PySem.W.exmOne PySem.W.kitCls
  rw [if_pos (by rw [b]; rfl)]
  show (if ((PySem.W.clsIn K S).isSome && PySem.W.typeIn K (.ref S) == some (.type "type")) = true then PySem.W.subIn K (.ref C) (.ref S) else none) = some true
  rw [if_pos (by rw [i', t]; rfl)]
  exact u
theorem XFacts.cls {h : Heap} {x : Str} {CS C : Addr} (X : K.In h) (G : h.Ns mainGlobals mg) (f : XFacts K x CS C) : XCls K mg CS x C :=
  ⟨PySem.W.mg_of X G f.a, ⟨f.h1, f.h2, f.h3, f.h4, f.h5, f.h6, f.h7, f.h8⟩, kit_own K C, exm_own f.e4 f.e1 f.e2 f.e3⟩
theorem XFacts.mk2 {h : Heap} {x : Str} {CS C : Addr} (X : K.In h) (G : h.Ns mainGlobals mg) (f : XFacts K x CS C) (q : PySem.W.excIn K C [.type "ValueError", .type "Exception", .type "BaseException", .type "object"] "ValueError.__new__" = true) : XMk K mg x C :=
  ⟨PySem.W.mg_of X G f.a, q, f.kC, f.h3, f.ty⟩
/-- the exception class with a field -/
structure YFacts (P : Program) (K : PySem.W.Frag) (mg : Str → Option Value) (C fI : Addr) (fd : FuncData) : Prop where
  ini : PySem.W.findIn K (.ref C) "__init__" = some (some (.ref fI))
  ty : PySem.W.typeIn K (.ref fI) = some (.type "function")
  at_ : InitAt P K mg C sIni fI fd
  bind : L2.Binds K fd ["self", "at"] []
  no : PySem.W.findIn K (.ref C) "at" = some none
/-- what the program promises -/
structure Promises (P : Program) (w : World) (K : PySem.W.Frag) (mg : Str → Option Value) (base : Heap) (CS BM BL : Addr) : Prop where
  lh : Has P w K mg base (L2.CX P w) 22 "least_hits" ["many", "lots"] (spLeast BM BL)
  lhk : HasK P w K mg base (L2.CX P w) 22 "least_hits" ["many", "lots"] ["lots", "many"] List.reverse (spLeast BM BL)
  ht : Has P w K mg base (L2.CX P w) 6 "hit_tree" ["many", "lots", "number"] (spRef BM BL 1)
  it : Has P w K mg base (L2.CX P w) 6 "is_hit_tree" ["many", "lots", "number", "thing"] (spRef BM BL 2)
  lane : mg "LaneError" = some (.ref CS)
  bm : XCls K mg CS "BadMany" BM
  bl : XCls K mg CS "BadLots" BL
  xf : XfC K BL
  no : PySem.W.findIn K (.ref BL) "at" = some none
theorem can_has (N : Bl mg) (D : PDefs K mg) (GW : Has P w K mg base CX0 1 "lots_without" ["lots", "gap"] (spWo Hm.woL)) (GA : Has P w K mg base CX0 1 "fewest_apart" ["lots"] spApart) : ∀ n, Has P w K mg base CX0 (n + 3) "can_hit" ["lots", "number"] (spCan n)
  | 0 => has_of D.can (fun f fd F => F.binds (ps := ["lots", "number"]) fun _ _ _ _ _ _ us hl => match us, hl with | [_, _], _ => rfl) (fun f fd F => ok_can F N 0 GW GA (has_of D.can (fun f fd F => F.binds (ps := ["lots", "number"]) fun _ _ _ _ _ _ us hl => match us, hl with | [_, _], _ => rfl) (fun f fd F => ok_can_no F 1)))
  | n + 1 => has_of D.can (fun f fd F => F.binds (ps := ["lots", "number"]) fun _ _ _ _ _ _ us hl => match us, hl with | [_, _], _ => rfl) (fun f fd F => ok_can F N (n + 1) GW GA (can_has N D GW GA n))
theorem promises {CS BM BL : Addr} {t1 t2 : Tok} (N : Bl mg) (MG : mg "MOST_GAPS" = some (.int 16 t1)) (ML : mg "MOST_LOTS" = some (.int 400 t2)) (D : PDefs K mg) (lane : mg "LaneError" = some (.ref CS)) (bm : XCls K mg CS "BadMany" BM) (bm2 : XMk K mg "BadMany" BM) (bl : XCls K mg CS "BadLots" BL) (yb : YMk P K mg base w "BadLots" "at" BL) (xf : XfC K BL) :
    Promises P w K mg base CS BM BL := by
  have GN : Has P w K mg base CX0 1 "is_number" ["thing"] spNum := has_of D.number (fun f fd F => F.binds (ps := ["thing"]) fun _ _ _ _ _ _ us hl => match us, hl with | [_], _ => rfl) (fun f fd F => ok_number F N)
  have GB : Has P w K mg base CX0 2 "is_between" ["thing", "low", "high"] spBtw := has_of D.between (fun f fd F => F.binds (ps := ["thing", "low", "high"]) fun _ _ _ _ _ _ us hl => match us, hl with | [_, _, _], _ => rfl) (fun f fd F => ok_between F GN)
  have GL : Has P w K mg base CX0 1 "is_listing" ["thing"] spListing := has_of D.listing (fun f fd F => F.binds (ps := ["thing"]) fun _ _ _ _ _ _ us hl => match us, hl with | [_], _ => rfl) (fun f fd F => ok_listing F N)
  have GR : Has P w K mg base CX0 1 "is_rising" ["things"] spRise := has_of D.rise (fun f fd F => F.binds (ps := ["things"]) fun _ _ _ _ _ _ us hl => match us, hl with | [_], _ => rfl) (fun f fd F => ok_rise F N)
  have GG : Has P w K mg base CX0 3 "is_gap_tuple" ["many", "thing"] spGap := has_of D.gap (fun f fd F => F.binds (ps := ["many", "thing"]) fun _ _ _ _ _ _ us hl => match us, hl with | [_, _], _ => rfl) (fun f fd F => ok_gap F N GB GR)
  have GK : Has P w K mg base (L2.CX P w) 5 "check_lots" ["many", "lots"] (spCheck BM BL) := has_of D.check (fun f fd F => F.binds (ps := ["many", "lots"]) fun _ _ _ _ _ _ us hl => match us, hl with | [_, _], _ => rfl) (fun f fd F => ok_check F N MG ML bm2 yb GB GL GG)
  have GW : Has P w K mg base CX0 1 "lots_without" ["lots", "gap"] (spWo Hm.woL) := has_of D.wo (fun f fd F => F.binds (ps := ["lots", "gap"]) fun _ _ _ _ _ _ us hl => match us, hl with | [_, _], _ => rfl) (fun f fd F => ok_wo F N)
  have GV : Has P w K mg base CX0 1 "above" ["lots", "gap"] (spWo Hm.abvL) := has_of D.above (fun f fd F => F.binds (ps := ["lots", "gap"]) fun _ _ _ _ _ _ us hl => match us, hl with | [_, _], _ => rfl) (fun f fd F => ok_above F N)
  have GA : Has P w K mg base CX0 1 "fewest_apart" ["lots"] spApart := has_of D.apart (fun f fd F => F.binds (ps := ["lots"]) fun _ _ _ _ _ _ us hl => match us, hl with | [_], _ => rfl) (fun f fd F => ok_apart F N)
  have GC : Has P w K mg base CX0 19 "can_hit" ["lots", "number"] (spCan 16) := can_has N D GW GA 16
  have GF : Has P w K mg base CX0 20 "fewest_hits" ["many", "lots"] spFew := has_of D.few (fun f fd F => F.binds (ps := ["many", "lots"]) fun _ _ _ _ _ _ us hl => match us, hl with | [_, _], _ => rfl) (fun f fd F => ok_few F N GC)
  have GH : Has P w K mg base CX0 21 "first_hits" ["many", "lots"] spFst := has_of D.fst (fun f fd F => F.binds (ps := ["many", "lots"]) fun _ _ _ _ _ _ us hl => match us, hl with | [_, _], _ => rfl) (fun f fd F => ok_fst F N GC GF GV GW)
  have GQ : Has P w K mg base CX0 1 "check_number" ["number"] spNo := has_of D.ckN (fun f fd F => F.binds (ps := ["number"]) fun _ _ _ _ _ _ us hl => match us, hl with | [_], _ => rfl) (fun f fd F => ok_ckN F)
  have GT : Has P w K mg base CX0 1 "new_tree" ["lots", "number"] spNo := has_of D.new (fun f fd F => F.binds (ps := ["lots", "number"]) fun _ _ _ _ _ _ us hl => match us, hl with | [_, _], _ => rfl) (fun f fd F => ok_new F)
  have GI : Has P w K mg base CX0 1 "is_tree_behind" ["lots", "taken", "number", "thing"] spNo := has_of D.isB (fun f fd F => F.binds (ps := ["lots", "taken", "number", "thing"]) fun _ _ _ _ _ _ us hl => match us, hl with | [_, _, _, _], _ => rfl) (fun f fd F => ok_isB F)
  obtain ⟨fI, fd, _⟩ := yb.ini
  refine ⟨?_, ?_, ?_, ?_, lane, bm, bl, xf, yb.no⟩
  · exact has_of D.least (fun f fd F => F.binds (ps := ["many", "lots"]) fun _ _ _ _ _ _ us hl => match us, hl with | [_, _], _ => rfl) (fun f fd F => ok_least F N GK GH)
  · exact hasK_of D.least (fun _ _ _ _ _ _ ws hl => match ws, hl with | [_, _], _ => rfl) (fun f fd F => ok_least F N GK GH)
  · exact has_of D.tree (fun f fd F => F.binds (ps := ["many", "lots", "number"]) fun _ _ _ _ _ _ us hl => match us, hl with | [_, _, _], _ => rfl) (fun f fd F => ok_tree F N GK GQ GT)
  · exact has_of D.isT (fun f fd F => F.binds (ps := ["many", "lots", "number", "thing"]) fun _ _ _ _ _ _ us hl => match us, hl with | [_, _, _, _], _ => rfl) (fun f fd F => ok_isT F N GK GQ GI)
theorem prom_mk {h : Heap} {CS BM BL fI : Addr} {fd : FuncData} (X : K.In h) (G : h.Ns mainGlobals mg) (N : Bl mg) {t1 t2 : Tok} (MG : PySem.W.nsIn K mainGlobals "MOST_GAPS" = some (some (.int 16 t1))) (ML : PySem.W.nsIn K mainGlobals "MOST_LOTS" = some (some (.int 400 t2))) (D : PDefs K mg) (lane : PySem.W.nsIn K mainGlobals "LaneError" = some (some (.ref CS)))
    (bm : XFacts K "BadMany" CS BM) (q : PySem.W.excIn K BM [.type "ValueError", .type "Exception", .type "BaseException", .type "object"] "ValueError.__new__" = true) (bl : XFacts K "BadLots" CS BL) (yb : YFacts P K mg BL fI fd) : ∀ base : Heap, Promises P w K mg base CS BM BL := fun base =>
  promises N (PySem.W.mg_of X G MG) (PySem.W.mg_of X G ML) D (PySem.W.mg_of X G lane) (bm.cls X G) (bm.mk2 X G q) (bl.cls X G)
    ⟨PySem.W.mg_of X G bl.a, yb.at_.oex, ⟨fI, fd, yb.ini, yb.ty, ok_init yb.at_ txt_ini ⟨by decide, by decide, by decide⟩ ⟨by decide, by decide⟩, yb.bind⟩, yb.no⟩ ⟨bl.h1, bl.h2, bl.h3, bl.h4⟩
/-- all that the law calls -/
theorem callees {CS BM BL c Pt Pu fu : Addr} {oc kV doc pm ct : Value} {od an : Option Addr} {osl : Array (Option Value)} (N : Bl mg) (D : Defs K mg) (R : Promises P w K mg base CS BM BL) (mu : mg "_law_all_lots" = some (.ref fu)) (ku : PySem.W.keepIn K (.ref fu) = true)
    (lk : K.lookup fu = some ⟨oc, od, .func (PySem.W.fnOf "_law_all_lots" "_law_all_lots" (defArgs sAll) (defBody sAll) (defScope sAll) .none kV doc pm an (.ref c) ct), osl⟩) (hcd : PySem.W.codeIn K (.ref c) "_law_all_lots" = true) (TB : LamX.TabB base mg c Pu) (ne : Pt ≠ Pu) : Callees P w K mg base CS BM BL (TT Pt Pu) := by
  have GM : Has P w K mg base CX0 1 "_law_mixed_up" ["_law_state"] spMixed := has_of D.mixed (fun f fd F => F.binds (ps := ["_law_state"]) fun _ _ _ _ _ _ us hl => match us, hl with | [_], _ => rfl) (fun f fd F => ok_mixed F N)
  have GT : Has P w K mg base CX0 2 "_law_draw" ["_law_state", "_law_size_here"] spTake := has_of D.take (fun f fd F => F.binds (ps := ["_law_state", "_law_size_here"]) fun _ _ _ _ _ _ us hl => match us, hl with | [_, _], _ => rfl) (fun f fd F => ok_take F N GM)
  have GP : Has P w K mg base CX0 3 "_law_pick" ["_law_state", "_law_several"] spPick := has_of D.pick (fun f fd F => F.binds (ps := ["_law_state", "_law_several"]) fun _ _ _ _ _ _ us hl => match us, hl with | [_, _], _ => rfl) (fun f fd F => ok_pick F N GT)
  refine ⟨N, ?_, GP, GT, ?_, ?_, ?_, ?_, R.lh, R.lhk, R.ht, R.it, R.lane, R.bm, R.bl, R.xf, R.no, ?_⟩
  · exact has_of D.begun (fun f fd F => F.binds (ps := ["_law_script"]) fun _ _ _ _ _ _ us hl => match us, hl with | [_], _ => rfl) (fun f fd F => ok_begun F N)
  · exact has_of D.drawn (fun f fd F => F.binds (ps := ["_law_state", "_law_many_here"]) fun _ _ _ _ _ _ us hl => match us, hl with | [_, _], _ => rfl) (fun f fd F => ok_drawn F N GT)
  · exact has_of D.hit (fun f fd F => F.binds (ps := ["_law_lots", "_law_gaps_here"]) fun _ _ _ _ _ _ us hl => match us, hl with | [_, _], _ => rfl) (fun f fd F => ok_hit F)
  · exact ⟨fu, _, mu, ku, (fun_mk lk hcd ku).binds (ps := ["_law_many_here"]) (fun _ _ _ _ _ _ us hl => match us, hl with | [_], _ => rfl), ok_all lk hcd N TB ne⟩
  · exact has_of D.bent (fun f fd F => F.binds (ps := ["_law_state", "_law_many_here", "_law_lots"]) fun _ _ _ _ _ _ us hl => match us, hl with | [_, _, _], _ => rfl) (fun f fd F => ok_bent F N GT GP)
  · obtain ⟨f, fd, m, F⟩ := D.caught.ex
    exact ⟨f, fd, m, F.kp, F.binds (ps := ["_law_work"]) (fun _ _ _ _ _ _ us hl => match us, hl with | [_], _ => rfl), F⟩
theorem run_ats {fa a c Pt cu Pu : Addr} {ns : List Int} {s : Shared} {oc kV doc pm ct : Value} {od an : Option Addr} {osl : Array (Option Value)} (ne : Pt ≠ Pu)
    (C : ∀ base : Heap, K.In base → base.Ns mainGlobals mg → LamX.TabB base mg cu Pu → ∃ CS BM BL, Callees P w K mg base CS BM BL (TT Pt Pu))
    (lk : K.lookup fa = some ⟨oc, od, .func (PySem.W.fnOf "law" "law" (defArgs sLaw) (defBody sLaw) (defScope sLaw) .none kV doc pm an (.ref c) ct), osl⟩) (hcd : PySem.W.codeIn K (.ref c) "law" = true) (hl : ns.length ≤ 63) : RunAts P w K mg fa a [(c, Pt), (cu, Pu)] ns s := by
  intro base H inB nsB TB e0 hP hS
  have TB1 := TB (c, Pt) (List.mem_cons_self ..)
  have TB2 := TB (cu, Pu) (List.mem_cons_of_mem _ (List.mem_cons_self ..))
  obtain ⟨CS, BM, BL, C⟩ := C base inB nsB TB2
  have hr : Room 31 callerA := ⟨rfl, by decide, by decide⟩
  refine run_ofS (k := 30) (N := nLaw) (ps := ["_law_script"]) (us := [.ref a]) (vs := [.ref a]) lk hcd scLaw hr e0 (.of_eq rfl) (.cons rfl .nil) rfl fun hr' => ?_
  have tabs : Tabs (TT Pt Pu) H := fun p hp => by
    rcases List.mem_cons.mp hp with rfl | hp
    · exact TabS.nil (hP (c, Pt) (List.mem_cons_self ..))
    · rw [List.mem_singleton.mp hp]
      exact TabS.nil (hP (cu, Pu) (List.mem_cons_of_mem _ (List.mem_cons_self ..)))
  have tok : TOk (TT Pt Pu) Pt := ⟨List.mem_cons_self .., fun p hp e => by
    rcases List.mem_cons.mp hp with rfl | hp
    · rfl
    · rw [List.mem_singleton.mp hp] at e
      exact absurd e.symm ne⟩
  obtain ⟨t, ht, hq⟩ := law_body (P := P) (w := w) (outer := []) (s := s) (H0 := H) (E := fun _ _ _ => False) (f := fa) (Q := fun v _ => v = .bl true) (vs := [.ref a]) C hr' rfl TB1 tok ⟨a, ns, rfl, hS, hl, tabs, fun _ => rfl⟩
  exact ⟨t, ht.nox, hq⟩
end
end Lm
namespace Lm
open PySem PySem.Spec PyProof.Rows L2 LamX
theorem fin41 {P : Program} {w : World} {K : PySem.W.Frag} {h : Heap} {mg : Str → Option Value} {fa : Addr} (X : K.In h) (G : h.Ns mainGlobals mg) (hfa : mg "law" = some (.ref fa)) (N : Bl mg) (D : Defs K mg) {CS BM BL : Addr}
    (R : ∀ base : Heap, Promises P w K mg base CS BM BL)
    {f3 c Pt fu cu Pu : Addr} {oc kV doc pm ct oc2 kV2 doc2 pm2 ct2 : Value} {od an dd od2 an2 dd2 : Option Addr} {osl sl osl2 sl2 : Array (Option Value)} {vs vs2 : Array Value} (a : PySem.W.nsIn K mainGlobals "law" = some (some (.ref f3)))
    (lk : K.lookup f3 = some ⟨oc, od, .func (PySem.W.fnOf "law" "law" (defArgs sLaw) (defBody sLaw) (defScope sLaw) .none kV doc pm an (.ref c) ct), osl⟩) (hcd : PySem.W.codeIn K (.ref c) "law" = true)
    (lc : K.lookup c = some ⟨.type "code", dd, .fields vs, sl⟩) (cf : CodeF vs Pt) (cP : c ≠ Pt) (kP : K.lookup Pt = none)
    (a2 : PySem.W.nsIn K mainGlobals "_law_all_lots" = some (some (.ref fu))) (k2 : PySem.W.keepIn K (.ref fu) = true)
    (lk2 : K.lookup fu = some ⟨oc2, od2, .func (PySem.W.fnOf "_law_all_lots" "_law_all_lots" (defArgs sAll) (defBody sAll) (defScope sAll) .none kV2 doc2 pm2 an2 (.ref cu) ct2), osl2⟩) (hcd2 : PySem.W.codeIn K (.ref cu) "_law_all_lots" = true)
    (lc2 : K.lookup cu = some ⟨.type "code", dd2, .fields vs2, sl2⟩) (cf2 : CodeF vs2 Pu) (cP2 : cu ≠ Pu) (kP2 : K.lookup Pu = none) (ne : Pt ≠ Pu) :
    ∃ (c Pt fu cu Pu : Addr), DefC K mg "law" fa c Pt ∧ DefC K mg "_law_all_lots" fu cu Pu ∧ ∀ (s : Shared) (a : Addr) (ns : List Int), ns.length ≤ 63 → RunAts P w K mg fa a [(c, Pt), (cu, Pu)] ns s := by
  have e := PySem.W.mg_of X G a
  rw [hfa] at e
  injection e with e
  injection e with e
  subst e
  have mu := PySem.W.mg_of X G a2
  exact ⟨c, Pt, fu, cu, Pu, ⟨_, _, dd, vs, sl, hfa, lk, rfl, rfl, lc, cf, cP, kP⟩, ⟨_, _, dd2, vs2, sl2, mu, lk2, rfl, rfl, lc2, cf2, cP2, kP2⟩, fun s a ns hl => run_ats ne (fun base inB nsB TB => ⟨CS, BM, BL, callees N D (R base) mu k2 lk2 hcd2 TB ne⟩) lk hcd hl⟩
end Lm
namespace Lm
open PySem PySem.Spec PyProof.Rows L2 LamX
theorem y_mk {P : Program} {K : PySem.W.Frag} {h : Heap} {mg : Str → Option Value} {C fI cda cc : Addr} {oc kV doc pm ct ccl cl : Value} {od an cdd cld : Option Addr} {osl ccs csl : Array (Option Value)} {qual file : Str} {vs : Array Value} {tf : Tok}
    {nm q : Str} {N : Addr} {bs bm : List Value} {sn sub ab col dd k0 k1 k2 k3 k5} (X : K.In h) (G : h.Ns mainGlobals mg)
    (ini : PySem.W.findIn K (.ref C) "__init__" = some (some (.ref fI))) (ty : PySem.W.typeIn K (.ref fI) = some (.type "function"))
    (lk : K.lookup fI = some ⟨oc, od, .func (PySem.W.ksFn "__init__" qual (defArgs sIni) (defBody sIni) (defScope sIni) .none kV doc pm an (.ref cda) ct cc), osl⟩) (hcd : PySem.W.codeIn K (.ref cda) qual = true)
    (lc : K.lookup cda = some ⟨ccl, cdd, .fields vs, ccs⟩) (hv : vs[2]? = some (.str file tf)) (hf : ((P.main.file : Str) == file) = true) (lcell : K.lookup cc = some ⟨cl, cld, .cell (some (.ref C)), csl⟩)
    (cls : PySem.W.isClsIn K C = true) (self : PySem.W.mroIn K C (.ref C) = some true) (sup : PySem.W.nsIn K mainGlobals "super" = some none) (top : (P.main.scope.names.lookup ("super" : Str)).isSome = false)
    (along : PySem.W.ks_superIn K C C "__init__" = some (some (.builtin "ValueError.__init__"))) (isV : PySem.W.subIn K (.ref C) (.type "ValueError") = some true) (opq : PySem.W.nsIn K cStatics "thirdparty.any" = some none)
    (lC : K.lookup C = some (excClassObj nm q C N bs bm true sn sub ab col dd k0 k1 k2 k3 k5 "ValueError.__new__")) (hbm : PySem.HandSPX.refsVE bm = true) (sa : PySem.W.findIn K (.ref C) "__setattr__" = some (some (.builtin "object.__setattr__")))
    (exC : PySem.W.subIn K (.ref C) (.type "BaseException") = some true) (tyC : PySem.W.typeIn K (.ref C) = some (.type "type")) (kC : PySem.W.keepIn K (.ref C) = true) (no : PySem.W.findIn K (.ref C) "at" = some none) :
    YFacts P K mg C fI (PySem.W.ksFn "__init__" qual (defArgs sIni) (defBody sIni) (defScope sIni) .none kV doc pm an (.ref cda) ct cc) := by
  have cls' : ∃ cd, PySem.W.clsIn K C = some cd := by
    have c : (PySem.W.clsIn K C).isSome = true := cls
    exact Option.isSome_iff_exists.mp c
  exact ⟨ini, ty, ⟨⟨oc, od, kV, doc, pm, an, cda, cc, ct, osl, qual, rfl, lk, hcd, ⟨ccl, cdd, vs, ccs, file, tf, lc, hv, hf⟩, cl, cld, csl, lcell⟩, cls', self, PySem.W.mg_none_of X G sup, top, along, isV, opq,
    ⟨⟨nm, q, N, bs, bm, sn, sub, ab, col, dd, k0, k1, k2, k3, k5, lC, hbm⟩, sa, exC, tyC, kC⟩⟩, .all (fun us hl => match us, hl with | [_, _], _ => rfl), no⟩
end Lm
open PySem PySem.W PyProof.Rows
set_option Elab.async false
set_option maxRecDepth 100000 in
set_option maxHeartbeats 0 in
theorem PySem.Challenge.cw_lanesmeet_k41_fewest_gaps_holds : PySem.Challenge.rw_lanesmeet_k41_fewest_gaps.Holds := by
  w_on; o_law; k_head; (case hw => w_witness2)
  k_fill
  refine Lm.walk_guards (l := PySem.Challenge.rw_lanesmeet_k41_fewest_gaps) (n := 63) (x2 := "_law_all_lots") rfl (by decide) rfl ?rec ?rec2 (fun w h Y => PySem.W.km_in_of Y) ?F
  case rec => rfl
  case rec2 => rfl
  case F =>
    intro w mg fa h KX G hmg
    refine' Lm.fin41 KX G hmg ?qN ?qD ?qR ?qa ?qlk ?qhcd ?qlc ?qcf ?qcP ?qkP ?qa2 ?qk2 ?qlk2 ?qhcd2 ?qlc2 ?qcf2 ?qcP2 ?qkP2 ?qne
    (case qa => k_is); (case qlk => k_is); (case qhcd => k_is); (case qlc => k_is)
    (case qa2 => k_is); (case qk2 => k_is); (case qlk2 => k_is); (case qhcd2 => k_is); (case qlc2 => k_is)
    (case qN => refine' Lm.bl_mk KX G ?_ ?_ ?_ ?_ ?_ ?_ ?_ ?_ ?_ ?_ ?_ ?_ ?_ ?_ ?_ ?_ <;> k_is)
    (case qD => refine' ⟨?_, ?_, ?_, ?_, ?_, ?_, ?_, ?_⟩ <;> (refine' Lm.at_mk KX G ?ya ?yl ?yc ?yk; (case ya => k_is); (case yl => k_is); (case yc => k_is); (case yk => k_is)))
    case qcf => exact ⟨_, _, _, _, _, _, _, rfl, rfl, rfl, rfl, rfl, rfl⟩
    case qcP => decide
    case qkP => rfl
    case qcf2 => exact ⟨_, _, _, _, _, _, _, rfl, rfl, rfl, rfl, rfl, rfl⟩
    case qcP2 => decide
    case qkP2 => rfl
    case qne => decide
    case qR =>
      refine' Lm.prom_mk KX G ?rN ?rM ?rL ?rD ?rl ?rb ?rq ?rc ?ry
      (case rM => k_is)
      (case rL => k_is)
      (case rl => k_is)
      (case rN => refine' Lm.bl_mk KX G ?_ ?_ ?_ ?_ ?_ ?_ ?_ ?_ ?_ ?_ ?_ ?_ ?_ ?_ ?_ ?_ <;> k_is)
      (case rD => refine' ⟨?_, ?_, ?_, ?_, ?_, ?_, ?_, ?_, ?_, ?_, ?_, ?_, ?_, ?_, ?_, ?_, ?_, ?_⟩ <;> (refine' Lm.at_mk KX G ?ya ?yl ?yc ?yk; (case ya => k_is); (case yl => k_is); (case yc => k_is); (case yk => k_is)))
      (case rb => refine' ⟨?rbza, ?rbz1, ?rbz2, ?rbz3, ?rbz4, ?rbz5, ?rbz6, ?rbz7, ?rbz8, ?rbzd, ?rbze, ?rbzf, ?rbzg, ?rbzk, ?rbzt⟩; (case rbza => k_is); all_goals k_is)
      (case rq => k_exc)
      (case rc => refine' ⟨?rcza, ?rcz1, ?rcz2, ?rcz3, ?rcz4, ?rcz5, ?rcz6, ?rcz7, ?rcz8, ?rczd, ?rcze, ?rczf, ?rczg, ?rczk, ?rczt⟩; (case rcza => k_is); all_goals k_is)
      (case ry => refine' Lm.y_mk KX G ?y1 ?y2 ?y3 ?y4 ?y5 ?y6 ?y7 ?y8 ?y9 ?ya0 ?yb0 ?yc0 ?yd0 ?ye0 ?yf0 ?yg0 ?yh0 ?yi0 ?yj0 ?yk0 ?yl0 ?ym0; (case y1 => k_is); (case y3 => k_is); (case y5 => k_is); (case y8 => k_is); (case yg0 => k_is); (case y6 => rfl); (case y7 => rfl); (case yc0 => rfl); (case yh0 => rfl); (case yd0 => first | ks_is | k_is | rfl | decide +kernel); all_goals k_is)
