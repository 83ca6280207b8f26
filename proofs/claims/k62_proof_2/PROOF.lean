import PyProof.Rows.All
import Wide.All
import OpenK.AllK
import Wide.FinOn
import PySem.Challenge.RW_lanesmeet_k62_layings_and_banks
import HandS.Base
import HandS.Call
import HandS.List
import HandS.Comp
import HandS.Ends
import HandS.Dict
import HandS.Iter
import HandS.Exc
import HandS.TryOnly
import HandS.ExcOwn
import HandS.ExcIs
import HandS.IsInst
import HandS.Lambda
import HandS.Words
import HandS.WordsList
import HandS.WordsDict
import HandS.WordsExc
import PyProof.ReprReads
import HandS.Defaults
import HandS.Codes
import HandS.Wide
import HandS.Style
import HandS.TupAny
import HandS.Conv
import HandS.More
import HandS.Deep
import HandS.TupLe
import HandS.Text
import KE.KRevSl
import HandS.EndTab
import HandS.EndOwn
import HandS.Small
import PyProof.ExcBaseAll.ValueError
import KE.DataMinMax
import HandS.SortKw
import KE.KDictList
import HandS.Walk
import KE.KExcLine
set_option Elab.async false
set_option linter.all false
set_option maxRecDepth 100000
set_option maxHeartbeats 4000000
/-! An own exception that an except clause keeps: it is tracked from the clause on. -/
namespace Lm
open PySem PySem.Spec PyProof.Rows L2
/-- an exception's object, of the class cls, its own dict at d -/
def ExI (a : Addr) (cls : Value) (d : Option Addr) : HO := .ext fun h => ∃ oe : Obj, h.get? a = some oe ∧ Zc cls d oe ∧ ∃ vs, oe.data = .fields vs
theorem exI_ok {P : Program} {w : World} {H : Hp} {h : Heap} {a : Addr} {cls : Value} {d : Option Addr} {oe : Obj} {vs : Array Value} (e : h.get? a = some oe) (z : Zc cls d oe) (v : oe.data = .fields vs) : ObjOk P w H h a (ExI a cls d) :=
  ⟨⟨oe, e, z, vs, v⟩, ⟨oe, e⟩, fun _ _ ⟨o, q, r⟩ k => ⟨o, k o q, r⟩⟩
section
variable {X : Cx} {pins : List (Addr × Obj)} {σ : L2.St} {H : Hp} {s0 s1 : Shared} {B : Heap}
/-- back on the ground with the exception's object tracked -/
theorem landT {a : Addr} {o : HO} (I : Inv X pins σ H s0) (nb : ∀ b u, s0.heap.get? b = some u → b ∉ frs X.stack → B.get? b = some u)
    (st : B.StaysIn s1.heap) (up : s0.heap.UpToSlots s1.heap) (os : s1.os = s0.os) (ag : AllBare s1.gens)
    (n0 : s0.heap.get? a = none) (na : H a = none) (new : ObjOk X.prog X.w (upd H a o) s1.heap a o) : Inv X pins σ (upd H a o) s1 := by
  have slots : ∀ b ∈ frs X.stack, ∀ u, s0.heap.get? b = some u → ∃ sl, s1.heap.get? b = some { u with slots := sl } := by
    intro b hb u e
    obtain ⟨_, u', e', hd⟩ := I.stack.mem hb
    rw [e] at e'
    cases e'
    exact up b u e hd
  have off : ∀ b u, s0.heap.get? b = some u → b ≠ a := by
    intro b u e z
    rw [z, n0] at e
    cases e
  have un : Un (frs X.stack) [] H (upd H a o) s0.heap s1.heap := by
    constructor
    · intro b u e _ hb _
      exact st b u (nb b u e hb)
    · intro b u e _ hb _
      exact slots b hb u e
    · intro b u e n _
      rw [upd_ne (off b u e)]
      exact n
    · intro b u e _
      by_cases hb : b ∈ frs X.stack
      · obtain ⟨sl, q⟩ := slots b hb u e
        exact ⟨_, q⟩
      · exact ⟨u, st b u (nb b u e hb)⟩
    · intro b xs e
      rw [upd_ne (ne_of_none e na)]
      exact e
    · intro b u xs e
      rw [upd_ne (ne_of_none e na)]
      exact e
    · intro b ps e
      refine ⟨#[], ?_⟩
      rw [upd_ne (ne_of_none e na), e]
      simp
  have hk : HOk X.prog X.w H s1.heap := (I.inGround nb).kept st
  have hk2 : HOk X.prog X.w (upd H a o) s1.heap := by
    intro b u e
    by_cases hb : b = a
    · rw [hb] at e ⊢
      rw [upd_same] at e
      cases e
      exact new
    · rw [upd_ne hb] at e
      refine (hk b u e).stay (fun _ _ _ q => q) (fun c q => ?_) (fun c xs q => ?_)
      · rw [upd_ne (ne_of_none q na)]
        exact q
      · rw [upd_ne (ne_of_none q na)]
        exact q
  have fin := I.call (ch := []) (h' := s1.heap) (g' := s1.gens) (t' := s1.toks) (d' := s1.drawn) un hk2 ag (fun _ z => nomatch z)
  obtain ⟨p1, p2, p3, p4, p5⟩ := s1
  have e5 : p5 = s0.os := os
  subst e5
  exact fin
theorem suiteOf {a : Addr} {s : Shared} (I : Inv X pins σ H s) : Inv (X.suite a (X.pn ++ pins)) [] σ H s where
  ok := I.ok.suite _ _
  os := I.os
  bare := I.bare
  base := I.base
  loc := I.loc
  cell := I.cell
  free := I.free
  freeC := I.freeC
  pin := fun p hp => I.pin p (by
    have hp' : p ∈ (X.pn ++ pins) ++ [] := hp
    rwa [List.append_nil] at hp')
  hok := I.hok
  len := I.len
theorem ofSuite {a : Addr} {s : Shared} {more : List (Addr × Obj)} (ok : X.Ok) (I : Inv (X.suite a (X.pn ++ pins)) more σ H s) : Inv X pins σ H s where
  ok := ok
  os := I.os
  bare := I.bare
  base := I.base
  loc := I.loc
  cell := I.cell
  free := I.free
  freeC := I.freeC
  pin := fun p hp => I.pin p (List.mem_append_left _ hp)
  hok := I.hok
  len := I.len
end
/-- what such a clause wishes of an exception of the body -/
def wTr (K : PySem.W.Frag) (m : Nat) (c : Value) (i : Nat) (ts : Addr → TS) (D : Ends) : WX := fun cls d σ H =>
  PySem.W.exmOne K cls c = some true ∧ ∀ a, σ.length = m → H a = none → ts a { nx := fun σ' H' => D.nx (σ'.set i none) H', rt := D.rt, bk := fun σ' H' => D.bk (σ'.set i none) H', ct := fun σ' H' => D.ct (σ'.set i none) H' }
    (σ.set i (some (.ref a))) (upd H a (ExI a cls d))
section
variable {X : Cx} {x n : Str} {c : Value} {i : Nat} {body suite : List Stmt} {b₀ : Stmt} {np pos pos' : Pos} {tb : WX → TS} {ts : Addr → TS}
/-- try: .. / except x as n: suite; the exception's object is tracked in the suite and behind it -/
theorem ps_tryT (hs : X.stack = X.env :: X.outer) (hf : X.env.frame = some X.env.locals) (hN : X.N.Nodup) (hi : X.N[i]? = some n) (hln : X.env.kindOf n = some .local) (hc : Names X x c)
    (hb : ∀ (W : WX) (pn : List (Addr × Obj)) (xe : Value → Shared → Prop), Takes (X.tr pn xe) W → PassesOwn (model X.prog X.w) X.A X.env xe → PSs (X.tr pn xe) body (tb W))
    (hsu : ∀ (a : Addr) (pn : List (Addr × Obj)), PSs (X.suite a pn) (b₀ :: suite) (ts a)) :
    PS X (.Try body [.ExceptHandler (some (.Name x np)) (some n) (b₀ :: suite) pos'] [] [] pos) (fun D σ H => tb (wTr X.K X.N.length c i ts D) D σ H) := by
  constructor
  intro pins s σ H D I h
  have ok := I.ok
  have hfr : X.A.frames = some (X.env :: X.outer) := by rw [ok.frames, hs]
  refine wpAny_Try_except ?_
  refine wpAny_mono ((hb (wTr X.K X.N.length c i ts D) (X.pn ++ pins)
    (fun e s₁ => wpAny (model X.prog X.w) X.A (noteFrame e X.env) (fun _ s₂ => wpAny (model X.prog X.w) X.A (setFlight e none)
      (fun _ s₃ => wpAny (model X.prog X.w) X.A (handleBy e X.env [.ExceptHandler (some (.Name x np)) (some n) (b₀ :: suite) pos']) (SP X pins D) X.xe s₃) X.xe s₂) X.xe s₁)
    (fun u s' xx => ?kept) PassesOwn.looking).run [] s σ H D (I.toTry _) h) (fun f s1 hsp => ?done) (fun e s1 he => he)
  case kept =>
    obtain ⟨a, B, sI, pins', σ', H', cls, d, rfl, Ja, nb, up, sky, na, os, ag, hcls, hgo⟩ := xx
    have J : Inv X pins σ' H' sI := Ja.ofTry ok
    have nb' : ∀ b o, sI.heap.get? b = some o → b ∉ frs X.stack → B.get? b = some o := nb
    have skyX : Sky B (X.env :: X.outer) a (Zc cls d) X.env.locals s'.heap := by
      rw [← hs]
      exact sky
    refine Sky.land Zc.steady hfr hf skyX ?_
    intro h3 fl3 up3
    obtain ⟨oe3, vs3, g3, z3, d3⟩ := fl3.there
    have n0 : sI.heap.get? a = none := by
      cases q : sI.heap.get? a with
      | none => rfl
      | some o =>
        exfalso
        have hm : a ∈ frs X.stack := by
          refine Classical.byContradiction fun hn => ?_
          have z := nb' a o q hn
          rw [fl3.2.1] at z
          cases z
        rw [hs] at hm
        obtain ⟨_, o', e', hnf⟩ := fl3.2.2.1.mem hm
        rw [g3] at e'
        cases e'
        exact hnf _ d3
    have J3 := landT (a := a) (o := ExI a cls d) (s1 := { s' with heap := h3 }) J nb' fl3.1 (up.trans up3) os ag n0 na (exI_ok g3 z3 d3)
    refine wpAny_handleBy_cons (codeAny_handlers_test ?_) (by intro q; cases q)
    have LT : PySem.W.Looks (model X.prog X.w) h3 (typeOf (.ref a)) cls := by
      intro A Q E s k q
      refine wpAny_typeOf_ref (k _ _ g3) ?_
      rw [z3.1]
      exact q
    have LM := PySem.W.exm_one (M := model X.prog X.w) J3.kIn LT hcls
    have test : ∀ {Q : Value → Shared → Prop} {E : Value → Shared → Prop}, Q c { s' with heap := h3 } →
        wpAny (model X.prog X.w) (X.A.mark (some (.ref a))) (eval (.Name x np) X.env) Q E { s' with heap := h3 } := by
      intro Q E q
      obtain ⟨hg, hdbg, hm | ⟨hm, hv, hnn⟩⟩ := hc
      · exact ld_glob (X := X.suite a (X.pn ++ pins)) (suiteOf J3) hg hm q hdbg
      · exact ld_blt (X := X.suite a (X.pn ++ pins)) (suiteOf J3) hg hm hv q hnn hdbg
    refine test (LM.here ?_)
    refine codeAny_handlers_suite_as ?_
    refine HandSPX.lands_againZ fl3 ?_
    intro h4 fl4 up4
    obtain ⟨oe4, vs4, g4, z4, d4⟩ := fl4.there
    have J4 := landT (a := a) (o := ExI a cls d) (s1 := { s' with heap := h4 }) J nb' fl4.1 ((up.trans up3).trans up4) os ag n0 na (exI_ok g4 z4 d4)
    refine store_ok (X := X.suite a (X.pn ++ pins)) (v := .ref a) (suiteOf J4) hN hi (.inl hln) rfl (fun s5 S5 => ?_) (.inr hln)
    refine wpAny_mono ((hsu a (X.pn ++ pins)).run [] s5 _ _ _ S5 (hgo a J.len na)) (fun f s6 hsp => ?_) (fun _ _ z => z.elim)
    have gone : ∀ {σ6 : L2.St} {H6 : Hp} {R : Shared → Prop}, Inv (X.suite a (X.pn ++ pins)) [] σ6 H6 s6 → (∀ s7, Inv X pins (σ6.set i none) H6 s7 → R s7) →
        wpAny (model X.prog X.w) X.A (do bindName X.env n .none; unbindBehindTheSuite X.env n pos') (fun _ s7 => R s7) X.xe s6 := by
      intro σ6 H6 R S6 hq
      exact gone_ok (ofSuite ok S6) hN hi hln hq
    cases f with
    | next =>
      obtain ⟨σ6, H6, S6, q6⟩ := hsp
      exact gone S6 fun s7 J7 => ⟨_, _, J7, q6⟩
    | brk =>
      obtain ⟨σ6, H6, S6, q6⟩ := hsp
      exact gone S6 fun s7 J7 => ⟨_, _, J7, q6⟩
    | cont =>
      obtain ⟨σ6, H6, S6, q6⟩ := hsp
      exact gone S6 fun s7 J7 => ⟨_, _, J7, q6⟩
    | ret u =>
      obtain ⟨v6, σ6, H6, S6, r6, q6⟩ := hsp
      exact gone S6 fun s7 J7 => ⟨_, _, _, J7, r6, q6⟩
  case done =>
   cases f with
    | next =>
      obtain ⟨σ', H', J', q⟩ := hsp
      exact wpAny_execs_nil ⟨σ', H', J'.ofTry ok, q⟩
    | brk =>
      obtain ⟨σ', H', J', q⟩ := hsp
      exact ⟨σ', H', J'.ofTry ok, q⟩
    | cont =>
      obtain ⟨σ', H', J', q⟩ := hsp
      exact ⟨σ', H', J'.ofTry ok, q⟩
    | ret u =>
      obtain ⟨v, σ', H', J', r, q⟩ := hsp
      exact ⟨v, σ', H', J'.ofTry ok, r, q⟩
end
/-! ### isinstance of such an exception -/
theorem call_isX {X : Cx} {D : Addr} (C : ExcC X.K D) : CallR X (.builtin "isinstance") (fun xs H Q => ∃ (a : Addr) (c : V) (cv : Value) (b : Bool), xs = [.ref a, c] ∧ H a = some (ExI a (.ref D) none) ∧ (∀ u, RelV c u → u = cv) ∧ PySem.W.kitOne X.K (.ref D) cv = some b ∧ Q (.bl b) H) := by
  intro pins s σ H xs us Q I r h
  obtain ⟨a, c, cv, b, rfl, ha, hcv, e, q⟩ := h
  cases r with
  | cons rx rr =>
    cases rr with
    | cons rt rr =>
      cases rr
      cases rx
      have ec := hcv _ rt
      subst ec
      obtain ⟨⟨oe, hget, hz, vs, hv⟩, _, _⟩ := I.hok a _ ha
      have J : PySem.W.InstAt s.heap a oe D none := by
        obtain ⟨oc, od, oda, osl⟩ := oe
        obtain ⟨h1, h2⟩ := hz
        dsimp only at h1 h2 hv
        subst h1 h2 hv
        exact ⟨hget, rfl, rfl, trivial⟩
      exact PySem.W.kia_one (PySem.W.handS_kitx_exc C.hg C.hk C.hs C.hd C.ha C.hn C.ht C.hm) I.kIn J e (fun z => nomatch z)
        (fun tk => ⟨.bl b, H, I.kept (t' := tk) (fun _ _ z => z), rfl, q⟩)
end Lm
/-! repr of a list of data. -/
namespace Lm
open PySem PySem.Spec PyProof.Rows L2
theorem repr_list {prog : Program} {w : World} {A : Around} {E : Value → Shared → Prop} {s : Shared} {a : Addr} {oa : Obj} {x : Value} {l : List Value} {n : Nat} {as : List Addr} {ds : List PyData} {Q : Value → Shared → Prop}
    (ha : s.heap.get? a = some oa) (hc : oa.cls = .type "list") (hd : oa.data = .seq (x :: l).toArray n) (hr : ReadsAll s.heap (x :: l) ds as) (hs : PyData.showableAll ds = true) (hnd : PyData.hasDictAll ds = false)
    (hz : (listText (PyData.shownAll ds)).length ≤ sizeLine) (hg : A.guards = some []) (hu : A.units + (PyData.depthAll ds + 8) < cLine)
    (hQ : ∀ h' u tk, (∀ b o, s.heap.get? b = some o → h'.get? b = some o) → Q (.str (listText (PyData.shownAll ds)) u) { s with heap := h', toks := tk }) :
    wpAny (model prog w) A (call (.builtin "repr") [.ref a]) Q E s := by
  obtain ⟨bs, hb, hk⟩ := ReprAllK.of_readsAll (prog := prog) (w := w) hr hs (fun z => by rw [hnd] at z; cases z) (fun t ht => Nat.le_trans (listText_mem_le ht) hz)
  have r : Reads s.heap (.ref a) (.list ds) _ := .list ha hc hd hr
  have hna : a ∉ bs := not_mem_of_deeper r (by simp only [PyData.depth]; omega) hb
  have hT : s.TypeIs (.ref a) "list" := ⟨oa, ha, hc⟩
  refine Calls.call_function_entry F.kind_repr F.plain_repr F.entry_repr (F.args_repr1 _) ?_
  unfold Builtin.«repr»
  refine wpAny_bind (m := oneArg "repr" _) (wpAny_pure ?_)
  refine wpAny_bind (wpAny_cRoomFor (by show A.units + 1 < _; omega) ?_)
  refine wpAny_bind (wpAny_specialOf (name := Str.ofString "__repr__") hT PySem.F.slot_list_repr.lookup ?_)
  refine wpAny_bind (m := callSpecialIfBound? (.ref a) (Str.ofString "__repr__")) (wpAny_callSpecialIfBound?_slot (name := Str.ofString "__repr__") hT PySem.F.slot_list_repr
    (call_list_reprK ha hc hd hna (by simpa using hk.length_eq) (fun i y e => hk.item i y (by simpa using e)) (g := []) (by simpa using hg) (fun b _ => Clear.nil b) (by show A.units + 1 + _ < _; omega) (fun b o e => e) (fun h' u tk hk => ?_) hz))
  refine wpAny_bind (wpAny_isInstance (T := "str") (b := true) rfl isSubtype_str_str ?_)
  exact wpAny_pure ⟨_, rfl, hQ h' u tk hk⟩
end Lm
/-! A def at hand by its name; the state of the draws; data that the draws leave as they are. -/
namespace Lm
open PySem PySem.Spec PyProof.Rows L2
/-- the def named x keeps its promise -/
def Has (P : Program) (w : World) (K : PySem.W.Frag) (mg : Str → Option Value) (base : Heap) (CX : CXT) (k : Nat) (x : Str) (ps : List Str) (sp : Sp) : Prop :=
  ∃ (f : Addr) (fd : FuncData), mg x = some (.ref f) ∧ PySem.W.keepIn K (.ref f) = true ∧ L2.Binds K fd ps [] ∧ FnOk P w K mg base CX k f fd ps sp
theorem Has.imp {P : Program} {w : World} {K : PySem.W.Frag} {mg : Str → Option Value} {base : Heap} {CX : CXT} {k : Nat} {x : Str} {ps : List Str} {sp sp' : Sp} (h : Has P w K mg base CX k x ps sp) (i : ∀ vs H Q E, sp' vs H Q E → sp vs H Q E) : Has P w K mg base CX k x ps sp' := by
  obtain ⟨f, fd, a, b, c, d⟩ := h
  exact ⟨f, fd, a, b, c, d.imp i⟩
def tH (sp : Sp) (E : XK) (t : TA) : TE := fun σ H Q => t σ H fun vs H1 => sp vs H1 Q E
def tHK (ks : List Str) (gV : List V → List V) (sp : Sp) (E : XK) (tk : TA) : TE := fun σ H Q => tk σ H fun zs H1 => zs.length = ks.length ∧ sp (gV zs) H1 Q E
section
variable {X : Cx} {CX : CXT} {x : Str} {ps : List Str} {sp : Sp} {E : XK} {j k : Nat} {p pos : Pos} {e : Expr} {es : List Expr} {t : TA}
theorem pe_h (c : Has X.prog X.w X.K X.mg X.base CX k x ps sp) (hr : Room j X.A) (hk : k ≤ j) (hg : Gl X x) (hx : Passes CX X E) (ha : PA X (e :: es) t) (hdb : (x == ("__debug__" : Str)) = false := by decide)
    (he : starEach (e :: es) X.env = (false, eval e X.env) :: starEach es X.env := by rfl) (hpl : (backTo pos (starEach es X.env)).any (·.1) = false := by rfl) : PE X (.Call (.Name x p) (e :: es) [] pos) (tH sp E t) := by
  obtain ⟨f, fd, hm, kp, b, F⟩ := c
  constructor
  intro pins s σ H Q I h
  have h : t σ H fun vs H1 => sp vs H1 Q E := h
  refine (pe_call F (hr.mono hk) hg hm kp b .nil hx ha hdb he hpl).run pins s σ H Q I ?_
  show t σ H fun vs H1 => sp (vs ++ []) H1 Q E
  simpa using h
end
/-- a def that is called by keywords alone -/
def HasK (P : Program) (w : World) (K : PySem.W.Frag) (mg : Str → Option Value) (base : Heap) (CX : CXT) (k : Nat) (x : Str) (ps ks : List Str) (gV : List V → List V) (sp : Sp) : Prop :=
  ∃ (f : Addr) (fd : FuncData) (g : List Value → List Value → List Value), mg x = some (.ref f) ∧ PySem.W.keepIn K (.ref f) = true ∧ KBn K fd ps 0 ks g (fun _ zs => gV zs) ∧ FnOk P w K mg base CX k f fd ps sp
section
variable {X : Cx} {CX : CXT} {x : Str} {ps ks : List Str} {sp : Sp} {E : XK} {j k : Nat} {p pos : Pos} {kws : List Keyword} {tk : TA} {gV : List V → List V}
theorem pe_hK (c : HasK X.prog X.w X.K X.mg X.base CX k x ps ks gV sp) (hr : Room j X.A) (hk : k ≤ j) (hg : Gl X x) (hx : Passes CX X E) (hkw : PK X kws tk)
    (hall : (backToKw pos (keywordEach kws X.env)).all (·.1.isSome) = true := by rfl) (hks : (backToKw pos (keywordEach kws X.env)).filterMap (·.1) = ks := by rfl)
    (hpl : ((backTo pos (starEach [] X.env)).any (·.1) || (backToKw pos (keywordEach kws X.env)).any (·.1.isNone)) = false := by rfl) (hdb : (x == ("__debug__" : Str)) = false := by decide) :
    PE X (.Call (.Name x p) [] kws pos) (tHK ks gV sp E tk) := by
  obtain ⟨f, fd, g, hm, kp, b, F⟩ := c
  constructor
  intro pins s σ H Q I h
  have h : tk σ H fun zs H1 => zs.length = ks.length ∧ sp (gV zs) H1 Q E := h
  refine wpAny_Call_Name_kw (ld_glob I hg hm ?_ hdb)
  refine PySem.W.callWith_KW0 (h₀ := X.base) I.ok.mod.kin kp hall ?_ hpl
  refine thn (hkw.run pos pins s σ H _ I h) ?_
  intro ws s2 ⟨zs, H2, I2, rz, l2, q2⟩
  refine ⟨I2.kIn, ?_⟩
  rw [hks]
  exact run_fnN (us := []) (vs := []) F (hr.mono hk) b hx I2 .nil rz rfl l2 q2
end
/-! ### the state of the draws -/
structure DrA where
  d : Addr
  w : Addr
  c : Addr
def drF (D : DrA) (r t : Int) : List (Key × V) := [(.inr "wide", .ref D.w), (.inr "cells", .ref D.c), (.inr "rest", .int r), (.inr "turn", .int t)]
/-- the state stands, and at most n turns were taken -/
def DrawAt (D : DrA) (n : Nat) (H : Hp) : Prop := ∃ (ws cs : List Int) (r t : Int), H D.d = some (.dK (drF D r t)) ∧ H D.w = some (.lst (ws.map V.int)) ∧ H D.c = some (.lst (cs.map V.int)) ∧ ((∀ x ∈ cs, 0 ≤ x ∧ x < 2147483629) ∧ D.c ≠ D.w) ∧ 0 ≤ t ∧ t ≤ (n : Int)
theorem DrawAt.mono {D : DrA} {n m : Nat} {H : Hp} (h : DrawAt D n H) (l : n ≤ m) : DrawAt D m H := by
  obtain ⟨ws, cs, r, t, h1, h2, h3, h4, h5, h6⟩ := h
  exact ⟨ws, cs, r, t, h1, h2, h3, h4, h5, by omega⟩
theorem DrawAt.same {D : DrA} {n : Nat} {H H' : Hp} (h : DrawAt D n H) (s : ∀ b o, H b = some o → (∀ ps, o ≠ .tbl ps) → H' b = some o) : DrawAt D n H' := by
  obtain ⟨ws, cs, r, t, h1, h2, h3, h4, h5, h6⟩ := h
  exact ⟨ws, cs, r, t, s _ _ h1 (fun _ z => by cases z), s _ _ h2 (fun _ z => by cases z), s _ _ h3 (fun _ z => by cases z), h4, h5, h6⟩
/-- all but the state stands -/
def Fr (D : DrA) (H H' : Hp) : Prop := ∀ b o, H b = some o → b ≠ D.d → b ≠ D.w → H' b = some o
theorem Fr.refl (D : DrA) (H : Hp) : Fr D H H := fun _ _ h _ _ => h
theorem Fr.trans {D : DrA} {H H1 H2 : Hp} (a : Fr D H H1) (b : Fr D H1 H2) : Fr D H H2 := fun c o h n1 n2 => b c o (a c o h n1 n2) n1 n2
theorem Fr.of {D : DrA} {H H' : Hp} (a : Same H H') : Fr D H H' := fun c o h _ _ => a c o h
theorem same_upd {H : Hp} {p : Addr} {o : HO} (h : H p = none) : Same H (upd H p o) := by
  intro b x e
  rw [upd_ne (ne_of_none e h)]
  exact e
theorem drF_rest (D : DrA) (r t : Int) : valV (drF D r t) (.inr "rest") = some (.int r) := rfl
theorem drF_turn (D : DrA) (r t : Int) : valV (drF D r t) (.inr "turn") = some (.int t) := rfl
theorem drF_wide (D : DrA) (r t : Int) : valV (drF D r t) (.inr "wide") = some (.ref D.w) := rfl
theorem drF_cells (D : DrA) (r t : Int) : valV (drF D r t) (.inr "cells") = some (.ref D.c) := rfl
theorem drF_putR (D : DrA) (r t z : Int) : putK (drF D r t) (.inr "rest") (.int z) = drF D z t := rfl
theorem drF_putT (D : DrA) (r t z : Int) : putK (drF D r t) (.inr "turn") (.int z) = drF D r z := rfl
def B : Nat := 70368744177664
/-! ### data apart from the state -/
mutual
inductive Da (D : DrA) (H : Hp) : V → PyData → Prop
  | non : Da D H .non .none
  | bl (b : Bool) : Da D H (.bl b) (.bool b)
  | int (i : Int) : Da D H (.int i) (.int i)
  | str (x : Str) : Da D H (.str x) (.str x)
  | lst {a : Addr} {xs : List V} {ds : List PyData} : H a = some (.lst xs) → a ≠ D.d → a ≠ D.w → DaAll D H xs ds → Da D H (.ref a) (.list ds)
  | tup {a : Addr} {xs : List V} {ds : List PyData} : H a = some (.tup xs) → a ≠ D.d → a ≠ D.w → DaAll D H xs ds → Da D H (.ref a) (.tuple ds)
inductive DaAll (D : DrA) (H : Hp) : List V → List PyData → Prop
  | nil : DaAll D H [] []
  | cons {v : V} {vs : List V} {d : PyData} {ds : List PyData} : Da D H v d → DaAll D H vs ds → DaAll D H (v :: vs) (d :: ds)
end
/-- all but the state, and but the tables, stands -/
def FrT (D : DrA) (H H' : Hp) : Prop := ∀ b o, H b = some o → b ≠ D.d → b ≠ D.w → (∀ ps, o ≠ .tbl ps) → H' b = some o
theorem FrT.refl (D : DrA) (H : Hp) : FrT D H H := fun _ _ h _ _ _ => h
theorem FrT.trans {D : DrA} {H H1 H2 : Hp} (a : FrT D H H1) (b : FrT D H1 H2) : FrT D H H2 := fun c o h n1 n2 n3 => b c o (a c o h n1 n2 n3) n1 n2 n3
theorem Fr.t {D : DrA} {H H' : Hp} (a : Fr D H H') : FrT D H H' := fun c o h n1 n2 _ => a c o h n1 n2
mutual
theorem Da.fr {D : DrA} {H H' : Hp} (f : FrT D H H') : ∀ {d : PyData} {v : V}, Da D H v d → Da D H' v d
  | _, _, .non => .non
  | _, _, .bl b => .bl b
  | _, _, .int i => .int i
  | _, _, .str x => .str x
  | _, _, .lst h n1 n2 ha => .lst (f _ _ h n1 n2 (fun _ z => by cases z)) n1 n2 (DaAll.fr f ha)
  | _, _, .tup h n1 n2 ha => .tup (f _ _ h n1 n2 (fun _ z => by cases z)) n1 n2 (DaAll.fr f ha)
theorem DaAll.fr {D : DrA} {H H' : Hp} (f : FrT D H H') : ∀ {ds : List PyData} {vs : List V}, DaAll D H vs ds → DaAll D H' vs ds
  | _, _, .nil => .nil
  | _, _, .cons h ha => .cons (Da.fr f h) (DaAll.fr f ha)
end
mutual
theorem Da.dp {K : PySem.W.Frag} {D : DrA} {H : Hp} : ∀ {d : PyData} {v : V}, Da D H v d → Dp K H v d
  | _, _, .non => .non
  | _, _, .bl b => .bl b
  | _, _, .int i => .int i
  | _, _, .str x => .str x
  | _, _, .lst h _ _ ha => .lst (SqL.of h) (DaAll.dp ha)
  | _, _, .tup h _ _ ha => .tup (SqT.of h) (DaAll.dp ha)
theorem DaAll.dp {K : PySem.W.Frag} {D : DrA} {H : Hp} : ∀ {ds : List PyData} {vs : List V}, DaAll D H vs ds → DpAll K H vs ds
  | _, _, .nil => .nil
  | _, _, .cons h ha => .cons (Da.dp h) (DaAll.dp ha)
end
theorem DaAll.length {D : DrA} {H : Hp} : ∀ {ds : List PyData} {vs : List V}, DaAll D H vs ds → vs.length = ds.length
  | _, _, .nil => rfl
  | _, _, .cons _ ha => congrArg Nat.succ (DaAll.length ha)
theorem DaAll.get {D : DrA} {H : Hp} : ∀ {ds : List PyData} {vs : List V} {i : Nat} {v : V}, DaAll D H vs ds → vs[i]? = some v → ∃ d, ds[i]? = some d ∧ Da D H v d
  | _, _, _, _, .nil, e => by simp at e
  | _, _, 0, _, .cons h _, e => by
    simp at e
    subst e
    exact ⟨_, rfl, h⟩
  | _, _, i + 1, _, .cons _ ha, e => by
    obtain ⟨d, h1, h2⟩ := DaAll.get (i := i) ha (by simpa using e)
    exact ⟨d, by simpa using h1, h2⟩
theorem DaAll.app {D : DrA} {H : Hp} : ∀ {ds es : List PyData} {vs ws : List V}, DaAll D H vs ds → DaAll D H ws es → DaAll D H (vs ++ ws) (ds ++ es)
  | _, _, _, _, .nil, h => h
  | _, _, _, _, .cons a b, h => .cons a (DaAll.app b h)
theorem DaAll.take {D : DrA} {H : Hp} (n : Nat) : ∀ {ds : List PyData} {vs : List V}, DaAll D H vs ds → DaAll D H (vs.take n) (ds.take n) := by
  induction n with
  | zero => intro ds vs _; exact .nil
  | succ n ih =>
    intro ds vs h
    cases h with
    | nil => exact .nil
    | cons a b => exact .cons a (ih b)
theorem DaAll.drop {D : DrA} {H : Hp} (n : Nat) : ∀ {ds : List PyData} {vs : List V}, DaAll D H vs ds → DaAll D H (vs.drop n) (ds.drop n) := by
  induction n with
  | zero => intro ds vs h; exact h
  | succ n ih =>
    intro ds vs h
    cases h with
    | nil => exact .nil
    | cons a b => exact ih b
theorem DaAll.rev {D : DrA} {H : Hp} : ∀ {ds : List PyData} {vs : List V}, DaAll D H vs ds → DaAll D H vs.reverse ds.reverse
  | _, _, .nil => .nil
  | _, _, .cons a b => by
    rw [List.reverse_cons, List.reverse_cons]
    exact DaAll.app (DaAll.rev b) (.cons a .nil)
theorem DaAll.ints {D : DrA} {H : Hp} : ∀ ns : List Int, DaAll D H (ns.map V.int) (ns.map PyData.int)
  | [] => .nil
  | n :: r => .cons (.int n) (DaAll.ints r)
/-- a new object lies apart from the state -/
theorem DrawAt.off {D : DrA} {n : Nat} {H : Hp} {p : Addr} (h : DrawAt D n H) (np : H p = none) : p ≠ D.d ∧ p ≠ D.w := by
  obtain ⟨ws, cs, r, t, h1, h2, _⟩ := h
  constructor
  · intro z
    rw [z, h1] at np
    cases np
  · intro z
    rw [z, h2] at np
    cases np
theorem DrawAt.new {D : DrA} {n : Nat} {H : Hp} {p : Addr} {o : HO} (h : DrawAt D n H) (np : H p = none) : DrawAt D n (upd H p o) := h.same fun b x e _ => same_upd np b x e
end Lm
namespace Lm
open PySem PySem.Spec PyProof.Rows L2
def topS (i : Nat) : Stmt := PySem.Challenge.pw_lanesmeet_k62_layings_and_banks.main.body.getD i (.Pass ⟨0, 0, 0, 0⟩)
/-- the built-ins that no name of the module hides -/
structure Bl (mg : Str → Option Value) : Prop where
  bint : mg "int" = none
  blen : mg "len" = none
  bisi : mg "isinstance" = none
  bbool : mg "bool" = none
  btup : mg "tuple" = none
  blist : mg "list" = none
  bstr : mg "str" = none
  bmax : mg "max" = none
  brng : mg "range" = none
  babs : mg "abs" = none
  ball : mg "all" = none
  bmin : mg "min" = none
  brep : mg "repr" = none
section
variable {P : Program} {w : World} {K : PySem.W.Frag} {mg : Str → Option Value} {base : Heap}
/-! ### _law_mixed -/
abbrev sMixed : Stmt := topS 35
theorem scMixed : FnScope ["_law_draw", "_law_turn", "_law_found", "_law_prime", "_law_blend", "_law_grain"] ["_law_draw"] (defScope sMixed) := ⟨rfl, rfl, rfl, by decide +kernel, rfl, by decide +kernel, by decide +kernel⟩
def spMixed : Sp := fun vs H Q _ => ∃ (D : DrA) (n : Nat), vs = [.ref D.d] ∧ DrawAt D n H ∧ n + 1 ≤ B ∧
  ∀ H' z, DrawAt D (n + 1) H' → Fr D H H' → Q (.int z) H'
theorem ok_mixed {f : Addr} {fd : FuncData} (F : Fun K "_law_mixed" "_law_mixed" sMixed f fd) (N : Bl mg) : FnOk P w K mg base CX0 1 f fd ["_law_draw"] spMixed := by
  refine F.ok scMixed (fun vs H Q E h => ?_) (fun cdv A outer s H vs Q E hr h => ?_)
  · obtain ⟨D, n, rfl, _⟩ := h
    rfl
  · obtain ⟨D, n, rfl, ⟨ws, cs, r, t, h1, h2, h3, h4, h5, h6⟩, hn, q⟩ := h
    have hu := hu_of hr
    have mi := N.bint
    refine ⟨_, pss_cons (ps_par (i := 1) (j := 2) rfl scMixed.nd rfl rfl (by decide) rfl rfl (pa_cons (pe_op op_add (pe_dget hu (pv 0) pe_str (fun _ _ => rfl)) pe_int) (pa_cons pe_int pa_nil)) rfl)
      (pss_cons (ps_dput hu (pv 0) pe_str (pv 1) rfl)
      (pss_cons (ps_for PassesOwn.never rfl (pi_list (pe_lst (pa_cons pe_int (pa_cons pe_int (pa_cons pe_int (pa_cons pe_int pa_nil)))))) (pg_name (i := 3) scMixed.nd rfl (.inl rfl))
        (pss_cons (ps_set (i := 4) scMixed.nd rfl (.inl rfl) (pe_op op_add (pe_op op_mul pe_int (pv 1)) (pe_op op_fdiv (pv 3) pe_int)))
        (pss_cons (ps_for PassesOwn.never rfl (pi_list (pe_dget hu (pv 0) pe_str (fun _ _ => rfl))) (pg_name (i := 5) scMixed.nd rfl (.inl rfl))
          (pss_one (ps_set (i := 4) scMixed.nd rfl (.inl rfl) (pe_op op_mod (pe_callTy call_int1 (by rfl) mi (by decide +kernel) (pa_cons (pe_op op_add (pe_op op_add (pe_op op_mul (pv 4) pe_int) (pv 5)) (pv 1)) pa_nil)) (pv 3)))))
        (pss_one (ps_set (i := 2) scMixed.nd rfl (.inl rfl) (pe_op op_add (pe_op op_mul (pv 2) pe_int) (pe_op op_mod (pe_callTy call_int1 (by rfl) mi (by decide +kernel) (pa_cons (pe_op op_pow (pv 4) pe_int) pa_nil)) (pv 3))))))))
      (pss_one (ps_ret (pv 2))))), ?_⟩
    refine ⟨_, rfl, D.d, _, rfl, DGet.k (k := .inr "turn") h1, _, _, rfl, rfl, _, _, rfl, ?_⟩
    refine ⟨_, rfl, _, rfl, D.d, _, rfl, DPut.k (k := .inr "turn") h1 (by show 4 < sizeLine; decide), ?_⟩
    rw [drF_putT]
    have h1' : (upd H D.d (.dK (drF D r (t + 1)))) D.d = some (.dK (drF D r (t + 1))) := upd_same
    have ewd : D.w ≠ D.d := ne_of h2 h1 (fun z => by cases z)
    have ecd : D.c ≠ D.d := ne_of h3 h1 (fun z => by cases z)
    have h2' : (upd H D.d (.dK (drF D r (t + 1)))) D.w = some (.lst (ws.map V.int)) := by rw [upd_ne ewd]; exact h2
    have h3' : (upd H D.d (.dK (drF D r (t + 1)))) D.c = some (.lst (cs.map V.int)) := by rw [upd_ne ecd]; exact h3
    have fr1 : Fr D H (upd H D.d (.dK (drF D r (t + 1)))) := fun b o e n1 n2 => by rw [upd_ne n1]; exact e
    generalize upd H D.d (.dK (drF D r (t + 1))) = H1 at *
    refine ⟨by show 4 ≤ sizeLine; decide, fun p np => ?_⟩
    have s2 : Same H1 (upd H1 p (.lst [.int 2147483647, .int 2147483629, .int 2147483587, .int 2147483579])) := same_upd np
    have hp : (upd H1 p (.lst [.int 2147483647, .int 2147483629, .int 2147483587, .int 2147483579])) p = some _ := upd_same
    have k1 := s2 _ _ h1'
    have k2 := s2 _ _ h2'
    have k3 := s2 _ _ h3'
    generalize upd H1 p (.lst [.int 2147483647, .int 2147483629, .int 2147483587, .int 2147483579]) = H2 at *
    refine ⟨p, rfl, ⟨_, .inl (.inl hp)⟩, for_list (K := K) (a := p) (xs := [.int 2147483647, .int 2147483629, .int 2147483587, .int 2147483579])
      (fun i σ H' => H' = H2 ∧ ∃ fo x3 x4 x5, σ = [some (.ref D.d), some (.int (t + 1)), some (.int fo), x3, x4, x5]) ⟨rfl, _, _, _, _, rfl⟩ (fun i σ H' _ h => by rw [h.1]; exact .inl (.inl hp)) ?_ ?_⟩
    · rintro i x σ H' hx ⟨rfl, fo, x3, x4, x5, rfl⟩
      obtain ⟨pr, rfl, p0, p1⟩ : ∃ pr : Int, x = .int pr ∧ 0 < pr ∧ pr < 2 ^ 40 := by
        match i, hx with
        | 0, hx => cases hx; exact ⟨_, rfl, by decide, by decide⟩
        | 1, hx => cases hx; exact ⟨_, rfl, by decide, by decide⟩
        | 2, hx => cases hx; exact ⟨_, rfl, by decide, by decide⟩
        | 3, hx => cases hx; exact ⟨_, rfl, by decide, by decide⟩
        | i + 4, hx => simp at hx
      refine ⟨_, rfl, _, _, rfl, rfl, .inl (by constructor <;> decide), _, rfl, _, _, rfl, rfl, (by constructor <;> decide), _, _, rfl, rfl, ?_⟩
      refine ⟨_, rfl, D.d, _, rfl, DGet.k (k := .inr "cells") k1, ?_⟩
      refine ⟨D.c, rfl, ⟨_, .inl (.inl k3)⟩, for_list (K := K) (a := D.c) (xs := cs.map V.int)
        (fun i σ H'' => H'' = H' ∧ ∃ bl x5, σ = [some (.ref D.d), some (.int (t + 1)), some (.int fo), some (.int pr), some (.int bl), x5] ∧ 0 ≤ bl ∧ bl < 2 ^ 63) ⟨rfl, _, _, rfl, ?_, ?_⟩ (fun i σ H' _ h => by rw [h.1]; exact .inl (.inl k3)) ?_ ?_⟩
      · omega
      · unfold B at hn; omega
      · rintro j y σ H'' hy ⟨rfl, bl, x5, rfl, b0, b1⟩
        obtain ⟨g, _, rfl⟩ : ∃ g, cs[j]? = some g ∧ y = .int g := by
          rw [List.getElem?_map] at hy
          cases e : cs[j]? with
          | none => rw [e] at hy; cases hy
          | some z => rw [e] at hy; exact ⟨z, rfl, (Option.some.inj hy).symm⟩
        refine ⟨_, rfl, _, _, rfl, rfl, .inr (by constructor <;> decide), _, rfl, _, _, rfl, rfl, _, rfl, _, _, rfl, rfl, .inl ⟨_, rfl, _, rfl, _, _, rfl, rfl, p0, rfl, _, _, rfl, ?_, ?_⟩⟩
        · exact Int.emod_nonneg _ (by omega)
        · have := Int.emod_lt_of_pos (bl * 69621 + g + (t + 1)) p0
          omega
      · rintro σ H'' ⟨rfl, bl, x5, rfl, b0, b1⟩
        refine ⟨_, rfl, _, _, rfl, rfl, .inr (by constructor <;> decide), _, rfl, _, _, rfl, rfl, ⟨by decide, by decide, by omega⟩, .inl ⟨_, rfl, _, rfl, _, _, rfl, rfl, p0, _, _, rfl, rfl, rfl, _, _, _, _, rfl⟩⟩
    · rintro σ H' ⟨rfl, fo, x3, x4, x5, rfl⟩
      refine ⟨_, rfl, q _ _ ⟨ws, cs, r, t + 1, k1, k2, k3, h4, by omega, by omega⟩ (fr1.trans (.of s2))⟩
theorem dp_ints {K : PySem.W.Frag} {H : Hp} : ∀ ns : List Int, DpAll K H (ns.map V.int) (ns.map PyData.int)
  | [] => .nil
  | n :: r => .cons (.int n) (dp_ints r)
theorem shaped_ints (ns : List Int) : SeqAt.shaped (.list (ns.map .int)) = true := by
  have h1 : PyData.canLayAll0 (ns.map .int) = true := by
    induction ns with
    | nil => simp [PyData.canLayAll0]
    | cons n r ih => simp [PyData.canLayAll0, PyData.canLay0, ih]
  have h2 : PyData.depthAll (ns.map .int) ≤ 1 := by
    induction ns with
    | nil => simp [PyData.depthAll]
    | cons n r ih =>
      have ih' := ih (by simpa [PyData.canLayAll0, PyData.canLay0] using h1)
      simp [PyData.depthAll, PyData.depth]
      omega
  unfold SeqAt.shaped
  simp [PyData.canLay0, PyData.depth, h1]
  omega
/-! ### _law_take -/
abbrev sTake : Stmt := topS 34
theorem scTake : FnScope ["_law_draw", "_law_size", "_law_found"] ["_law_draw", "_law_size"] (defScope sTake) := ⟨rfl, rfl, rfl, by decide +kernel, rfl, by decide +kernel, by decide +kernel⟩
def spTake : Sp := fun vs H Q _ => ∃ (D : DrA) (n : Nat) (z : Int), vs = [.ref D.d, .int z] ∧ DrawAt D n H ∧ n + 1 ≤ B ∧ 0 < z ∧ z < 1073741824 ∧
  ∀ H' v, DrawAt D (n + 1) H' → Fr D H H' → 0 ≤ v → v < z → Q (.int v) H'
theorem ok_take {f : Addr} {fd : FuncData} (F : Fun K "_law_take" "_law_take" sTake f fd) (N : Bl mg) (GM : Has P w K mg base CX0 1 "_law_mixed" ["_law_draw"] spMixed) : FnOk P w K mg base CX0 2 f fd ["_law_draw", "_law_size"] spTake := by
  refine F.ok scTake (fun vs H Q E h => ?_) (fun cdv A outer s H vs Q E hr h => ?_)
  · obtain ⟨D, n, z, rfl, _⟩ := h
    rfl
  · obtain ⟨D, n, z, rfl, h, hn, z0, z1, q⟩ := h
    have hu := hu_of hr
    have hu64 : (A.deeper (envOfC "_law_take" (defScope sTake) s.heap.objs.size f cdv)).units + 64 < cLine := by
      have := hr.un
      omega
    refine ⟨_, C8.pss_cut (ps_if (pt_cmpR op_eq (pe_dget hu (pv 0) pe_str (fun _ _ => rfl)) pe_int (nomark _))
        (pss_one (ps_dput hu (pv 0) pe_str (pe_ifExp (pt_cmpR (op_neD hu64) (pe_dget hu (pv 0) pe_str (fun _ _ => rfl)) (pe_lst pa_nil) (nomark _))
          (pe_bm PySem.F.plainAttrs_list PySem.F.slot_list_pop PySem.F.type_list_pop mt_popAt (pe_dget hu (pv 0) pe_str (fun _ _ => rfl)) (pa_cons pe_int pa_nil))
          (pe_h GM hr (by decide) (by rfl) pass0 (pa_cons (pv 0) pa_nil))) rfl)) pss_nil)
      (pss_cons (ps_set (i := 2) scTake.nd rfl (.inl rfl) (pe_op op_mod (pe_callTy call_int1 (by rfl) N.bint (by decide +kernel) (pa_cons (pe_dget hu (pv 0) pe_str (fun _ _ => rfl)) pa_nil)) (pv 1)))
      (pss_cons (ps_dput hu (pv 0) pe_str (pe_op op_fdiv (pe_dget hu (pv 0) pe_str (fun _ _ => rfl)) (pv 1)) rfl)
      (pss_one (ps_ret (pv 2))))), ?_⟩
    refine ⟨fun σ H1 => σ = [some (.ref D.d), some (.int z), none] ∧ DrawAt D (n + 1) H1 ∧ Fr D H H1, ?_, ?_⟩
    · obtain ⟨ws, cs, r, t, h1, h2, h3, h4, h5, h6⟩ := id h
      refine ⟨_, rfl, D.d, _, rfl, DGet.k (k := .inr "rest") h1, rfl, _, rfl, ite2 (fun e => ?_) (fun e => ?_)⟩
      · -- draw['wide'] != []
        refine ⟨_, rfl, D.d, _, rfl, DGet.k (k := .inr "wide") h1, Nat.zero_le _, fun p np => ?_⟩
        have s1 : Same H (upd H p (.lst [])) := same_upd np
        have d1 : DrawAt D n (upd H p (.lst [])) := h.new np
        have hp : (upd H p (.lst [])) p = some (.lst []) := upd_same
        have k1 := s1 _ _ h1
        have k2 := s1 _ _ h2
        have k3 := s1 _ _ h3
        generalize upd H p (.lst []) = H1 at *
        refine ⟨.list (ws.map .int), .list [], .lst (SqL.of k2) (dp_ints ws), .lst (SqL.of hp) .nil, shaped_ints ws, by decide +kernel, _, rfl, ?_⟩
        cases ws with
        | nil =>
          refine iteF ?_
          refine ⟨_, rfl, D, n, rfl, d1, hn, fun H2 v d2 f2 => ?_⟩
          obtain ⟨ws', cs', r', t', g1, g2, g3, g4, g5, g6⟩ := d2
          refine ⟨_, rfl, D.d, _, rfl, DPut.k (k := .inr "rest") g1 (by show 4 < sizeLine; decide), rfl, ?_, ?_⟩
          · rw [drF_putR]
            exact ⟨ws', cs', v, t', upd_same, by rw [upd_ne (ne_of g2 g1 (fun z => by cases z))]; exact g2, by rw [upd_ne (ne_of g3 g1 (fun z => by cases z))]; exact g3, g4, g5, g6⟩
          · intro b o eb n1 n2
            rw [upd_ne n1]
            exact f2 b o (s1 b o eb) n1 n2
        | cons y ys =>
          refine iteT ?_
          refine ⟨_, rfl, D.d, _, rfl, DGet.k (k := .inr "wide") k1, .inl ⟨rfl, _, .inl (.inl k2)⟩, D.w, _, 0, 0, .int y, rfl, rfl, k2, by decide, by decide, by simp [seqIndex?], rfl, ?_⟩
          have ewd : D.w ≠ D.d := ne_of k2 k1 (fun z => by cases z)
          have k1' : (upd H1 D.w (.lst (ys.map V.int))) D.d = some (.dK (drF D r t)) := by rw [upd_ne ewd.symm]; exact k1
          refine ⟨_, rfl, D.d, _, rfl, DPut.k (k := .inr "rest") k1' (by show 4 < sizeLine; decide), rfl, ?_, ?_⟩
          · rw [drF_putR]
            refine ⟨ys, cs, y, t, upd_same, ?_, ?_, h4, h5, by omega⟩
            · rw [upd_ne ewd]
              exact upd_same
            · rw [upd_ne (ne_of k3 k1 (fun z => by cases z)), upd_ne h4.2]
              exact k3
          · intro b o eb n1 n2
            rw [upd_ne n1, upd_ne n2]
            exact s1 b o eb
      · exact ⟨rfl, h.mono (by omega), Fr.refl D H⟩
    · rintro σ H1 ⟨rfl, ⟨ws, cs, r, t, h1, h2, h3, h4, h5, h6⟩, f1⟩
      refine ⟨_, rfl, D.d, _, rfl, DGet.k (k := .inr "rest") h1, .inl ⟨_, rfl, _, rfl, _, _, rfl, rfl, z0, ?_⟩⟩
      refine ⟨_, rfl, D.d, _, rfl, DGet.k (k := .inr "rest") h1, _, rfl, _, _, rfl, rfl, ⟨z0, z1⟩, _, rfl, D.d, _, rfl, DPut.k (k := .inr "rest") h1 (by show 4 < sizeLine; decide), ?_⟩
      rw [drF_putR]
      refine ⟨_, rfl, q _ _ ⟨ws, cs, _, t, upd_same, by rw [upd_ne (ne_of h2 h1 (fun z => by cases z))]; exact h2, by rw [upd_ne (ne_of h3 h1 (fun z => by cases z))]; exact h3, h4, h5, h6⟩ ?_ ?_ ?_⟩
      · intro b o eb n1 n2
        rw [upd_ne n1]
        exact f1 b o eb n1 n2
      · exact Int.emod_nonneg _ (by omega)
      · exact Int.emod_lt_of_pos _ z0
end
end Lm
namespace Lm
open PySem PySem.Spec PyProof.Rows L2
section
variable {P : Program} {w : World} {K : PySem.W.Frag} {mg : Str → Option Value} {base : Heap}
/-! ### _law_pick -/
abbrev sPick : Stmt := topS 30
theorem scPick : FnScope ["_law_draw", "_law_some"] ["_law_draw", "_law_some"] (defScope sPick) := ⟨rfl, rfl, rfl, by decide +kernel, rfl, by decide +kernel, by decide +kernel⟩
def spPick : Sp := fun vs H Q _ => ∃ (D : DrA) (n : Nat) (l : Addr) (xs : List V), vs = [.ref D.d, .ref l] ∧ DrawAt D n H ∧ n + 1 ≤ B ∧ H l = some (.lst xs) ∧ l ≠ D.w ∧ xs ≠ [] ∧ xs.length < 1073741824 ∧
  ∀ (H' : Hp) (i : Nat) (v : V), xs[i]? = some v → DrawAt D (n + 1) H' → Fr D H H' → Q v H'
theorem ok_pick {f : Addr} {fd : FuncData} (F : Fun K "_law_pick" "_law_pick" sPick f fd) (N : Bl mg) (GT : Has P w K mg base CX0 2 "_law_take" ["_law_draw", "_law_size"] spTake) : FnOk P w K mg base CX0 3 f fd ["_law_draw", "_law_some"] spPick := by
  refine F.ok scPick (fun vs H Q E h => ?_) (fun cdv A outer s H vs Q E hr h => ?_)
  · obtain ⟨D, n, l, xs, rfl, _⟩ := h
    rfl
  · obtain ⟨D, n, l, xs, rfl, h, hn, hl, lw, x0, x1, q⟩ := h
    refine ⟨_, pss_one (ps_ret (pe_ix ix_list (pv 1) (pe_h GT hr (by decide) (by rfl) pass0 (pa_cons (pv 0) (pa_cons (pe_callB call_len_seq (by rfl) N.blen PySem.boot_len (pa_cons (pv 1) pa_nil)) pa_nil))) (fun _ _ => rfl))), ?_⟩
    have ld : l ≠ D.d := by
      obtain ⟨ws, cs, r, t, h1, _⟩ := h
      exact ne_of hl h1 (fun z => by cases z)
    refine ⟨_, rfl, _, rfl, .ref l, rfl, l, xs, rfl, .inl (SqL.of hl), D, n, _, rfl, h, hn, ?_, ?_, ?_⟩
    · cases xs with
      | nil => exact absurd rfl x0
      | cons a r => rw [List.length_cons]; omega
    · omega
    · intro H' v d' f' v0 v1
      have hl' := f' _ _ hl ld lw
      obtain ⟨j, rfl⟩ : ∃ j : Nat, v = (j : Int) := ⟨v.toNat, by omega⟩
      have hj : j < xs.length := by omega
      refine ⟨l, xs, _, xs[j], rfl, rfl, SqL.of hl', atI_nat (List.getElem?_eq_getElem hj), q H' j _ (List.getElem?_eq_getElem hj) d' f'⟩
/-! ### _law_box -/
abbrev sBox : Stmt := topS 33
theorem scBox : FnScope ["_law_counts_here"] ["_law_counts_here"] (defScope sBox) := ⟨rfl, rfl, rfl, by decide +kernel, rfl, by decide +kernel, by decide +kernel⟩
/-- counts as a shared array has them -/
def Cnt (cs : List Int) : Prop := (∃ c, cs = [c] ∧ 1 ≤ c ∧ c ≤ 16) ∨ ∃ a b, cs = [a, b] ∧ 1 ≤ a ∧ a ≤ 16 ∧ 1 ≤ b ∧ b ≤ 16
def boxL : List Int → Int × Int
  | [c] => (1, c)
  | a :: b :: _ => (a, b)
  | [] => (1, 1)
theorem Cnt.box {cs : List Int} (h : Cnt cs) : 1 ≤ (boxL cs).1 ∧ (boxL cs).1 ≤ 16 ∧ 1 ≤ (boxL cs).2 ∧ (boxL cs).2 ≤ 16 := by
  rcases h with ⟨c, rfl, h⟩ | ⟨a, b, rfl, h⟩
  · show 1 ≤ (1 : Int) ∧ (1 : Int) ≤ 16 ∧ 1 ≤ c ∧ c ≤ 16
    omega
  · show 1 ≤ a ∧ a ≤ 16 ∧ 1 ≤ b ∧ b ≤ 16
    omega
def spBox : Sp := fun vs H Q _ => ∃ (a : Addr) (cs : List Int), vs = [.ref a] ∧ H a = some (.tup (cs.map V.int)) ∧ Cnt cs ∧
  ∀ H' p, Same H H' → H' p = some (.tup [.int (boxL cs).1, .int (boxL cs).2]) → Q (.ref p) H'
theorem ok_box {f : Addr} {fd : FuncData} (F : Fun K "_law_box" "_law_box" sBox f fd) (N : Bl mg) : FnOk P w K mg base CX0 1 f fd ["_law_counts_here"] spBox := by
  refine F.ok scBox (fun vs H Q E h => ?_) (fun cdv A outer s H vs Q E hr h => ?_)
  · obtain ⟨a, cs, rfl, _⟩ := h
    rfl
  · obtain ⟨a, cs, rfl, ha, hc, q⟩ := h
    refine ⟨_, pss_one (ps_ret (pe_ifExp (pt_cmpR op_eq (pe_callB call_len_seq (by rfl) N.blen PySem.boot_len (pa_cons (pv 0) pa_nil)) pe_int (nomark _))
      (pe_tup (pa_cons pe_int (pa_cons (pe_ix ix_tup (pv 0) pe_int (fun _ _ => rfl)) pa_nil))) (pv 0))), ?_⟩
    refine ⟨.ref a, rfl, a, _, rfl, .inr (SqT.of ha), rfl, _, rfl, ?_⟩
    rcases hc with ⟨c, rfl, _⟩ | ⟨x, y, rfl, _⟩
    · refine iteT ⟨.ref a, rfl, a, _, 0, .int c, rfl, rfl, SqT.of ha, rfl, (by show 2 ≤ sizeLine; decide), fun p np => ?_⟩
      exact q _ p (same_upd np) upd_same
    · refine iteF ⟨.ref a, rfl, ?_⟩
      exact q _ a (fun _ _ z => z) ha
/-! ### _law_says -/
abbrev sSays : Stmt := topS 37
theorem scSays : FnScope ["_law_found", "_law_due"] ["_law_found", "_law_due"] (defScope sSays) := ⟨rfl, rfl, rfl, by decide +kernel, rfl, by decide +kernel, by decide +kernel⟩
def spSays : Sp := fun vs H Q _ => ∃ a b : Bool, vs = [.bl a, .bl b] ∧ (Q (.bl (decide (a = b))) H)
theorem ok_says {f : Addr} {fd : FuncData} (F : Fun K "_law_says" "_law_says" sSays f fd) : FnOk P w K mg base CX0 1 f fd ["_law_found", "_law_due"] spSays := by
  refine F.ok scSays (fun vs H Q E h => ?_) (fun cdv A outer s H vs Q E hr h => ?_)
  · obtain ⟨a, b, rfl, _⟩ := h
    rfl
  · obtain ⟨a, b, rfl, q⟩ := h
    refine ⟨_, pss_one (ps_ret (pe_ifExp (pt_val (pv 1)) (pe_cmpR op_isBl (pv 0) pe_bl (nomark _)) (pe_cmpR op_isBl (pv 0) pe_bl (nomark _)))), ?_⟩
    refine ⟨.bl b, rfl, b, rfl, ?_⟩
    cases b with
    | true => exact iteT ⟨_, rfl, a, true, rfl, rfl, q⟩
    | false => exact iteF ⟨_, rfl, a, false, rfl, rfl, q⟩
/-! ### _law_shared_part_of -/
abbrev sGcd : Stmt := topS 44
theorem scGcd : FnScope ["_law_one", "_law_two"] ["_law_one", "_law_two"] (defScope sGcd) := ⟨rfl, rfl, rfl, by decide +kernel, rfl, by decide +kernel, by decide +kernel⟩
def spGcd : Sp := fun vs H Q _ => ∃ (a b : Nat), vs = [.int a, .int b] ∧ Q (.int (Nat.gcd a b)) H
theorem ok_gcd {f : Addr} {fd : FuncData} (F : Fun K "_law_shared_part_of" "_law_shared_part_of" sGcd f fd) (N : Bl mg) : FnOk P w K mg base CX0 1 f fd ["_law_one", "_law_two"] spGcd := by
  refine F.ok scGcd (fun vs H Q E h => ?_) (fun cdv A outer s H vs Q E hr h => ?_)
  · obtain ⟨a, b, rfl, _⟩ := h
    rfl
  · obtain ⟨a, b, rfl, q⟩ := h
    refine ⟨_, pss_cons (ps_while PassesOwn.never (pt_cmpR op_ne (pv 1) pe_int (nomark _))
        (pss_one (ps_par (i := 0) (j := 1) rfl scGcd.nd rfl rfl (by decide) rfl rfl (pa_cons (pv 1) (pa_cons (pe_op op_mod (pe_callTy call_int1 (by rfl) N.bint (by decide +kernel) (pa_cons (pv 0) pa_nil)) (pv 1)) pa_nil)) rfl)))
      (pss_one (ps_ret (pv 0))), ?_⟩
    refine while_by (fun σ H' => H' = H ∧ ∃ x y : Nat, σ = [some (.int x), some (.int y)] ∧ Nat.gcd x y = Nat.gcd a b) (fun σ _ => match σ with | [_, some (.int y)] => y.toNat | _ => 0) ⟨rfl, a, b, rfl, rfl⟩ ?_ ?_
    · rintro σ H' ⟨rfl, x, y, rfl, e⟩
      refine ⟨_, rfl, rfl, _, rfl, ?_⟩
      cases y with
      | zero =>
        refine iteF ⟨_, rfl, ?_⟩
        rw [Nat.gcd_zero_right] at e
        rw [e]
        exact q
      | succ y =>
        rw [if_pos (show (!decide (V.int ((y + 1 : Nat) : Int) = V.int 0)) = true by
          simp
          omega)]
        refine ⟨_, rfl, _, rfl, .inl ⟨_, rfl, _, rfl, _, _, rfl, rfl, by omega, _, _, rfl, ⟨rfl, y + 1, x % (y + 1), ?_, ?_⟩, ?_⟩⟩
        · show [some (V.int ((y + 1 : Nat) : Int)), some (V.int ((x : Int) % ((y + 1 : Nat) : Int)))] = _
          rw [← Int.natCast_emod]
        · rw [← e, Nat.gcd_comm x (y + 1), Nat.gcd_rec (y + 1) x, Nat.gcd_comm]
        · show ((x : Int) % ((y + 1 : Nat) : Int)).toNat < ((y + 1 : Nat) : Int).toNat
          have h1 := Int.emod_lt_of_pos (x : Int) (show (0 : Int) < ((y + 1 : Nat) : Int) by omega)
          have h2 := Int.emod_nonneg (x : Int) (show ((y + 1 : Nat) : Int) ≠ 0 by omega)
          omega
    · intro σ H' Q1 Q2 hm hc
      obtain ⟨v, e1, e2, k, e3, e4⟩ := hc
      exact ⟨v, e1, e2, k, e3, hm _ _ e4⟩
end
end Lm
namespace Lm
open PySem PySem.Spec PyProof.Rows L2
theorem same_put {H H' : Hp} {p : Addr} {o : HO} (s : Same H H') (n : H p = none) : Same H (upd H' p o) := by
  intro b x e
  rw [upd_ne (ne_of_none e n)]
  exact s b x e
theorem int_at {ns : List Int} {i : Nat} {x : V} (h : (ns.map V.int)[i]? = some x) : ∃ z, ns[i]? = some z ∧ x = .int z := by
  rw [List.getElem?_map] at h
  cases e : ns[i]? with
  | none => rw [e] at h; cases h
  | some z => rw [e] at h; exact ⟨z, rfl, (Option.some.inj h).symm⟩
section
variable {P : Program} {w : World} {K : PySem.W.Frag} {mg : Str → Option Value} {base : Heap}
/-! ### _law_begun -/
abbrev sBegun : Stmt := topS 29
theorem scBegun : FnScope ["_law_script", "_law_wide", "_law_grain"] ["_law_script"] (defScope sBegun) := ⟨rfl, rfl, rfl, by decide +kernel, rfl, by decide +kernel, by decide +kernel⟩
def spBegun (K : PySem.W.Frag) : Sp := fun vs H Q _ => ∃ (a : Addr) (ns : List Int), vs = [.ref a] ∧ SqL K H a (ns.map V.int) ∧ ns.length ≤ 63 ∧
  ∀ (H' : Hp) (D : DrA), Same H H' → DrawAt D 0 H' → H D.d = none → H D.w = none → Q (.ref D.d) H'
theorem ok_begun {f : Addr} {fd : FuncData} (F : Fun K "_law_begun" "_law_begun" sBegun f fd) (N : Bl mg) : FnOk P w K mg base CX0 1 f fd ["_law_script"] (spBegun K) := by
  refine F.ok scBegun (fun vs H Q E h => ?_) (fun cdv A outer s H vs Q E hr h => ?_)
  · obtain ⟨a, ns, rfl, _⟩ := h
    rfl
  · obtain ⟨a, ns, rfl, hS, hl, q⟩ := h
    refine ⟨_, pss_cons (ps_setLc (i := 1) (own := [("_law_grain", 2)]) (g := gName 2) (by rfl) scBegun.nd rfl rfl (sw_true rfl rfl rfl (by decide +kernel)) (pi_list (pv 0))
        (blkOk_by (own := [("_law_grain", 2)]) (N := ["_law_script", "_law_wide", "_law_grain"]) (sc := defScope sBegun) (by decide +kernel)) (fun _ _ _ _ _ => pg_name (i := 2) scBegun.nd rfl (Or.inl rfl))
        (fun _ _ _ _ _ => pts_one (pt_cmpR op_ge (pe_callB call_abs (by rfl) N.babs (by decide +kernel) (pa_cons (pv 2) pa_nil)) (pe_op op_pow pe_int pe_int) (nomark _)))
        (fun _ _ _ _ _ => pe_op op_sub (pe_callB call_abs (by rfl) N.babs (by decide +kernel) (pa_cons (pv 2) pa_nil)) (pe_op op_pow pe_int pe_int)))
      (pss_one (ps_ret (pe_disp (pps_cons pe_str (pv 1) (pps_cons pe_str (pe_lc (own := [("_law_grain", 2)]) (g := gName 2) (tt := tYes) rfl scBegun.nd (pi_list (pv 0))
          (blkOk_by (own := [("_law_grain", 2)]) (N := ["_law_script", "_law_wide", "_law_grain"]) (sc := defScope sBegun) (by decide +kernel)) (fun _ _ _ _ _ => pg_name (i := 2) scBegun.nd rfl (Or.inl rfl)) (fun _ _ _ _ _ => pts_nil)
          (fun _ _ _ _ _ => pe_op op_mod (pe_callTy call_int1 (by rfl) N.bint (by decide +kernel) (pa_cons (pe_callB call_abs (by rfl) N.babs (by decide +kernel) (pa_cons (pv 2) pa_nil)) pa_nil)) pe_int))
        (pps_cons pe_str pe_int (pps_cons pe_str pe_int pps_nil)))) (by rfl) (by rfl) (fun z => by cases z) (by decide)))), ?_⟩
    refine ⟨.ref a, rfl, a, rfl, ⟨_, hS⟩, fun W nW => lc_list (K := K) (a := a) (xs := ns.map V.int)
      (fun i H' => Same H H' ∧ ∃ acc : List Int, H' W = some (.lst (acc.map V.int)) ∧ acc.length ≤ i) ⟨same_upd nW, [], upd_same, Nat.zero_le _⟩ (fun i H' _ h => h.1.seq hS) ?_ ?_⟩
    · rintro i x H' hx ⟨sm, acc, hW, hi⟩
      obtain ⟨z, _, rfl⟩ := int_at hx
      refine ⟨rfl, _, rfl, z, rfl, _, _, rfl, rfl, ⟨by decide, by decide, by decide⟩, _, _, rfl, rfl, _, rfl, ite2 (fun c => ?_) (fun c => ?_)⟩
      · refine ⟨_, rfl, z, rfl, _, _, rfl, rfl, ⟨by decide, by decide, by decide⟩, _, _, rfl, rfl, acc.map V.int, hW, ?_, same_put sm nW, acc ++ [(if z < 0 then -z else z) - 10 ^ Int.toNat 18], ?_, ?_⟩
        · rw [List.length_map]
          have hi' : i < (ns.map V.int).length := (List.getElem?_eq_some_iff.mp hx).1
          rw [List.length_map] at hi'
          exact small1000 (by omega)
        · rw [List.map_append]
          exact upd_same
        · rw [List.length_append]
          exact Nat.add_le_add_right hi 1
      · exact ⟨sm, acc, hW, by omega⟩
    · rintro H1 ⟨sm, acc, hW, hi⟩
      intro p np
      have hpW : p ≠ W := fun z => by rw [z, hW] at np; cases np
      refine ⟨.ref W, rfl, .ref a, rfl, a, rfl, ⟨_, (sm.trans (same_upd np)).seq hS⟩, fun C nC => lc_list (K := K) (a := a) (xs := ns.map V.int)
        (fun i H' => Same (upd H1 p (.dK [])) H' ∧ ∃ acc : List Int, H' C = some (.lst (acc.map V.int)) ∧ acc.length ≤ i ∧ ∀ x ∈ acc, 0 ≤ x ∧ x < 2147483629) ⟨same_upd nC, [], upd_same, Nat.zero_le _, (fun x hx => by cases hx)⟩ (fun i H' _ h => (sm.trans ((same_upd np).trans h.1)).seq hS) ?_ ?_⟩
      · rintro i x H' hx ⟨sm2, acc2, hC, hi2, hb⟩
        obtain ⟨z, _, rfl⟩ := int_at hx
        refine ⟨rfl, _, rfl, z, rfl, .inl ⟨_, rfl, _, _, rfl, rfl, (by show (0 : Int) < 2147483629; decide), acc2.map V.int, hC, ?_, same_put sm2 nC, acc2 ++ [(if z < 0 then -z else z) % 2147483629], ?_, ?_, ?_⟩⟩
        · rw [List.length_map]
          have hi' : i < (ns.map V.int).length := (List.getElem?_eq_some_iff.mp hx).1
          rw [List.length_map] at hi'
          exact small1000 (by omega)
        · rw [List.map_append]
          exact upd_same
        · rw [List.length_append]
          exact Nat.add_le_add_right hi2 1
        · intro x hx
          rcases List.mem_append.mp hx with hx | hx
          · exact hb x hx
          · rw [List.mem_singleton.mp hx]
            exact ⟨Int.emod_nonneg _ (by decide), Int.emod_lt_of_pos _ (by decide)⟩
      · rintro H2 ⟨sm2, acc2, hC, hi2, hb⟩
        have hp : H2 p = some (.dK []) := sm2 _ _ upd_same
        have hW2 : H2 W = some (.lst (acc.map V.int)) := sm2 _ _ (by rw [upd_ne hpW.symm]; exact hW)
        refine ⟨hp, drF ⟨p, W, C⟩ 0 0, rfl, (by show 4 ≤ 15; decide), ?_⟩
        have e : mergeK [] (drF ⟨p, W, C⟩ 0 0) = drF ⟨p, W, C⟩ 0 0 := rfl
        rw [e]
        have nCW : C ≠ W := by
          intro z
          rw [z, upd_ne hpW.symm, hW] at nC
          cases nC
        have nCp : C ≠ p := by
          intro z
          rw [z, upd_same] at nC
          cases nC
        have np0 : H p = none := by
          cases e : H p with
          | none => rfl
          | some o => rw [sm _ _ e] at np; cases np
        refine q _ ⟨p, W, C⟩ ?_ ⟨acc, acc2, 0, 0, upd_same, ?_, ?_, ⟨hb, nCW⟩, by decide, by decide⟩ np0 nW
        · exact same_put (sm.trans ((same_upd np).trans sm2)) np0
        · rw [upd_ne hpW.symm]
          exact hW2
        · rw [upd_ne nCp]
          exact hC
/-! ### _law_few_of -/
abbrev sFew : Stmt := topS 36
theorem scFew : FnScope ["_law_draw", "_law_some", "_law_size", "_law_item"] ["_law_draw", "_law_some", "_law_size"] (defScope sFew) := ⟨rfl, rfl, rfl, by decide +kernel, rfl, by decide +kernel, by decide +kernel⟩
def spFew : Sp := fun vs H Q _ => ∃ (D : DrA) (n : Nat) (l : Addr) (xs : List V) (z : Int), vs = [.ref D.d, .ref l, .int z] ∧ DrawAt D n H ∧ n + xs.length ≤ B ∧ H l = some (.lst xs) ∧ l ≠ D.w ∧ xs.length ≤ 1000 ∧ 0 < z ∧ z < 1073741824 ∧
  ∀ (H' : Hp) (p : Addr) (ys : List V), ys.Sublist xs → H' p = some (.lst ys) → DrawAt D (n + xs.length) H' → Fr D H H' → Q (.ref p) H'
theorem ok_few {f : Addr} {fd : FuncData} (F : Fun K "_law_few_of" "_law_few_of" sFew f fd) (GT : Has P w K mg base CX0 2 "_law_take" ["_law_draw", "_law_size"] spTake) : FnOk P w K mg base CX0 4 f fd ["_law_draw", "_law_some", "_law_size"] spFew := by
  refine F.ok scFew (fun vs H Q E h => ?_) (fun cdv A outer s H vs Q E hr h => ?_)
  · obtain ⟨D, n, l, xs, z, rfl, _⟩ := h
    rfl
  · obtain ⟨D, n, l, xs, z, rfl, h, hn, hl, lw, x1, z0, z1, q⟩ := h
    refine ⟨_, pss_one (ps_ret (pe_lc (own := [("_law_item", 3)]) (g := gName 3) rfl scFew.nd (pi_list (pv 1))
        (blkOk_by (own := [("_law_item", 3)]) (N := ["_law_draw", "_law_some", "_law_size", "_law_item"]) (sc := defScope sFew) (by decide +kernel)) (fun _ _ _ _ _ => pg_name (i := 3) scFew.nd rfl (Or.inl rfl))
        (fun _ _ _ _ _ => pts_one (pt_cmpR op_eq (pe_h GT (hr.mono (by decide : 2 ≤ 3)) (by decide) (by rfl) pass0 (pa_cons (pv 0) (pa_cons (pv 2) pa_nil))) pe_int (nomark _)))
        (fun _ _ _ _ _ => pv 3))), ?_⟩
    have ld : l ≠ D.d := by
      obtain ⟨ws, cs, r, t, h1, _⟩ := h
      exact ne_of hl h1 (fun z => by cases z)
    refine ⟨.ref l, rfl, l, rfl, ⟨_, SqL.of hl⟩, fun R nR => lc_list (K := K) (a := l) (xs := xs)
      (fun i H' => Fr D H H' ∧ DrawAt D (n + i) H' ∧ R ≠ D.d ∧ R ≠ D.w ∧ ∃ ys : List V, H' R = some (.lst ys) ∧ ys.Sublist (xs.take i)) ⟨.of (same_upd nR), h.new nR, (h.off nR).1, (h.off nR).2, [], upd_same, List.Sublist.refl _⟩
      (fun i H' _ h => SqL.of (h.1 _ _ hl ld lw)) ?_ ?_⟩
    · rintro i x H' hx ⟨f1, d1, nd, nw, ys, hR, hs⟩
      have hi : i < xs.length := (List.getElem?_eq_some_iff.mp hx).1
      have ht : xs.take (i + 1) = xs.take i ++ [x] := by rw [List.take_add_one, hx]; rfl
      refine ⟨rfl, _, rfl, _, rfl, D, n + i, z, rfl, d1, by omega, z0, z1, fun H2 v d2 f2 v0 v1 => ?_⟩
      have hR2 := f2 _ _ hR nd nw
      refine ⟨rfl, _, rfl, ite2 (fun c => ?_) (fun c => ?_)⟩
      · refine ⟨x, rfl, ys, hR2, ?_, ?_⟩
        · have := hs.length_le
          rw [List.length_take] at this
          exact small1000 (by omega)
        · refine ⟨?_, ?_, nd, nw, ys ++ [x], upd_same, ?_⟩
          · intro b o e n1 n2
            rw [upd_ne (ne_of_none e nR)]
            exact f2 _ _ (f1 _ _ e n1 n2) n1 n2
          · obtain ⟨ws, cs, r, t, g1, g2, g3, g4, g5, g6⟩ := d2
            refine ⟨ws, cs, r, t, by rw [upd_ne nd.symm]; exact g1, by rw [upd_ne nw.symm]; exact g2, ?_, g4, g5, by omega⟩
            by_cases e : D.c = R
            · exfalso
              obtain ⟨_, _, _, _, _, _, k3, _⟩ := h
              rw [e, nR] at k3
              cases k3
            · rw [upd_ne e]
              exact g3
          · rw [ht]
            exact hs.append (List.Sublist.refl _)
      · refine ⟨f1.trans f2, d2, nd, nw, ys, hR2, ?_⟩
        rw [ht]
        exact hs.trans (List.sublist_append_left _ _)
    · rintro H' ⟨f1, d1, nd, nw, ys, hR, hs⟩
      rw [List.take_length] at hs
      exact q _ R ys hs hR d1 f1
end
end Lm
namespace Lm
open PySem PySem.Spec PyProof.Rows L2
/-! ### kinds of data -/
def kindOf : PyData → String
  | .none => "NoneType" | .bool _ => "bool" | .int _ => "int" | .str _ => "str" | .list _ => "list" | .tuple _ => "tuple" | .dict _ => "dict"
theorem Da.ty {K : PySem.W.Frag} {D : DrA} {H : Hp} {v : V} {d : PyData} (h : Da D H v d) : TyX K H v (.type (kindOf d)) := by
  cases h with
  | non => exact .base .non
  | bl b => exact .base (.bl b)
  | int i => exact .base (.int i)
  | str x => exact .base (.str x)
  | lst h _ _ _ => exact .base (.lst h)
  | tup h _ _ _ => exact .base (.tup h)
def isTup : PyData → Bool
  | .tuple _ => true
  | _ => false
def isStr : PyData → Bool
  | .str _ => true
  | _ => false
def isIntB : PyData → Bool
  | .int _ => true
  | .bool _ => true
  | _ => false
def isBoolB : PyData → Bool
  | .bool _ => true
  | _ => false
def isNum : PyData → Bool
  | .int _ => true
  | _ => false
theorem kit_tup (K : PySem.W.Frag) : ∀ d : PyData, PySem.W.kitOne K (.type (kindOf d)) (.type "tuple") = some (isTup d)
  | .none => kit_ty (show kitB "NoneType" "tuple" = some false by decide +kernel)
  | .bool _ => kit_ty (show kitB "bool" "tuple" = some false by decide +kernel)
  | .int _ => kit_ty (show kitB "int" "tuple" = some false by decide +kernel)
  | .str _ => kit_ty (show kitB "str" "tuple" = some false by decide +kernel)
  | .list _ => kit_ty (show kitB "list" "tuple" = some false by decide +kernel)
  | .tuple _ => kit_ty (show kitB "tuple" "tuple" = some true by decide +kernel)
  | .dict _ => kit_ty (show kitB "dict" "tuple" = some false by decide +kernel)
theorem kit_str (K : PySem.W.Frag) : ∀ d : PyData, PySem.W.kitOne K (.type (kindOf d)) (.type "str") = some (isStr d)
  | .none => kit_ty (show kitB "NoneType" "str" = some false by decide +kernel)
  | .bool _ => kit_ty (show kitB "bool" "str" = some false by decide +kernel)
  | .int _ => kit_ty (show kitB "int" "str" = some false by decide +kernel)
  | .str _ => kit_ty (show kitB "str" "str" = some true by decide +kernel)
  | .list _ => kit_ty (show kitB "list" "str" = some false by decide +kernel)
  | .tuple _ => kit_ty (show kitB "tuple" "str" = some false by decide +kernel)
  | .dict _ => kit_ty (show kitB "dict" "str" = some false by decide +kernel)
theorem kit_int (K : PySem.W.Frag) : ∀ d : PyData, PySem.W.kitOne K (.type (kindOf d)) (.type "int") = some (isIntB d)
  | .none => kit_ty (show kitB "NoneType" "int" = some false by decide +kernel)
  | .bool _ => kit_ty (show kitB "bool" "int" = some true by decide +kernel)
  | .int _ => kit_ty (show kitB "int" "int" = some true by decide +kernel)
  | .str _ => kit_ty (show kitB "str" "int" = some false by decide +kernel)
  | .list _ => kit_ty (show kitB "list" "int" = some false by decide +kernel)
  | .tuple _ => kit_ty (show kitB "tuple" "int" = some false by decide +kernel)
  | .dict _ => kit_ty (show kitB "dict" "int" = some false by decide +kernel)
theorem kit_bool (K : PySem.W.Frag) : ∀ d : PyData, PySem.W.kitOne K (.type (kindOf d)) (.type "bool") = some (isBoolB d)
  | .none => kit_ty (show kitB "NoneType" "bool" = some false by decide +kernel)
  | .bool _ => kit_ty (show kitB "bool" "bool" = some true by decide +kernel)
  | .int _ => kit_ty (show kitB "int" "bool" = some false by decide +kernel)
  | .str _ => kit_ty (show kitB "str" "bool" = some false by decide +kernel)
  | .list _ => kit_ty (show kitB "list" "bool" = some false by decide +kernel)
  | .tuple _ => kit_ty (show kitB "tuple" "bool" = some false by decide +kernel)
  | .dict _ => kit_ty (show kitB "dict" "bool" = some false by decide +kernel)
section
variable {P : Program} {w : World} {K : PySem.W.Frag} {mg : Str → Option Value} {base : Heap}
/-! ### _law_is_whole -/
abbrev sWhole : Stmt := topS 32
theorem scWhole : FnScope ["_law_item"] ["_law_item"] (defScope sWhole) := ⟨rfl, rfl, rfl, by decide +kernel, rfl, by decide +kernel, by decide +kernel⟩
def spNum : Sp := fun vs H Q _ => ∃ (D : DrA) (v : V) (d : PyData), vs = [v] ∧ Da D H v d ∧ Q (.bl (isNum d)) H
theorem ok_whole {f : Addr} {fd : FuncData} (F : Fun K "_law_is_whole" "_law_is_whole" sWhole f fd) (N : Bl mg) : FnOk P w K mg base CX0 1 f fd ["_law_item"] spNum := by
  refine F.ok scWhole (fun vs H Q E h => ?_) (fun cdv A outer s H vs Q E hr h => ?_)
  · obtain ⟨D, v, d, rfl, _⟩ := h
    rfl
  · obtain ⟨D, v, d, rfl, h, q⟩ := h
    refine ⟨_, pss_one (ps_ret (pe_and (pe_callB call_isi (by rfl) N.bisi (by decide +kernel) (pa_cons (pv 0) (pa_cons (pe_bltn (v := .ty "int") (by rfl) N.bint (by decide +kernel) rfl) pa_nil)))
      (pe_one (pe_not (pe_callB call_isi (by rfl) N.bisi (by decide +kernel) (pa_cons (pv 0) (pa_cons (pe_bltn (v := .ty "bool") (by rfl) N.bbool (by decide +kernel) rfl) pa_nil))))))), ?_⟩
    refine ⟨v, rfl, v, .ty "int", _, _, isIntB d, rfl, .ty "int", h.ty, kit_int K d, isIntB d, rfl, ?_⟩
    by_cases c : isIntB d = true
    · rw [if_pos c]
      refine ⟨v, rfl, v, .ty "bool", _, _, isBoolB d, rfl, .ty "bool", h.ty, kit_bool K d, isBoolB d, rfl, ?_⟩
      have e : isNum d = !isBoolB d := by cases d <;> first | rfl | exact absurd c Bool.false_ne_true
      rw [← e]
      exact q
    · rw [if_neg c]
      have e : isNum d = false := by cases d <;> first | rfl | (exact absurd rfl c)
      rw [← e]
      exact q
/-! ### _law_bank -/
/-- a laying -/
inductive Lay where
  | pad (n : Int)
  | trn (n : Int)
  | lst (bs : List Int)
def Lay.dat : Lay → PyData
  | .pad n => .tuple [.str "padded", .int n]
  | .trn n => .tuple [.str "turned", .int n]
  | .lst bs => .tuple [.str "listed", .tuple (bs.map .int)]
def Lay.Ok (cs : List Int) (m : Int) : Lay → Prop
  | .pad n => 0 ≤ n ∧ n ≤ 31
  | .trn n => 0 ≤ n ∧ n ≤ 31
  | .lst bs => (bs.length : Int) = (boxL cs).1 * (boxL cs).2 ∧ ∀ b ∈ bs, 0 ≤ b ∧ b < m
def bankL (cs : List Int) (m : Int) (l : Lay) (y x : Int) : Int := match l with
  | .pad n => (y * ((boxL cs).2 + n) + x) % m
  | .trn n => (y * (boxL cs).2 + (x + n * y) % (boxL cs).2) % m
  | .lst bs => bs.getD (y * (boxL cs).2 + x).toNat 0
theorem daAll_ints {D : DrA} {H : Hp} : ∀ {bs : List Int} {vs : List V}, DaAll D H vs (bs.map PyData.int) → vs = bs.map V.int
  | [], _, h => by cases h; rfl
  | b :: r, _, h => by
    cases h with
    | cons h1 h2 =>
      cases h1
      rw [daAll_ints h2]
      rfl
/-- how a laying lies in the heap -/
theorem lay_at {D : DrA} {H : Hp} {a : Addr} {l : Lay} (h : Da D H (.ref a) l.dat) : match l with
    | .pad n => H a = some (.tup [.str "padded", .int n])
    | .trn n => H a = some (.tup [.str "turned", .int n])
    | .lst bs => ∃ b, H a = some (.tup [.str "listed", .ref b]) ∧ H b = some (.tup (bs.map V.int)) := by
  cases l with
  | pad n =>
    cases h with
    | tup h _ _ ha =>
      cases ha with
      | cons h1 ha =>
        cases h1
        cases ha with
        | cons h2 ha =>
          cases h2
          cases ha
          exact h
  | trn n =>
    cases h with
    | tup h _ _ ha =>
      cases ha with
      | cons h1 ha =>
        cases h1
        cases ha with
        | cons h2 ha =>
          cases h2
          cases ha
          exact h
  | lst bs =>
    cases h with
    | tup h _ _ ha =>
      cases ha with
      | cons h1 ha =>
        cases h1
        cases ha with
        | cons h2 ha =>
          cases ha
          cases h2 with
          | tup h3 _ _ hb =>
            rw [daAll_ints hb] at h3
            exact ⟨_, h, h3⟩
theorem cnt_last {cs : List Int} (h : Cnt cs) : atI (cs.map V.int) (-1) = some (.int (boxL cs).2) := by
  rcases h with ⟨c, rfl, _⟩ | ⟨a, b, rfl, _⟩
  · exact atI_last [] (V.int c)
  · exact atI_last [V.int a] (V.int b)
theorem mul16 {a b : Int} (h : 0 ≤ a ∧ a ≤ 100000) (k : 0 ≤ b ∧ b ≤ 100000) : 0 ≤ a * b ∧ a * b ≤ 10000000000 := by
  constructor
  · exact Int.mul_nonneg h.1 k.1
  · calc a * b ≤ 100000 * b := Int.mul_le_mul_of_nonneg_right h.2 k.1
      _ ≤ 10000000000 := by omega
abbrev sBank : Stmt := topS 39
theorem scBank : FnScope ["_law_counts_here", "_law_many_here", "_law_way_here", "_law_cell_here", "_law_broad", "_law_down", "_law_across"] ["_law_counts_here", "_law_many_here", "_law_way_here", "_law_cell_here"] (defScope sBank) := ⟨rfl, rfl, rfl, by decide +kernel, rfl, by decide +kernel, by decide +kernel⟩
def CellOk (cs : List Int) (y x : Int) : Prop := 0 ≤ y ∧ y < (boxL cs).1 ∧ 0 ≤ x ∧ x < (boxL cs).2
def spBank : Sp := fun vs H Q _ => ∃ (D : DrA) (c wy ce : Addr) (cs : List Int) (m : Int) (l : Lay) (y x : Int), vs = [.ref c, .int m, .ref wy, .ref ce] ∧ H c = some (.tup (cs.map V.int)) ∧ Cnt cs ∧ 1 ≤ m ∧ Da D H (.ref wy) l.dat ∧ l.Ok cs m ∧
  H ce = some (.tup [.int y, .int x]) ∧ CellOk cs y x ∧ Q (.int (bankL cs m l y x)) H
theorem ok_bank {f : Addr} {fd : FuncData} (F : Fun K "_law_bank" "_law_bank" sBank f fd) (N : Bl mg) : FnOk P w K mg base CX0 1 f fd ["_law_counts_here", "_law_many_here", "_law_way_here", "_law_cell_here"] spBank := by
  refine F.ok scBank (fun vs H Q E h => ?_) (fun cdv A outer s H vs Q E hr h => ?_)
  · obtain ⟨D, c, wy, ce, cs, m, l, y, x, rfl, _⟩ := h
    rfl
  · obtain ⟨D, c, wy, ce, cs, m, l, y, x, rfl, hc, kc, hm, hw, lo, hce, ⟨y0, y1, x0, x1⟩, q⟩ := h
    refine ⟨_, pss_cons (ps_set (i := 4) scBank.nd rfl (.inl rfl) (pe_ix ix_tup (pv 0) (pe_un un_neg pe_int) (fun _ _ => rfl)))
      (pss_cons (ps_asg (pv 3) (pg_tup rfl (pgs_cons (pg_name (i := 5) scBank.nd rfl (.inl rfl)) (pgs_cons (pg_name (i := 6) scBank.nd rfl (.inl rfl)) pgs_nil))))
      (pss_cons (ps_if (pt_cmpR op_eq (pe_ix ix_tup (pv 2) pe_int (fun _ _ => rfl)) pe_str (nomark _))
        (pss_one (ps_ret (pe_ix ix_tup (pe_ix ix_tup (pv 2) pe_int (fun _ _ => rfl)) (pe_op op_add (pe_op op_mul (pv 5) (pv 4)) (pv 6)) (fun _ _ => rfl)))) pss_nil)
      (pss_cons (ps_if (pt_cmpR op_eq (pe_ix ix_tup (pv 2) pe_int (fun _ _ => rfl)) pe_str (nomark _))
        (pss_one (ps_ret (pe_op op_mod (pe_callTy call_int1 (by rfl) N.bint (by decide +kernel) (pa_cons (pe_op op_add (pe_op op_mul (pv 5) (pe_op op_add (pv 4) (pe_ix ix_tup (pv 2) pe_int (fun _ _ => rfl)))) (pv 6)) pa_nil)) (pv 1)))) pss_nil)
      (pss_one (ps_ret (pe_op op_mod (pe_callTy call_int1 (by rfl) N.bint (by decide +kernel) (pa_cons (pe_op op_add (pe_op op_mul (pv 5) (pv 4)) (pe_op op_mod (pe_callTy call_int1 (by rfl) N.bint (by decide +kernel)
        (pa_cons (pe_op op_add (pv 6) (pe_op op_mul (pe_ix ix_tup (pv 2) pe_int (fun _ _ => rfl)) (pv 5))) pa_nil)) (pv 4))) pa_nil)) (pv 1))))))), ?_⟩
    have bx := kc.box
    refine ⟨.ref c, rfl, 1, rfl, c, _, -1, _, rfl, rfl, SqT.of hc, cnt_last kc, ?_⟩
    refine ⟨_, rfl, ce, _, rfl, SqT.of hce, rfl, _, _, rfl, _, _, rfl, rfl, ?_⟩
    have hl := lay_at hw
    have c64 : ∀ z : Int, 0 ≤ z → z ≤ 100000 → -(2 ^ 64) < z ∧ z < 2 ^ 64 := fun z a b => ⟨by omega, by omega⟩
    cases l with
    | pad n =>
      refine ⟨_, rfl, wy, _, 0, _, rfl, rfl, SqT.of hl, rfl, rfl, _, rfl, iteF ?_⟩
      refine ⟨_, rfl, wy, _, 0, _, rfl, rfl, SqT.of hl, rfl, rfl, _, rfl, iteT ?_⟩
      refine ⟨_, rfl, _, rfl, _, rfl, wy, _, 1, _, rfl, rfl, SqT.of hl, rfl, _, _, rfl, rfl, _, _, rfl, rfl, .inl (c64 y y0 (by omega)), _, rfl, _, _, rfl, rfl, .inl ⟨_, rfl, _, rfl, _, _, rfl, rfl, by omega, q⟩⟩
    | trn n =>
      refine ⟨_, rfl, wy, _, 0, _, rfl, rfl, SqT.of hl, rfl, rfl, _, rfl, iteF ?_⟩
      refine ⟨_, rfl, wy, _, 0, _, rfl, rfl, SqT.of hl, rfl, rfl, _, rfl, iteF ?_⟩
      refine ⟨_, rfl, _, rfl, _, _, rfl, rfl, .inl (c64 y y0 (by omega)), _, rfl, _, rfl, wy, _, 1, _, rfl, rfl, SqT.of hl, rfl, _, rfl, _, _, rfl, rfl, .inr (c64 y y0 (by omega)), _, _, rfl, rfl, .inl ⟨_, rfl, _, rfl, _, _, rfl, rfl, by omega, _, _, rfl, rfl, .inl ⟨_, rfl, _, rfl, _, _, rfl, rfl, by omega, q⟩⟩⟩
    | lst bs =>
      obtain ⟨b, hl, hb⟩ := hl
      refine ⟨_, rfl, wy, _, 0, _, rfl, rfl, SqT.of hl, rfl, rfl, _, rfl, iteT ?_⟩
      have hyx : 0 ≤ y * (boxL cs).2 := Int.mul_nonneg y0 (by omega)
      have hlt : y * (boxL cs).2 + x < (bs.length : Int) := by
        rw [lo.1]
        have h1 : (y + 1) * (boxL cs).2 ≤ (boxL cs).1 * (boxL cs).2 := Int.mul_le_mul_of_nonneg_right (by omega) (by omega)
        rw [Int.add_mul, Int.one_mul] at h1
        omega
      obtain ⟨j, hj⟩ : ∃ j : Nat, y * (boxL cs).2 + x = (j : Int) := ⟨(y * (boxL cs).2 + x).toNat, by omega⟩
      have hjl : j < bs.length := by omega
      refine ⟨_, rfl, wy, _, 1, _, rfl, rfl, SqT.of hl, rfl, _, rfl, _, rfl, _, _, rfl, rfl, .inl (c64 y y0 (by omega)), _, rfl, _, _, rfl, rfl, b, _, _, .int (bs[j]), rfl, rfl, SqT.of hb, ?_, ?_⟩
      · rw [hj]
        refine atI_nat ?_
        rw [List.getElem?_map, List.getElem?_eq_getElem hjl]
        rfl
      · have e : bankL cs m (.lst bs) y x = bs[j] := by
          show bs.getD (y * (boxL cs).2 + x).toNat 0 = bs[j]
          rw [hj]
          show bs.getD ((j : Int)).toNat 0 = bs[j]
          rw [Int.toNat_natCast, List.getD_eq_getElem?_getD, List.getElem?_eq_getElem hjl]
          rfl
        rw [e] at q
        exact q
end
end Lm
namespace Lm
open PySem PySem.Spec PyProof.Rows L2
/-- how many of bs are b -/
def cntL (bs : List Int) (b : Int) : Int := ((bs.filter fun z => decide (z = b)).length : Int)
/-- m is the greatest of 0 and the counts -/
def PriceIs (bs : List Int) (m : Int) : Prop := m ∈ (0 : Int) :: bs.map (cntL bs) ∧ ∀ y ∈ (0 : Int) :: bs.map (cntL bs), y ≤ m
theorem PriceIs.one {bs : List Int} {m m' : Int} (h : PriceIs bs m) (h' : PriceIs bs m') : m = m' := by
  have a := h.2 _ h'.1
  have b := h'.2 _ h.1
  omega
/-- the cells of a lot -/
def CellsV (cs : List Int) (H : Hp) (vs : List V) (l : List (Int × Int)) : Prop := Paired (fun (v : V) (c : Int × Int) => ∃ a, v = V.ref a ∧ H a = some (.tup [.int c.1, .int c.2]) ∧ CellOk cs c.1 c.2) vs l
theorem pi_listK {X : Cx} {tg l : Expr} {tl : TE} (K : PySem.W.Frag) (hl : PE X l tl) (hK : X.K = K := by rfl) : PI X tg l (iList K tl) := hK ▸ pi_list hl
theorem pi_tupK {X : Cx} {tg l : Expr} {tl : TE} (K : PySem.W.Frag) (hl : PE X l tl) (hK : X.K = K := by rfl) : PI X tg l (iTup K tl) := hK ▸ pi_tup hl
def rLen (K : PySem.W.Frag) : List V → Hp → VK → Prop := fun xs H Q => ∃ (p : Addr) (ys : List V), xs = [V.ref p] ∧ (SqL K H p ys ∨ SqT K H p ys) ∧ Q (.int ys.length) H
theorem call_lenK {X : Cx} (K : PySem.W.Frag) (hK : X.K = K := by rfl) : CallR X (.builtin "len") (rLen K) := hK ▸ call_len_seq
section
variable {P : Program} {w : World} {K : PySem.W.Frag} {mg : Str → Option Value} {base : Heap}
theorem paired_ix {α β : Type} {R : α → β → Prop} : ∀ {l : List α} {m : List β} {i : Nat} {x : α}, Paired R l m → l[i]? = some x → ∃ y, m[i]? = some y ∧ R x y
  | _, _, _, _, .nil, e => by simp at e
  | _, _, 0, _, .cons h _, e => by
    simp at e
    subst e
    exact ⟨_, rfl, h⟩
  | _, _, i + 1, _, .cons _ t, e => by
    obtain ⟨y, h1, h2⟩ := paired_ix (i := i) t (by simpa using e)
    exact ⟨y, by simpa using h1, h2⟩
theorem paired_imp {α β : Type} {R S : α → β → Prop} (i : ∀ a b, R a b → S a b) : ∀ {l : List α} {m : List β}, Paired R l m → Paired S l m
  | _, _, .nil => .nil
  | _, _, .cons h t => .cons (i _ _ h) (paired_imp i t)
theorem paired_app {α β : Type} {R : α → β → Prop} : ∀ {l l' : List α} {m m' : List β}, Paired R l m → Paired R l' m' → Paired R (l ++ l') (m ++ m')
  | _, _, _, _, .nil, h => h
  | _, _, _, _, .cons a t, h => .cons a (paired_app t h)
theorem paired_sub {α β : Type} {R : α → β → Prop} {l' l : List α} (s : l'.Sublist l) : ∀ {m : List β}, Paired R l m → ∃ m' : List β, m'.Sublist m ∧ Paired R l' m' := by
  induction s with
  | slnil => intro m h; cases h; exact ⟨[], .slnil, .nil⟩
  | cons a s ih =>
    intro m h
    cases h with
    | cons h t =>
      obtain ⟨m', s', p⟩ := ih t
      exact ⟨m', s'.cons _, p⟩
  | cons_cons a s ih =>
    intro m h
    cases h with
    | cons h t =>
      obtain ⟨m', s', p⟩ := ih t
      exact ⟨_, s'.cons_cons _, .cons h p⟩
theorem CellsV.fr {cs : List Int} {H H' : Hp} {vs : List V} {l : List (Int × Int)} (h : CellsV cs H vs l) (s : ∀ a x y, H a = some (.tup [.int x, .int y]) → H' a = some (.tup [.int x, .int y])) : CellsV cs H' vs l :=
  paired_imp (fun _ _ ⟨a, e, h1, h2⟩ => ⟨a, e, s _ _ _ h1, h2⟩) h
theorem paired_len {α β : Type} {R : α → β → Prop} : ∀ {l : List α} {m : List β}, Paired R l m → l.length = m.length
  | _, _, .nil => rfl
  | _, _, .cons _ t => congrArg Nat.succ (paired_len t)
/-- the scope of a comprehension; the sum's right side in a call's argument; what a body's statement returns -/
def lcScope : Expr → Scope
  | .ListComp _ _ sc _ => sc
  | _ => ⟨.function, [], false, false, []⟩
def lastArg : Expr → Expr
  | .Call _ [.BinOp _ _ b _] _ _ => b
  | e => e
def retOf (s : Stmt) (j : Nat) : Expr := match (defBody s)[j]? with
  | some (.Return (some e) _) => e
  | _ => .Constant .none 0 ⟨0, 0, 0, 0⟩
/-! ### _law_price -/
abbrev sPrice : Stmt := topS 40
def nPrice : List Str := ["_law_counts_here", "_law_many_here", "_law_way_here", "_law_lot_here", "_law_some", "_law_cell_here", "_law_bank_here", "_law_other_bank"]
theorem scPrice : FnScope ["_law_counts_here", "_law_many_here", "_law_way_here", "_law_lot_here", "_law_some", "_law_cell_here", "_law_bank_here", "_law_other_bank"] ["_law_counts_here", "_law_many_here", "_law_way_here", "_law_lot_here"] (defScope sPrice) := ⟨rfl, rfl, rfl, by decide +kernel, rfl, by decide +kernel, by decide +kernel⟩
def spPrice : Sp := fun vs H Q _ => ∃ (D : DrA) (c wy lo : Addr) (cs : List Int) (m : Int) (l : Lay) (xs : List V) (cells : List (Int × Int)), vs = [.ref c, .int m, .ref wy, .ref lo] ∧ H c = some (.tup (cs.map V.int)) ∧ Cnt cs ∧ 1 ≤ m ∧ Da D H (.ref wy) l.dat ∧ l.Ok cs m ∧
  H lo = some (.tup xs) ∧ CellsV cs H xs cells ∧ cells.length ≤ 300 ∧
  ∀ (H' : Hp) (v : Int), Same H H' → PriceIs (cells.map fun c => bankL cs m l c.1 c.2) v → Q (.int v) H'
theorem ok_price {f : Addr} {fd : FuncData} (F : Fun K "_law_price" "_law_price" sPrice f fd) (N : Bl mg) (GB : Has P w K mg base CX0 1 "_law_bank" ["_law_counts_here", "_law_many_here", "_law_way_here", "_law_cell_here"] spBank) :
    FnOk P w K mg base CX0 3 f fd ["_law_counts_here", "_law_many_here", "_law_way_here", "_law_lot_here"] spPrice := by
  refine F.ok scPrice (fun vs H Q E h => ?_) (fun cdv A outer s H vs Q E hr h => ?_)
  · obtain ⟨D, c, wy, lo, cs, m, l, xs, cells, rfl, _⟩ := h
    rfl
  · obtain ⟨D, c, wy, lo, cs, m, l, xs, cells, rfl, hc, kc, hm, hw, lok, hlo, hcell, hlen, q⟩ := h
    refine ⟨_, pss_cons (ps_set (i := 4) scPrice.nd rfl (.inr rfl) (pe_lc (own := [("_law_cell_here", 5)]) (g := gName 5) (tt := tYes) rfl scPrice.nd (pi_tupK K (pv 3))
          (blkOk_by (own := [("_law_cell_here", 5)]) (N := nPrice) (sc := defScope sPrice) (by decide +kernel)) (fun _ _ _ _ _ => pg_name (i := 5) scPrice.nd rfl (Or.inl rfl)) (fun _ _ _ _ _ => pts_nil)
          (fun _ _ _ _ _ => pe_h GB (hr.mono (by decide : 1 ≤ 2)) (by decide) (by rfl) pass0 (pa_cons (pv 0) (pa_cons (pv 1) (pa_cons (pv 2) (pa_cons (pv 5) pa_nil)))))))
      (pss_one (ps_ret (pe_callB (cr_max rfl) (by rfl) N.bmax (by decide +kernel) (pa_cons (pe_op op_cat (pe_lst (pa_cons pe_int pa_nil))
        (pe_lc (own := [("_law_bank_here", 6)]) (g := gName 6) (tt := tYes) rfl scPrice.nd (pi_listK K (pv 4))
          (blkOk_by (own := [("_law_bank_here", 6)]) (N := nPrice) (sc := defScope sPrice) (by decide +kernel)) (fun _ _ _ _ _ => pg_name (i := 6) scPrice.nd rfl (Or.inr rfl)) (fun _ _ _ _ _ => pts_nil)
          (fun _ _ _ _ _ => pe_callB (call_lenK K) (by rfl) N.blen PySem.boot_len (pa_cons (pe_lc (own := [("_law_other_bank", 7)]) (g := gName 7) rfl scPrice.nd (pi_listK K (pv 4))
            (blkOk_by (by show blkC nPrice ⟨.function, [(".0", .local), ("_law_bank_here", .cell), ("len", .globalImplicit), ("_law_some", .cell)], false, false, []⟩ _ [("_law_other_bank", 7)] = true; decide +kernel)) (fun _ _ _ _ _ => pg_name (i := 7) scPrice.nd rfl (Or.inl rfl))
            (fun _ _ _ _ _ => pts_one (pt_cmpR op_eq (pv 7) (pv 6) (nomark _))) (fun _ _ _ _ _ => pe_int)) pa_nil)))) pa_nil)))), ?_⟩
    have hal : xs.length = cells.length := paired_len hcell
    obtain ⟨f, hf⟩ : ∃ f : Int × Int → Int, f = fun c => bankL cs m l c.1 c.2 := ⟨_, rfl⟩
    rw [← hf] at q
    have hfe : ∀ e : Int × Int, bankL cs m l e.1 e.2 = f e := fun e => by rw [hf]
    refine ⟨.ref lo, rfl, lo, rfl, ⟨_, SqT.of hlo⟩, fun S nS => lc_tup (K := K) (a := lo) (xs := xs)
      (fun i H' => Same H H' ∧ H' S = some (.lst (((cells.map f).take i).map V.int))) ⟨same_upd nS, upd_same⟩ (fun i H' _ h => SqT.of (h.1 _ _ hlo)) ?_ ?_⟩
    · rintro i x H' hx ⟨sm, hS⟩
      obtain ⟨ce, hce, a, rfl, ha2, hok⟩ := paired_ix hcell hx
      have hi : i < cells.length := (List.getElem?_eq_some_iff.mp hce).1
      have ht : (cells.map f).take (i + 1) = (cells.map f).take i ++ [f ce] := by
        rw [List.take_add_one, List.getElem?_map, hce]
        rfl
      refine ⟨rfl, _, rfl, _, rfl, _, rfl, _, rfl, D, c, wy, a, cs, m, l, ce.1, ce.2, rfl, sm _ _ hc, kc, hm, hw.fr (Fr.t (.of sm)), lok, sm _ _ ha2, hok, _, hS, ?_, same_put sm nS, ?_⟩
      · rw [List.length_map, List.length_take, List.length_map]
        exact small1000 (by omega)
      · rw [ht, List.map_append, hfe]
        exact upd_same
    · rintro H1 ⟨s1, hS⟩
      rw [hal, show (cells.map f).take cells.length = cells.map f from by rw [← List.length_map (f := f), List.take_length]] at hS
      generalize hbs : cells.map f = bs at hS
      have hbl : bs.length ≤ 300 := by rw [← hbs, List.length_map]; exact hlen
      -- [0] + [len(..) for ..]
      refine ⟨by show 1 ≤ sizeLine; decide, fun Z nZ => ?_⟩
      have s2 : Same H1 (upd H1 Z (.lst [.int 0])) := same_upd nZ
      have hZ : (upd H1 Z (.lst [.int 0])) Z = some (.lst [.int 0]) := upd_same
      have hS2 := s2 _ _ hS
      generalize upd H1 Z (.lst [.int 0]) = H2 at *
      refine ⟨.ref S, rfl, S, rfl, ⟨_, SqL.of hS2⟩, fun R nR => lc_list (K := K) (a := S) (xs := bs.map V.int)
        (fun i H' => Same H2 H' ∧ H' R = some (.lst (((bs.map (cntL bs)).take i).map V.int))) ⟨same_upd nR, upd_same⟩ (fun i H' _ h => SqL.of (h.1 _ _ hS2)) ?_ ?_⟩
      · rintro i x H' hx ⟨sm, hR⟩
        obtain ⟨b, hb, rfl⟩ := int_at hx
        have hi : i < bs.length := (List.getElem?_eq_some_iff.mp hb).1
        refine ⟨rfl, .ref S, rfl, S, rfl, ⟨_, SqL.of (sm _ _ hS2)⟩, fun T nT => lc_list (K := K) (a := S) (xs := bs.map V.int)
          (fun j H'' => Same H' H'' ∧ H'' T = some (.lst (List.replicate ((bs.take j).filter fun z => decide (z = b)).length (V.int 1)))) ⟨same_upd nT, upd_same⟩ (fun j H'' _ h => SqL.of (h.1 _ _ (sm _ _ hS2))) ?_ ?_⟩
        · rintro j y H'' hy ⟨sm2, hT⟩
          obtain ⟨z, hz, rfl⟩ := int_at hy
          have hj : j < bs.length := (List.getElem?_eq_some_iff.mp hz).1
          have ht : bs.take (j + 1) = bs.take j ++ [z] := by rw [List.take_add_one, hz]; rfl
          have hlt : ((bs.take j).filter fun z => decide (z = b)).length < 1000 := by
            have := List.length_filter_le (fun z => decide (z = b)) (bs.take j)
            rw [List.length_take] at this
            omega
          refine ⟨rfl, _, rfl, _, rfl, rfl, _, rfl, ?_⟩
          by_cases e : z = b
          · refine ite2 (fun _ => ?_) (fun q => absurd (decide_eq_true (congrArg V.int e)) q)
            refine ⟨_, hT, ?_, same_put sm2 nT, ?_⟩
            · rw [List.length_replicate]
              exact small1000 (by omega)
            · rw [ht, List.filter_append, List.length_append, upd_same]
              have : ([z].filter fun z => decide (z = b)) = [z] := by simp [e]
              rw [this]
              show some (HO.lst (List.replicate _ (V.int 1) ++ [V.int 1])) = some (HO.lst (List.replicate (_ + 1) (V.int 1)))
              rw [List.replicate_succ']
          · refine ite2 (fun q => absurd (V.int.inj (of_decide_eq_true q)) e) (fun _ => ?_)
            refine ⟨sm2, ?_⟩
            rw [ht, List.filter_append, List.length_append]
            have : ([z].filter fun z => decide (z = b)) = [] := by simp [e]
            rw [this]
            exact hT
        · rintro H'' ⟨sm2, hT⟩
          rw [List.length_map, List.take_length] at hT
          refine ⟨T, _, rfl, .inl (SqL.of hT), _, sm2 _ _ hR, ?_, ?_, ?_⟩
          · rw [List.length_map, List.length_take, List.length_map]
            exact small1000 (by omega)
          · refine same_put (sm.trans sm2) ?_
            cases e : H2 R with
            | none => rfl
            | some o => rw [e] at nR; cases nR
          · have ht : (bs.map (cntL bs)).take (i + 1) = (bs.map (cntL bs)).take i ++ [cntL bs b] := by
              rw [List.take_add_one, List.getElem?_map, hb]
              rfl
            rw [ht, List.map_append, upd_same, List.length_replicate]
            rfl
      · rintro H3 ⟨s3, hR⟩
        rw [List.length_map, show (bs.map (cntL bs)).take bs.length = bs.map (cntL bs) from by rw [← List.length_map (f := cntL bs), List.take_length]] at hR
        have hZ3 := s3 _ _ hZ
        refine ⟨Z, R, [.int 0], (bs.map (cntL bs)).map V.int, rfl, rfl, hZ3, hR, ?_, fun U nU => ?_⟩
        · rw [List.length_map, List.length_map]
          exact Nat.le_of_lt (small1000 (by show 1 + bs.length ≤ 1000; omega))
        · refine ⟨U, (0 : Int) :: bs.map (cntL bs), rfl, SqL.of upd_same, Nat.zero_lt_succ _, fun v v1 v2 => ?_⟩
          refine q _ v ?_ ?_
          · exact (s1.trans (s2.trans s3)).trans (same_upd nU)
          · show PriceIs (cells.map f) v
            rw [hbs]
            exact ⟨v1, v2⟩
end
end Lm
namespace Lm
open PySem PySem.Spec PyProof.Rows L2
theorem Cnt.area {cs : List Int} (h : Cnt cs) : 1 ≤ (boxL cs).1 * (boxL cs).2 ∧ (boxL cs).1 * (boxL cs).2 ≤ 256 := by
  obtain ⟨a1, a2, b1, b2⟩ := h.box
  generalize (boxL cs).1 = a at *
  generalize (boxL cs).2 = b at *
  have l1 : 1 * b ≤ a * b := Int.mul_le_mul_of_nonneg_right a1 (by omega)
  have l2 : a * b ≤ 16 * b := Int.mul_le_mul_of_nonneg_right a2 (by omega)
  omega
section
variable {P : Program} {w : World} {K : PySem.W.Frag} {mg : Str → Option Value} {base : Heap}
/-! ### _law_way -/
abbrev sWay : Stmt := topS 41
def nWay : List Str := ["_law_draw", "_law_counts_here", "_law_many_here", "_law_tall", "_law_broad", "_law_way_here", "_law_lap"]
theorem scWay : FnScope ["_law_draw", "_law_counts_here", "_law_many_here", "_law_tall", "_law_broad", "_law_way_here", "_law_lap"] ["_law_draw", "_law_counts_here", "_law_many_here"] (defScope sWay) := ⟨rfl, rfl, rfl, by decide +kernel, rfl, by decide +kernel, by decide +kernel⟩
def spWay : Sp := fun vs H Q _ => ∃ (D : DrA) (n : Nat) (c : Addr) (cs : List Int) (m : Int), vs = [.ref D.d, .ref c, .int m] ∧ DrawAt D n H ∧ n + 300 ≤ B ∧ H c = some (.tup (cs.map V.int)) ∧ Cnt cs ∧ 1 ≤ m ∧ m ≤ 32 ∧
  ∀ (H' : Hp) (p : Addr) (l : Lay), l.Ok cs m → Da D H' (.ref p) l.dat → DrawAt D (n + 300) H' → Fr D H H' → Q (.ref p) H'
theorem ok_way {f : Addr} {fd : FuncData} (F : Fun K "_law_way" "_law_way" sWay f fd) (N : Bl mg) (GX : Has P w K mg base CX0 1 "_law_box" ["_law_counts_here"] spBox)
    (GT : Has P w K mg base CX0 2 "_law_take" ["_law_draw", "_law_size"] spTake) (GP : Has P w K mg base CX0 3 "_law_pick" ["_law_draw", "_law_some"] spPick) :
    FnOk P w K mg base CX0 4 f fd ["_law_draw", "_law_counts_here", "_law_many_here"] spWay := by
  refine F.ok scWay (fun vs H Q E h => ?_) (fun cdv A outer s H vs Q E hr h => ?_)
  · obtain ⟨D, n, c, cs, m, rfl, _⟩ := h
    rfl
  · obtain ⟨D, n, c, cs, m, rfl, h, hn, hc, kc, m1, m2, q⟩ := h
    refine ⟨_, pss_cons (ps_asg (pe_h GX hr (by decide) (by rfl) pass0 (pa_cons (pv 1) pa_nil)) (pg_tup rfl (pgs_cons (pg_name (i := 3) scWay.nd rfl (.inl rfl)) (pgs_cons (pg_name (i := 4) scWay.nd rfl (.inl rfl)) pgs_nil))))
      (pss_cons (ps_set (i := 5) scWay.nd rfl (.inl rfl) (pe_h GT hr (by decide) (by rfl) pass0 (pa_cons (pv 0) (pa_cons pe_int pa_nil))))
      (pss_cons (ps_if (pt_cmpR op_eq (pv 5) pe_int (nomark _))
        (pss_one (ps_ret (pe_tup (pa_cons pe_str (pa_cons (pe_tupleOf (by rfl) N.btup (pe_lc (own := [("_law_lap", 6)]) (g := gName 6) (tt := tYes) rfl scWay.nd (pi_range1 (by rfl) N.brng (pa_cons (pe_op op_mul (pv 3) (pv 4)) pa_nil))
          (blkOk_by (own := [("_law_lap", 6)]) (N := nWay) (sc := defScope sWay) (by decide +kernel)) (fun _ _ _ _ _ => pg_name (i := 6) scWay.nd rfl (Or.inl rfl)) (fun _ _ _ _ _ => pts_nil)
          (fun _ _ _ _ _ => pe_h GT (hr.mono (by decide : 2 ≤ 3)) (by decide) (by rfl) pass0 (pa_cons (pv 0) (pa_cons (pv 2) pa_nil))))) pa_nil))))) pss_nil)
      (pss_one (ps_ret (pe_tup (pa_cons (pe_ix ix_list (pe_lst (pa_cons pe_str (pa_cons pe_str pa_nil))) (pv 5) (fun _ _ => rfl))
        (pa_cons (pe_h GP hr (by decide) (by rfl) pass0 (pa_cons (pv 0) (pa_cons (pe_lst (pa_cons pe_int (pa_cons pe_int (pa_cons pe_int (pa_cons pe_int (pa_cons pe_int (pa_cons (pe_h GT hr (by decide) (by rfl) pass0 (pa_cons (pv 0) (pa_cons pe_int pa_nil))) pa_nil))))))) pa_nil))) pa_nil))))))), ?_⟩
    have ldc : ∀ {H1 : Hp} {k : Nat}, DrawAt D k H1 → H1 c = some (.tup (cs.map V.int)) → c ≠ D.d ∧ c ≠ D.w := by
      rintro H1 k ⟨ws, gs, r, t, h1, h2, _⟩ hc
      exact ⟨ne_of hc h1 (fun z => by cases z), ne_of hc h2 (fun z => by cases z)⟩
    have ar := kc.area
    have bx := kc.box
    refine ⟨.ref c, rfl, c, cs, rfl, hc, kc, fun H1 bp s1 hb => ?_⟩
    refine ⟨bp, _, rfl, SqT.of hb, rfl, _, _, rfl, _, _, rfl, rfl, ?_⟩
    have d1 : DrawAt D n H1 := h.same fun b o e _ => s1 b o e
    refine ⟨_, rfl, D, n, 3, rfl, d1, by omega, by decide, by decide, fun H2 v d2 f2 v0 v1 => ?_⟩
    refine ⟨_, rfl, rfl, _, rfl, ite2 (fun e => ?_) (fun e => ?_)⟩
    · refine ⟨_, rfl, _, rfl, _, _, rfl, rfl, .inl (by constructor <;> omega), _, rfl, by omega, by omega, fun W nW => lc_range (fun i H' => Fr D H2 H' ∧ DrawAt D (n + 1 + i) H' ∧ W ≠ D.d ∧ W ≠ D.w ∧ ∃ bs : List Int, H' W = some (.lst (bs.map V.int)) ∧ bs.length = i ∧ ∀ b ∈ bs, 0 ≤ b ∧ b < m)
        ⟨.of (same_upd nW), d2.new nW, (d2.off nW).1, (d2.off nW).2, [], upd_same, rfl, (fun b hb => by cases hb)⟩ ?_ ?_⟩
      · rintro i H' hi ⟨f3, d3, nd, nw, bs, hW, hl, hb⟩
        refine ⟨rfl, _, rfl, _, rfl, D, n + 1 + i, m, rfl, d3, by omega, by omega, by omega, fun H3 b d4 f4 b0 b1 => ?_⟩
        refine ⟨_, f4 _ _ hW nd nw, ?_, ?_, ?_, nd, nw, bs ++ [b], ?_, ?_, ?_⟩
        · rw [List.length_map]
          exact small1000 (by omega)
        · intro x o e n1 n2
          rw [upd_ne (ne_of_none e nW)]
          exact f4 _ _ (f3 _ _ e n1 n2) n1 n2
        · obtain ⟨ws, gs, r, t, g1, g2, g3, g4, g5, g6⟩ := d4
          refine ⟨ws, gs, r, t, by rw [upd_ne nd.symm]; exact g1, by rw [upd_ne nw.symm]; exact g2, ?_, g4, g5, by omega⟩
          by_cases e : D.c = W
          · exfalso
            obtain ⟨_, _, _, _, _, _, k3, _⟩ := d2
            rw [e, nW] at k3
            cases k3
          · rw [upd_ne e]
            exact g3
        · rw [List.map_append]
          exact upd_same
        · rw [List.length_append, hl]
          rfl
        · intro x hx
          rcases List.mem_append.mp hx with hx | hx
          · exact hb x hx
          · rw [List.mem_singleton.mp hx]
            exact ⟨b0, b1⟩
      · rintro H3 ⟨f3, d3, nd, nw, bs, hW, hl, hb⟩
        refine .inl ⟨W, _, rfl, SqL.of hW, fun T nT => ⟨by show 2 ≤ sizeLine; decide, fun p np => ?_⟩⟩
        refine q _ p (.lst bs) ⟨by omega, hb⟩ ?_ ?_ ?_
        · have d4 := d3.new (o := .tup (bs.map V.int)) nT
          have o1 := d3.off nT
          have o2 := d4.off np
          have pT : T ≠ p := fun z => by rw [← z, upd_same] at np; cases np
          refine .tup upd_same o2.1 o2.2 (.cons (.str _) (.cons (.tup ?_ o1.1 o1.2 (.ints bs)) .nil))
          rw [upd_ne pT]
          exact upd_same
        · exact ((d3.new nT).new np).mono (by omega)
        · refine (Fr.of s1).trans (f2.trans (f3.trans (.of ?_)))
          exact (same_upd nT).trans (same_upd np)
    · have v2 : v ≠ 2 := fun z => e (by rw [z]; decide)
      refine ⟨by show 2 ≤ sizeLine; decide, fun W nW => ?_⟩
      have d3 : DrawAt D (n + 1) (upd H2 W (.lst [.str "padded", .str "turned"])) := d2.new nW
      have hW : (upd H2 W (.lst [.str "padded", .str "turned"])) W = some _ := upd_same
      have f3 : Fr D H2 (upd H2 W (.lst [.str "padded", .str "turned"])) := .of (same_upd nW)
      generalize upd H2 W (.lst [.str "padded", .str "turned"]) = H3 at *
      obtain ⟨kw, hkw, hat⟩ : ∃ kw : Bool, (v = if kw then 1 else 0) ∧ atI [V.str "padded", V.str "turned"] v = some (.str (if kw then "turned" else "padded")) := by
        have : v = 0 ∨ v = 1 := by omega
        rcases this with rfl | rfl
        · exact ⟨false, rfl, rfl⟩
        · exact ⟨true, rfl, rfl⟩
      refine ⟨_, rfl, W, _, _, _, rfl, rfl, SqL.of hW, hat, ?_⟩
      refine ⟨_, rfl, _, rfl, D, n + 1, 32, rfl, d3, by omega, by decide, by decide, fun H4 u d4 f4 u0 u1 => ⟨by show 6 ≤ sizeLine; decide, fun L nL => ?_⟩⟩
      have o4 := d4.off nL
      refine ⟨D, n + 2, L, [.int 0, .int 1, .int 2, .int 3, .int 31, .int u], rfl, d4.new nL, by omega, upd_same, o4.2, (fun z => by cases z), (by show 6 < 1073741824; decide), fun H5 i x hx d5 f5 => ?_⟩
      obtain ⟨g, rfl, g0, g1⟩ : ∃ g : Int, x = .int g ∧ 0 ≤ g ∧ g ≤ 31 := by
        match i, hx with
        | 0, hx => cases hx; exact ⟨_, rfl, by decide, by decide⟩
        | 1, hx => cases hx; exact ⟨_, rfl, by decide, by decide⟩
        | 2, hx => cases hx; exact ⟨_, rfl, by decide, by decide⟩
        | 3, hx => cases hx; exact ⟨_, rfl, by decide, by decide⟩
        | 4, hx => cases hx; exact ⟨_, rfl, by decide, by decide⟩
        | 5, hx => cases hx; exact ⟨_, rfl, u0, by omega⟩
        | i + 6, hx => simp at hx
      refine ⟨by show 2 ≤ sizeLine; decide, fun p np => ?_⟩
      refine q _ p (if kw then .trn g else .pad g) ?_ ?_ ?_ ?_
      · cases kw <;> exact ⟨g0, g1⟩
      · have o := d5.off np
        have hp : (upd H5 p (.tup [.str (if kw then "turned" else "padded"), .int g])) p = some _ := upd_same
        cases kw
        · exact .tup hp o.1 o.2 (.cons (.str _) (.cons (.int _) .nil))
        · exact .tup hp o.1 o.2 (.cons (.str _) (.cons (.int _) .nil))
      · exact (d5.new np).mono (by omega)
      · exact (Fr.of s1).trans (f2.trans (f3.trans (f4.trans ((Fr.of (same_upd nL)).trans (f5.trans (.of (same_upd np)))))))
/-! ### _law_cells -/
abbrev sCells : Stmt := topS 43
def nCells : List Str := ["_law_counts_here", "_law_tall", "_law_broad", "_law_found", "_law_down", "_law_across"]
theorem scCells : FnScope ["_law_counts_here", "_law_tall", "_law_broad", "_law_found", "_law_down", "_law_across"] ["_law_counts_here"] (defScope sCells) := ⟨rfl, rfl, rfl, by decide +kernel, rfl, by decide +kernel, by decide +kernel⟩
def rowL (w : Nat) (y : Nat) : List (Int × Int) := (List.range w).map fun (x : Nat) => (((y : Nat) : Int), ((x : Nat) : Int))
def cellsL (h w : Nat) : List (Int × Int) := (List.range h).flatMap (rowL w)
def cellsOf (cs : List Int) : List (Int × Int) := cellsL (boxL cs).1.toNat (boxL cs).2.toNat
theorem rowL_length (w y : Nat) : (rowL w y).length = w := by
  unfold rowL
  rw [List.length_map, List.length_range]
theorem rowL_succ (j y : Nat) : rowL (j + 1) y = rowL j y ++ [(((y : Nat) : Int), ((j : Nat) : Int))] := by
  unfold rowL
  rw [List.range_succ, List.map_append]
  rfl
theorem cellsL_succ (h w : Nat) : cellsL (h + 1) w = cellsL h w ++ rowL w h := by
  unfold cellsL
  rw [List.range_succ, List.flatMap_append, List.flatMap_singleton]
theorem cellsL_length (h w : Nat) : (cellsL h w).length = h * w := by
  induction h with
  | zero => rw [Nat.zero_mul]; rfl
  | succ h ih => rw [cellsL_succ, List.length_append, ih, rowL_length, Nat.succ_mul]
def spCells : Sp := fun vs H Q _ => ∃ (c : Addr) (cs : List Int), vs = [.ref c] ∧ H c = some (.tup (cs.map V.int)) ∧ Cnt cs ∧
  ∀ (H' : Hp) (p : Addr) (xs : List V), Same H H' → H p = none → H' p = some (.lst xs) → CellsV cs H' xs (cellsOf cs) → Q (.ref p) H'
theorem ok_cells {f : Addr} {fd : FuncData} (F : Fun K "_law_cells" "_law_cells" sCells f fd) (N : Bl mg) (GX : Has P w K mg base CX0 1 "_law_box" ["_law_counts_here"] spBox) :
    FnOk P w K mg base CX0 2 f fd ["_law_counts_here"] spCells := by
  refine F.ok scCells (fun vs H Q E h => ?_) (fun cdv A outer s H vs Q E hr h => ?_)
  · obtain ⟨c, cs, rfl, _⟩ := h
    rfl
  · obtain ⟨c, cs, rfl, hc, kc, q⟩ := h
    refine ⟨_, pss_cons (ps_asg (pe_h GX hr (by decide) (by rfl) pass0 (pa_cons (pv 0) pa_nil)) (pg_tup rfl (pgs_cons (pg_name (i := 1) scCells.nd rfl (.inl rfl)) (pgs_cons (pg_name (i := 2) scCells.nd rfl (.inl rfl)) pgs_nil))))
      (pss_cons (ps_set (i := 3) scCells.nd rfl (.inl rfl) (pe_lst pa_nil))
      (pss_cons (ps_for PassesOwn.never rfl (pi_range1 (by rfl) N.brng (pa_cons (pv 1) pa_nil)) (pg_name (i := 4) scCells.nd rfl (.inr rfl))
        (pss_one (ps_set (i := 3) scCells.nd rfl (.inl rfl) (pe_op op_cat (pv 3) (pe_lc (own := [("_law_across", 5)]) (g := gName 5) (tt := tYes) rfl scCells.nd (pi_range1 (by rfl) N.brng (pa_cons (pv 2) pa_nil))
          (blkOk_by (own := [("_law_across", 5)]) (N := nCells) (sc := defScope sCells) (by decide +kernel)) (fun _ _ _ _ _ => pg_name (i := 5) scCells.nd rfl (Or.inl rfl)) (fun _ _ _ _ _ => pts_nil)
          (fun _ _ _ _ _ => pe_tup (pa_cons (pv 4) (pa_cons (pv 5) pa_nil))))))))
      (pss_one (ps_ret (pv 3))))), ?_⟩
    have bx := kc.box
    refine ⟨.ref c, rfl, c, cs, rfl, hc, kc, fun H1 bp s1 hb => ?_⟩
    refine ⟨bp, _, rfl, SqT.of hb, rfl, _, _, rfl, _, _, rfl, rfl, ?_⟩
    refine ⟨Nat.zero_le _, fun Z nZ => ?_⟩
    refine ⟨_, rfl, (boxL cs).1, rfl, by omega, by omega, for_range (fun i σ H' => ∃ R xs x4, σ = [some (.ref c), some (.int (boxL cs).1), some (.int (boxL cs).2), some (.ref R), x4, none] ∧ Same H1 H' ∧ H1 R = none ∧ H' R = some (.lst xs) ∧ CellsV cs H' xs (cellsL i (boxL cs).2.toNat))
      ⟨Z, [], none, rfl, same_upd nZ, nZ, upd_same, .nil⟩ ?_ ?_⟩
    · rintro i σ H' hi ⟨R, xs, x4, rfl, s2, nR, hR, cv⟩
      have xl : xs.length ≤ i * 16 := by
        rw [paired_len cv, cellsL_length]
        exact Nat.mul_le_mul_left _ (by omega)
      refine ⟨_, rfl, _, rfl, (boxL cs).2, rfl, by omega, by omega, fun W nW => lc_range (fun j H'' => Same H' H'' ∧ ∃ zs, H'' W = some (.lst zs) ∧ CellsV cs H'' zs (rowL j i)) ⟨same_upd nW, [], upd_same, .nil⟩ ?_ ?_⟩
      · rintro j H'' hj ⟨s3, zs, hW, cz⟩
        refine ⟨rfl, _, rfl, _, rfl, (by show 2 ≤ sizeLine; decide), fun p np => ?_⟩
        have s4 : Same H'' (upd H'' p (.tup [.int (0 + (i : Int)), .int (0 + (j : Int))])) := same_upd np
        have hp : (upd H'' p (.tup [.int (0 + (i : Int)), .int (0 + (j : Int))])) p = some (.tup [.int (0 + (i : Int)), .int (0 + (j : Int))]) := upd_same
        rw [Int.zero_add, Int.zero_add] at *
        generalize upd H'' p (.tup [.int (i : Int), .int (j : Int)]) = H3 at *
        have hW3 := s4 _ _ hW
        have zl := paired_len cz
        rw [rowL_length] at zl
        have pW : p ≠ W := fun z => by rw [z, hW] at np; cases np
        refine ⟨zs, hW3, small1000 (by omega), same_put (s3.trans s4) nW, _, upd_same, ?_⟩
        rw [rowL_succ]
        have fr : ∀ a x y, H'' a = some (.tup [.int x, .int y]) → (upd H3 W (.lst (zs ++ [.ref p]))) a = some (.tup [.int x, .int y]) := by
          intro a x y e
          rw [upd_ne (fun z => by rw [z, hW] at e; cases e)]
          exact s4 _ _ e
        refine paired_app (CellsV.fr cz fr) (.cons ⟨p, rfl, ?_, ?_⟩ .nil)
        · rw [upd_ne pW]
          exact hp
        · show 0 ≤ (i : Int) ∧ (i : Int) < (boxL cs).1 ∧ 0 ≤ (j : Int) ∧ (j : Int) < (boxL cs).2
          omega
      · rintro H'' ⟨s3, zs, hW, cz⟩
        have zl := paired_len cz
        rw [rowL_length] at zl
        have hi' : i < 16 := by omega
        refine ⟨R, W, xs, zs, rfl, rfl, s3 _ _ hR, hW, Nat.le_of_lt (small1000 (by omega)), fun p np => ?_⟩
        have s5 : Same H'' (upd H'' p (.lst (xs ++ zs))) := same_upd np
        refine ⟨p, _, _, rfl, (s2.trans s3).trans s5, ?_, upd_same, ?_⟩
        · cases e : H1 p with
          | none => rfl
          | some o => rw [s3 _ _ (s2 _ _ e)] at np; cases np
        · rw [cellsL_succ]
          exact paired_app (CellsV.fr cv fun a x y e => s5 _ _ (s3 _ _ e)) (CellsV.fr cz fun a x y e => s5 _ _ e)
    · rintro σ H' ⟨R, xs, x4, rfl, s2, nR, hR, cv⟩
      refine ⟨_, rfl, q H' R xs (s1.trans s2) ?_ hR cv⟩
      cases e : H R with
      | none => rfl
      | some o => rw [s1 _ _ e] at nR; cases nR
end
end Lm
namespace Lm
open PySem PySem.Spec PyProof.Rows L2 LamX
/-! ### _law_caught: what is raised, or None -/
abbrev sCaught : Stmt := topS 31
def nCaught : List Str := ["_law_task", "_law_caught_here", "error"]
theorem scCaught : FnScope nCaught ["_law_task"] (defScope sCaught) := ⟨rfl, rfl, rfl, by decide +kernel, rfl, by decide +kernel, by decide +kernel⟩
def TCaught (K : PySem.W.Frag) (CS : Addr) : (XK → Hp → VK → Prop) → Hp → VK → Prop := fun tl H Q =>
  tl (fun cls d H' => PySem.W.exmOne K cls (.ref CS) = some true ∧ ∀ a, H' a = none → Q (.ref a) (upd H' a (ExI a cls d))) H (fun _ H' => Q .non H')
theorem caught_gives {X : Cx} {g CS : Addr} {cdg : Value} {q : Str} (hme : X.mg "LaneError" = some (.ref CS)) :
    GivesTo X nCaught "_law_caught" (defScope sCaught) g cdg (defBody sCaught) "_law_task" q (TCaught X.K CS) := by
  intro f c' s H Q tl act hc h
  refine ⟨_, pss_cons (ps_set (X := (cxOf C8.CX0 X.prog X.w X.K X.mg X.base nCaught "_law_caught" (defScope sCaught) g cdg X.A X.stack s H C8.E0).nox) (i := 1) scCaught.nd rfl (.inl rfl) pe_non)
    (pss_cons (ps_tryT (X := (cxOf C8.CX0 X.prog X.w X.K X.mg X.base nCaught "_law_caught" (defScope sCaught) g cdg X.A X.stack s H C8.E0).nox) (c := .ref CS) (i := 2)
      (tb := fun W D σ H => ∃ Ech : XK, (∀ cls d σ' H', Ech cls d H' → W cls d σ' H') ∧ σ[0]? = some (some (.ref f)) ∧ H c' = some (CodeO c' q) ∧ tl Ech H fun _ H' => D.nx σ H')
      rfl rfl scCaught.nd rfl rfl ⟨rfl, by decide, .inl hme⟩ (fun W pn xe tk _ => ?_) (fun a pn => pss_one (ps_set (i := 1) scCaught.nd rfl (.inl rfl) (pv 2))))
    (pss_one (ps_ret (pv 1)))), ?_⟩
  · refine ⟨fun pins s' σ H' D I h' => ?_⟩
    obtain ⟨Ech, hW, h1, h2, h3⟩ := h'
    exact (pss_one (ps_expr (act W pn xe Ech _ _ tk hW))).run pins s' σ H' D I ⟨h1, h2, h3⟩
  · refine ⟨fun cls d H' => PySem.W.exmOne X.K cls (.ref CS) = some true ∧ ∀ a, H' a = none → Q (.ref a) (upd H' a (ExI a cls d)), ?_, rfl, hc, ?_⟩
    · rintro cls d σ' H' ⟨e, k⟩
      refine ⟨e, fun a hl na => ?_⟩
      have hl : σ'.length = 3 := hl
      match σ', hl with
      | [x0, x1, x2], _ => exact ⟨_, rfl, _, rfl, k a na⟩
    · refine cast (congrArg (tl _ H) (funext fun _ => funext fun H' => propext ⟨fun q => ⟨_, rfl, q⟩, ?_⟩)) h
      rintro ⟨v, e, q⟩
      cases e
      exact q
end Lm
namespace Lm
open PySem PySem.Spec PyProof.Rows L2
def numIn (m : Int) : PyData → Bool
  | .int n => decide (0 ≤ n) && decide (n < m)
  | _ => false
def wayX (cs : List Int) (m : Int) (k : Str) (x : PyData) : Bool :=
  if k = "padded" ∨ k = "turned" then
    match x with
    | .int n => decide (0 ≤ n) && decide (n ≤ 31)
    | _ => false
  else if k = "listed" then
    match x with
    | .tuple bs => decide ((bs.length : Int) = (boxL cs).1 * (boxL cs).2) && bs.all (numIn m)
    | _ => false
  else false
def wayP (cs : List Int) (m : Int) : PyData → PyData → Bool
  | .str k, x => wayX cs m k x
  | _, _ => false
def isWayD (cs : List Int) (m : Int) : PyData → Bool
  | .tuple [x0, x] => wayP cs m x0 x
  | _ => false
theorem inV_ways (k : Str) : inV (.str k) [.str "padded", .str "turned"] = decide (k = "padded" ∨ k = "turned") := by
  have e1 : eqV (.str "padded") (.str k) = decide (k = "padded") := by
    show (("padded" : Str) == k) = _
    by_cases e : k = "padded"
    · rw [e]; exact (beq_self_eq_true _).trans (decide_eq_true rfl).symm
    · rw [decide_eq_false e]; exact beq_eq_false_iff_ne.mpr (fun z => e z.symm)
  have e2 : eqV (.str "turned") (.str k) = decide (k = "turned") := by
    show (("turned" : Str) == k) = _
    by_cases e : k = "turned"
    · rw [e]; exact (beq_self_eq_true _).trans (decide_eq_true rfl).symm
    · rw [decide_eq_false e]; exact beq_eq_false_iff_ne.mpr (fun z => e z.symm)
  show (eqV (.str "padded") (.str k) || (eqV (.str "turned") (.str k) || false)) = _
  rw [e1, e2, Bool.or_false]
  exact (Bool.decide_or _ _).symm
section
variable {P : Program} {w : World} {K : PySem.W.Frag} {mg : Str → Option Value} {base : Heap}
/-! ### _law_is_way -/
abbrev sIsWay : Stmt := topS 42
def nIsWay : List Str := ["_law_counts_here", "_law_many_here", "_law_item", "_law_tall", "_law_broad", "_law_number"]
theorem scIsWay : FnScope ["_law_counts_here", "_law_many_here", "_law_item", "_law_tall", "_law_broad", "_law_number"] ["_law_counts_here", "_law_many_here", "_law_item"] (defScope sIsWay) := ⟨rfl, rfl, rfl, by decide +kernel, rfl, by decide +kernel, by decide +kernel⟩
def spIsWay : Sp := fun vs H Q _ => ∃ (D : DrA) (c : Addr) (cs : List Int) (m : Int) (v : V) (d : PyData), vs = [.ref c, .int m, v] ∧ H c = some (.tup (cs.map V.int)) ∧ Cnt cs ∧ Da D H v d ∧
  ∀ H', Same H H' → Q (.bl (isWayD cs m d)) H'
theorem ok_isWay {f : Addr} {fd : FuncData} (F : Fun K "_law_is_way" "_law_is_way" sIsWay f fd) (N : Bl mg) (GX : Has P w K mg base CX0 1 "_law_box" ["_law_counts_here"] spBox) (GW : Has P w K mg base CX0 1 "_law_is_whole" ["_law_item"] spNum) :
    FnOk P w K mg base CX0 2 f fd ["_law_counts_here", "_law_many_here", "_law_item"] spIsWay := by
  refine F.ok scIsWay (fun vs H Q E h => ?_) (fun cdv A outer s H vs Q E hr h => ?_)
  · obtain ⟨D, c, cs, m, v, d, rfl, _⟩ := h
    rfl
  · obtain ⟨D, c, cs, m, v, d, rfl, hc, kc, hd, q⟩ := h
    have hu64 : (A.deeper (envOfC "_law_is_way" (defScope sIsWay) s.heap.objs.size f cdv)).units + 64 < cLine := by
      have := hr.un
      omega
    refine ⟨_, pss_cons (ps_if (pw_or (pt_not (pt_val (pe_callB call_isi (by rfl) N.bisi (by decide +kernel) (pa_cons (pv 2) (pa_cons (pe_bltn (v := .ty "tuple") (by rfl) N.btup (by decide +kernel) rfl) pa_nil)))))
          (pw_or (pt_cmpR op_ne (pe_callB call_len_seq (by rfl) N.blen PySem.boot_len (pa_cons (pv 2) pa_nil)) pe_int (nomark _))
          (pw_or1 (pt_not (pt_val (pe_callB call_isi (by rfl) N.bisi (by decide +kernel) (pa_cons (pe_ix ix_tup (pv 2) pe_int (fun _ _ => rfl)) (pa_cons (pe_bltn (v := .ty "str") (by rfl) N.bstr (by decide +kernel) rfl) pa_nil)))))))).pt
        (pss_one (ps_ret pe_bl)) pss_nil)
      (pss_cons (ps_if (pt_cmpR op_in_seq (pe_ix ix_tup (pv 2) pe_int (fun _ _ => rfl)) (pe_tup (pa_cons pe_str (pa_cons pe_str pa_nil))) (by rfl))
        (pss_one (ps_ret (pe_and (pe_h GW hr (by decide) (by rfl) pass0 (pa_cons (pe_ix ix_tup (pv 2) pe_int (fun _ _ => rfl)) pa_nil)) (pe_one (pe_chain op_le op_le pe_int (pe_ix ix_tup (pv 2) pe_int (fun _ _ => rfl)) pe_int))))) pss_nil)
      (pss_cons (ps_asg (pe_h GX hr (by decide) (by rfl) pass0 (pa_cons (pv 0) pa_nil)) (pg_tup rfl (pgs_cons (pg_name (i := 3) scIsWay.nd rfl (.inl rfl)) (pgs_cons (pg_name (i := 4) scIsWay.nd rfl (.inl rfl)) pgs_nil))))
      (pss_cons (ps_if (pw_or (pt_cmpR op_ne (pe_ix ix_tup (pv 2) pe_int (fun _ _ => rfl)) pe_str (nomark _))
          (pw_or (pt_not (pt_val (pe_callB call_isi (by rfl) N.bisi (by decide +kernel) (pa_cons (pe_ix ix_tup (pv 2) pe_int (fun _ _ => rfl)) (pa_cons (pe_bltn (v := .ty "tuple") (by rfl) N.btup (by decide +kernel) rfl) pa_nil)))))
          (pw_or1 (pt_cmpR op_ne (pe_callB call_len_seq (by rfl) N.blen PySem.boot_len (pa_cons (pe_ix ix_tup (pv 2) pe_int (fun _ _ => rfl)) pa_nil)) (pe_op op_mul (pv 3) (pv 4)) (nomark _))))).pt
        (pss_one (ps_ret pe_bl)) pss_nil)
      (pss_one (ps_ret (pe_cmpR (op_eqD hu64) (pe_lc (own := [("_law_number", 5)]) (g := gName 5) rfl scIsWay.nd (pi_tupK K (pe_ix ix_tup (pv 2) pe_int (fun _ _ => rfl)))
          (blkOk_by (own := [("_law_number", 5)]) (N := nIsWay) (sc := defScope sIsWay) (by decide +kernel)) (fun _ _ _ _ _ => pg_name (i := 5) scIsWay.nd rfl (Or.inl rfl))
          (fun _ _ _ _ _ => pts_one (pw_or (pt_not (pt_val (pe_h GW (hr.mono (by decide : 1 ≤ 1)) (by decide) (by rfl) pass0 (pa_cons (pv 5) pa_nil)))) (pw_or (pt_cmpR op_lt (pv 5) pe_int (nomark _)) (pw_or1 (pt_cmpR op_ge (pv 5) (pv 1) (nomark _))))).pt)
          (fun _ _ _ _ _ => pe_int)) (pe_lst pa_nil) (nomark _))))))), ?_⟩
    have done : ∀ {H' : Hp}, Same H H' → isWayD cs m d = false → Q (.bl false) H' := fun s e => by
      have := q _ s
      rwa [e] at this
    refine ⟨v, rfl, v, .ty "tuple", _, _, isTup d, rfl, .ty "tuple", hd.ty, kit_tup K d, isTup d, rfl, ?_⟩
    cases hd with
    | non => exact iteT (iteT (done (fun _ _ z => z) rfl))
    | bl b => exact iteT (iteT (done (fun _ _ z => z) rfl))
    | int i => exact iteT (iteT (done (fun _ _ z => z) rfl))
    | str x => exact iteT (iteT (done (fun _ _ z => z) rfl))
    | lst _ _ _ _ => exact iteT (iteT (done (fun _ _ z => z) rfl))
    | tup h1 n1 n2 ha =>
      rename_i a xs ds
      refine iteF ⟨_, rfl, a, xs, rfl, .inr (SqT.of h1), rfl, _, rfl, ?_⟩
      match ds, xs, ha with
      | [], _, .nil => exact iteT (iteT (done (fun _ _ z => z) rfl))
      | [_], _, .cons _ .nil => exact iteT (iteT (done (fun _ _ z => z) rfl))
      | _ :: _ :: _ :: _, _, .cons _ (.cons _ (.cons (vs := r) _ _)) =>
        refine ite2 (fun _ => iteT (done (fun _ _ z => z) rfl)) (fun e => absurd ?_ e)
        rw [Bool.not_eq_true', decide_eq_false_iff_not]
        intro z
        have z := V.int.inj z
        rw [List.length_cons, List.length_cons, List.length_cons] at z
        omega
      | [d0, d1], _, .cons (v := v0) h0 (.cons (v := v1) hd1 .nil) =>
        refine iteF ⟨_, rfl, a, _, 0, _, rfl, rfl, SqT.of h1, rfl, v0, .ty "str", _, _, isStr d0, rfl, .ty "str", h0.ty, kit_str K d0, isStr d0, rfl, ?_⟩
        cases h0 with
        | non => exact iteT (done (fun _ _ z => z) rfl)
        | bl b => exact iteT (done (fun _ _ z => z) rfl)
        | int i => exact iteT (done (fun _ _ z => z) rfl)
        | lst _ _ _ _ => exact iteT (done (fun _ _ z => z) rfl)
        | tup _ _ _ _ => exact iteT (done (fun _ _ z => z) rfl)
        | str k =>
          refine iteF ⟨_, rfl, a, _, 0, _, rfl, rfl, SqT.of h1, rfl, by show 2 ≤ sizeLine; decide, fun p np => ?_⟩
          have s2 : Same H (upd H p (.tup [.str "padded", .str "turned"])) := same_upd np
          have hp : (upd H p (.tup [.str "padded", .str "turned"])) p = some _ := upd_same
          generalize upd H p (.tup [.str "padded", .str "turned"]) = H2 at *
          have g1 := s2 _ _ h1
          have gd := hd1.fr (Fr.t (.of s2))
          refine ⟨p, _, rfl, .inr (SqT.of hp), rfl, rfl, _, rfl, ?_⟩
          have wy : isWayD cs m (.tuple [.str k, d1]) = wayX cs m k d1 := rfl
          by_cases hk : k = "padded" ∨ k = "turned"
          · refine ite2 (fun _ => ?_) (fun e => absurd ((inV_ways k).trans (decide_eq_true hk)) e)
            refine ⟨_, rfl, a, _, 1, _, rfl, rfl, SqT.of g1, rfl, D, v1, d1, rfl, gd, isNum d1, rfl, ?_⟩
            have no : isNum d1 = false → Q (.bl false) H2 := fun e => done s2 (by
              rw [wy]
              unfold wayX
              rw [if_pos hk]
              cases d1 <;> first | rfl | cases e)
            cases d1 with
            | int n =>
              cases hd1
              refine iteT ⟨_, rfl, a, _, 1, _, rfl, rfl, SqT.of g1, rfl, _, _, rfl, rfl, _, rfl, ?_⟩
              have e := q _ s2
              rw [wy] at e
              unfold wayX at e
              rw [if_pos hk] at e
              have e : Q (.bl (decide (0 ≤ n) && decide (n ≤ 31))) H2 := e
              refine ite2 (fun z => ⟨_, _, rfl, rfl, ?_⟩) (fun z => ?_)
              · rw [z, Bool.true_and] at e
                exact e
              · rw [Bool.not_eq_true] at z
                rw [z, Bool.false_and] at e
                exact e
            | none => exact iteF (no rfl)
            | bool _ => exact iteF (no rfl)
            | str _ => exact iteF (no rfl)
            | list _ => exact iteF (no rfl)
            | tuple _ => exact iteF (no rfl)
            | dict _ => exact iteF (no rfl)
          · refine ite2 (fun e => absurd (of_decide_eq_true ((inV_ways k).symm.trans e)) hk) (fun _ => ?_)
            refine ⟨.ref c, rfl, c, cs, rfl, s2 _ _ hc, kc, fun H3 bp s3 hb => ?_⟩
            refine ⟨bp, _, rfl, SqT.of hb, rfl, _, _, rfl, _, _, rfl, rfl, ?_⟩
            have g3 := s3 _ _ g1
            have gd3 := gd.fr (Fr.t (.of s3))
            have wn : k ≠ "listed" → Q (.bl false) H3 := fun e => done (s2.trans s3) (by
              rw [wy]
              unfold wayX
              rw [if_neg hk, if_neg e])
            have wt : k = "listed" → isTup d1 = false → Q (.bl false) H3 := fun e1 e2 => done (s2.trans s3) (by
              rw [wy]
              unfold wayX
              rw [if_neg hk, if_pos e1]
              cases d1 <;> first | rfl | cases e2)
            refine ⟨_, rfl, a, _, 0, _, rfl, rfl, SqT.of g3, rfl, rfl, _, rfl, ?_⟩
            by_cases hl : k = "listed"
            · refine ite2 (fun e => ?_) (fun _ => ?_)
              · rw [hl, Bool.not_eq_true', decide_eq_false_iff_not] at e
                exact absurd rfl e
              refine ⟨_, rfl, a, _, 1, _, rfl, rfl, SqT.of g3, rfl, v1, .ty "tuple", _, _, isTup d1, rfl, .ty "tuple", gd3.ty, kit_tup K d1, isTup d1, rfl, ?_⟩
              cases gd3 with
              | non => exact iteT (iteT (wt hl rfl))
              | bl _ => exact iteT (iteT (wt hl rfl))
              | int _ => exact iteT (iteT (wt hl rfl))
              | str _ => exact iteT (iteT (wt hl rfl))
              | lst _ _ _ _ => exact iteT (iteT (wt hl rfl))
              | tup hbs m1 m2 hbd =>
                rename_i b ys bs
                have ar := kc.area
                have ll := hbd.length
                refine iteF ⟨_, rfl, a, _, 1, _, rfl, rfl, SqT.of g3, rfl, b, ys, rfl, .inr (SqT.of hbs), _, rfl, _, rfl, _, _, rfl, rfl, .inl (by constructor <;> have := kc.box <;> omega), rfl, _, rfl, ?_⟩
                have wb : ∀ {H' : Hp} {r : Bool}, Same H H' → (decide ((bs.length : Int) = (boxL cs).1 * (boxL cs).2) && bs.all (numIn m)) = r → Q (.bl r) H' := fun s e => by
                  have z := q _ s
                  rw [wy] at z
                  unfold wayX at z
                  rw [if_neg hk, if_pos hl] at z
                  rw [← e]
                  exact z
                by_cases hle : (bs.length : Int) = (boxL cs).1 * (boxL cs).2
                · refine ite2 (fun e => ?_) (fun _ => ?_)
                  · rw [ll, hle, Bool.not_eq_true', decide_eq_false_iff_not] at e
                    exact absurd rfl e
                  refine ⟨_, rfl, a, _, 1, _, rfl, rfl, SqT.of g3, rfl, b, rfl, ⟨_, SqT.of hbs⟩, fun R nR => lc_tup (K := K) (a := b) (xs := ys)
                    (fun i H' => Same H3 H' ∧ H' R = some (.lst ((List.replicate ((bs.take i).filter fun z => !numIn m z).length (1 : Int)).map V.int))) ⟨same_upd nR, upd_same⟩ (fun i H' _ h => SqT.of (h.1 _ _ hbs)) ?_ ?_⟩
                  · rintro i x H' hx ⟨s4, hR⟩
                    obtain ⟨dx, hdx, hx2⟩ := hbd.get hx
                    have hi : i < bs.length := (List.getElem?_eq_some_iff.mp hdx).1
                    have ht : bs.take (i + 1) = bs.take i ++ [dx] := by rw [List.take_add_one, hdx]; rfl
                    have fl : ((bs.take i).filter fun z => !numIn m z).length < 1000 := by
                      have := List.length_filter_le (fun z => !numIn m z) (bs.take i)
                      rw [List.length_take] at this
                      omega
                    have bad : numIn m dx = false → ∃ acc, H' R = some (.lst acc) ∧ acc.length < sizeLine ∧ (Same H3 (upd H' R (.lst (acc ++ [V.int 1]))) ∧ (upd H' R (.lst (acc ++ [V.int 1]))) R = some (.lst ((List.replicate ((bs.take (i + 1)).filter fun z => !numIn m z).length (1 : Int)).map V.int))) := by
                      intro e
                      refine ⟨_, hR, ?_, same_put s4 nR, ?_⟩
                      · rw [List.length_map, List.length_replicate]
                        exact small1000 (by omega)
                      · rw [ht, List.filter_append, List.length_append, upd_same]
                        have : ([dx].filter fun z => !numIn m z) = [dx] := by simp [e]
                        rw [this]
                        show some (HO.lst ((List.replicate _ (1 : Int)).map V.int ++ [V.int 1])) = some (HO.lst ((List.replicate (_ + 1) (1 : Int)).map V.int))
                        rw [List.replicate_succ', List.map_append]
                        rfl
                    have good : numIn m dx = true → (Same H3 H' ∧ H' R = some (.lst ((List.replicate ((bs.take (i + 1)).filter fun z => !numIn m z).length (1 : Int)).map V.int))) := by
                      intro e
                      refine ⟨s4, ?_⟩
                      rw [ht, List.filter_append, List.length_append]
                      have : ([dx].filter fun z => !numIn m z) = [] := by simp [e]
                      rw [this]
                      exact hR
                    refine ⟨rfl, _, rfl, D, x, dx, rfl, hx2.fr (Fr.t (.of s4)), _, rfl, ?_⟩
                    cases dx with
                    | int n =>
                      cases hx2
                      refine iteF ⟨_, rfl, _, _, rfl, rfl, _, rfl, ite2 (fun z => iteT (bad ?_)) (fun z => ⟨_, rfl, _, rfl, _, _, rfl, rfl, _, rfl, ite2 (fun z2 => bad ?_) (fun z2 => good ?_)⟩)⟩
                      · have z := of_decide_eq_true z
                        show (decide (0 ≤ n) && decide (n < m)) = false
                        rw [decide_eq_false (by omega), Bool.false_and]
                      · have z2 := of_decide_eq_true z2
                        show (decide (0 ≤ n) && decide (n < m)) = false
                        rw [decide_eq_false (p := n < m) (by omega), Bool.and_false]
                      · have z : ¬ n < 0 := fun q => z (decide_eq_true q)
                        have z2 : ¬ m ≤ n := fun q => z2 (decide_eq_true q)
                        show (decide (0 ≤ n) && decide (n < m)) = true
                        rw [decide_eq_true (p := 0 ≤ n) (by omega), decide_eq_true (p := n < m) (by omega)]
                        rfl
                    | none => exact iteT (iteT (bad rfl))
                    | bool _ => exact iteT (iteT (bad rfl))
                    | str _ => exact iteT (iteT (bad rfl))
                    | list _ => exact iteT (iteT (bad rfl))
                    | tuple _ => exact iteT (iteT (bad rfl))
                    | dict _ => exact iteT (iteT (bad rfl))
                  · rintro H4 ⟨s4, hR⟩
                    rw [ll, List.take_length] at hR
                    refine ⟨Nat.zero_le _, fun Z nZ => ?_⟩
                    have s5 : Same H4 (upd H4 Z (.lst [])) := same_upd nZ
                    refine ⟨.list ((List.replicate _ (1 : Int)).map .int), .list [], .lst (SqL.of (s5 _ _ hR)) (dp_ints _), .lst (SqL.of upd_same) .nil, shaped_ints _, by decide +kernel, ?_⟩
                    refine wb ((s2.trans s3).trans (s4.trans s5)) ?_
                    rw [decide_eq_true hle, Bool.true_and]
                    cases hn : (bs.filter fun z => !numIn m z).length with
                    | zero =>
                      have e := List.eq_nil_of_length_eq_zero hn
                      rw [List.filter_eq_nil_iff] at e
                      have : bs.all (numIn m) = true := List.all_eq_true.mpr fun x hx => by
                        have := e x hx
                        simpa using this
                      rw [this]
                      rfl
                    | succ n =>
                      have : bs.all (numIn m) = false := by
                        cases h : bs.all (numIn m) with
                        | false => rfl
                        | true =>
                          exfalso
                          rw [List.all_eq_true] at h
                          have : (bs.filter fun z => !numIn m z) = [] := List.filter_eq_nil_iff.mpr fun x hx => by simp [h x hx]
                          rw [this] at hn
                          cases hn
                      rw [this]
                      rfl
                · refine ite2 (fun _ => wb (s2.trans s3) (by rw [decide_eq_false hle, Bool.false_and])) (fun e => absurd ?_ e)
                  rw [Bool.not_eq_true', decide_eq_false_iff_not]
                  intro z
                  have z := V.int.inj z
                  rw [ll] at z
                  exact hle z
            · refine ite2 (fun _ => iteT (wn hl)) (fun e => absurd ?_ e)
              rw [Bool.not_eq_true', decide_eq_false_iff_not]
              exact fun z => hl (V.str.inj z)
end
end Lm
/-! A tuple turned about. -/
namespace Lm
open PySem PySem.Spec PyProof.Rows L2
theorem turned_places (n : Nat) : Builtin.Slice.slicePlaces ((n : Int) - 1) (-1) (-1) = n := by
  unfold Builtin.Slice.slicePlaces
  rw [if_neg (by decide)]
  by_cases c : (n : Int) - 1 > -1
  · rw [if_pos c, show -(-1 : Int) = 1 from rfl, Int.ediv_one]
    omega
  · rw [if_neg c]
    omega
theorem turned_items (l : List Value) : (List.range l.length).filterMap (fun (k : Nat) => l.toArray[(((l.length : Nat) : Int) - 1 + (k : Int) * (-1)).toNat]?) = l.reverse := by
  have key : ∀ m, m ≤ l.length → (List.range m).filterMap (fun (k : Nat) => l.toArray[(((l.length : Nat) : Int) - 1 + (k : Int) * (-1)).toNat]?) = l.reverse.take m := by
    intro m
    induction m with
    | zero => intro _; rfl
    | succ m ih =>
      intro hm
      rw [List.range_succ, List.filterMap_append, ih (by omega), List.take_add_one]
      congr 1
      have e : (((l.length : Nat) : Int) - 1 + (m : Int) * (-1)).toNat = l.length - 1 - m := by omega
      rw [List.getElem?_reverse (by omega)]
      simp only [List.filterMap_cons, List.filterMap_nil, List.getElem?_toArray]
      rw [e]
      cases l[l.length - 1 - m]? <;> rfl
  have := key l.length (Nat.le_refl _)
  rw [this, List.take_of_length_le (by rw [List.length_reverse]; exact Nat.le_refl _)]
section
variable {prog : Program} {w : World} {A : Around} {E : Value → Shared → Prop} {s : Shared}
theorem turned_parts {b : Addr} {x y z : Value} {n : Nat} {Q : Int × Int × Nat → Shared → Prop} (hs : s.heap.IsSliceOf b x y z) (px : IsPart x none) (py : IsPart y none) (pz : IsPart z (some (-1))) (h : Q ((n : Int) - 1, -1, n) s) :
    wpAny (model prog w) A (Builtin.Slice.sliceApplied (.ref b) (pure (n : Int))) Q E s := by
  obtain ⟨o, ho, ho1, hf⟩ := id hs
  unfold Builtin.Slice.sliceApplied Builtin.Slice.sliceFields
  refine wpAny_bind (wpAny_bind (wpAny_field ho hf (x := x) rfl (wpAny_bind (wpAny_field ho hf (x := y) rfl (wpAny_bind (wpAny_field ho hf (x := z) rfl (wpAny_pure ?_)))))))
  refine wpAny_bind (HT.slicePart_ pz ?_)
  show wpAny _ _ (if ((-1 : Int) == 0) = true then _ else _) _ _ s
  rw [if_neg (show ¬ ((-1 : Int) == 0) = true by decide)]
  refine wpAny_bind (HT.slicePart_ px (wpAny_bind (HT.slicePart_ py (wpAny_bind (wpAny_pure ?_)))))
  show wpAny _ _ (pure (((n : Int) - 1), (-1 : Int), Builtin.Slice.slicePlaces ((n : Int) - 1) (-1) (-1))) _ _ s
  rw [turned_places]
  exact wpAny_pure h
theorem turned_get {t b : Addr} {l : List Value} {x y z : Value} {Q : Value → Shared → Prop} (ht : IsTup s.heap t l.toArray) (hs : s.heap.IsSliceOf b x y z) (px : IsPart x none) (py : IsPart y none) (pz : IsPart z (some (-1))) (hz : l.length ≤ sizeLine)
    (h : Q (.ref s.heap.objs.size) { s with heap := s.heap.push { cls := .type "tuple", data := .seq l.reverse.toArray } }) : wpAny (model prog w) A (getItem (.ref t) (.ref b)) Q E s := by
  have fits : sizeOk (.seq l.reverse.toArray) := by
    show l.reverse.toArray.size ≤ sizeLine
    rw [List.size_toArray, List.length_reverse]
    exact hz
  obtain ⟨o, ho, ho1, hf⟩ := id hs
  have kind : s.TypeIs (.ref b) "slice" := ⟨o, ho, ho1⟩
  unfold getItem
  try with_reducible refine wpAny_holding ?_
  first | refine wpAny_bind (wpAny_pure ?_) | skip
  refine wpAny_bind (wpAny_sequenceKey ht.typeIs (by decide) (wpAny_bind (wpAny_callSpecial?_slot (name := Str.ofString "__getitem__") ht.typeIs slot_tuple_getitem (wpAny_call_entry slot_tuple_getitem ht.typeIs entry_tuple_getitem ?_ (args_tuple_getitem _ _)))))
  show wpAny _ _ (Builtin.Tuple.tupleItemsOf (.ref t) >>= _) _ _ s
  refine wpAny_bind (tupleItemsOf_ ht (wpAny_bind (wpAny_typeOf kind ?_)))
  rw [if_pos (by decide)]
  refine wpAny_bind (turned_parts (n := l.toArray.size) hs px py pz ?_)
  have other : ¬ ((((l.toArray.size : Int) - 1) == 0 && (-1 : Int) == 1 && l.toArray.size == l.toArray.size) = true) := by
    rw [show ((-1 : Int) == 1) = false from rfl, Bool.and_false, Bool.false_and]
    exact Bool.false_ne_true
  show wpAny _ _ (if (((l.toArray.size : Int) - 1) == 0 && (-1 : Int) == 1 && l.toArray.size == l.toArray.size) = true then _ else _) _ _ s
  rw [if_neg other, List.size_toArray, turned_items]
  first
    | exact wpAny_bind (m := Builtin.Tuple.tupleExact _) (wpAny_newObj_type (wpAny_pure ⟨_, rfl, wpAny_pure h⟩) fits)
    | exact wpAny_bind (wpAny_bind (m := Builtin.Tuple.tupleExact _) (wpAny_newObj_type (wpAny_pure (wpAny_pure ⟨_, rfl, wpAny_pure h⟩)) fits))
    | exact wpAny_bind (m := Builtin.Tuple.tupleExact _) (wpAny_newObj_type (wpAny_bind (wpAny_pure (wpAny_pure ⟨_, rfl, wpAny_pure h⟩))) fits)
end
def tRevT (K : PySem.W.Frag) (te : TE) : TE := fun σ H Q => te σ H fun x H1 => ∃ a xs, x = .ref a ∧ SqT K H1 a xs ∧ ∀ p, H1 p = none → Q (.ref p) (upd H1 p (.tup xs.reverse))
section
variable {X : Cx}
/-- t[::-1] of a tuple -/
theorem pe_revT {e : Expr} {te : TE} {j : Nat} {q1 q2 q3 pos : Pos} (he : PE X e te) : PE X (.Subscript e (.Slice none none (some (.UnaryOp .USub (.Constant (.int 1) j q1) q2)) q3) pos) (tRevT X.K te) := by
  constructor
  intro pins s σ H Q I h
  refine Subscript_ (thn (he.run pins s σ H _ I h) ?_)
  rintro v s1 ⟨_, H1, I1, r1, a, xs, rfl, hx, q⟩
  cases r1
  have minus : PO X (some (.UnaryOp .USub (.Constant (.int 1) j q1) q2)) (tPart (tUn (rU fun i => .int (-i)) (tC (.int 1)))) := po_some (pe_un un_neg pe_int)
  have left : ∀ {t : Shared}, Inv X pins σ H1 t → wpAny (model X.prog X.w) X.A (evalPart none X.env) (fun u s' => ∃ o H', Inv X pins σ H' s' ∧ IsPart u o ∧ o = none ∧ H' = H1) X.xe t :=
    fun J => po_none.run pins _ σ H1 (fun o H' => o = none ∧ H' = H1) J ⟨rfl, rfl⟩
  refine wpAny_Slice (thn (left I1) ?_)
  rintro ux s2 ⟨_, K2, I2, px, rfl, k2⟩
  rw [k2] at I2
  refine thn (left I2) ?_
  rintro uy s3 ⟨_, K3, I3, py, rfl, k3⟩
  rw [k3] at I3
  refine thn (minus.run pins s3 σ H1 (fun o H' => o = some (-1) ∧ H' = H1) I3 ⟨1, rfl, -1, rfl, rfl, rfl⟩) ?_
  rintro uz s4 ⟨_, K4, I4, pz, rfl, k4⟩
  rw [k4] at I4
  obtain ⟨s5, e5⟩ : ∃ s5 : Shared, s5 = { s4 with heap := s4.heap.push { cls := .type "slice", data := .fields #[ux, uy, uz] } } := ⟨_, rfl⟩
  have I5 : Inv X pins σ H1 s5 := e5 ▸ I4.kept (t' := s4.toks) fun _ _ k => Heap.get?_push_of_some _ k
  have sl5 : s5.heap.IsSliceOf s4.heap.objs.size ux uy uz := e5 ▸ Heap.IsSliceOf.new _ ux uy uz
  obtain ⟨its, rv, ht, hz⟩ := I5.tuple hx
  have hl := rv.length
  have fin : wpAny (model X.prog X.w) X.A (getItem (.ref a) (.ref s4.heap.objs.size)) (EP X pins σ Q) X.xe s5 := by
    refine turned_get ht sl5 px py pz (by omega) ⟨.ref _, _, I5.laid (t' := s5.toks) (o := .tup xs.reverse) (fun _ _ k => Heap.get?_push_of_some _ k) (Nat.le_refl _) ?_, rfl, q _ (I5.hok.fresh (Nat.le_refl _))⟩
    exact ⟨by rw [List.length_reverse]; exact hz, _, rv.reverse, _, Heap.get?_push_size _ rfl, rfl, _, rfl⟩
  rw [← e5]
  exact tail_any (ops := [.ref a, .ref s4.heap.objs.size]) ht.typeIs slot_tuple_getitem.lookup fin (by with_unfolding_all rfl)
end
end Lm
namespace Lm
open PySem PySem.Spec PyProof.Rows L2
/-! ### readings that tell data -/
theorem Da.sm {D : DrA} {H H' : Hp} {v : V} {d : PyData} (h : Da D H v d) (s : Same H H') : Da D H' v d := h.fr (Fr.t (.of s))
theorem DaAll.sm {D : DrA} {H H' : Hp} {v : List V} {d : List PyData} (h : DaAll D H v d) (s : Same H H') : DaAll D H' v d := h.fr (Fr.t (.of s))
theorem DrawAt.sm {D : DrA} {n : Nat} {H H' : Hp} (h : DrawAt D n H) (s : Same H H') : DrawAt D n H' := h.same fun b o e _ => s b o e
theorem small10000 {n : Nat} (h : n ≤ 10000) : n ≤ sizeLine := Nat.le_trans h (by unfold sizeLine; decide)
section
variable {K : PySem.W.Frag} {D : DrA} {n : Nat} {H : Hp} {Q : VK}
theorem tup_da {xs : List V} {ds : List PyData} {p : Addr} (dr : DrawAt D n H) (h : DaAll D H xs ds) (np : H p = none) : Same H (upd H p (.tup xs)) ∧ DrawAt D n (upd H p (.tup xs)) ∧ Da D (upd H p (.tup xs)) (.ref p) (.tuple ds) :=
  ⟨same_upd np, dr.new np, .tup upd_same (dr.off np).1 (dr.off np).2 (h.sm (same_upd np))⟩
theorem lst_da {xs : List V} {ds : List PyData} {p : Addr} (dr : DrawAt D n H) (h : DaAll D H xs ds) (np : H p = none) : Same H (upd H p (.lst xs)) ∧ DrawAt D n (upd H p (.lst xs)) ∧ (upd H p (.lst xs)) p = some (.lst xs) ∧ p ≠ D.d ∧ p ≠ D.w ∧ DaAll D (upd H p (.lst xs)) xs ds :=
  ⟨same_upd np, dr.new np, upd_same, (dr.off np).1, (dr.off np).2, h.sm (same_upd np)⟩
theorem cutV_whole {xs : List V} {lo hi : Option Int} (h : HT.sIx xs.length 0 lo = 0 ∧ HT.sIx xs.length xs.length hi = xs.length) : cutV xs lo hi = xs := by
  unfold cutV
  rw [h.1, h.2, List.drop_zero, Nat.sub_zero, List.take_length]
theorem slA_da {a : Addr} {ds : List PyData} {lo hi : Option Int} (dr : DrawAt D n H) (h : Da D H (.ref a) (.tuple ds)) (q : ∀ (H' : Hp) (p : Addr) (es : List PyData), Same H H' → DrawAt D n H' → es.length ≤ ds.length → Da D H' (.ref p) (.tuple es) → Q (.ref p) H') : rSlA K (.ref a) lo hi H Q := by
  cases h with
  | tup h n1 n2 ha =>
    rename_i xs
    refine ⟨a, xs, rfl, SqT.of h, fun _ => q H a ds (fun _ _ z => z) dr (Nat.le_refl _) (.tup h n1 n2 ha), fun _ p np => ?_⟩
    refine q _ p _ (same_upd np) (dr.new np) ?_ (.tup upd_same (dr.off np).1 (dr.off np).2 (((ha.drop _).take _).sm (same_upd np)))
    rw [List.length_take, List.length_drop]
    omega
theorem catA_da {a b : Addr} {ds es : List PyData} (dr : DrawAt D n H) (h : Da D H (.ref a) (.tuple ds)) (h' : Da D H (.ref b) (.tuple es)) (hl : ds.length + es.length ≤ 10000) (q : ∀ (H' : Hp) (p : Addr), Same H H' → DrawAt D n H' → Da D H' (.ref p) (.tuple (ds ++ es)) → Q (.ref p) H') : rCatA K (.ref a) (.ref b) H Q := by
  have hh := h
  have hh' := h'
  cases h with
  | tup h n1 n2 ha =>
    cases h' with
    | tup h' m1 m2 ha' =>
      rename_i xs ys
      refine ⟨a, b, xs, ys, rfl, rfl, SqT.of h, SqT.of h', small10000 (by rw [ha.length, ha'.length]; exact hl), fun e => ?_, fun _ e => ?_, fun _ _ p np => ?_⟩
      · subst e
        cases ha
        exact q H b (fun _ _ z => z) dr hh'
      · subst e
        cases ha'
        rw [List.append_nil] at q
        exact q H a (fun _ _ z => z) dr hh
      · exact q _ p (same_upd np) (dr.new np) (.tup upd_same (dr.off np).1 (dr.off np).2 ((ha.app ha').sm (same_upd np)))
theorem pick_da {l : Addr} {xs : List V} {ds : List PyData} {E : XK} (dr : DrawAt D n H) (hn : n + 1 ≤ B) (hl : H l = some (.lst xs)) (ld : l ≠ D.d) (lw : l ≠ D.w) (h : DaAll D H xs ds) (h0 : xs ≠ []) (h1 : xs.length < 1073741824)
    (q : ∀ (H' : Hp) (v : V) (d : PyData), DrawAt D (n + 1) H' → Fr D H H' → d ∈ ds → Da D H' v d → Q v H') : spPick [.ref D.d, .ref l] H Q E := by
  refine ⟨D, n, l, xs, rfl, dr, hn, hl, lw, h0, h1, fun H' i v e d' f' => ?_⟩
  obtain ⟨d, h2, h3⟩ := (h.fr f'.t).get e
  exact q H' v d d' f' (List.mem_of_getElem? h2) h3
end
def okD : Nat → PyData → Prop
  | _, .str x => PyData.strOk x = true ∧ x.length ≤ 1000
  | _, .int i => -1000 ≤ i ∧ i ≤ 1000
  | k + 1, .tuple ds => ds.length ≤ 300 ∧ ∀ d ∈ ds, okD k d
  | _, _ => False
theorem okD_str {k : Nat} {x : Str} : okD k (.str x) ↔ PyData.strOk x = true ∧ x.length ≤ 1000 := by cases k <;> exact Iff.rfl
theorem okD_int {k : Nat} {i : Int} : okD k (.int i) ↔ -1000 ≤ i ∧ i ≤ 1000 := by cases k <;> exact Iff.rfl
theorem okD_lay : ∀ (k : Nat) (d : PyData), okD k d → d.canLay0 = true ∧ d.depth ≤ k + 1
  | k, .str x, h => ⟨by rw [PyData.canLay0]; exact (okD_str.mp h).1, by rw [PyData.depth]; omega⟩
  | k, .int i, h => ⟨by rw [PyData.canLay0], by rw [PyData.depth]; omega⟩
  | k + 1, .tuple ds, h => by
    have all : ∀ es : List PyData, (∀ d ∈ es, okD k d) → PyData.canLayAll0 es = true ∧ PyData.depthAll es ≤ k + 1 := by
      intro es
      induction es with
      | nil => intro _; exact ⟨by rw [PyData.canLayAll0], by rw [PyData.depthAll]; omega⟩
      | cons e r ih =>
        intro h
        obtain ⟨a1, a2⟩ := okD_lay k e (h e (List.mem_cons_self ..))
        obtain ⟨b1, b2⟩ := ih fun d hd => h d (List.mem_cons_of_mem _ hd)
        refine ⟨by rw [PyData.canLayAll0, a1, b1]; rfl, ?_⟩
        rw [PyData.depthAll]
        omega
    obtain ⟨a, b⟩ := all ds h.2
    refine ⟨by rw [PyData.canLay0]; exact a, ?_⟩
    rw [PyData.depth]
    omega
  | 0, .tuple ds, h => h.elim
  | 0, .none, h => h.elim
  | 0, .bool _, h => h.elim
  | 0, .list _, h => h.elim
  | 0, .dict _, h => h.elim
  | _ + 1, .none, h => h.elim
  | _ + 1, .bool _, h => h.elim
  | _ + 1, .list _, h => h.elim
  | _ + 1, .dict _, h => h.elim
theorem okD_shaped {k : Nat} {d : PyData} (h : okD k d) (hk : k ≤ 10) : SeqAt.shaped d = true := by
  obtain ⟨a, b⟩ := okD_lay k d h
  unfold SeqAt.shaped
  rw [a, decide_eq_true (by omega)]
  rfl
section
variable {P : Program} {w : World} {K : PySem.W.Frag} {mg : Str → Option Value} {base : Heap}
/-! ### _law_bent -/
abbrev sBent : Stmt := topS 38
theorem scBent : FnScope ["_law_draw", "_law_item", "_law_spot", "_law_some"] ["_law_draw", "_law_item"] (defScope sBent) := ⟨rfl, rfl, rfl, by decide +kernel, rfl, by decide +kernel, by decide +kernel⟩
def spBent (k : Nat) : Sp := fun vs H Q _ => ∃ (D : DrA) (n : Nat) (v : V) (d : PyData), vs = [.ref D.d, v] ∧ Da D H v d ∧ okD k d ∧ DrawAt D n H ∧ n + 3 * (k + 1) ≤ B ∧
  ∀ (H' : Hp) (v' : V) (d' : PyData), Da D H' v' d' → DrawAt D (n + 3 * (k + 1)) H' → Fr D H H' → Q v' H'
def spBentBelow : Nat → Sp
  | 0 => fun _ _ _ _ => False
  | k + 1 => spBent k
theorem ok_bent_no {f : Addr} {fd : FuncData} (F : Fun K "_law_bent" "_law_bent" sBent f fd) (j : Nat) : FnOk P w K mg base CX0 (j + 1) f fd ["_law_draw", "_law_item"] (spBentBelow 0) :=
  F.ok scBent (fun vs H Q E h => h.elim) (fun cdv A outer s H vs Q E hr h => h.elim)
theorem ok_bent {f : Addr} {fd : FuncData} (F : Fun K "_law_bent" "_law_bent" sBent f fd) (N : Bl mg) (k : Nat) (k10 : k ≤ 10) (GT : Has P w K mg base CX0 2 "_law_take" ["_law_draw", "_law_size"] spTake) (GP : Has P w K mg base CX0 3 "_law_pick" ["_law_draw", "_law_some"] spPick)
    (GW : Has P w K mg base CX0 1 "_law_is_whole" ["_law_item"] spNum) (GB : Has P w K mg base CX0 (k + 3) "_law_bent" ["_law_draw", "_law_item"] (spBentBelow k)) :
    FnOk P w K mg base CX0 (k + 4) f fd ["_law_draw", "_law_item"] (spBent k) := by
  refine F.ok scBent (fun vs H Q E h => ?_) (fun cdv A outer s H vs Q E hr h => ?_)
  · obtain ⟨D, n, v, d, rfl, _⟩ := h
    rfl
  · obtain ⟨D, n, v, d, rfl, hd, ok, dr, hn, q⟩ := h
    have hu64 : (A.deeper (envOfC "_law_bent" (defScope sBent) s.heap.objs.size f cdv)).units + 64 < cLine := by
      have := hr.un
      omega
    refine ⟨_, C8.pss_cut (ps_if (pw_and (pt_val (pe_callB call_isi (by rfl) N.bisi (by decide +kernel) (pa_cons (pv 1) (pa_cons (pe_bltn (v := .ty "tuple") (by rfl) N.btup (by decide +kernel) rfl) pa_nil))))
          (pw_and (pt_cmpR (op_neD hu64) (pv 1) (pe_tup pa_nil) (nomark _)) (pw_and1 (pt_cmpR op_gt (pe_h GT hr (by omega) (by rfl) pass0 (pa_cons (pv 0) (pa_cons pe_int pa_nil))) pe_int (nomark _))))).pt
        (pss_cons (ps_set (i := 2) scBent.nd rfl (.inl rfl) (pe_h GT hr (by omega) (by rfl) pass0 (pa_cons (pv 0) (pa_cons (pe_callB call_len_seq (by rfl) N.blen PySem.boot_len (pa_cons (pv 1) pa_nil)) pa_nil))))
        (pss_one (ps_ret (pe_op op_catA (pe_op op_catA (pe_slice sl_tupA (pv 1) po_none (po_some (pv 2))) (pe_tup (pa_cons (pe_h GB hr (by omega) (by rfl) pass0 (pa_cons (pv 0) (pa_cons (pe_ix ix_tup (pv 1) (pv 2) (fun _ _ => rfl)) pa_nil))) pa_nil)))
          (pe_slice sl_tupA (pv 1) (po_some (pe_op op_add (pv 2) pe_int)) po_none))))) pss_nil)
      (pss_cons (ps_if (pt_val (pe_callB call_isi (by rfl) N.bisi (by decide +kernel) (pa_cons (pv 1) (pa_cons (pe_bltn (v := .ty "tuple") (by rfl) N.btup (by decide +kernel) rfl) pa_nil))))
        (pss_cons (ps_set (i := 3) scBent.nd rfl (.inl rfl) (pe_lst (pa_cons (pe_tup pa_nil) (pa_cons pe_non (pa_cons (pe_callTy call_list_of (by rfl) N.blist (by decide +kernel) (pa_cons (pv 1) pa_nil))
          (pa_cons (pe_op op_catA (pv 1) (pe_slice sl_tupA (pv 1) (po_some (pe_un un_neg pe_int)) po_none)) (pa_cons (pe_slice sl_tupA (pv 1) po_none (po_some (pe_un un_neg pe_int))) (pa_cons (pe_revT (pv 1)) (pa_cons (pe_tup (pa_cons (pv 1) pa_nil)) (pa_cons (pe_op op_catA (pv 1) (pe_tup (pa_cons pe_non pa_nil))) pa_nil))))))))))
        (pss_one (ps_ret (pe_h GP hr (by omega) (by rfl) pass0 (pa_cons (pv 0) (pa_cons (pv 3) pa_nil)))))) pss_nil)
      (pss_cons (ps_if (pt_val (pe_callB call_isi (by rfl) N.bisi (by decide +kernel) (pa_cons (pv 1) (pa_cons (pe_bltn (v := .ty "str") (by rfl) N.bstr (by decide +kernel) rfl) pa_nil))))
        (pss_cons (ps_set (i := 3) scBent.nd rfl (.inl rfl) (pe_lst (pa_cons pe_str (pa_cons pe_str (pa_cons pe_str (pa_cons pe_str (pa_cons pe_str (pa_cons pe_str (pa_cons pe_str (pa_cons pe_str (pa_cons pe_str (pa_cons pe_str (pa_cons pe_str (pa_cons pe_str (pa_cons pe_str (pa_cons pe_str (pa_cons pe_str (pa_cons (pv 1) pa_nil))))))))))))))))))
        (pss_one (ps_ret (pe_h GP hr (by omega) (by rfl) pass0 (pa_cons (pv 0) (pa_cons (pe_op op_cat (pv 3) (pe_lst (pa_cons pe_non (pa_cons (pe_op op_add_str (pv 1) pe_str) (pa_cons (pe_slice sl_str (pv 1) (po_some pe_int) po_none) (pa_cons pe_int pa_nil)))))) pa_nil)))))) pss_nil)
      (pss_cons (ps_if (pt_val (pe_h GW hr (by omega) (by rfl) pass0 (pa_cons (pv 1) pa_nil)))
        (pss_one (ps_ret (pe_h GP hr (by omega) (by rfl) pass0 (pa_cons (pv 0) (pa_cons (pe_lst (pa_cons (pe_op op_add (pv 1) pe_int) (pa_cons (pe_op op_sub (pv 1) pe_int) (pa_cons (pe_op op_sub pe_int (pv 1)) (pa_cons pe_bl (pa_cons pe_non
          (pa_cons (pe_callTy call_str_int (by rfl) N.bstr (by decide +kernel) (pa_cons (pv 1) pa_nil)) (pa_cons (pe_op op_add (pv 1) pe_int) (pa_cons (pe_tup (pa_cons (pv 1) pa_nil)) pa_nil))))))))) pa_nil))))) pss_nil)
      (pss_one (ps_ret (pe_h GP hr (by omega) (by rfl) pass0 (pa_cons (pv 0) (pa_cons (pe_lst (pa_cons pe_int (pa_cons pe_str (pa_cons pe_bl (pa_cons pe_bl (pa_cons (pe_tup pa_nil) (pa_cons pe_non (pa_cons pe_str (pa_cons pe_int pa_nil))))))))) pa_nil)))))))), ?_⟩
    have fin : ∀ {H1 : Hp} {m : Nat} {l : Addr} {xs : List V} {ds : List PyData}, m ≤ n + 1 → Fr D H H1 → DrawAt D m H1 → H1 l = some (.lst xs) → l ≠ D.d → l ≠ D.w → DaAll D H1 xs ds → xs ≠ [] → xs.length < 1073741824 → spPick [.ref D.d, .ref l] H1 Q E :=
      fun hm f1 d1 hl ld lw hda x0 x1 => pick_da d1 (by omega) hl ld lw hda x0 x1 fun H' v d d2 f2 _ hv => q H' v d hv (d2.mono (by omega)) (f1.trans f2)
    refine ⟨fun σ H1 => ∃ m, m ≤ n + 1 ∧ σ = [some (.ref D.d), some v, none, none] ∧ DrawAt D m H1 ∧ Fr D H H1, ?_, ?_⟩
    · refine ⟨v, rfl, v, .ty "tuple", _, _, isTup d, rfl, .ty "tuple", hd.ty, kit_tup K d, isTup d, rfl, ?_⟩
      have stay : ∃ m, m ≤ n + 1 ∧ [some (V.ref D.d), some v, none, none] = [some (.ref D.d), some v, none, none] ∧ DrawAt D m H ∧ Fr D H H := ⟨n, by omega, rfl, dr, Fr.refl _ _⟩
      have hd0 := hd
      cases hd with
      | non => exact iteF (iteF stay)
      | bl b => exact iteF (iteF stay)
      | lst _ _ _ _ => exact iteF (iteF stay)
      | int i => exact iteF (iteF stay)
      | str x => exact iteF (iteF stay)
      | tup h1 n1 n2 ha =>
        rename_i a xs ds
        refine iteT ⟨_, rfl, Nat.zero_le _, fun p np => ?_⟩
        obtain ⟨s1, d1, hp⟩ := tup_da dr .nil np
        generalize upd H p (.tup []) = H1 at *
        refine ⟨.tuple ds, .tuple [], (hd0.sm s1).dp, hp.dp, okD_shaped ok k10, by decide +kernel, _, rfl, ?_⟩
        cases ds with
        | nil => exact iteF (iteF ⟨n, by omega, rfl, d1, .of s1⟩)
        | cons e r =>
          refine iteT ⟨_, rfl, D, n, 12, rfl, d1, by omega, by decide, by decide, fun H2 u d2 f2 u0 u1 => ⟨_, _, rfl, rfl, _, rfl, ite2 (fun _ => ?_) (fun _ => ?_)⟩⟩
          · cases k with
            | zero => exact ok.elim
            | succ k =>
            have f12 : Fr D H H2 := (Fr.of s1).trans f2
            have hd2 := hd0.fr f12.t
            have hl := ha.length
            refine ⟨_, rfl, .ref a, rfl, a, xs, rfl, .inr (SqT.of (f12 _ _ h1 n1 n2)), D, n + 1, _, rfl, d2, by omega, ?_, ?_, fun H3 z d3 f3 z0 z1 => ?_⟩
            · rw [hl, List.length_cons]
              omega
            · rw [hl]
              have := ok.1
              omega
            · have f13 := f12.trans f3
              have hd3 := hd0.fr f13.t
              refine ⟨_, rfl, _, rfl, z, rfl, slA_da d3 hd3 fun H4 p4 es4 s4 d4 l4 hp4 => ?_⟩
              have f14 := f13.trans (.of s4)
              obtain ⟨j, rfl⟩ : ∃ j : Nat, z = (j : Int) := ⟨z.toNat, by omega⟩
              have hj : j < xs.length := by omega
              obtain ⟨dj, e1, e2⟩ := (ha.fr f14.t).get (List.getElem?_eq_getElem hj)
              refine ⟨_, rfl, _, rfl, _, rfl, a, xs, _, xs[j], rfl, rfl, SqT.of (f14 _ _ h1 n1 n2), atI_nat (List.getElem?_eq_getElem hj), ?_⟩
              refine ⟨D, n + 2, _, dj, rfl, e2, ok.2 _ (List.mem_of_getElem? e1), d4, by omega, fun H5 v5 d5' hv5 d5 f5 => ?_⟩
              refine ⟨by show 1 ≤ sizeLine; decide, fun p6 np6 => ?_⟩
              obtain ⟨s6, d6, hp6⟩ := tup_da d5 (.cons hv5 .nil) np6
              generalize upd H5 p6 (.tup [v5]) = H6 at *
              have f16 := (f14.trans f5).trans (.of s6)
              have l4' : es4.length ≤ 300 := Nat.le_trans l4 ok.1
              refine catA_da d6 (hp4.fr (f5.trans (.of s6)).t) hp6 (by show es4.length + 1 ≤ 10000; omega) fun H7 p7 s7 d7 hp7 => ?_
              have f17 := f16.trans (.of s7)
              refine ⟨_, rfl, _, rfl, _, _, rfl, rfl, _, rfl, ?_⟩
              simp only [tNoPart]
              refine slA_da d7 (hd0.fr f17.t) fun H8 p8 es8 s8 d8 l8 hp8 => ?_
              refine catA_da d8 (hp7.sm s8) hp8 ?_ fun H9 p9 s9 d9 hp9 => ?_
              · rw [List.length_append]
                have := ok.1
                show es4.length + 1 + es8.length ≤ 10000
                omega
              · exact q H9 _ _ hp9 (d9.mono (by omega)) ((f17.trans (.of s8)).trans (.of s9))
          · exact ⟨n + 1, by omega, rfl, d2, (Fr.of s1).trans f2⟩
    · rintro σ H1 ⟨m, hm, rfl, d1, f1⟩
      have hd1 := hd.fr f1.t
      refine ⟨v, rfl, v, .ty "tuple", _, _, isTup d, rfl, .ty "tuple", hd1.ty, kit_tup K d, isTup d, rfl, ?_⟩
      have hd0 := hd1
      cases hd1 with
      | non => exact absurd ok (by cases k <;> exact id)
      | bl b => exact absurd ok (by cases k <;> exact id)
      | lst _ _ _ _ => exact absurd ok (by cases k <;> exact id)
      | int i =>
        have oi := okD_int.mp ok
        refine iteF ⟨_, rfl, _, .ty "str", _, _, false, rfl, .ty "str", hd0.ty, kit_str K (.int i), false, rfl, iteF ⟨_, rfl, D, _, .int i, rfl, .int i, true, rfl, iteT ?_⟩⟩
        refine ⟨_, rfl, _, rfl, _, _, rfl, rfl, _, rfl, _, _, rfl, rfl, _, rfl, _, _, rfl, rfl, _, rfl, i, rfl, ?_, _, rfl, _, _, rfl, rfl, _, rfl, by show 1 ≤ sizeLine; decide, fun p2 np2 => ?_⟩
        · exact Nat.lt_of_le_of_lt (Nat.log2_le_self _) (by omega)
        · obtain ⟨s2, d2, hp2⟩ := tup_da d1 (.cons (.int i) .nil) np2
          refine ⟨by show 8 ≤ sizeLine; decide, fun p3 np3 => ?_⟩
          obtain ⟨s3, d3, hp3, m1, m2, hall⟩ := lst_da d2 (.cons (.int _) (.cons (.int _) (.cons (.int _) (.cons (.bl _) (.cons .non (.cons (.str _) (.cons (.int _) (.cons hp2 .nil)))))))) np3
          exact fin hm ((f1.trans (.of s2)).trans (.of s3)) d3 hp3 m1 m2 hall (fun z => by cases z) (by show 8 < 1073741824; decide)
      | str x =>
        have ox := okD_str.mp ok
        refine iteF ⟨_, rfl, _, .ty "str", _, _, true, rfl, .ty "str", hd0.ty, kit_str K (.str x), true, rfl, iteT ?_⟩
        refine ⟨_, rfl, by show 16 ≤ sizeLine; decide, fun p2 np2 => ?_⟩
        obtain ⟨s2, d2, hp2, m1, m2, hall⟩ := lst_da d1 (.cons (.str "open") (.cons (.str "part") (.cons (.str "at") (.cons (.str "split") (.cons (.str "ring") (.cons (.str "row") (.cons (.str "and") (.cons (.str "or") (.cons (.str "some") (.cons (.str "all") (.cons (.str "not") (.cons (.str "X") (.cons (.str "a") (.cons (.str "!0.0") (.cons (.str "") (.cons (.str x) .nil)))))))))))))))) np2
        refine ⟨_, rfl, _, rfl, _, rfl, _, _, rfl, rfl, ?_, _, rfl, 1, rfl, ?_⟩
        · show x.length + 1 ≤ sizeLine
          exact small10000 (by omega)
        · simp only [tNoPart]
          refine ⟨x, rfl, small10000 (by omega), by show 4 ≤ sizeLine; decide, fun p3 np3 => ?_⟩
          obtain ⟨s3, d3, hp3, l1, l2, hall2⟩ := lst_da d2 (.cons .non (.cons (.str _) (.cons (.str _) (.cons (.int 0) .nil)))) np3
          refine ⟨_, _, _, _, rfl, rfl, s3 _ _ hp2, hp3, by show 16 + 4 ≤ sizeLine; decide, fun p4 np4 => ?_⟩
          obtain ⟨s4, d4, hp4, k1, k2, hall3⟩ := lst_da d3 ((hall.sm s3).app hall2) np4
          exact fin hm (((f1.trans (.of s2)).trans (.of s3)).trans (.of s4)) d4 hp4 k1 k2 hall3 (fun z => by cases z) (by show 20 < 1073741824; decide)
      | tup h1 n1 n2 ha =>
        rename_i a xs ds
        have hl := ha.length
        have l300 : ds.length ≤ 300 := by
          cases k with
          | zero => exact ok.elim
          | succ k => exact ok.1
        refine iteT ?_
        have sq : ∀ {H2 : Hp}, Fr D H1 H2 → SqT K H2 a xs := fun f => SqT.of (f _ _ h1 n1 n2)
        refine ⟨Nat.zero_le _, fun p2 np2 => ?_⟩
        obtain ⟨s2, d2, hp2⟩ := tup_da d1 .nil np2
        generalize upd H1 p2 (.tup []) = H2 at *
        have f2 : Fr D H1 H2 := .of s2
        refine ⟨_, rfl, a, xs, rfl, .inr (sq f2), fun p3 np3 => ?_⟩
        obtain ⟨s3, d3, hp3, a1, a2, hall3⟩ := lst_da d2 (ha.fr f2.t) np3
        have hq3 : Da D (upd H2 p3 (.lst xs)) (.ref p3) (.list ds) := .lst hp3 a1 a2 hall3
        generalize upd H2 p3 (.lst xs) = H3 at *
        have f3 : Fr D H1 H3 := f2.trans (.of s3)
        refine ⟨_, rfl, _, rfl, 1, rfl, -1, rfl, ?_⟩
        simp only [tNoPart]
        refine slA_da d3 (hd0.fr f3.t) fun H4 p4 es4 s4 d4 l4 hp4 => ?_
        have f4 : Fr D H1 H4 := f3.trans (.of s4)
        refine catA_da d4 (hd0.fr f4.t) hp4 (by omega) fun H5 p5 s5 d5 hp5 => ?_
        have f5 : Fr D H1 H5 := f4.trans (.of s5)
        refine ⟨_, rfl, 1, rfl, -1, rfl, slA_da d5 (hd0.fr f5.t) fun H6 p6 es6 s6 d6 l6 hp6 => ?_⟩
        have f6 : Fr D H1 H6 := f5.trans (.of s6)
        refine ⟨_, rfl, a, xs, rfl, sq f6, fun p7 np7 => ?_⟩
        obtain ⟨s7, d7, hp7⟩ := tup_da d6 (ha.fr f6.t).rev np7
        generalize upd H6 p7 (.tup xs.reverse) = H7 at *
        have f7 : Fr D H1 H7 := f6.trans (.of s7)
        refine ⟨_, rfl, by show 1 ≤ sizeLine; decide, fun p8 np8 => ?_⟩
        obtain ⟨s8, d8, hp8⟩ := tup_da d7 (.cons (hd0.fr f7.t) .nil) np8
        generalize upd H7 p8 (.tup [.ref a]) = H8 at *
        have f8 : Fr D H1 H8 := f7.trans (.of s8)
        refine ⟨_, rfl, by show 1 ≤ sizeLine; decide, fun p9 np9 => ?_⟩
        obtain ⟨s9, d9, hp9⟩ := tup_da d8 (.cons .non .nil) np9
        generalize upd H8 p9 (.tup [.non]) = H9 at *
        have f9 : Fr D H1 H9 := f8.trans (.of s9)
        refine catA_da d9 (hd0.fr f9.t) hp9 (by show ds.length + 1 ≤ 10000; omega) fun H10 p10 s10 d10 hp10 => ?_
        have t9 : Same H8 H10 := s9.trans s10
        have t8 : Same H7 H10 := s8.trans t9
        have t7 : Same H6 H10 := s7.trans t8
        have t6 : Same H5 H10 := s6.trans t7
        have t5 : Same H4 H10 := s5.trans t6
        have t3 : Same H3 H10 := s4.trans t5
        have t2 : Same H2 H10 := s3.trans t3
        refine ⟨by show 8 ≤ sizeLine; decide, fun q1 nq => ?_⟩
        obtain ⟨s11, d11, hq1, b1, b2, hall⟩ := lst_da d10 (.cons (hp2.sm t2) (.cons .non (.cons (hq3.sm t3) (.cons (hp5.sm t6) (.cons (hp6.sm t7) (.cons (hp7.sm t8) (.cons (hp8.sm t9) (.cons hp10 .nil)))))))) nq
        exact ⟨_, rfl, _, rfl, fin hm (f1.trans ((f9.trans (.of s10)).trans (.of s11))) d11 hq1 b1 b2 hall (fun z => by cases z) (by show 8 < 1073741824; decide)⟩
end
end Lm
namespace Lm
open PySem PySem.Spec PyProof.Rows L2
/-! ### what the document calls counts, banks, layings, cells, lots -/
def CntIs (d : PyData) : Prop := ∃ cs : List Int, d = .tuple (cs.map .int) ∧ Cnt cs
def BnkIs (d : PyData) : Prop := ∃ m : Int, d = .int m ∧ 1 ≤ m ∧ m ≤ 32
def CellIs (cs : List Int) (d : PyData) : Prop := ∃ y x : Int, d = .tuple [.int y, .int x] ∧ CellOk cs y x
def cellD (c : Int × Int) : PyData := .tuple [.int c.1, .int c.2]
def LtC (a b : Int × Int) : Prop := a.1 < b.1 ∨ a.1 = b.1 ∧ a.2 < b.2
def LotIs (cs : List Int) (d : PyData) : Prop := ∃ ls : List (Int × Int), d = .tuple (ls.map cellD) ∧ (∀ c ∈ ls, CellOk cs c.1 c.2) ∧ ls.Pairwise LtC
/-! ### what the program promises -/
def spIL (BC BB : Addr) : Sp := fun vs H Q E => ∃ (D : DrA) (v1 v2 v3 : V) (c b t : PyData), vs = [v1, v2, v3] ∧ Da D H v1 c ∧ Da D H v2 b ∧ Da D H v3 t ∧
  ((¬ CntIs c ∧ ∀ H', Same H H' → E (.ref BC) none H') ∨ (CntIs c ∧ ¬ BnkIs b ∧ ∀ H', Same H H' → E (.ref BB) none H') ∨
  ∃ (cs : List Int) (m : Int), c = .tuple (cs.map .int) ∧ Cnt cs ∧ b = .int m ∧ 1 ≤ m ∧ m ≤ 32 ∧ ∀ H', Same H H' → Q (.bl (isWayD cs m t)) H')
def spBO (BC BB BL BE : Addr) : Sp := fun vs H Q E => ∃ (D : DrA) (v1 v2 v3 v4 : V) (c b t e : PyData), vs = [v1, v2, v3, v4] ∧ Da D H v1 c ∧ Da D H v2 b ∧ Da D H v3 t ∧ Da D H v4 e ∧
  ((¬ CntIs c ∧ ∀ H', Same H H' → E (.ref BC) none H') ∨ (CntIs c ∧ ¬ BnkIs b ∧ ∀ H', Same H H' → E (.ref BB) none H') ∨
  ∃ (cs : List Int) (m : Int), c = .tuple (cs.map .int) ∧ Cnt cs ∧ b = .int m ∧ 1 ≤ m ∧ m ≤ 32 ∧
    ((isWayD cs m t = false ∧ ∀ H', Same H H' → E (.ref BL) none H') ∨
    ∃ l : Lay, t = l.dat ∧ l.Ok cs m ∧ ((¬ CellIs cs e ∧ ∀ H', Same H H' → E (.ref BE) none H') ∨
      ∃ y x : Int, e = .tuple [.int y, .int x] ∧ CellOk cs y x ∧ ∀ H', Same H H' → Q (.int (bankL cs m l y x)) H')))
/-- how many items a row of values has -/
def lenD : PyData → Nat
  | .tuple ds => ds.length
  | .list ds => ds.length
  | _ => 0
def spCO (BC BB BL BO : Addr) : Sp := fun vs H Q E => ∃ (D : DrA) (v1 v2 v3 v4 : V) (c b t e : PyData), vs = [v1, v2, v3, v4] ∧ Da D H v1 c ∧ Da D H v2 b ∧ Da D H v3 t ∧ Da D H v4 e ∧ lenD e ≤ 1000 ∧
  ((¬ CntIs c ∧ ∀ H', Same H H' → E (.ref BC) none H') ∨ (CntIs c ∧ ¬ BnkIs b ∧ ∀ H', Same H H' → E (.ref BB) none H') ∨
  ∃ (cs : List Int) (m : Int), c = .tuple (cs.map .int) ∧ Cnt cs ∧ b = .int m ∧ 1 ≤ m ∧ m ≤ 32 ∧
    ((isWayD cs m t = false ∧ ∀ H', Same H H' → E (.ref BL) none H') ∨
    ∃ l : Lay, t = l.dat ∧ l.Ok cs m ∧ ((¬ LotIs cs e ∧ ∀ H', Same H H' → E (.ref BO) none H') ∨
      ∃ ls : List (Int × Int), e = .tuple (ls.map cellD) ∧ (∀ c ∈ ls, CellOk cs c.1 c.2) ∧ ls.Pairwise LtC ∧
        ∀ (H' : Hp) (v : Int), Same H H' → PriceIs (ls.map fun c => bankL cs m l c.1 c.2) v → Q (.int v) H')))
/-! ### cells, ascending -/
theorem cellD_inj {a b : Int × Int} (h : cellD a = cellD b) : a = b := by
  unfold cellD at h
  injection h with h
  injection h with h1 h2
  injection h1 with h1
  injection h2 with h2 _
  injection h2 with h2
  exact Prod.ext h1 h2
theorem map_cellD_inj : ∀ {a b : List (Int × Int)}, a.map cellD = b.map cellD → a = b
  | [], [], _ => rfl
  | _ :: _, _ :: _, h => by
    rw [List.map_cons, List.map_cons] at h
    injection h with h1 h2
    rw [cellD_inj h1, map_cellD_inj h2]
theorem rowL_asc (w y : Nat) : (rowL w y).Pairwise LtC := by
  induction w with
  | zero => exact .nil
  | succ w ih =>
    rw [rowL_succ, List.pairwise_append]
    refine ⟨ih, List.pairwise_singleton _ _, fun a ha b hb => ?_⟩
    rw [List.mem_singleton.mp hb]
    unfold rowL at ha
    obtain ⟨x, hx, rfl⟩ := List.mem_map.mp ha
    have := List.mem_range.mp hx
    exact .inr ⟨rfl, by show (x : Int) < (w : Int); omega⟩
theorem rowL_mem {w y : Nat} {c : Int × Int} (h : c ∈ rowL w y) : c.1 = (y : Int) ∧ 0 ≤ c.2 ∧ c.2 < (w : Int) := by
  unfold rowL at h
  obtain ⟨x, hx, rfl⟩ := List.mem_map.mp h
  have := List.mem_range.mp hx
  exact ⟨rfl, by show 0 ≤ (x : Int); omega, by show (x : Int) < (w : Int); omega⟩
theorem cellsL_mem {h w : Nat} {c : Int × Int} (k : c ∈ cellsL h w) : 0 ≤ c.1 ∧ c.1 < (h : Int) ∧ 0 ≤ c.2 ∧ c.2 < (w : Int) := by
  unfold cellsL at k
  obtain ⟨y, hy, hc⟩ := List.mem_flatMap.mp k
  have := List.mem_range.mp hy
  obtain ⟨a, b, d⟩ := rowL_mem hc
  omega
theorem cellsL_asc (h w : Nat) : (cellsL h w).Pairwise LtC := by
  induction h with
  | zero => exact .nil
  | succ h ih =>
    rw [cellsL_succ, List.pairwise_append]
    refine ⟨ih, rowL_asc w h, fun a ha b hb => ?_⟩
    have h1 := cellsL_mem ha
    have h2 := rowL_mem hb
    exact .inl (by omega)
theorem cellsOf_ok {cs : List Int} (h : Cnt cs) {c : Int × Int} (k : c ∈ cellsOf cs) : CellOk cs c.1 c.2 := by
  have b := h.box
  have := cellsL_mem k
  exact ⟨this.1, by omega, this.2.2.1, by omega⟩
theorem cellsOf_length {cs : List Int} (h : Cnt cs) : (cellsOf cs).length ≤ 256 := by
  have b := h.area
  have b2 := h.box
  unfold cellsOf
  rw [cellsL_length]
  have e : (((boxL cs).1.toNat * (boxL cs).2.toNat : Nat) : Int) = (boxL cs).1 * (boxL cs).2 := by
    rw [Int.natCast_mul, Int.toNat_of_nonneg (by omega), Int.toNat_of_nonneg (by omega)]
  omega
theorem ltC_irrefl (a : Int × Int) : ¬ LtC a a := by
  unfold LtC
  omega
theorem ltC_asymm {a b : Int × Int} (h : LtC a b) : ¬ LtC b a := by
  unfold LtC at *
  omega
/-! ### data and what lies in the heap -/
theorem dat_ints {D : DrA} {H : Hp} {c : Addr} {cs : List Int} (h : Da D H (.ref c) (.tuple (cs.map .int))) : H c = some (.tup (cs.map V.int)) := by
  cases h with
  | tup h _ _ ha =>
    rw [daAll_ints ha] at h
    exact h
theorem dat_cells {D : DrA} {H : Hp} {cs : List Int} : ∀ {ls : List (Int × Int)} {xs : List V}, DaAll D H xs (ls.map cellD) → (∀ c ∈ ls, CellOk cs c.1 c.2) → CellsV cs H xs ls
  | [], _, h, _ => by
    cases h
    exact .nil
  | c :: r, _, h, k => by
    cases h with
    | cons h1 h2 =>
      refine .cons ?_ (dat_cells h2 fun c hc => k c (List.mem_cons_of_mem _ hc))
      cases h1 with
      | tup h1 _ _ ha =>
        cases ha with
        | cons a1 ha =>
          cases a1
          cases ha with
          | cons a2 ha =>
            cases a2
            cases ha
            exact ⟨_, rfl, h1, k c (List.mem_cons_self ..)⟩
theorem cells_dat {D : DrA} {n : Nat} {H : Hp} {cs : List Int} (dr : DrawAt D n H) : ∀ {xs : List V} {ls : List (Int × Int)}, CellsV cs H xs ls → DaAll D H xs (ls.map cellD)
  | _, _, .nil => .nil
  | _, _, .cons ⟨a, e, h1, _⟩ t => by
    subst e
    obtain ⟨ws, gs, r, tt, g1, g2, _⟩ := id dr
    exact .cons (.tup h1 (ne_of h1 g1 (fun z => by cases z)) (ne_of h1 g2 (fun z => by cases z)) (.cons (.int _) (.cons (.int _) .nil))) (cells_dat dr t)
theorem tup_off {D : DrA} {n : Nat} {H : Hp} {a : Addr} {xs : List V} (dr : DrawAt D n H) (h : H a = some (.tup xs)) : a ≠ D.d ∧ a ≠ D.w := by
  obtain ⟨ws, gs, r, tt, g1, g2, _⟩ := id dr
  exact ⟨ne_of h g1 (fun z => by cases z), ne_of h g2 (fun z => by cases z)⟩
/-! ### no lots -/
theorem noLot_one {cs : List Int} {d : PyData} (h : ¬ CellIs cs d) : ¬ LotIs cs (.tuple [d]) := by
  rintro ⟨ls, e, k, _⟩
  injection e with e
  match ls, e with
  | [c], e =>
    injection e with e _
    exact h ⟨c.1, c.2, e, k c (List.mem_cons_self ..)⟩
theorem noCell_of {cs : List Int} {y x : Int} (h : ¬ CellOk cs y x) : ¬ CellIs cs (.tuple [.int y, .int x]) := by
  rintro ⟨y', x', e, k⟩
  injection e with e
  injection e with e1 e
  injection e with e2 _
  injection e1 with e1
  injection e2 with e2
  subst e1 e2
  exact h k
theorem noLot_asc {cs : List Int} {ls : List (Int × Int)} (h : ¬ ls.Pairwise LtC) : ¬ LotIs cs (.tuple (ls.map cellD)) := by
  rintro ⟨ls', e, _, k⟩
  injection e with e
  rw [map_cellD_inj e] at h
  exact h k
end Lm
namespace Lm
open PySem PySem.Spec PyProof.Rows L2
/-- a row of values, each of data that keeps R -/
def Pk (R : PyData → Prop) (D : DrA) (H : Hp) (xs : List V) : Prop := ∃ ds, DaAll D H xs ds ∧ ∀ d ∈ ds, R d
section
variable {R : PyData → Prop} {D : DrA} {n : Nat} {H H' : Hp} {xs : List V} {v : V} {d : PyData} {Q : VK}
theorem Pk.nil : Pk R D H [] := ⟨[], .nil, fun _ z => nomatch z⟩
theorem Pk.add (h : Pk R D H xs) (s : Same H H') (hv : Da D H' v d) (r : R d) : Pk R D H' (xs ++ [v]) := by
  obtain ⟨ds, h1, h2⟩ := h
  refine ⟨ds ++ [d], (h1.sm s).app (.cons hv .nil), fun e he => ?_⟩
  rcases List.mem_append.mp he with he | he
  · exact h2 e he
  · rw [List.mem_singleton.mp he]
    exact r
theorem Pk.sm (h : Pk R D H xs) (s : Same H H') : Pk R D H' xs := by
  obtain ⟨ds, h1, h2⟩ := h
  exact ⟨ds, h1.sm s, h2⟩
theorem Pk.app {ys : List V} (h : Pk R D H xs) (h' : Pk R D H ys) : Pk R D H (xs ++ ys) := by
  obtain ⟨ds, h1, h2⟩ := h
  obtain ⟨es, h3, h4⟩ := h'
  refine ⟨ds ++ es, h1.app h3, fun e he => ?_⟩
  rcases List.mem_append.mp he with he | he
  · exact h2 e he
  · exact h4 e he
theorem pick_P {l : Addr} {E : XK} (dr : DrawAt D n H) (hn : n + 1 ≤ B) (h : Pk R D H xs) (hl : H l = some (.lst xs)) (h0 : xs ≠ []) (h1 : xs.length < 1073741824) (ld : l ≠ D.d) (lw : l ≠ D.w)
    (q : ∀ (H' : Hp) (v : V) (d : PyData), DrawAt D (n + 1) H' → Fr D H H' → R d → Da D H' v d → Q v H') : spPick [.ref D.d, .ref l] H Q E := by
  obtain ⟨ds, h2, h3⟩ := h
  exact pick_da dr hn hl ld lw h2 h0 h1 fun H' v d a b c e => q H' v d a b (h3 d c) e
end
section
variable {P : Program} {w : World} {K : PySem.W.Frag} {mg : Str → Option Value} {base : Heap}
/-! ### _law_wrong_lot -/
abbrev sWrong : Stmt := topS 46
theorem scWrong : FnScope ["_law_draw", "_law_counts_here", "_law_lot_here", "_law_tall", "_law_broad", "_law_some"] ["_law_draw", "_law_counts_here", "_law_lot_here"] (defScope sWrong) := ⟨rfl, rfl, rfl, by decide +kernel, rfl, by decide +kernel, by decide +kernel⟩
def spWrong : Sp := fun vs H Q _ => ∃ (D : DrA) (n : Nat) (c lo : Addr) (cs : List Int) (ls : List (Int × Int)), vs = [.ref D.d, .ref c, .ref lo] ∧ DrawAt D n H ∧ n + 1 ≤ B ∧ Da D H (.ref c) (.tuple (cs.map .int)) ∧ Cnt cs ∧ Da D H (.ref lo) (.tuple (ls.map cellD)) ∧ ls.Pairwise LtC ∧ ls.length ≤ 256 ∧
  ∀ (H' : Hp) (v : V) (d : PyData), Da D H' v d → ¬ LotIs cs d → lenD d ≤ 1000 → DrawAt D (n + 1) H' → Fr D H H' → Q v H'
def NL (cs : List Int) (d : PyData) : Prop := ¬ LotIs cs d ∧ lenD d ≤ 1000
theorem noLot_kind {cs : List Int} {d : PyData} (h : isTup d = false) : ¬ LotIs cs d := by
  rintro ⟨ls, rfl, _⟩
  cases h
theorem noCell_kind {cs : List Int} {d : PyData} (h : isTup d = false) : ¬ CellIs cs d := by
  rintro ⟨y, x, rfl, _⟩
  cases h
theorem ok_wrong {f : Addr} {fd : FuncData} (F : Fun K "_law_wrong_lot" "_law_wrong_lot" sWrong f fd) (N : Bl mg) (GX : Has P w K mg base CX0 1 "_law_box" ["_law_counts_here"] spBox) (GP : Has P w K mg base CX0 3 "_law_pick" ["_law_draw", "_law_some"] spPick) :
    FnOk P w K mg base CX0 4 f fd ["_law_draw", "_law_counts_here", "_law_lot_here"] spWrong := by
  refine F.ok scWrong (fun vs H Q E h => ?_) (fun cdv A outer s H vs Q E hr h => ?_)
  · obtain ⟨D, n, c, lo, cs, ls, rfl, _⟩ := h
    rfl
  · obtain ⟨D, n, c, lo, cs, ls, rfl, dr, hn, hc, kc, hlo, asc, l256, q⟩ := h
    refine ⟨_, pss_cons (ps_asg (pe_h GX hr (by decide) (by rfl) pass0 (pa_cons (pv 1) pa_nil)) (pg_tup rfl (pgs_cons (pg_name (i := 3) scWrong.nd rfl (.inl rfl)) (pgs_cons (pg_name (i := 4) scWrong.nd rfl (.inl rfl)) pgs_nil))))
      (pss_cons (ps_set (i := 5) scWrong.nd rfl (.inl rfl) (pe_lst (pa_cons pe_non (pa_cons (pe_callTy call_list_of (by rfl) N.blist (by decide +kernel) (pa_cons (pv 2) pa_nil)) (pa_cons (pe_tup (pa_cons (pe_tup (pa_cons pe_int (pa_cons (pv 4) pa_nil))) pa_nil)) (pa_cons (pe_tup (pa_cons (pe_tup (pa_cons (pv 3) (pa_cons pe_int pa_nil))) pa_nil)) (pa_cons (pe_tup (pa_cons (pe_tup (pa_cons (pe_un un_neg pe_int) (pa_cons pe_int pa_nil))) pa_nil)) (pa_cons (pe_tup (pa_cons (pe_tup (pa_cons pe_int (pa_cons pe_int pa_nil))) (pa_cons (pe_tup (pa_cons pe_int (pa_cons pe_int pa_nil))) pa_nil))) (pa_cons (pe_tup (pa_cons (pe_tup (pa_cons pe_int pa_nil)) pa_nil)) (pa_cons (pe_tup (pa_cons pe_int pa_nil)) (pa_cons (pe_tup (pa_cons (pe_lst (pa_cons pe_int (pa_cons pe_int pa_nil))) pa_nil)) (pa_cons (pe_tup (pa_cons (pe_tup (pa_cons pe_bl (pa_cons pe_int pa_nil))) pa_nil)) (pa_cons (pe_tup (pa_cons (pe_tup (pa_cons pe_int (pa_cons pe_bl pa_nil))) pa_nil)) pa_nil)))))))))))))
      (C8.pss_cut (ps_if (pt_cmpR op_gt (pe_callB call_len_seq (by rfl) N.blen PySem.boot_len (pa_cons (pv 2) pa_nil)) pe_int (nomark _))
        (pss_one (ps_set (i := 5) scWrong.nd rfl (.inl rfl) (pe_op op_cat (pv 5) (pe_lst (pa_cons (pe_revT (pv 2)) (pa_cons (pe_op op_catA (pv 2) (pe_slice sl_tupA (pv 2) po_none (po_some pe_int))) pa_nil)))))) pss_nil)
      (pss_one (ps_ret (pe_h GP hr (by decide) (by rfl) pass0 (pa_cons (pv 0) (pa_cons (pv 5) pa_nil))))))), ?_⟩
    have bx := kc.box
    refine ⟨.ref c, rfl, c, cs, rfl, dat_ints hc, kc, fun H1 bp s1 hb => ?_⟩
    refine ⟨bp, _, rfl, SqT.of hb, rfl, _, _, rfl, _, _, rfl, rfl, ?_⟩
    have d1 := dr.sm s1
    have hlo1 := hlo.sm s1
    have k1 : Pk (NL cs) D H1 [.non] := Pk.nil.add (fun _ _ z => z) .non ⟨noLot_kind rfl, Nat.zero_le _⟩
    have hx1 : ∃ xs, H1 lo = some (.tup xs) ∧ DaAll D H1 xs (ls.map cellD) := by
      cases hlo1 with
      | tup h _ _ ha => exact ⟨_, h, ha⟩
    obtain ⟨xs, hx1, hxa⟩ := hx1
    refine ⟨_, rfl, lo, xs, rfl, .inr (SqT.of hx1), fun p2 np2 => ?_⟩
    obtain ⟨s2, d2, e2, o2, w2, g2⟩ := lst_da d1 hxa np2
    have h2 : Da D _ (.ref p2) (.list _) := .lst e2 o2 w2 g2
    generalize upd H1 p2 (.lst xs) = H2 at *
    have k2 := k1.add s2 h2 ⟨noLot_kind rfl, by show (ls.map cellD).length ≤ 1000; rw [List.length_map]; omega⟩
    have hlo2 := hlo1.sm s2
    refine ⟨_, rfl, ?_⟩
    refine ⟨by show 2 ≤ sizeLine; decide, fun p3 np3 => ?_⟩
    obtain ⟨s3, d3, h3⟩ := tup_da d2 (.cons (.int 0) (.cons (.int _) .nil)) np3
    generalize upd H2 p3 (.tup [.int 0, .int (boxL cs).2]) = H3 at *
    have k3 := k2.sm s3
    have hlo3 := hlo2.sm s3
    refine ⟨by show 1 ≤ sizeLine; decide, fun p4 np4 => ?_⟩
    obtain ⟨s4, d4, h4⟩ := tup_da d3 (.cons h3 .nil) np4
    generalize upd H3 p4 (.tup [.ref p3]) = H4 at *
    have k4 := k3.sm s4
    have hlo4 := hlo3.sm s4
    have k4 := k4.add (fun _ _ z => z) h4 ⟨(noLot_one (noCell_of (fun z => by unfold CellOk at z; omega))), Nat.le_of_ble_eq_true rfl⟩
    refine ⟨_, rfl, ?_⟩
    refine ⟨by show 2 ≤ sizeLine; decide, fun p5 np5 => ?_⟩
    obtain ⟨s5, d5, h5⟩ := tup_da d4 (.cons (.int _) (.cons (.int 0) .nil)) np5
    generalize upd H4 p5 (.tup [.int (boxL cs).1, .int 0]) = H5 at *
    have k5 := k4.sm s5
    have hlo5 := hlo4.sm s5
    refine ⟨by show 1 ≤ sizeLine; decide, fun p6 np6 => ?_⟩
    obtain ⟨s6, d6, h6⟩ := tup_da d5 (.cons h5 .nil) np6
    generalize upd H5 p6 (.tup [.ref p5]) = H6 at *
    have k6 := k5.sm s6
    have hlo6 := hlo5.sm s6
    have k6 := k6.add (fun _ _ z => z) h6 ⟨(noLot_one (noCell_of (fun z => by unfold CellOk at z; omega))), Nat.le_of_ble_eq_true rfl⟩
    refine ⟨1, rfl, ?_⟩
    refine ⟨by show 2 ≤ sizeLine; decide, fun p7 np7 => ?_⟩
    obtain ⟨s7, d7, h7⟩ := tup_da d6 (.cons (.int (-1)) (.cons (.int 0) .nil)) np7
    generalize upd H6 p7 (.tup [.int (-1), .int 0]) = H7 at *
    have k7 := k6.sm s7
    have hlo7 := hlo6.sm s7
    refine ⟨by show 1 ≤ sizeLine; decide, fun p8 np8 => ?_⟩
    obtain ⟨s8, d8, h8⟩ := tup_da d7 (.cons h7 .nil) np8
    generalize upd H7 p8 (.tup [.ref p7]) = H8 at *
    have k8 := k7.sm s8
    have hlo8 := hlo7.sm s8
    have k8 := k8.add (fun _ _ z => z) h8 ⟨(noLot_one (noCell_of (fun z => by unfold CellOk at z; omega))), Nat.le_of_ble_eq_true rfl⟩
    refine ⟨by show 2 ≤ sizeLine; decide, fun p9 np9 => ?_⟩
    obtain ⟨s9, d9, h9⟩ := tup_da d8 (.cons (.int 0) (.cons (.int 0) .nil)) np9
    generalize upd H8 p9 (.tup [.int 0, .int 0]) = H9 at *
    have k9 := k8.sm s9
    have hlo9 := hlo8.sm s9
    refine ⟨by show 2 ≤ sizeLine; decide, fun p10 np10 => ?_⟩
    obtain ⟨s10, d10, h10⟩ := tup_da d9 (.cons (.int 0) (.cons (.int 0) .nil)) np10
    generalize upd H9 p10 (.tup [.int 0, .int 0]) = H10 at *
    have k10 := k9.sm s10
    have hlo10 := hlo9.sm s10
    refine ⟨by show 2 ≤ sizeLine; decide, fun p11 np11 => ?_⟩
    obtain ⟨s11, d11, h11⟩ := tup_da d10 (.cons (h9.sm s10) (.cons h10 .nil)) np11
    generalize upd H10 p11 (.tup [.ref p9, .ref p10]) = H11 at *
    have k11 := k10.sm s11
    have hlo11 := hlo10.sm s11
    have k11 := k11.add (fun _ _ z => z) h11 ⟨(noLot_asc (ls := [(0, 0), (0, 0)]) (fun z => by rw [List.pairwise_cons] at z; exact ltC_irrefl _ (z.1 (0, 0) (List.mem_cons_self ..)))), Nat.le_of_ble_eq_true rfl⟩
    refine ⟨by show 1 ≤ sizeLine; decide, fun p12 np12 => ?_⟩
    obtain ⟨s12, d12, h12⟩ := tup_da d11 (.cons (.int 0) .nil) np12
    generalize upd H11 p12 (.tup [.int 0]) = H12 at *
    have k12 := k11.sm s12
    have hlo12 := hlo11.sm s12
    refine ⟨by show 1 ≤ sizeLine; decide, fun p13 np13 => ?_⟩
    obtain ⟨s13, d13, h13⟩ := tup_da d12 (.cons h12 .nil) np13
    generalize upd H12 p13 (.tup [.ref p12]) = H13 at *
    have k13 := k12.sm s13
    have hlo13 := hlo12.sm s13
    have k13 := k13.add (fun _ _ z => z) h13 ⟨(noLot_one (by rintro ⟨y, x, e, _⟩; cases e)), Nat.le_of_ble_eq_true rfl⟩
    refine ⟨by show 1 ≤ sizeLine; decide, fun p14 np14 => ?_⟩
    obtain ⟨s14, d14, h14⟩ := tup_da d13 (.cons (.int 0) .nil) np14
    generalize upd H13 p14 (.tup [.int 0]) = H14 at *
    have k14 := k13.sm s14
    have hlo14 := hlo13.sm s14
    have k14 := k14.add (fun _ _ z => z) h14 ⟨(noLot_one (noCell_kind rfl)), Nat.le_of_ble_eq_true rfl⟩
    refine ⟨by show 2 ≤ sizeLine; decide, fun p15 np15 => ?_⟩
    obtain ⟨s15, d15, e15, o15, w15, g15⟩ := lst_da d14 (.cons (.int 0) (.cons (.int 0) .nil)) np15
    have h15 : Da D _ (.ref p15) (.list _) := .lst e15 o15 w15 g15
    generalize upd H14 p15 (.lst [.int 0, .int 0]) = H15 at *
    have k15 := k14.sm s15
    have hlo15 := hlo14.sm s15
    refine ⟨by show 1 ≤ sizeLine; decide, fun p16 np16 => ?_⟩
    obtain ⟨s16, d16, h16⟩ := tup_da d15 (.cons h15 .nil) np16
    generalize upd H15 p16 (.tup [.ref p15]) = H16 at *
    have k16 := k15.sm s16
    have hlo16 := hlo15.sm s16
    have k16 := k16.add (fun _ _ z => z) h16 ⟨(noLot_one (noCell_kind rfl)), Nat.le_of_ble_eq_true rfl⟩
    refine ⟨by show 2 ≤ sizeLine; decide, fun p17 np17 => ?_⟩
    obtain ⟨s17, d17, h17⟩ := tup_da d16 (.cons (.bl true) (.cons (.int 0) .nil)) np17
    generalize upd H16 p17 (.tup [.bl true, .int 0]) = H17 at *
    have k17 := k16.sm s17
    have hlo17 := hlo16.sm s17
    refine ⟨by show 1 ≤ sizeLine; decide, fun p18 np18 => ?_⟩
    obtain ⟨s18, d18, h18⟩ := tup_da d17 (.cons h17 .nil) np18
    generalize upd H17 p18 (.tup [.ref p17]) = H18 at *
    have k18 := k17.sm s18
    have hlo18 := hlo17.sm s18
    have k18 := k18.add (fun _ _ z => z) h18 ⟨(noLot_one (by rintro ⟨y, x, e, _⟩; cases e)), Nat.le_of_ble_eq_true rfl⟩
    refine ⟨by show 2 ≤ sizeLine; decide, fun p19 np19 => ?_⟩
    obtain ⟨s19, d19, h19⟩ := tup_da d18 (.cons (.int 0) (.cons (.bl false) .nil)) np19
    generalize upd H18 p19 (.tup [.int 0, .bl false]) = H19 at *
    have k19 := k18.sm s19
    have hlo19 := hlo18.sm s19
    refine ⟨by show 1 ≤ sizeLine; decide, fun p20 np20 => ?_⟩
    obtain ⟨s20, d20, h20⟩ := tup_da d19 (.cons h19 .nil) np20
    generalize upd H19 p20 (.tup [.ref p19]) = H20 at *
    have k20 := k19.sm s20
    have hlo20 := hlo19.sm s20
    have k20 := k20.add (fun _ _ z => z) h20 ⟨(noLot_one (by rintro ⟨y, x, e, _⟩; cases e)), Nat.le_of_ble_eq_true rfl⟩
    refine ⟨by show 11 ≤ sizeLine; decide, fun pl npl => ?_⟩
    have kf : Pk (NL cs) D H20 [.non, .ref p2, .ref p4, .ref p6, .ref p8, .ref p11, .ref p13, .ref p14, .ref p16, .ref p18, .ref p20] := k20
    have klen : ([.non, .ref p2, .ref p4, .ref p6, .ref p8, .ref p11, .ref p13, .ref p14, .ref p16, .ref p18, .ref p20] : List V).length = 11 := rfl
    have kne : ([.non, .ref p2, .ref p4, .ref p6, .ref p8, .ref p11, .ref p13, .ref p14, .ref p16, .ref p18, .ref p20] : List V) ≠ [] := fun z => by cases z
    generalize ([.non, .ref p2, .ref p4, .ref p6, .ref p8, .ref p11, .ref p13, .ref p14, .ref p16, .ref p18, .ref p20] : List V) = row at *
    obtain ⟨rs, ra, rn⟩ := kf
    obtain ⟨sl, dl, el, ol, wl, gl⟩ := lst_da d20 ra npl
    generalize upd H20 pl (.lst row) = HL at *
    have hlo21 := hlo20.sm sl
    have f21 : Fr D H HL := Fr.of ((s1.trans (s2.trans (s3.trans (s4.trans (s5.trans (s6.trans (s7.trans (s8.trans (s9.trans (s10.trans (s11.trans (s12.trans (s13.trans (s14.trans (s15.trans (s16.trans (s17.trans (s18.trans (s19.trans (s20)))))))))))))))))))).trans sl)
    refine ⟨fun σ H' => ∃ l ys, σ = [some (.ref D.d), some (.ref c), some (.ref lo), some (.int (boxL cs).1), some (.int (boxL cs).2), some (.ref l)] ∧ DrawAt D n H' ∧ Fr D H H' ∧ H' l = some (.lst ys) ∧ l ≠ D.d ∧ l ≠ D.w ∧ Pk (NL cs) D H' ys ∧ ys ≠ [] ∧ ys.length < 100, ?_, ?_⟩
    · have s1L : Same H1 HL := s2.trans (s3.trans (s4.trans (s5.trans (s6.trans (s7.trans (s8.trans (s9.trans (s10.trans (s11.trans (s12.trans (s13.trans (s14.trans (s15.trans (s16.trans (s17.trans (s18.trans (s19.trans (s20.trans (sl)))))))))))))))))))
      have hx := s1L _ _ hx1
      have hxd := hxa.sm s1L
      have hxl := hxd.length
      rw [List.length_map] at hxl
      refine ⟨_, rfl, lo, xs, rfl, .inr (SqT.of hx), _, _, rfl, rfl, _, rfl, ite2 (fun e => ?_) (fun _ => ?_)⟩
      · have l2 : 1 < ls.length := by
          have := of_decide_eq_true e
          omega
        obtain ⟨a, b, r, rfl⟩ : ∃ a b r, ls = a :: b :: r := by
          match ls, l2 with
          | a :: b :: r, _ => exact ⟨a, b, r, rfl⟩
        have lab : LtC a b := (List.pairwise_cons.mp asc).1 b (List.mem_cons_self ..)
        have n1 : NL cs (.tuple (((a :: b :: r).map cellD).reverse)) := by
          refine ⟨?_, by show (((a :: b :: r).map cellD).reverse).length ≤ 1000; rw [List.length_reverse, List.length_map]; omega⟩
          rw [← List.map_reverse]
          refine noLot_asc fun z => ?_
          rw [List.pairwise_reverse] at z
          exact ltC_asymm lab ((List.pairwise_cons.mp z).1 b (List.mem_cons_self ..))
        have n2 : NL cs (.tuple ((a :: b :: r).map cellD ++ ((a :: b :: r).map cellD).take 1)) := by
          refine ⟨?_, by show ((a :: b :: r).map cellD ++ ((a :: b :: r).map cellD).take 1).length ≤ 1000; rw [List.length_append, List.length_take, List.length_map]; omega⟩
          rw [← List.map_take, ← List.map_append]
          refine noLot_asc fun z => ?_
          have z2 := (List.pairwise_append.mp z).2.2 b (List.mem_cons_of_mem _ (List.mem_cons_self ..)) a (List.mem_cons_self ..)
          exact ltC_asymm lab z2
        refine ⟨_, rfl, _, rfl, lo, xs, rfl, SqT.of hx, fun q1 nq1 => ?_⟩
        obtain ⟨t1, e1, g1⟩ := tup_da dl hxd.rev nq1
        generalize upd HL q1 (.tup xs.reverse) = M1 at *
        have whole : ¬ (HT.sIx xs.length 0 none = 0 ∧ HT.sIx xs.length xs.length (some 1) = xs.length) := by
          rintro ⟨_, z⟩
          rw [show (1 : Int) = ((1 : Nat) : Int) from rfl, HT.sIx_nat] at z
          omega
        have cut : cutV xs none (some 1) = xs.take 1 := by
          unfold cutV
          rw [HT.sIx_none, show (1 : Int) = ((1 : Nat) : Int) from rfl, HT.sIx_nat, List.drop_zero, Nat.sub_zero, Nat.min_eq_left (by omega)]
        refine ⟨_, rfl, _, rfl, 1, rfl, lo, xs, rfl, SqT.of (t1 _ _ hx), fun z => (whole z).elim, fun _ q2 nq2 => ?_⟩
        rw [cut] at *
        obtain ⟨t2, e2, g2⟩ := tup_da e1 ((hxd.sm t1).take 1) nq2
        generalize upd M1 q2 (.tup (xs.take 1)) = M2 at *
        refine catA_da e2 ((hlo21.sm t1).sm t2) g2 ?_ fun M3 q3 t3 e3 g3 => ?_
        · rw [List.length_take, List.length_map]
          omega
        refine ⟨by show 2 ≤ sizeLine; decide, fun q4 nq4 => ?_⟩
        have kp2 : Pk (NL cs) D M3 [.ref q1, .ref q3] := (Pk.nil.add (t2.trans t3) (g1.sm (t2.trans t3)) n1).add (fun _ _ z => z) g3 n2
        obtain ⟨es, ea, en⟩ := kp2
        obtain ⟨t4, e4, b4, _, _, g4⟩ := lst_da e3 ea nq4
        generalize upd M3 q4 (.lst [.ref q1, .ref q3]) = M4 at *
        have tL : Same HL M4 := t1.trans (t2.trans (t3.trans t4))
        refine ⟨pl, q4, row, [.ref q1, .ref q3], rfl, rfl, tL _ _ el, b4, small10000 (by show row.length + 2 ≤ 10000; omega), fun q5 nq5 => ?_⟩
        obtain ⟨t5, e5, b5, o5, w5, g5⟩ := lst_da e4 ((gl.sm tL).app g4) nq5
        refine ⟨q5, _, rfl, e5, f21.trans ((Fr.of tL).trans (.of t5)), b5, o5, w5, ⟨_, g5, fun d hd => ?_⟩, fun z => ?_, ?_⟩
        · rcases List.mem_append.mp hd with hd | hd
          · exact rn d hd
          · exact en d hd
        · have := congrArg List.length z
          rw [List.length_append, klen] at this
          cases this
        · rw [List.length_append, klen]
          show 11 + 2 < 100
          decide
      · exact ⟨pl, row, rfl, dl, f21, el, ol, wl, ⟨rs, gl, rn⟩, kne, by rw [klen]; decide⟩
    · rintro σ H' ⟨l, ys, rfl, d', f', hl, l1, l2, kp, y0, y1⟩
      exact ⟨_, rfl, _, rfl, pick_P (E := E) d' hn kp hl y0 (by omega) l1 l2 fun H2 v d d2 f2 r hv => q H2 v d hv r.1 r.2 d2 (f'.trans f2)⟩
end
end Lm
namespace Lm
open PySem PySem.Spec PyProof.Rows L2
/-! ### when a price is 1 -/
theorem cntL_count (bs : List Int) (b : Int) : cntL bs b = ((bs.count b : Nat) : Int) := by
  unfold cntL
  rw [List.count_eq_countP, List.countP_eq_length_filter]
  congr 1
theorem price_one {bs : List Int} {v : Int} (h : PriceIs bs v) : v = 1 ↔ bs ≠ [] ∧ bs.Nodup := by
  constructor
  · rintro rfl
    constructor
    · rintro rfl
      have := h.1
      simp at this
    · rw [List.nodup_iff_count]
      intro a
      by_cases ha : a ∈ bs
      · have := h.2 (cntL bs a) (List.mem_cons_of_mem _ (List.mem_map.mpr ⟨a, ha, rfl⟩))
        rw [cntL_count] at this
        omega
      · rw [List.count_eq_zero_of_not_mem ha]
        omega
  · rintro ⟨h0, h1⟩
    rw [List.nodup_iff_count] at h1
    have one : ∀ a ∈ bs, cntL bs a = 1 := fun a ha => by
      have := List.count_pos_iff.mpr ha
      have := h1 a
      rw [cntL_count]
      omega
    have le : v ≤ 1 := by
      rcases List.mem_cons.mp h.1 with e | e
      · omega
      · obtain ⟨a, ha, e⟩ := List.mem_map.mp e
        rw [one a ha] at e
        omega
    obtain ⟨a, r, e⟩ : ∃ a r, bs = a :: r := by
      cases bs with
      | nil => exact absurd rfl h0
      | cons a r => exact ⟨a, r, rfl⟩
    have ha : a ∈ bs := by rw [e]; exact List.mem_cons_self ..
    have := h.2 (cntL bs a) (List.mem_cons_of_mem _ (List.mem_map.mpr ⟨a, ha, rfl⟩))
    rw [one a ha] at this
    omega
theorem price_nil {v : Int} (h : PriceIs [] v) : v = 0 := by
  have := h.1
  simpa using this
/-! ### when a line is free -/
theorem dvd_part {d k m : Nat} (hm : 0 < m) : m ∣ d * k ↔ m / Nat.gcd k m ∣ d := by
  have hg : 0 < Nat.gcd k m := Nat.gcd_pos_of_pos_right k hm
  obtain ⟨m', hm'⟩ := Nat.gcd_dvd_right k m
  obtain ⟨k', hk'⟩ := Nat.gcd_dvd_left k m
  have co : Nat.Coprime (m / Nat.gcd k m) (k / Nat.gcd k m) := by
    have := Nat.coprime_div_gcd_div_gcd hg
    exact this.symm
  have em : m / Nat.gcd k m = m' := by
    rw [Nat.div_eq_iff_eq_mul_left hg (Nat.gcd_dvd_right k m), Nat.mul_comm]
    exact hm'
  have ek : k / Nat.gcd k m = k' := by
    rw [Nat.div_eq_iff_eq_mul_left hg (Nat.gcd_dvd_left k m), Nat.mul_comm]
    exact hk'
  rw [em, ek] at co
  rw [em]
  generalize Nat.gcd k m = g at *
  subst hm' hk'
  constructor
  · intro h
    have : g * m' ∣ g * (d * k') := by rw [Nat.mul_left_comm]; exact h
    exact co.dvd_of_dvd_mul_right (Nat.dvd_of_mul_dvd_mul_left hg this)
  · rintro ⟨e, rfl⟩
    exact ⟨e * k', by ac_rfl⟩
theorem line_same {i j k c m : Nat} (hij : i ≤ j) (hm : 0 < m) : (((j : Int) * k + c) % m = ((i : Int) * k + c) % m) ↔ m / Nat.gcd k m ∣ j - i := by
  rw [Int.emod_eq_emod_iff_emod_sub_eq_zero, ← dvd_part hm]
  have e : (j : Int) * k + c - ((i : Int) * k + c) = (((j - i) * k : Nat) : Int) := by
    rw [Int.natCast_mul, Int.natCast_sub hij, Int.sub_mul]
    omega
  rw [e, ← Int.natCast_emod]
  constructor
  · intro h
    exact Nat.dvd_of_mod_eq_zero (by omega)
  · intro h
    have := Nat.mod_eq_zero_of_dvd h
    omega
theorem line_free {t k c m : Nat} (ht : 0 < t) (hm : 0 < m) : ((List.range t).map fun (i : Nat) => ((i : Int) * k + c) % m).Nodup ↔ t ≤ m / Nat.gcd k m := by
  have hp : 0 < m / Nat.gcd k m := Nat.div_pos (Nat.le_of_dvd hm (Nat.gcd_dvd_right k m)) (Nat.gcd_pos_of_pos_right k hm)
  constructor
  · intro h
    refine Classical.byContradiction fun n => ?_
    have n : m / Nat.gcd k m < t := by omega
    unfold List.Nodup at h
    rw [List.pairwise_iff_getElem] at h
    have := h 0 (m / Nat.gcd k m) (by simpa using ht) (by simpa using n) hp
    rw [List.getElem_map, List.getElem_map, List.getElem_range, List.getElem_range] at this
    exact this ((line_same (Nat.zero_le _) hm).mpr (by rw [Nat.sub_zero]; exact Nat.dvd_refl _)).symm
  · intro h
    unfold List.Nodup
    rw [List.pairwise_iff_getElem]
    intro i j hi hj hij e
    rw [List.getElem_map, List.getElem_map, List.getElem_range, List.getElem_range] at e
    have hj' : j < t := by simpa using hj
    have := Nat.le_of_dvd (by omega) ((line_same (Nat.le_of_lt hij) hm).mp e.symm)
    omega
/-! ### banks -/
theorem bankL_range {cs : List Int} {m : Int} {l : Lay} {y x : Int} (k : Cnt cs) (hm : 1 ≤ m) (lo : l.Ok cs m) (h : CellOk cs y x) : 0 ≤ bankL cs m l y x ∧ bankL cs m l y x < m := by
  cases l with
  | pad n => exact ⟨Int.emod_nonneg _ (by omega), Int.emod_lt_of_pos _ (by omega)⟩
  | trn n => exact ⟨Int.emod_nonneg _ (by omega), Int.emod_lt_of_pos _ (by omega)⟩
  | lst bs =>
    have b := k.box
    obtain ⟨y0, y1, x0, x1⟩ := h
    have hyx : 0 ≤ y * (boxL cs).2 := Int.mul_nonneg y0 (by omega)
    have hlt : y * (boxL cs).2 + x < (bs.length : Int) := by
      rw [lo.1]
      have h1 : (y + 1) * (boxL cs).2 ≤ (boxL cs).1 * (boxL cs).2 := Int.mul_le_mul_of_nonneg_right (by omega) (by omega)
      rw [Int.add_mul, Int.one_mul] at h1
      omega
    show 0 ≤ bs.getD (y * (boxL cs).2 + x).toNat 0 ∧ bs.getD (y * (boxL cs).2 + x).toNat 0 < m
    have hj : (y * (boxL cs).2 + x).toNat < bs.length := by omega
    rw [List.getD_eq_getElem?_getD, List.getElem?_eq_getElem hj]
    exact lo.2 _ (List.getElem_mem hj)
theorem bank_pad_on {cs : List Int} {m n y x : Int} : bankL cs m (.pad (n + m)) y x = bankL cs m (.pad n) y x := by
  show (y * ((boxL cs).2 + (n + m)) + x) % m = (y * ((boxL cs).2 + n) + x) % m
  rw [show y * ((boxL cs).2 + (n + m)) + x = (y * ((boxL cs).2 + n) + x) + y * m from by rw [← Int.add_assoc, Int.mul_add y _ m]; omega, Int.add_mul_emod_self_right]
theorem bank_trn_on {cs : List Int} {m n y x : Int} : bankL cs m (.trn (n + (boxL cs).2)) y x = bankL cs m (.trn n) y x := by
  show (y * (boxL cs).2 + (x + (n + (boxL cs).2) * y) % (boxL cs).2) % m = (y * (boxL cs).2 + (x + n * y) % (boxL cs).2) % m
  rw [show x + (n + (boxL cs).2) * y = (x + n * y) + y * (boxL cs).2 from by rw [Int.add_mul, Int.mul_comm y]; omega, Int.add_mul_emod_self_right]
end Lm
namespace Lm
open PySem PySem.Spec PyProof.Rows L2
/-! ### lines of cells -/
def colL (t : Nat) (x : Int) : List (Int × Int) := (List.range t).map fun (i : Nat) => (((i : Nat) : Int), x)
def rowA (y : Int) (b : Nat) : List (Int × Int) := (List.range b).map fun (i : Nat) => (y, ((i : Nat) : Int))
theorem colL_succ (t : Nat) (x : Int) : colL (t + 1) x = colL t x ++ [(((t : Nat) : Int), x)] := by
  unfold colL
  rw [List.range_succ, List.map_append]
  rfl
theorem rowA_succ (y : Int) (b : Nat) : rowA y (b + 1) = rowA y b ++ [(y, ((b : Nat) : Int))] := by
  unfold rowA
  rw [List.range_succ, List.map_append]
  rfl
theorem colL_length (t : Nat) (x : Int) : (colL t x).length = t := by
  unfold colL
  rw [List.length_map, List.length_range]
theorem rowA_length (y : Int) (b : Nat) : (rowA y b).length = b := by
  unfold rowA
  rw [List.length_map, List.length_range]
theorem colL_mem {t : Nat} {x : Int} {c : Int × Int} (h : c ∈ colL t x) : 0 ≤ c.1 ∧ c.1 < (t : Int) ∧ c.2 = x := by
  unfold colL at h
  obtain ⟨i, hi, rfl⟩ := List.mem_map.mp h
  have := List.mem_range.mp hi
  exact ⟨by show 0 ≤ (i : Int); omega, by show (i : Int) < (t : Int); omega, rfl⟩
theorem rowA_mem {y : Int} {b : Nat} {c : Int × Int} (h : c ∈ rowA y b) : c.1 = y ∧ 0 ≤ c.2 ∧ c.2 < (b : Int) := by
  unfold rowA at h
  obtain ⟨i, hi, rfl⟩ := List.mem_map.mp h
  have := List.mem_range.mp hi
  exact ⟨rfl, by show 0 ≤ (i : Int); omega, by show (i : Int) < (b : Int); omega⟩
theorem colL_asc (t : Nat) (x : Int) : (colL t x).Pairwise LtC := by
  induction t with
  | zero => exact .nil
  | succ t ih =>
    rw [colL_succ, List.pairwise_append]
    refine ⟨ih, List.pairwise_singleton _ _, fun a ha b hb => ?_⟩
    rw [List.mem_singleton.mp hb]
    exact .inl (by have := (colL_mem ha).2.1; exact this)
theorem rowA_asc (y : Int) (b : Nat) : (rowA y b).Pairwise LtC := by
  induction b with
  | zero => exact .nil
  | succ b ih =>
    rw [rowA_succ, List.pairwise_append]
    refine ⟨ih, List.pairwise_singleton _ _, fun a ha c hc => ?_⟩
    rw [List.mem_singleton.mp hc]
    have := rowA_mem ha
    exact .inr ⟨this.1, this.2.2⟩
theorem col_free {cs : List Int} {m n v : Int} (k : Cnt cs) (hm : 1 ≤ m) (hn : 0 ≤ n) (h : PriceIs ((colL (boxL cs).1.toNat ((boxL cs).2 - 1)).map fun c => bankL cs m (.pad n) c.1 c.2) v) :
    v = 1 ↔ (boxL cs).1 ≤ m / ((Nat.gcd ((boxL cs).2 + n).toNat m.toNat : Nat) : Int) := by
  have bx := k.box
  rw [price_one h]
  obtain ⟨t, ht⟩ : ∃ t : Nat, (boxL cs).1 = (t : Int) := ⟨(boxL cs).1.toNat, by omega⟩
  obtain ⟨b, hb⟩ : ∃ b : Nat, (boxL cs).2 = ((b + 1 : Nat) : Int) := ⟨((boxL cs).2 - 1).toNat, by omega⟩
  obtain ⟨m, rfl⟩ : ∃ j : Nat, m = (j : Int) := ⟨m.toNat, by omega⟩
  obtain ⟨n, rfl⟩ : ∃ j : Nat, n = (j : Int) := ⟨n.toNat, by omega⟩
  have e : ((colL (boxL cs).1.toNat ((boxL cs).2 - 1)).map fun c => bankL cs (m : Int) (.pad (n : Int)) c.1 c.2) = (List.range t).map fun (i : Nat) => ((i : Int) * ((b + 1 + n : Nat) : Int) + (b : Int)) % (m : Int) := by
    unfold colL
    rw [List.map_map, ht, Int.toNat_natCast]
    refine List.map_congr_left fun i _ => ?_
    show ((i : Int) * ((boxL cs).2 + (n : Int)) + ((boxL cs).2 - 1)) % (m : Int) = _
    rw [hb, show ((b + 1 : Nat) : Int) + (n : Int) = ((b + 1 + n : Nat) : Int) from by omega, show ((b + 1 : Nat) : Int) - 1 = (b : Int) from by omega]
  rw [e, ht, hb]
  have e1 : (((b + 1 : Nat) : Int) + (n : Int)).toNat = b + 1 + n := by omega
  rw [e1, Int.toNat_natCast, ← Int.natCast_ediv, line_free (by omega) (by omega)]
  constructor
  · rintro ⟨_, h⟩
    omega
  · intro h
    refine ⟨fun z => ?_, by omega⟩
    have := congrArg List.length z
    rw [List.length_map, List.length_range] at this
    have : t = 0 := this
    omega
theorem row_free {cs : List Int} {m n v : Int} (k : Cnt cs) (hm : 1 ≤ m) (hn : 0 ≤ n) (h : PriceIs ((rowA ((boxL cs).1 - 1) (boxL cs).2.toNat).map fun c => bankL cs m (.pad n) c.1 c.2) v) : v = 1 ↔ (boxL cs).2 ≤ m := by
  have bx := k.box
  rw [price_one h]
  obtain ⟨b, hb⟩ : ∃ b : Nat, (boxL cs).2 = (b : Int) := ⟨(boxL cs).2.toNat, by omega⟩
  obtain ⟨m, rfl⟩ : ∃ j : Nat, m = (j : Int) := ⟨m.toNat, by omega⟩
  obtain ⟨c, hc⟩ : ∃ c : Nat, ((boxL cs).1 - 1) * ((boxL cs).2 + n) = (c : Int) := ⟨(((boxL cs).1 - 1) * ((boxL cs).2 + n)).toNat, by
    have : 0 ≤ ((boxL cs).1 - 1) * ((boxL cs).2 + n) := Int.mul_nonneg (by omega) (by omega)
    omega⟩
  have e : ((rowA ((boxL cs).1 - 1) (boxL cs).2.toNat).map fun c => bankL cs (m : Int) (.pad n) c.1 c.2) = (List.range b).map fun (i : Nat) => ((i : Int) * ((1 : Nat) : Int) + (c : Int)) % (m : Int) := by
    unfold rowA
    rw [List.map_map, hb, Int.toNat_natCast]
    refine List.map_congr_left fun i _ => ?_
    show (((boxL cs).1 - 1) * ((boxL cs).2 + n) + (i : Int)) % (m : Int) = _
    rw [hc, show (c : Int) + (i : Int) = (i : Int) * ((1 : Nat) : Int) + (c : Int) from by omega]
  rw [e, hb, line_free (by omega) (by omega), Nat.gcd_one_left, Nat.div_one]
  constructor
  · rintro ⟨_, h⟩
    omega
  · intro h
    refine ⟨fun z => ?_, by omega⟩
    have := congrArg List.length z
    rw [List.length_map, List.length_range] at this
    have : b = 0 := this
    omega
section
variable {P : Program} {w : World} {K : PySem.W.Frag} {mg : Str → Option Value} {base : Heap}
/-! ### _law_lines_right -/
abbrev sLines : Stmt := topS 45
def nLines : List Str := ["_law_counts_here", "_law_many_here", "_law_number", "_law_tall", "_law_broad", "_law_way_here", "_law_column", "_law_is_free", "_law_row", "_law_down", "_law_across"]
theorem scLines : FnScope ["_law_counts_here", "_law_many_here", "_law_number", "_law_tall", "_law_broad", "_law_way_here", "_law_column", "_law_is_free", "_law_row", "_law_down", "_law_across"] ["_law_counts_here", "_law_many_here", "_law_number"] (defScope sLines) := ⟨rfl, rfl, rfl, by decide +kernel, rfl, by decide +kernel, by decide +kernel⟩
def spLines : Sp := fun vs H Q _ => ∃ (D : DrA) (n : Nat) (c : Addr) (cs : List Int) (m z : Int), vs = [.ref c, .int m, .int z] ∧ DrawAt D n H ∧ Da D H (.ref c) (.tuple (cs.map .int)) ∧ Cnt cs ∧ 1 ≤ m ∧ m ≤ 32 ∧ 0 ≤ z ∧ z ≤ 31 ∧
  ∀ H', Same H H' → Q (.bl true) H'
theorem ok_lines {BC BB BL BO : Addr} {f : Addr} {fd : FuncData} (F : Fun K "_law_lines_right" "_law_lines_right" sLines f fd) (N : Bl mg) (GX : Has P w K mg base CX0 1 "_law_box" ["_law_counts_here"] spBox) (GG : Has P w K mg base CX0 1 "_law_shared_part_of" ["_law_one", "_law_two"] spGcd)
    (GC : Has P w K mg base (L2.CX P w) 10 "cost" ["counts", "banks", "laying", "lot"] (spCO BC BB BL BO)) : FnOk P w K mg base CX0 11 f fd ["_law_counts_here", "_law_many_here", "_law_number"] spLines := by
  refine F.ok scLines (fun vs H Q E h => ?_) (fun cdv A outer s H vs Q E hr h => ?_)
  · obtain ⟨D, n, c, cs, m, z, rfl, _⟩ := h
    rfl
  · obtain ⟨D, n, c, cs, m, z, rfl, dr, hc, kc, m1, m2, z0, z1, q⟩ := h
    refine ⟨_, pss_cons (ps_asg (pe_h GX hr (by decide) (by rfl) pass0 (pa_cons (pv 0) pa_nil)) (pg_tup rfl (pgs_cons (pg_name (i := 3) scLines.nd rfl (.inr rfl)) (pgs_cons (pg_name (i := 4) scLines.nd rfl (.inr rfl)) pgs_nil))))
      (pss_cons (ps_set (i := 5) scLines.nd rfl (.inl rfl) (pe_tup (pa_cons pe_str (pa_cons (pv 2) pa_nil))))
      (pss_cons (ps_set (i := 6) scLines.nd rfl (.inl rfl) (pe_tupleOf (by rfl) N.btup (pe_lc (own := [("_law_down", 9)]) (g := gName 9) (tt := tYes) rfl scLines.nd (pi_range1 (by rfl) N.brng (pa_cons (pv 3) pa_nil))
          (blkOk_by (own := [("_law_down", 9)]) (N := nLines) (sc := defScope sLines) (by decide +kernel)) (fun _ _ _ _ _ => pg_name (i := 9) scLines.nd rfl (Or.inl rfl)) (fun _ _ _ _ _ => pts_nil) (fun _ _ _ _ _ => pe_tup (pa_cons (pv 9) (pa_cons (pe_op op_sub (pv 4) pe_int) pa_nil))))))
      (pss_cons (ps_set (i := 7) scLines.nd rfl (.inl rfl) (pe_cmpR op_le (pv 3) (pe_op op_fdiv (pv 1) (pe_h GG hr (by decide) (by rfl) pass0 (pa_cons (pe_op op_add (pv 4) (pv 2)) (pa_cons (pv 1) pa_nil)))) (nomark _)))
      (pss_cons (ps_if (pt_cmpR op_ne (pe_cmpR op_eq (pe_h GC hr (by decide) (by rfl) passL (pa_cons (pv 0) (pa_cons (pv 1) (pa_cons (pv 5) (pa_cons (pv 6) pa_nil))))) pe_int (nomark _)) (pv 7) (nomark _)) (pss_one (ps_ret pe_bl)) pss_nil)
      (pss_cons (ps_set (i := 8) scLines.nd rfl (.inl rfl) (pe_tupleOf (by rfl) N.btup (pe_lc (own := [("_law_across", 10)]) (g := gName 10) (tt := tYes) rfl scLines.nd (pi_range1 (by rfl) N.brng (pa_cons (pv 4) pa_nil))
          (blkOk_by (own := [("_law_across", 10)]) (N := nLines) (sc := defScope sLines) (by decide +kernel)) (fun _ _ _ _ _ => pg_name (i := 10) scLines.nd rfl (Or.inl rfl)) (fun _ _ _ _ _ => pts_nil) (fun _ _ _ _ _ => pe_tup (pa_cons (pe_op op_sub (pv 3) pe_int) (pa_cons (pv 10) pa_nil))))))
      (pss_one (ps_ret (pe_cmpR op_eq (pe_cmpR op_eq (pe_h GC hr (by decide) (by rfl) passL (pa_cons (pv 0) (pa_cons (pv 1) (pa_cons (pv 5) (pa_cons (pv 8) pa_nil))))) pe_int (nomark _)) (pe_cmpR op_le (pv 4) (pv 1) (nomark _)) (nomark _))))))))), ?_⟩
    have bx := kc.box
    refine ⟨.ref c, rfl, c, cs, rfl, dat_ints hc, kc, fun H1 bp s1 hb => ?_⟩
    refine ⟨bp, _, rfl, SqT.of hb, rfl, _, _, rfl, _, _, rfl, rfl, ?_⟩
    have d1 := dr.sm s1
    refine ⟨_, rfl, by show 2 ≤ sizeLine; decide, fun p2 np2 => ?_⟩
    obtain ⟨s2, d2, h2⟩ := tup_da d1 (.cons (.str "padded") (.cons (.int z) .nil)) np2
    generalize upd H1 p2 (.tup [.str "padded", .int z]) = H2 at *
    have hw2 : Da D H2 (.ref p2) (Lay.pad z).dat := h2
    -- the column
    refine ⟨_, rfl, (boxL cs).1, rfl, by omega, by omega, fun W nW => lc_range (fun i H' => Same H2 H' ∧ ∃ xs, H' W = some (.lst xs) ∧ CellsV cs H' xs (colL i ((boxL cs).2 - 1))) ⟨same_upd nW, [], upd_same, .nil⟩ ?_ ?_⟩
    · rintro i H' hi ⟨s3, xs, hW, cv⟩
      refine ⟨rfl, _, rfl, _, rfl, _, _, rfl, rfl, by show 2 ≤ sizeLine; decide, fun p np => ?_⟩
      rw [Int.zero_add] at *
      have s4 : Same H' (upd H' p (.tup [.int (i : Int), .int ((boxL cs).2 - 1)])) := same_upd np
      have hp : (upd H' p (.tup [.int (i : Int), .int ((boxL cs).2 - 1)])) p = some (.tup [.int (i : Int), .int ((boxL cs).2 - 1)]) := upd_same
      have pW : p ≠ W := fun z => by rw [z, hW] at np; cases np
      have xl := paired_len cv
      rw [colL_length] at xl
      refine ⟨xs, s4 _ _ hW, small1000 (by omega), same_put (s3.trans s4) nW, _, upd_same, ?_⟩
      rw [colL_succ]
      have fr : ∀ a x y, H' a = some (.tup [.int x, .int y]) → (upd (upd H' p (.tup [.int (i : Int), .int ((boxL cs).2 - 1)])) W (.lst (xs ++ [.ref p]))) a = some (.tup [.int x, .int y]) := by
        intro a x y e
        rw [upd_ne (fun z => by rw [z, hW] at e; cases e)]
        exact s4 _ _ e
      refine paired_app (CellsV.fr cv fr) (.cons ⟨p, rfl, ?_, ?_⟩ .nil)
      · rw [upd_ne pW]
        exact hp
      · show 0 ≤ (i : Int) ∧ (i : Int) < (boxL cs).1 ∧ 0 ≤ (boxL cs).2 - 1 ∧ (boxL cs).2 - 1 < (boxL cs).2
        omega
    · rintro H3 ⟨s3, xs, hW, cv⟩
      have d3 := d2.sm s3
      refine .inl ⟨W, _, rfl, SqL.of hW, fun p4 np4 => ?_⟩
      obtain ⟨s4, d4, h4⟩ := tup_da d3 (cells_dat d3 cv) np4
      generalize upd H3 p4 (.tup xs) = H4 at *
      have s14 : Same H H4 := s1.trans (s2.trans (s3.trans s4))
      have hw4 := hw2.sm (s3.trans s4)
      obtain ⟨g, hg⟩ : ∃ g, g = Nat.gcd ((boxL cs).2 + z).toNat m.toNat := ⟨_, rfl⟩
      have g0 : 0 < g := by rw [hg]; exact Nat.gcd_pos_of_pos_right _ (by omega)
      have g1 : g ≤ m.toNat := by rw [hg]; exact Nat.le_of_dvd (by omega) (Nat.gcd_dvd_right _ _)
      refine ⟨_, rfl, _, rfl, _, rfl, _, rfl, _, _, rfl, rfl, _, rfl, ((boxL cs).2 + z).toNat, m.toNat, ?_, ?_⟩
      · rw [Int.toNat_of_nonneg (by omega), Int.toNat_of_nonneg (by omega)]
      · rw [← hg]
        refine ⟨_, _, rfl, rfl, ⟨by omega, by omega⟩, _, _, rfl, rfl, ?_⟩
        refine ⟨_, rfl, _, rfl, _, rfl, _, rfl, D, _, _, _, _, _, _, _, _, rfl, hc.sm s14, .int m, hw4, h4, (by show ((colL _ _).map cellD).length ≤ 1000; rw [List.length_map, colL_length]; omega), .inr (.inr ⟨cs, m, rfl, kc, rfl, m1, m2, .inr ⟨.pad z, rfl, ⟨z0, z1⟩, .inr ⟨_, rfl, fun e he => ?_, colL_asc _ _, fun H5 v s5 hv => ?_⟩⟩⟩)⟩
        · have := colL_mem he
          exact ⟨this.1, by omega, by omega, by omega⟩
        · have e1 : decide (V.int v = V.int 1) = decide ((boxL cs).1 ≤ m / (g : Int)) := by
            rw [hg]
            exact decide_eq_decide.mpr ⟨fun z => (col_free kc m1 z0 hv).mp (V.int.inj z), fun z => by rw [(col_free kc m1 z0 hv).mpr z]⟩
          refine ⟨rfl, _, rfl, rfl, _, rfl, ite2 (fun e => ?_) (fun _ => ?_)⟩
          · exfalso
            rw [Bool.not_eq_true', decide_eq_false_iff_not] at e
            exact e (congrArg V.bl e1)
          -- the row
          have d5 := d4.sm s5
          refine ⟨_, rfl, (boxL cs).2, rfl, by omega, by omega, fun W2 nW2 => lc_range (fun i H' => Same H5 H' ∧ ∃ xs, H' W2 = some (.lst xs) ∧ CellsV cs H' xs (rowA ((boxL cs).1 - 1) i)) ⟨same_upd nW2, [], upd_same, .nil⟩ ?_ ?_⟩
          · rintro i H' hi ⟨s6, xs, hW, cv⟩
            refine ⟨rfl, _, rfl, _, _, rfl, rfl, _, rfl, by show 2 ≤ sizeLine; decide, fun p np => ?_⟩
            rw [Int.zero_add] at *
            have s7 : Same H' (upd H' p (.tup [.int ((boxL cs).1 - 1), .int (i : Int)])) := same_upd np
            have hp : (upd H' p (.tup [.int ((boxL cs).1 - 1), .int (i : Int)])) p = some (.tup [.int ((boxL cs).1 - 1), .int (i : Int)]) := upd_same
            have pW : p ≠ W2 := fun z => by rw [z, hW] at np; cases np
            have xl := paired_len cv
            rw [rowA_length] at xl
            refine ⟨xs, s7 _ _ hW, small1000 (by omega), same_put (s6.trans s7) nW2, _, upd_same, ?_⟩
            rw [rowA_succ]
            have fr : ∀ a x y, H' a = some (.tup [.int x, .int y]) → (upd (upd H' p (.tup [.int ((boxL cs).1 - 1), .int (i : Int)])) W2 (.lst (xs ++ [.ref p]))) a = some (.tup [.int x, .int y]) := by
              intro a x y e
              rw [upd_ne (fun z => by rw [z, hW] at e; cases e)]
              exact s7 _ _ e
            refine paired_app (CellsV.fr cv fr) (.cons ⟨p, rfl, ?_, ?_⟩ .nil)
            · rw [upd_ne pW]
              exact hp
            · show 0 ≤ (boxL cs).1 - 1 ∧ (boxL cs).1 - 1 < (boxL cs).1 ∧ 0 ≤ (i : Int) ∧ (i : Int) < (boxL cs).2
              omega
          · rintro H6 ⟨s6, ys, hW, cv⟩
            have d6 := d5.sm s6
            refine .inl ⟨W2, _, rfl, SqL.of hW, fun p7 np7 => ?_⟩
            obtain ⟨s7, d7, h7⟩ := tup_da d6 (cells_dat d6 cv) np7
            generalize upd H6 p7 (.tup ys) = H7 at *
            have s47 : Same H4 H7 := s5.trans (s6.trans s7)
            refine ⟨_, rfl, _, rfl, _, rfl, _, rfl, D, _, _, _, _, _, _, _, _, rfl, hc.sm (s14.trans s47), .int m, hw4.sm s47, h7, (by show ((rowA _ _).map cellD).length ≤ 1000; rw [List.length_map, rowA_length]; omega), .inr (.inr ⟨cs, m, rfl, kc, rfl, m1, m2, .inr ⟨.pad z, rfl, ⟨z0, z1⟩, .inr ⟨_, rfl, fun e he => ?_, rowA_asc _ _, fun H8 v2 s8 hv2 => ?_⟩⟩⟩)⟩
            · have := rowA_mem he
              exact ⟨by omega, by omega, this.2.1, by omega⟩
            · have e2 : decide (V.int v2 = V.int 1) = decide ((boxL cs).2 ≤ m) :=
                decide_eq_decide.mpr ⟨fun z => (row_free kc m1 z0 hv2).mp (V.int.inj z), fun z => by rw [(row_free kc m1 z0 hv2).mpr z]⟩
              refine ⟨rfl, _, rfl, _, rfl, _, _, rfl, rfl, rfl, ?_⟩
              have r := q H8 (s14.trans (s47.trans s8))
              rw [show (true : Bool) = decide (V.bl (decide (V.int v2 = V.int 1)) = V.bl (decide ((boxL cs).2 ≤ m))) from (decide_eq_true (congrArg V.bl e2)).symm] at r
              exact r
end
end Lm
namespace Lm
open PySem PySem.Spec PyProof.Rows L2 LamX
/-! ### repr of a pair of like numbers -/
def reprT (a : Int) : Str := listText (PyData.shownAll [.int a, .int a])
theorem pair_ok : ∀ a : Nat, a < 512 → (PyData.showableAll [.int (a : Int), .int (a : Int)] = true ∧ (reprT (a : Int)).length ≤ 1000) := by
  intro a ha
  have : (List.range 512).all (fun a => PyData.showableAll [.int (a : Int), .int (a : Int)] && decide ((reprT (a : Int)).length ≤ 1000)) = true := by decide +kernel
  have := List.all_eq_true.mp this a (List.mem_range.mpr ha)
  rw [Bool.and_eq_true] at this
  exact ⟨this.1, of_decide_eq_true this.2⟩
theorem call_repr2 {X : Cx} (hg : X.A.guards = some []) (hu : X.A.units + 64 < cLine) : CallR X (.builtin "repr") (fun xs H Q => ∃ (p : Addr) (a : Int), xs = [.ref p] ∧ SqL X.K H p [.int a, .int a] ∧ 0 ≤ a ∧ a < 512 ∧ Q (.str (reprT a)) H) := by
  intro pins s σ H xs us Q I r h
  obtain ⟨p, a, rfl, hS, a0, a1, q⟩ := h
  obtain ⟨u, rfl, rx⟩ := vals1 r
  have rx : u = .ref p := rx
  subst rx
  have hd : DpAll X.K H [.int a, .int a] [.int a, .int a] := .cons (.int a) (.cons (.int a) .nil)
  obtain ⟨as, rd⟩ := Dp.reads I (.list [.int a, .int a]) (.ref p) (.ref p) (.lst hS hd) rfl
  obtain ⟨n, rfl⟩ : ∃ n : Nat, a = (n : Int) := ⟨a.toNat, by omega⟩
  obtain ⟨k1, k2⟩ := pair_ok n (by omega)
  cases rd with
  | list ha hc hd hr =>
    rename_i o vs m as
    obtain ⟨l⟩ := vs
    cases l with
    | nil => cases hr
    | cons x l =>
      refine repr_list ha hc hd hr k1 rfl (small10000 (by have := k2; unfold reprT at this; omega)) hg ?_ fun h' t tk hk => ?_
      · have : PyData.depthAll [PyData.int (n : Int), PyData.int (n : Int)] ≤ 8 := by simp [PyData.depthAll, PyData.depth]
        omega
      · exact ⟨.str (reprT (n : Int)), H, I.kept (t' := tk) fun b o e => hk b o e, ⟨_, rfl⟩, q⟩
/-! ### what a lambda's body lets out -/
theorem passLam {X : Cx} {A : Around} {outer : List Env} {s : Shared} {H : Hp} {E : XK} {scope : Scope} {f c' : Addr} : Passes (L2.CX X.prog X.w) (lamCx X A outer s H E scope f c') E := by
  have tk : Takes (lamCx X A outer s H E scope f c') (fun cls d _ H => E cls d H) := takes_of (E := E) rfl rfl rfl rfl
  exact passes_call tk (fun _ _ _ _ h => h)
/-! ### tables under the draws -/
theorem Tabs.fr {T : List (Addr × Str)} {D : DrA} {n : Nat} {H H' : Hp} (t : Tabs T H) (dr : DrawAt D n H) (f : Fr D H H') : Tabs T H' := by
  obtain ⟨ws, cs, r, tt, h1, h2, _⟩ := id dr
  intro p hp
  obtain ⟨ps, e1, e2, e3⟩ := t p hp
  refine ⟨ps, f _ _ e1 (ne_of e1 h1 (fun z => by cases z)) (ne_of e1 h2 (fun z => by cases z)), e2, fun pos cv hc => ?_⟩
  obtain ⟨c, a, b⟩ := e3 pos cv hc
  exact ⟨c, a, f _ _ b (ne_of b h1 (fun z => by unfold CodeO at z; cases z)) (ne_of b h2 (fun z => by unfold CodeO at z; cases z))⟩
theorem extN_frT {D : DrA} {H H' : Hp} (e : ExtN H H') : FrT D H H' := fun b o h _ _ n => e b o h n
theorem DrawAt.ext {D : DrA} {n : Nat} {H H' : Hp} (h : DrawAt D n H) (e : ExtN H H') : DrawAt D n H' := h.same e
/-! ### one statement after the other -/
def Step (X : Cx) (st : Stmt) (I J : L2.St → Hp → Prop) : Prop := ∃ t, PS X st t ∧ ∀ D σ H, I σ H → (∀ σ' H', J σ' H' → D.nx σ' H') → t D σ H
def StepS (X : Cx) (st : List Stmt) (I J : L2.St → Hp → Prop) : Prop := ∃ t, PSs X st t ∧ ∀ D σ H, I σ H → (∀ σ' H', J σ' H' → D.nx σ' H') → t D σ H
theorem steps_nil {X : Cx} {I : L2.St → Hp → Prop} : StepS X [] I I := ⟨_, pss_nil, fun D σ H h q => q σ H h⟩
theorem steps_cons {X : Cx} {st : Stmt} {r : List Stmt} {I J L : L2.St → Hp → Prop} (h1 : Step X st I J) (h2 : StepS X r J L) : StepS X (st :: r) I L := by
  obtain ⟨t1, p1, q1⟩ := h1
  obtain ⟨t2, p2, q2⟩ := h2
  exact ⟨_, pss_cons p1 p2, fun D σ H h q => q1 _ σ H h fun σ' H' h' => q2 _ σ' H' h' q⟩
end Lm
namespace Lm
open PySem PySem.Spec PyProof.Rows L2 LamX
abbrev sLaw : Stmt := topS 47
def nLaw : List Str := ["_law_script", "_law_draw", "_law_turn", "_law_size_here", "_law_cells_here", "_law_lot_here", "_law_due", "_law_step", "_law_several", "_law_tall", "_law_broad", "_law_bad", "_law_bent_here", "_law_counts_here", "_law_many_here", "_law_odd", "_law_spot", "_law_way_here", "_law_wrong", "_law_lap", "_law_one"]
theorem scLaw : FnScope nLaw ["_law_script"] (defScope sLaw) := ⟨rfl, rfl, rfl, by decide +kernel, rfl, by decide +kernel, by decide +kernel⟩
def forBody : Stmt → List Stmt
  | .For (body := b) .. => b
  | _ => []
def lawSt (i : Nat) : Stmt := (forBody ((defBody sLaw).getD 1 (.Pass ⟨0, 0, 0, 0⟩))).getD i (.Pass ⟨0, 0, 0, 0⟩)
/-- the slots of the law's names -/
def S (x : Nat → Option V) : L2.St := [x 0, x 1, x 2, x 3, x 4, x 5, x 6, x 7, x 8, x 9, x 10, x 11, x 12, x 13, x 14, x 15, x 16, x 17, x 18, x 19, x 20]
def sx (x : Nat → Option V) (i : Nat) (v : Option V) : Nat → Option V := fun j => if j = i then v else x j
/-- an own exception class: where it stands, what isinstance and except tell of it -/
structure XCls (K : PySem.W.Frag) (mg : Str → Option Value) (CS : Addr) (x : Str) (C : Addr) : Prop where
  at_ : mg x = some (.ref C)
  ex : ExcC K C
  kit : PySem.W.kitOne K (.ref C) (.ref C) = some true
  exm : PySem.W.exmOne K (.ref C) (.ref CS) = some true
/-- all that the law calls -/
structure Callees (P : Program) (w : World) (K : PySem.W.Frag) (mg : Str → Option Value) (base : Heap) (CS BC BB BL BE BO : Addr) : Prop where
  N : Bl mg
  GB : Has P w K mg base CX0 1 "_law_begun" ["_law_script"] (spBegun K)
  GP : Has P w K mg base CX0 3 "_law_pick" ["_law_draw", "_law_some"] spPick
  GT : Has P w K mg base CX0 2 "_law_take" ["_law_draw", "_law_size"] spTake
  GX : Has P w K mg base CX0 1 "_law_box" ["_law_counts_here"] spBox
  GF : Has P w K mg base CX0 4 "_law_few_of" ["_law_draw", "_law_some", "_law_size"] spFew
  GS : Has P w K mg base CX0 1 "_law_says" ["_law_found", "_law_due"] spSays
  GI : Has P w K mg base CX0 2 "_law_is_way" ["_law_counts_here", "_law_many_here", "_law_item"] spIsWay
  GK : Has P w K mg base CX0 1 "_law_bank" ["_law_counts_here", "_law_many_here", "_law_way_here", "_law_cell_here"] spBank
  GR : Has P w K mg base CX0 3 "_law_price" ["_law_counts_here", "_law_many_here", "_law_way_here", "_law_lot_here"] spPrice
  GW : Has P w K mg base CX0 4 "_law_way" ["_law_draw", "_law_counts_here", "_law_many_here"] spWay
  GC : Has P w K mg base CX0 2 "_law_cells" ["_law_counts_here"] spCells
  GL : Has P w K mg base CX0 11 "_law_lines_right" ["_law_counts_here", "_law_many_here", "_law_number"] spLines
  GO : Has P w K mg base CX0 4 "_law_wrong_lot" ["_law_draw", "_law_counts_here", "_law_lot_here"] spWrong
  GN : Has P w K mg base CX0 6 "_law_bent" ["_law_draw", "_law_item"] (spBent 2)
  il : Has P w K mg base (L2.CX P w) 10 "is_laying" ["counts", "banks", "thing"] (spIL BC BB)
  bo : Has P w K mg base (L2.CX P w) 10 "bank_of" ["counts", "banks", "laying", "cell"] (spBO BC BB BL BE)
  co : Has P w K mg base (L2.CX P w) 10 "cost" ["counts", "banks", "laying", "lot"] (spCO BC BB BL BO)
  ilk : HasK P w K mg base (L2.CX P w) 10 "is_laying" ["counts", "banks", "thing"] ["thing", "banks", "counts"] List.reverse (spIL BC BB)
  bok : HasK P w K mg base (L2.CX P w) 10 "bank_of" ["counts", "banks", "laying", "cell"] ["cell", "laying", "banks", "counts"] List.reverse (spBO BC BB BL BE)
  cok : HasK P w K mg base (L2.CX P w) 10 "cost" ["counts", "banks", "laying", "lot"] ["lot", "laying", "banks", "counts"] List.reverse (spCO BC BB BL BO)
  lane : mg "LaneError" = some (.ref CS)
  bc : XCls K mg CS "BadCounts" BC
  bb : XCls K mg CS "BadBanks" BB
  bl : XCls K mg CS "BadLaying" BL
  be : XCls K mg CS "BadCell" BE
  bt : XCls K mg CS "BadLot" BO
  caught : ∃ (g : Addr) (fd : FuncData), mg "_law_caught" = some (.ref g) ∧ PySem.W.keepIn K (.ref g) = true ∧ L2.Binds K fd ["_law_task"] [] ∧ Fun K "_law_caught" "_law_caught" sCaught g fd
section
variable {P : Program} {w : World} {K : PySem.W.Frag} {mg : Str → Option Value} {base : Heap} {CS BC BB BL BE BO : Addr}
theorem pe_caught {X : Cx} {T : List (Addr × Str)} {c Pt : Addr} {k : Nat} {params : Arguments} {body : Expr} {scope : Scope} {t : XK → TE} {p lpos pos : Pos} (hca : ∃ (g : Addr) (fd : FuncData), X.mg "_law_caught" = some (.ref g) ∧ PySem.W.keepIn X.K (.ref g) = true ∧ L2.Binds X.K fd ["_law_task"] [] ∧ Fun X.K "_law_caught" "_law_caught" sCaught g fd)
    (hme : X.mg "LaneError" = some (.ref CS)) (TB : LamX.TabB X.base X.mg c Pt) (hcode : X.env.code = .ref c) (hT : T = [(Pt, X.env.qual ++ "<lambda>")]) (hr : Room (k + 2) X.A) (hg : Gl X "_law_caught") (L : LamS X.env.scope scope) (hdef : defaultsOf params X.env = ([], []))
    (hbind : ∀ (q : Str) (cl : List (Str × Addr)) (pm cv ctv : Value), bindArgs (PySem.W.kla_fn "<lambda>" q params body scope cl pm cv ctv) ⟨[], []⟩ = pure [])
    (hbody : ∀ (A : Around) (outer : List Env) (s : Shared) (H : Hp) (E : XK) (f c' : Addr), Room k (A.deeper (lamEnv X scope s.heap.objs.size f c')) → PE (lamCx X A outer s H E scope f c') body (t E)) :
    PE X (.Call (.Name "_law_caught" p) [.Lambda params body scope lpos] [] pos) (tLam T (TCaught X.K CS) t) := by
  obtain ⟨g, fd, hm, hk, hb, F⟩ := hca
  obtain ⟨oc, od, kV, doc, pm, an, cdv, ct, osl, rfl, lk, hcd⟩ := F.ex
  exact pe_lamcall (Ng := nCaught) hg hm hk lk hcd hb scCaught rfl (.inl rfl) (caught_gives hme) TB hcode (by rw [hT]; exact List.mem_cons_self ..) (by rw [hT]; intro p hp _; rw [List.mem_singleton.mp hp]) hr L hdef hbind hbody
/-- where the law's own statements run -/
abbrev XL (P : Program) (w : World) (K : PySem.W.Frag) (mg : Str → Option Value) (base : Heap) (f : Addr) (cdv : Value) (A : Around) (outer : List Env) (s : Shared) (H : Hp) (E : XK) : Cx := (cxOf C8.CX0 P w K mg base nLaw "law" (defScope sLaw) f cdv A outer s H E).nox
variable {f c Pt : Addr} {A : Around} {outer : List Env} {s : Shared} {H0 : Hp} {E : XK}
/-- the one table that the lambdas need -/
def TL (Pt : Addr) : List (Addr × Str) := [(Pt, (envOfC "law" (defScope sLaw) 0 0 .none).qual ++ "<lambda>")]
end
/-- counts, banks, laying, cells and lot of one lap -/
structure LawSt (D : DrA) (c wy cl lo : Addr) (cs : List Int) (m : Int) (l : Lay) (ls : List (Int × Int)) (H : Hp) : Prop where
  cnt : Cnt cs
  m1 : 1 ≤ m
  m2 : m ≤ 32
  lok : l.Ok cs m
  hc : Da D H (.ref c) (.tuple (cs.map .int))
  hw : Da D H (.ref wy) l.dat
  hcl : Da D H (.ref cl) (.list ((cellsOf cs).map cellD))
  hlo : Da D H (.ref lo) (.tuple (ls.map cellD))
  sub : ls.Sublist (cellsOf cs)
structure LI (T : List (Addr × Str)) (n : Nat) (D : DrA) (c wy cl lo : Addr) (cs : List Int) (m : Int) (l : Lay) (ls : List (Int × Int)) (x : Nat → Option V) (H : Hp) : Prop where
  x1 : x 1 = some (.ref D.d)
  x4 : x 4 = some (.ref cl)
  x5 : x 5 = some (.ref lo)
  x13 : x 13 = some (.ref c)
  x14 : x 14 = some (.int m)
  x17 : x 17 = some (.ref wy)
  st : LawSt D c wy cl lo cs m l ls H
  dr : DrawAt D n H
  tb : Tabs T H
theorem LawSt.fr {D : DrA} {c wy cl lo : Addr} {cs : List Int} {m : Int} {l : Lay} {ls : List (Int × Int)} {H H' : Hp} (h : LawSt D c wy cl lo cs m l ls H) (f : FrT D H H') : LawSt D c wy cl lo cs m l ls H' :=
  ⟨h.cnt, h.m1, h.m2, h.lok, h.hc.fr f, h.hw.fr f, h.hcl.fr f, h.hlo.fr f, h.sub⟩
theorem LawSt.cell {D : DrA} {c wy cl lo : Addr} {cs : List Int} {m : Int} {l : Lay} {ls : List (Int × Int)} {H : Hp} (h : LawSt D c wy cl lo cs m l ls H) : ∀ e ∈ ls, CellOk cs e.1 e.2 := fun e he => cellsOf_ok h.cnt (h.sub.subset he)
theorem LawSt.asc {D : DrA} {c wy cl lo : Addr} {cs : List Int} {m : Int} {l : Lay} {ls : List (Int × Int)} {H : Hp} (h : LawSt D c wy cl lo cs m l ls H) : ls.Pairwise LtC := (cellsL_asc _ _).sublist h.sub
theorem LawSt.len {D : DrA} {c wy cl lo : Addr} {cs : List Int} {m : Int} {l : Lay} {ls : List (Int × Int)} {H : Hp} (h : LawSt D c wy cl lo cs m l ls H) : ls.length ≤ 256 := Nat.le_trans h.sub.length_le (cellsOf_length h.cnt)
section
variable {T : List (Addr × Str)} {n : Nat} {D : DrA} {c wy cl lo : Addr} {cs : List Int} {m : Int} {l : Lay} {ls : List (Int × Int)} {x : Nat → Option V} {H H' : Hp}
theorem LI.set (h : LI T n D c wy cl lo cs m l ls x H) (i : Nat) (v : Option V) (hi : (i ≠ 1 ∧ i ≠ 4 ∧ i ≠ 5) ∧ i ≠ 13 ∧ i ≠ 14 ∧ i ≠ 17 := by decide) : LI T n D c wy cl lo cs m l ls (sx x i v) H := by
  refine ⟨?_, ?_, ?_, ?_, ?_, ?_, h.st, h.dr, h.tb⟩
  · exact (if_neg hi.1.1.symm).trans h.x1
  · exact (if_neg hi.1.2.1.symm).trans h.x4
  · exact (if_neg hi.1.2.2.symm).trans h.x5
  · exact (if_neg hi.2.1.symm).trans h.x13
  · exact (if_neg hi.2.2.1.symm).trans h.x14
  · exact (if_neg hi.2.2.2.symm).trans h.x17
theorem LI.fr {n' : Nat} (h : LI T n D c wy cl lo cs m l ls x H) (f : Fr D H H') (d : DrawAt D n' H') : LI T n' D c wy cl lo cs m l ls x H' := ⟨h.x1, h.x4, h.x5, h.x13, h.x14, h.x17, h.st.fr f.t, d, Lm.Tabs.fr h.tb h.dr f⟩
theorem LI.sm (h : LI T n D c wy cl lo cs m l ls x H) (s : Same H H') : LI T n D c wy cl lo cs m l ls x H' := h.fr (.of s) (h.dr.sm s)
theorem LI.ext (h : LI T n D c wy cl lo cs m l ls x H) (e : ExtN H H') (t : Tabs T H') : LI T n D c wy cl lo cs m l ls x H' := ⟨h.x1, h.x4, h.x5, h.x13, h.x14, h.x17, h.st.fr (extN_frT e), h.dr.ext e, t⟩
theorem LI.mono {n' : Nat} (h : LI T n D c wy cl lo cs m l ls x H) (k : n ≤ n') : LI T n' D c wy cl lo cs m l ls x H := ⟨h.x1, h.x4, h.x5, h.x13, h.x14, h.x17, h.st, h.dr.mono k, h.tb⟩
end
end Lm
namespace Lm
open PySem PySem.Spec PyProof.Rows L2 LamX
section
variable {P : Program} {w : World} {K : PySem.W.Frag} {mg : Str → Option Value} {base : Heap} {CS BC BB BL BE BO f c Pt : Addr} {A : Around} {outer : List Env} {s : Shared} {H0 : Hp} {E : XK} {cdv : Value} {T : List (Addr × Str)} {D : DrA}
abbrev LX (P : Program) (w : World) (K : PySem.W.Frag) (mg : Str → Option Value) (base : Heap) (f : Addr) (cdv : Value) (A : Around) (outer : List Env) (s : Shared) (H : Hp) (E : XK) (i : Nat) (I J : L2.St → Hp → Prop) : Prop := Step (XL P w K mg base f cdv A outer s H E) (lawSt i) I J
def J0 (T : List (Addr × Str)) (D : DrA) (n : Nat) : L2.St → Hp → Prop := fun σ H => ∃ x, σ = S x ∧ x 1 = some (.ref D.d) ∧ DrawAt D n H ∧ Tabs T H
def J1 (T : List (Addr × Str)) (D : DrA) (n : Nat) : L2.St → Hp → Prop := fun σ H => ∃ x z, σ = S x ∧ x 1 = some (.ref D.d) ∧ x 3 = some (.int z) ∧ (z = 4 ∨ z = 16) ∧ DrawAt D (n + 1) H ∧ Tabs T H
def J2 (T : List (Addr × Str)) (D : DrA) (n : Nat) : L2.St → Hp → Prop := fun σ H => ∃ x c cs, σ = S x ∧ x 1 = some (.ref D.d) ∧ x 13 = some (.ref c) ∧ Da D H (.ref c) (.tuple (cs.map .int)) ∧ Cnt cs ∧ DrawAt D (n + 4) H ∧ Tabs T H
def J3 (T : List (Addr × Str)) (D : DrA) (n : Nat) : L2.St → Hp → Prop := fun σ H => ∃ x c cs m, σ = S x ∧ x 1 = some (.ref D.d) ∧ x 13 = some (.ref c) ∧ x 14 = some (.int m) ∧ Da D H (.ref c) (.tuple (cs.map .int)) ∧ Cnt cs ∧ 1 ≤ m ∧ m ≤ 32 ∧ DrawAt D (n + 6) H ∧ Tabs T H
def J4 (T : List (Addr × Str)) (D : DrA) (n : Nat) : L2.St → Hp → Prop := fun σ H => ∃ (x : Nat → Option V) (c wy cl : Addr) (cs : List Int) (m : Int) (l : Lay), σ = S x ∧ x 1 = some (.ref D.d) ∧ x 13 = some (.ref c) ∧ x 14 = some (.int m) ∧ x 17 = some (.ref wy) ∧ x 4 = some (.ref cl) ∧ Da D H (.ref c) (.tuple (cs.map .int)) ∧ Cnt cs ∧ 1 ≤ m ∧ m ≤ 32 ∧
  l.Ok cs m ∧ Da D H (.ref wy) l.dat ∧ Da D H (.ref cl) (.list ((cellsOf cs).map cellD)) ∧ DrawAt D (n + 306) H ∧ Tabs T H
def J5 (T : List (Addr × Str)) (D : DrA) (n : Nat) : L2.St → Hp → Prop := fun σ H => ∃ x c wy cl lo cs m l ls, σ = S x ∧ LI T n D c wy cl lo cs m l ls x H
variable {n : Nat}
theorem st0 (C : Callees P w K mg base CS BC BB BL BE BO) (hr : Room 20 (A.deeper (envOfC "law" (defScope sLaw) s.heap.objs.size f cdv))) (hn : n + 4000 ≤ B) : LX P w K mg base f cdv A outer s H0 E 0 (J0 T D n) (J1 T D n) := by
  refine ⟨_, ps_set (i := 3) scLaw.nd rfl (.inr rfl) (pe_h C.GP hr (by decide) (by rfl) (E := C8.E0) pass0 (pa_cons (pv 1) (pa_cons (pe_lst (pa_cons pe_int (pa_cons pe_int (pa_cons pe_int pa_nil)))) pa_nil))), ?_⟩
  rintro Dn σ H ⟨x, rfl, h1, dr, tb⟩ hN
  refine ⟨_, congrArg some h1, by show 3 ≤ sizeLine; decide, fun p np => ?_⟩
  obtain ⟨s1, d1, e1, o1, w1, g1⟩ := lst_da dr (.cons (.int 4) (.cons (.int 4) (.cons (.int 16) .nil))) np
  refine ⟨D, n, p, _, rfl, d1, by omega, e1, w1, (fun z => by cases z), (by show 3 < 1073741824; decide), fun H' i v hi d' f' => ?_⟩
  obtain ⟨z, rfl, hz⟩ : ∃ z, v = .int z ∧ (z = 4 ∨ z = 16) := by
    match i, hi with
    | 0, hi => cases hi; exact ⟨_, rfl, .inl rfl⟩
    | 1, hi => cases hi; exact ⟨_, rfl, .inl rfl⟩
    | 2, hi => cases hi; exact ⟨_, rfl, .inr rfl⟩
    | i + 3, hi => simp at hi
  exact hN _ _ ⟨sx x 3 (some (.int z)), z, rfl, h1, rfl, hz, d', Lm.Tabs.fr (tb.ext s1) d1 f'⟩
theorem st1 (C : Callees P w K mg base CS BC BB BL BE BO) (hr : Room 20 (A.deeper (envOfC "law" (defScope sLaw) s.heap.objs.size f cdv))) (hn : n + 4000 ≤ B) : LX P w K mg base f cdv A outer s H0 E 1 (J1 T D n) (J2 T D n) := by
  refine ⟨_, ps_set (i := 13) scLaw.nd rfl (.inr rfl) (pe_tupleOf (by rfl) C.N.btup (pe_lc (own := [("_law_lap", 19)]) (g := gName 19) (tt := tYes) rfl scLaw.nd (pi_range1 (by rfl) C.N.brng (pa_cons (pe_op op_add pe_int (pe_h C.GT hr (by decide) (by rfl) (E := C8.E0) pass0 (pa_cons (pv 1) (pa_cons pe_int pa_nil)))) pa_nil))
      (blkOk_by (own := [("_law_lap", 19)]) (N := nLaw) (sc := defScope sLaw) (by decide +kernel)) (fun _ _ _ _ _ => pg_name (i := 19) scLaw.nd rfl (Or.inl rfl)) (fun _ _ _ _ _ => pts_nil)
      (fun _ _ _ _ _ => pe_op op_add pe_int (pe_h C.GT (hr.mono (by decide : 2 ≤ 20)) (by decide) (by rfl) (E := C8.E0) pass0 (pa_cons (pv 1) (pa_cons (pv 3) pa_nil)))))), ?_⟩
  rintro Dn σ H ⟨x, z, rfl, h1, h3, hz, dr, tb⟩ hN
  refine ⟨_, congrArg some h1, D, n + 1, 2, rfl, dr, by omega, by decide, by decide, fun H1 u d1 f1 u0 u1 => ?_⟩
  refine ⟨_, _, rfl, rfl, 1 + u, rfl, by omega, by omega, fun W nW => lc_range (fun i H' => Fr D H1 H' ∧ DrawAt D (n + 2 + i) H' ∧ W ≠ D.d ∧ W ≠ D.w ∧ ∃ cs : List Int, H' W = some (.lst (cs.map V.int)) ∧ cs.length = i ∧ ∀ b ∈ cs, 1 ≤ b ∧ b ≤ 16) ⟨.of (same_upd nW), d1.new nW, (d1.off nW).1, (d1.off nW).2, [], upd_same, rfl, (fun b hb => by cases hb)⟩ ?_ ?_⟩
  · rintro i H' hi ⟨f3, d3, nd, nw, cs, hW, hl, hb⟩
    refine ⟨rfl, _, congrArg some h1, _, congrArg some h3, D, n + 2 + i, z, rfl, d3, by omega, by omega, by omega, fun H3 b d4 f4 b0 b1 => ?_⟩
    refine ⟨_, _, rfl, rfl, _, f4 _ _ hW nd nw, ?_, ?_, ?_, nd, nw, cs ++ [1 + b], ?_, ?_, ?_⟩
    · rw [List.length_map]
      exact small1000 (by omega)
    · intro y o e n1 n2
      rw [upd_ne (ne_of_none e nW)]
      exact f4 _ _ (f3 _ _ e n1 n2) n1 n2
    · obtain ⟨ws, gs, r, t, g1, g2, g3, g4, g5, g6⟩ := d4
      refine ⟨ws, gs, r, t, by rw [upd_ne nd.symm]; exact g1, by rw [upd_ne nw.symm]; exact g2, ?_, g4, g5, by omega⟩
      by_cases e : D.c = W
      · exfalso
        obtain ⟨_, _, _, _, _, _, k3, _⟩ := d1
        rw [e, nW] at k3
        cases k3
      · rw [upd_ne e]
        exact g3
    · rw [List.map_append]
      exact upd_same
    · rw [List.length_append, hl]
      rfl
    · intro y hy
      rcases List.mem_append.mp hy with hy | hy
      · exact hb y hy
      · rw [List.mem_singleton.mp hy]
        omega
  · rintro H3 ⟨f3, d3, nd, nw, cs, hW, hl, hb⟩
    refine .inl ⟨W, _, rfl, SqL.of hW, fun p np => ?_⟩
    obtain ⟨s4, d4, h4⟩ := tup_da d3 (.ints cs) np
    have kc : Cnt cs := by
      have : (1 + u).toNat = 1 ∨ (1 + u).toNat = 2 := by omega
      match cs, hl, hb with
      | [], hl, _ => have : (1 + u).toNat = 0 := hl.symm; omega
      | [a], _, hb => exact .inl ⟨a, rfl, hb a (List.mem_cons_self ..)⟩
      | [a, b], _, hb =>
        have h1 := hb a (List.mem_cons_self ..)
        have h2 := hb b (List.mem_cons_of_mem _ (List.mem_cons_self ..))
        exact .inr ⟨a, b, rfl, h1.1, h1.2, h2.1, h2.2⟩
      | _ :: _ :: _ :: r, hl, _ =>
        have : r.length + 1 + 1 + 1 = (1 + u).toNat := hl
        omega
    exact hN _ _ ⟨sx x 13 (some (.ref p)), p, cs, rfl, h1, rfl, h4, kc, d4.mono (by omega), Tabs.ext (Lm.Tabs.fr (Lm.Tabs.fr tb dr f1) d1 f3) s4⟩
theorem daAll_sub {H : Hp} {ys xs : List V} (k : ys.Sublist xs) : ∀ {ds : List PyData}, DaAll D H xs ds → ∃ es : List PyData, es.Sublist ds ∧ DaAll D H ys es := by
  induction k with
  | slnil => intro ds h; cases h; exact ⟨[], .slnil, .nil⟩
  | cons a s ih =>
    intro ds h
    cases h with
    | cons h t =>
      obtain ⟨es, s', p⟩ := ih t
      exact ⟨es, s'.cons _, p⟩
  | cons_cons a s ih =>
    intro ds h
    cases h with
    | cons h t =>
      obtain ⟨es, s', p⟩ := ih t
      exact ⟨_, s'.cons_cons _, .cons h p⟩
theorem st2 (C : Callees P w K mg base CS BC BB BL BE BO) (hr : Room 20 (A.deeper (envOfC "law" (defScope sLaw) s.heap.objs.size f cdv))) (hn : n + 4000 ≤ B) : LX P w K mg base f cdv A outer s H0 E 2 (J2 T D n) (J3 T D n) := by
  refine ⟨_, ps_set (i := 14) scLaw.nd rfl (.inr rfl) (pe_h C.GP hr (by decide) (by rfl) (E := C8.E0) pass0 (pa_cons (pv 1) (pa_cons (pe_lst (pa_cons pe_int (pa_cons pe_int (pa_cons pe_int (pa_cons pe_int (pa_cons pe_int (pa_cons pe_int (pa_cons pe_int
    (pa_cons (pe_op op_add pe_int (pe_h C.GT hr (by decide) (by rfl) (E := C8.E0) pass0 (pa_cons (pv 1) (pa_cons pe_int pa_nil)))) pa_nil))))))))) pa_nil))), ?_⟩
  rintro Dn σ H ⟨x, c, cs, rfl, h1, h13, hc, kc, dr, tb⟩ hN
  refine ⟨_, congrArg some h1, _, congrArg some h1, D, n + 4, 32, rfl, dr, by omega, by decide, by decide, fun H1 u d1 f1 u0 u1 => ⟨_, _, rfl, rfl, by show 8 ≤ sizeLine; decide, fun p np => ?_⟩⟩
  obtain ⟨s2, d2, e2, o2, w2, g2⟩ := lst_da d1 (.cons (.int 1) (.cons (.int 2) (.cons (.int 4) (.cons (.int 4) (.cons (.int 8) (.cons (.int 16) (.cons (.int 32) (.cons (.int (1 + u)) .nil)))))))) np
  refine ⟨D, n + 5, p, _, rfl, d2, by omega, e2, w2, (fun z => by cases z), (by show 8 < 1073741824; decide), fun H' i v hi d' f' => ?_⟩
  obtain ⟨m, rfl, m1, m2⟩ : ∃ m, v = .int m ∧ 1 ≤ m ∧ m ≤ 32 := by
    match i, hi with
    | 0, hi => cases hi; exact ⟨_, rfl, by decide, by decide⟩
    | 1, hi => cases hi; exact ⟨_, rfl, by decide, by decide⟩
    | 2, hi => cases hi; exact ⟨_, rfl, by decide, by decide⟩
    | 3, hi => cases hi; exact ⟨_, rfl, by decide, by decide⟩
    | 4, hi => cases hi; exact ⟨_, rfl, by decide, by decide⟩
    | 5, hi => cases hi; exact ⟨_, rfl, by decide, by decide⟩
    | 6, hi => cases hi; exact ⟨_, rfl, by decide, by decide⟩
    | 7, hi => cases hi; exact ⟨_, rfl, by omega, by omega⟩
    | i + 8, hi => simp at hi
  exact hN _ _ ⟨sx x 14 (some (.int m)), c, cs, m, rfl, h1, h13, rfl, ((hc.fr f1.t).sm s2).fr f'.t, kc, m1, m2, d', Lm.Tabs.fr (Tabs.ext (Lm.Tabs.fr tb dr f1) s2) d2 f'⟩
theorem st3 (C : Callees P w K mg base CS BC BB BL BE BO) (hr : Room 20 (A.deeper (envOfC "law" (defScope sLaw) s.heap.objs.size f cdv))) (hn : n + 4000 ≤ B) : LX P w K mg base f cdv A outer s H0 E 3 (J3 T D n) (J4 T D n) := by
  refine ⟨_, ps_asg (pe_tup (pa_cons (pe_h C.GW hr (by decide) (by rfl) (E := C8.E0) pass0 (pa_cons (pv 1) (pa_cons (pv 13) (pa_cons (pv 14) pa_nil)))) (pa_cons (pe_h C.GC hr (by decide) (by rfl) (E := C8.E0) pass0 (pa_cons (pv 13) pa_nil)) pa_nil)))
    (pg_tup rfl (pgs_cons (pg_name (i := 17) scLaw.nd rfl (.inr rfl)) (pgs_cons (pg_name (i := 4) scLaw.nd rfl (.inl rfl)) pgs_nil))), ?_⟩
  rintro Dn σ H ⟨x, c, cs, m, rfl, h1, h13, h14, hc, kc, m1, m2, dr, tb⟩ hN
  refine ⟨_, congrArg some h1, _, congrArg some h13, _, congrArg some h14, D, n + 6, c, cs, m, rfl, dr, by omega, dat_ints hc, kc, m1, m2, fun H1 wy l lok hw d1 f1 => ?_⟩
  have hc1 := hc.fr f1.t
  refine ⟨_, congrArg some h13, c, cs, rfl, dat_ints hc1, kc, fun H2 cl xs s2 ncl hcl cv => ?_⟩
  have d2 := d1.sm s2
  refine ⟨by show 2 ≤ sizeLine; decide, fun p np => ?_⟩
  have s3 : Same H2 (upd H2 p (.tup [.ref wy, .ref cl])) := same_upd np
  refine ⟨p, _, rfl, SqT.of upd_same, rfl, _, _, rfl, _, _, rfl, rfl, ?_⟩
  refine hN _ _ ⟨sx (sx x 17 (some (.ref wy))) 4 (some (.ref cl)), c, wy, cl, cs, m, l, rfl, h1, h13, h14, rfl, rfl, (hc1.sm s2).sm s3, kc, m1, m2, lok, (hw.sm s2).sm s3, ?_, (d2.sm s3).mono (by omega), Tabs.ext (Tabs.ext (Lm.Tabs.fr tb dr f1) s2) s3⟩
  have o := d1.off ncl
  exact .lst (s3 _ _ hcl) o.1 o.2 ((cells_dat d2 cv).sm s3)
theorem st4 (C : Callees P w K mg base CS BC BB BL BE BO) (hr : Room 20 (A.deeper (envOfC "law" (defScope sLaw) s.heap.objs.size f cdv))) (hn : n + 4000 ≤ B) : LX P w K mg base f cdv A outer s H0 E 4 (J4 T D n) (J5 T D (n + 600)) := by
  refine ⟨_, ps_set (i := 5) scLaw.nd rfl (.inl rfl) (pe_tupleOf (by rfl) C.N.btup (pe_h C.GF hr (by decide) (by rfl) (E := C8.E0) pass0 (pa_cons (pv 1) (pa_cons (pv 4) (pa_cons (pe_op op_add pe_int (pe_h C.GT hr (by decide) (by rfl) (E := C8.E0) pass0 (pa_cons (pv 1) (pa_cons pe_int pa_nil)))) pa_nil))))), ?_⟩
  rintro Dn σ H ⟨x, c, wy, cl, cs, m, l, rfl, h1, h13, h14, h17, h4, hc, kc, m1, m2, lok, hw, hcl, dr, tb⟩ hN
  refine ⟨_, congrArg some h1, _, congrArg some h4, _, congrArg some h1, D, n + 306, 5, rfl, dr, by omega, by decide, by decide, fun H1 u d1 f1 u0 u1 => ⟨_, _, rfl, rfl, ?_⟩⟩
  have hcl1 := hcl.fr f1.t
  cases hcl1 with
  | lst hx n1 n2 ha =>
    rename_i xs
    have hl := ha.length
    rw [List.length_map] at hl
    have hl2 := cellsOf_length kc
    refine ⟨D, n + 307, cl, xs, 1 + u, rfl, d1, by omega, hx, n2, by omega, by omega, by omega, fun H2 p ys sub hp d2 f2 => .inl ⟨p, _, rfl, SqL.of hp, fun q nq => ?_⟩⟩
    obtain ⟨es, sub2, ea⟩ := daAll_sub sub (ha.fr f2.t)
    obtain ⟨ls, sub3, rfl⟩ := List.sublist_map_iff.mp sub2
    obtain ⟨s3, d3, h3⟩ := tup_da d2 ea nq
    have f12 : Fr D H (upd H2 q (.tup ys)) := f1.trans (f2.trans (.of s3))
    exact hN _ _ ⟨sx x 5 (some (.ref q)), c, wy, cl, q, cs, m, l, ls, rfl, h1, h4, rfl, h13, h14, h17, ⟨kc, m1, m2, lok, hc.fr f12.t, hw.fr f12.t, hcl.fr f12.t, h3, sub3⟩, d3.mono (by omega), Tabs.ext (Lm.Tabs.fr (Lm.Tabs.fr tb dr f1) d1 f2) s3⟩
end
end Lm
namespace Lm
open PySem PySem.Spec PyProof.Rows L2 LamX
theorem lay_way {cs : List Int} {m : Int} {l : Lay} (h : l.Ok cs m) : isWayD cs m l.dat = true := by
  cases l with
  | pad n =>
    show wayX cs m "padded" (.int n) = true
    unfold wayX
    rw [if_pos (.inl rfl)]
    show (decide (0 ≤ n) && decide (n ≤ 31)) = true
    rw [decide_eq_true h.1, decide_eq_true h.2]
    rfl
  | trn n =>
    show wayX cs m "turned" (.int n) = true
    unfold wayX
    rw [if_pos (.inr rfl)]
    show (decide (0 ≤ n) && decide (n ≤ 31)) = true
    rw [decide_eq_true h.1, decide_eq_true h.2]
    rfl
  | lst bs =>
    show wayX cs m "listed" (.tuple (bs.map .int)) = true
    unfold wayX
    rw [if_neg (by decide), if_pos rfl]
    show (decide (((bs.map PyData.int).length : Int) = (boxL cs).1 * (boxL cs).2) && (bs.map PyData.int).all (numIn m)) = true
    rw [List.length_map, decide_eq_true h.1, Bool.true_and, List.all_eq_true]
    intro d hd
    obtain ⟨b, hb, rfl⟩ := List.mem_map.mp hd
    have := h.2 b hb
    show (decide (0 ≤ b) && decide (b < m)) = true
    rw [decide_eq_true this.1, decide_eq_true this.2]
    rfl
theorem lay_okD {cs : List Int} {m : Int} {l : Lay} (k : Cnt cs) (m2 : m ≤ 32) (h : l.Ok cs m) : okD 2 l.dat := by
  cases l with
  | pad n =>
    refine ⟨by show 2 ≤ 300; decide, fun d hd => ?_⟩
    rcases List.mem_cons.mp hd with rfl | hd
    · exact okD_str.mpr ⟨by decide +kernel, by decide +kernel⟩
    · rw [List.mem_singleton.mp hd]
      exact okD_int.mpr ⟨by have := h.1; omega, by have := h.2; omega⟩
  | trn n =>
    refine ⟨by show 2 ≤ 300; decide, fun d hd => ?_⟩
    rcases List.mem_cons.mp hd with rfl | hd
    · exact okD_str.mpr ⟨by decide +kernel, by decide +kernel⟩
    · rw [List.mem_singleton.mp hd]
      exact okD_int.mpr ⟨by have := h.1; omega, by have := h.2; omega⟩
  | lst bs =>
    refine ⟨by show 2 ≤ 300; decide, fun d hd => ?_⟩
    rcases List.mem_cons.mp hd with rfl | hd
    · exact okD_str.mpr ⟨by decide +kernel, by decide +kernel⟩
    · rw [List.mem_singleton.mp hd]
      have a := k.area
      have e := h.1
      refine ⟨by rw [List.length_map]; omega, fun d hd => ?_⟩
      obtain ⟨b, hb, rfl⟩ := List.mem_map.mp hd
      have := h.2 b hb
      exact okD_int.mpr ⟨by omega, by omega⟩
section
variable {P : Program} {w : World} {K : PySem.W.Frag} {mg : Str → Option Value} {base : Heap} {CS BC BB BL BE BO f c Pt : Addr} {A : Around} {outer : List Env} {s : Shared} {H0 : Hp} {E : XK} {cdv : Value} {T : List (Addr × Str)} {D : DrA} {n : Nat}
theorem st5 (C : Callees P w K mg base CS BC BB BL BE BO) (hr : Room 20 (A.deeper (envOfC "law" (defScope sLaw) s.heap.objs.size f cdv))) : LX P w K mg base f cdv A outer s H0 E 5 (J5 T D n) (J5 T D n) := by
  refine ⟨_, ps_if (pw_or (pt_cmpR op_notBl (pe_h C.il hr (by decide) (by rfl) passL (pa_cons (pv 13) (pa_cons (pv 14) (pa_cons (pv 17) pa_nil)))) pe_bl (nomark _))
    (pw_or1 (pt_cmpR op_notBl (pe_hK C.ilk hr (by decide) (by rfl) passL (pk_cons (pv 17) (pk_cons (pv 14) (pk_cons (pv 13) pk_nil)))) pe_bl (nomark _)))).pt (pss_one (ps_ret pe_bl)) pss_nil, ?_⟩
  rintro Dn σ H ⟨x, c, wy, cl, lo, cs, m, l, ls, rfl, I⟩ hN
  have yes := lay_way I.st.lok
  refine ⟨_, congrArg some I.x13, _, congrArg some I.x14, _, congrArg some I.x17, D, _, _, _, _, .int m, _, rfl, I.st.hc, .int m, I.st.hw, .inr (.inr ⟨cs, m, rfl, I.st.cnt, rfl, I.st.m1, I.st.m2, fun H1 s1 => ⟨_, true, rfl, rfl, _, rfl, ?_⟩⟩)⟩
  rw [yes]
  refine iteF ?_
  have I1 := I.sm s1
  refine ⟨_, congrArg some I.x17, _, congrArg some I.x14, _, congrArg some I.x13, rfl, D, .ref c, .int m, .ref wy, _, .int m, _, rfl, I1.st.hc, .int m, I1.st.hw, .inr (.inr ⟨cs, m, rfl, I.st.cnt, rfl, I.st.m1, I.st.m2, fun H2 s2 => ⟨_, true, rfl, rfl, _, rfl, ?_⟩⟩)⟩
  rw [yes]
  exact iteF (hN _ _ ⟨x, c, wy, cl, lo, cs, m, l, ls, rfl, I1.sm s2⟩)
def J6 (T : List (Addr × Str)) (D : DrA) (n : Nat) : L2.St → Hp → Prop := fun σ H => ∃ x c wy cl lo cs m l ls vb db, σ = S x ∧ LI T n D c wy cl lo cs m l ls x H ∧ x 12 = some vb ∧ Da D H vb db
theorem st6 (C : Callees P w K mg base CS BC BB BL BE BO) (hr : Room 20 (A.deeper (envOfC "law" (defScope sLaw) s.heap.objs.size f cdv))) (hn : n + 10 ≤ B) : LX P w K mg base f cdv A outer s H0 E 6 (J5 T D n) (J6 T D (n + 10)) := by
  refine ⟨_, ps_set (i := 12) scLaw.nd rfl (.inr rfl) (pe_ifExp (pt_cmpR op_gt (pe_h C.GT hr (by decide) (by rfl) (E := C8.E0) pass0 (pa_cons (pv 1) (pa_cons pe_int pa_nil))) pe_int (nomark _)) (pe_h C.GN hr (by decide) (by rfl) (E := C8.E0) pass0 (pa_cons (pv 1) (pa_cons (pv 17) pa_nil)))
    (pe_h C.GP hr (by decide) (by rfl) (E := C8.E0) pass0 (pa_cons (pv 1) (pa_cons (pe_lst (pa_cons (pe_tup (pa_cons pe_str (pa_cons pe_int pa_nil))) (pa_cons (pe_tup (pa_cons pe_str (pa_cons (pe_un un_neg pe_int) pa_nil))) (pa_cons (pe_tup (pa_cons pe_str (pa_cons (pe_tup pa_nil) pa_nil)))
      (pa_cons (pe_tup (pa_cons pe_str (pa_cons pe_int pa_nil))) (pa_cons pe_non pa_nil)))))) pa_nil)))), ?_⟩
  rintro Dn σ H ⟨x, c, wy, cl, lo, cs, m, l, ls, rfl, I⟩ hN
  refine ⟨_, congrArg some I.x1, D, n, 3, rfl, I.dr, by omega, by decide, by decide, fun H1 u d1 f1 u0 u1 => ⟨_, _, rfl, rfl, _, rfl, ite2 (fun _ => ?_) (fun _ => ?_)⟩⟩
  · have I1 := I.fr f1 d1
    refine ⟨_, congrArg some I.x1, _, congrArg some I.x17, D, n + 1, _, _, rfl, I1.st.hw, lay_okD I.st.cnt I.st.m2 I.st.lok, d1, by omega, fun H2 vb db hb d2 f2 => ?_⟩
    exact hN _ _ ⟨sx x 12 (some vb), c, wy, cl, lo, cs, m, l, ls, vb, db, rfl, (I1.fr f2 d2).set 12 _, rfl, hb⟩
  · have I1 := I.fr f1 d1
    refine ⟨_, congrArg some I.x1, by show 2 ≤ sizeLine; decide, fun p2 np2 => ?_⟩
    obtain ⟨s2, d2, h2⟩ := tup_da d1 (.cons (.str "padded") (.cons (.int 32) .nil)) np2
    generalize upd H1 p2 (.tup [.str "padded", .int 32]) = H2 at *
    refine ⟨1, rfl, by show 2 ≤ sizeLine; decide, fun p3 np3 => ?_⟩
    obtain ⟨s3, d3, h3⟩ := tup_da d2 (.cons (.str "turned") (.cons (.int (-1)) .nil)) np3
    generalize upd H2 p3 (.tup [.str "turned", .int (-1)]) = H3 at *
    refine ⟨Nat.zero_le _, fun p4 np4 => ?_⟩
    obtain ⟨s4, d4, h4⟩ := tup_da d3 .nil np4
    generalize upd H3 p4 (.tup []) = H4 at *
    refine ⟨by show 2 ≤ sizeLine; decide, fun p5 np5 => ?_⟩
    obtain ⟨s5, d5, h5⟩ := tup_da d4 (.cons (.str "listed") (.cons h4 .nil)) np5
    generalize upd H4 p5 (.tup [.str "listed", .ref p4]) = H5 at *
    refine ⟨by show 2 ≤ sizeLine; decide, fun p6 np6 => ?_⟩
    obtain ⟨s6, d6, h6⟩ := tup_da d5 (.cons (.str "crossed") (.cons (.int 1) .nil)) np6
    generalize upd H5 p6 (.tup [.str "crossed", .int 1]) = H6 at *
    refine ⟨by show 5 ≤ sizeLine; decide, fun p7 np7 => ?_⟩
    obtain ⟨s7, d7, e7, o7, w7, g7⟩ := lst_da d6 (.cons (h2.sm (s3.trans (s4.trans (s5.trans s6)))) (.cons (h3.sm (s4.trans (s5.trans s6))) (.cons (h5.sm s6) (.cons h6 (.cons .non .nil))))) np7
    have t7 := s2.trans (s3.trans (s4.trans (s5.trans (s6.trans s7))))
    refine pick_da (E := C8.E0) d7 (by omega) e7 o7 w7 g7 (fun z => by cases z) (by show 5 < 1073741824; decide) fun H8 v d d8 f8 _ hv => ?_
    exact hN _ _ ⟨sx x 12 (some v), c, wy, cl, lo, cs, m, l, ls, v, d, rfl, (((I1.fr (.of t7) d7).fr f8 d8).mono (by omega)).set 12 _, rfl, hv⟩
theorem st7 (C : Callees P w K mg base CS BC BB BL BE BO) (hr : Room 20 (A.deeper (envOfC "law" (defScope sLaw) s.heap.objs.size f cdv))) : LX P w K mg base f cdv A outer s H0 E 7 (J6 T D n) (J6 T D n) := by
  refine ⟨_, ps_if (pt_not (pt_val (pe_h C.GS hr (by decide) (by rfl) (E := C8.E0) pass0 (pa_cons (pe_h C.il hr (by decide) (by rfl) passL (pa_cons (pv 13) (pa_cons (pv 14) (pa_cons (pv 12) pa_nil)))) (pa_cons (pe_h C.GI hr (by decide) (by rfl) (E := C8.E0) pass0 (pa_cons (pv 13) (pa_cons (pv 14) (pa_cons (pv 12) pa_nil)))) pa_nil)))))
    (pss_one (ps_ret pe_bl)) pss_nil, ?_⟩
  rintro Dn σ H ⟨x, c, wy, cl, lo, cs, m, l, ls, vb, db, rfl, I, h12, hb⟩ hN
  refine ⟨_, congrArg some I.x13, _, congrArg some I.x14, _, congrArg some h12, D, _, _, _, _, .int m, db, rfl, I.st.hc, .int m, hb, .inr (.inr ⟨cs, m, rfl, I.st.cnt, rfl, I.st.m1, I.st.m2, fun H1 s1 => ?_⟩)⟩
  have I1 := I.sm s1
  refine ⟨_, congrArg some I.x13, _, congrArg some I.x14, _, congrArg some h12, D, c, cs, m, vb, db, rfl, dat_ints I1.st.hc, I.st.cnt, hb.sm s1, fun H2 s2 => ?_⟩
  refine ⟨_, _, rfl, true, by rw [decide_eq_true rfl], iteF (hN _ _ ⟨x, c, wy, cl, lo, cs, m, l, ls, vb, db, rfl, I1.sm s2, h12, (hb.sm s1).sm s2⟩)⟩
end
end Lm
namespace Lm
open PySem PySem.Spec PyProof.Rows L2 LamX
section
variable {P : Program} {w : World} {K : PySem.W.Frag} {mg : Str → Option Value} {base : Heap} {CS BC BB BL BE BO f c Pt : Addr} {A : Around} {outer : List Env} {s : Shared} {H0 : Hp} {E : XK} {cdv : Value} {T : List (Addr × Str)} {D : DrA} {n : Nat}
theorem at_cell {H : Hp} {v : V} {e : Int × Int} (h : Da D H v (cellD e)) : ∃ a, v = .ref a ∧ H a = some (.tup [.int e.1, .int e.2]) := by
  cases h with
  | tup h _ _ ha =>
    cases ha with
    | cons a1 ha =>
      cases a1
      cases ha with
      | cons a2 ha =>
        cases a2
        cases ha
        exact ⟨_, rfl, h⟩
theorem st8 (C : Callees P w K mg base CS BC BB BL BE BO) (hr : Room 20 (A.deeper (envOfC "law" (defScope sLaw) s.heap.objs.size f cdv))) (hg : A.guards = some []) : LX P w K mg base f cdv A outer s H0 E 8 (J6 T D n) (J6 T D n) := by
  have hu64 : (A.deeper (envOfC "law" (defScope sLaw) s.heap.objs.size f cdv)).units + 64 < cLine := by
    have := hr.un
    omega
  have hgg : (A.deeper (envOfC "law" (defScope sLaw) s.heap.objs.size f cdv)).guards = some [] := hg
  refine ⟨_, ps_for PassesOwn.never rfl (pi_list (pv 4)) (pg_name (i := 16) scLaw.nd rfl (.inr rfl))
    (pss_cons (ps_set (i := 6) scLaw.nd rfl (.inl rfl) (pe_h C.GK hr (by decide) (by rfl) (E := C8.E0) pass0 (pa_cons (pv 13) (pa_cons (pv 14) (pa_cons (pv 17) (pa_cons (pv 16) pa_nil))))))
    (pss_cons (ps_if (pt_cmpR op_ne
        (pe_callB (call_repr2 hgg hu64) (by rfl) C.N.brep (by decide +kernel) (pa_cons (pe_lst (pa_cons (pe_h C.bo hr (by decide) (by rfl) passL (pa_cons (pv 13) (pa_cons (pv 14) (pa_cons (pv 17) (pa_cons (pv 16) pa_nil)))))
          (pa_cons (pe_hK C.bok hr (by decide) (by rfl) passL (pk_cons (pv 16) (pk_cons (pv 17) (pk_cons (pv 14) (pk_cons (pv 13) pk_nil))))) pa_nil))) pa_nil))
        (pe_callB (call_repr2 hgg hu64) (by rfl) C.N.brep (by decide +kernel) (pa_cons (pe_lst (pa_cons (pv 6) (pa_cons (pv 6) pa_nil))) pa_nil)) (nomark _)) (pss_one (ps_ret pe_bl)) pss_nil)
    (pss_one (ps_if (pt_cmpR op_ne (pe_ix ix_tup (pv 17) pe_int (fun _ _ => rfl)) pe_str (nomark _))
        (pss_cons (ps_set (i := 7) scLaw.nd rfl (.inl rfl) (pe_ifExp (pt_cmpR op_eq (pe_ix ix_tup (pv 17) pe_int (fun _ _ => rfl)) pe_str (nomark _)) (pv 14) (pe_ix ix_tup (pv 13) (pe_un un_neg pe_int) (fun _ _ => rfl))))
        (pss_one (ps_if (pw_and (pt_cmpR op_le (pe_op op_add (pe_callTy call_int1 (by rfl) C.N.bint (by decide +kernel) (pa_cons (pe_ix ix_tup (pv 17) pe_int (fun _ _ => rfl)) pa_nil)) (pv 7)) pe_int (nomark _))
          (pw_and1 (pt_cmpR op_ne (pe_h C.bo hr (by decide) (by rfl) passL (pa_cons (pv 13) (pa_cons (pv 14) (pa_cons (pe_tup (pa_cons (pe_ix ix_tup (pv 17) pe_int (fun _ _ => rfl)) (pa_cons (pe_op op_add (pe_ix ix_tup (pv 17) pe_int (fun _ _ => rfl)) (pv 7)) pa_nil))) (pa_cons (pv 16) pa_nil))))) (pv 6) (nomark _)))).pt
          (pss_one (ps_ret pe_bl)) pss_nil))) pss_nil)))), ?_⟩
  rintro Dn σ H ⟨x, c, wy, cl, lo, cs, m, l, ls, vb, db, rfl, I, h12, hb⟩ hN
  have hcl := I.st.hcl
  cases hcl with
  | lst hx n1 n2 ha =>
    rename_i xs
    have kc := I.st.cnt
    have bx := kc.box
    have m1 := I.st.m1
    have m2 := I.st.m2
    have lok := I.st.lok
    refine ⟨_, congrArg some I.x4, cl, rfl, ⟨_, SqL.of hx⟩, for_list (K := K) (a := cl) (xs := xs) (fun i σ H' => Same H H' ∧ ∃ x, σ = S x ∧ LI T n D c wy cl lo cs m l ls x H' ∧ x 12 = some vb ∧ Da D H' vb db)
      ⟨fun _ _ z => z, x, rfl, I, h12, hb⟩ (fun i σ H' _ h => SqL.of (h.1 _ _ hx)) ?_ ?_⟩
    · rintro i v σ H' hv ⟨s1, x, rfl, I, h12, hb⟩
      obtain ⟨de, hde, hdv⟩ := (ha.sm s1).get hv
      obtain ⟨e, he, rfl⟩ : ∃ e, e ∈ cellsOf cs ∧ de = cellD e := by
        rw [List.getElem?_map] at hde
        cases q : (cellsOf cs)[i]? with
        | none => rw [q] at hde; cases hde
        | some e => rw [q] at hde; exact ⟨e, List.mem_of_getElem? q, (Option.some.inj hde).symm⟩
      have cok := cellsOf_ok kc he
      obtain ⟨y, xx⟩ := e
      obtain ⟨ce, rfl, hce⟩ := at_cell hdv
      have br := bankL_range kc m1 lok cok
      obtain ⟨bk, hbk⟩ : ∃ bk, bk = bankL cs m l y xx := ⟨_, rfl⟩
      have I2 := (I.set 16 (some (.ref ce))).set 6 (some (.int bk))
      refine ⟨_, congrArg some I.x13, _, congrArg some I.x14, _, congrArg some I.x17, _, rfl, D, c, wy, ce, cs, m, l, y, xx, rfl, dat_ints I.st.hc, kc, m1, I.st.hw, lok, hce, cok, ?_⟩
      rw [← hbk] at br ⊢
      refine ⟨_, congrArg some I.x13, _, congrArg some I.x14, _, congrArg some I.x17, _, rfl, D, _, _, _, _, _, .int m, _, _, rfl, I.st.hc, .int m, I.st.hw, hdv, .inr (.inr ⟨cs, m, rfl, kc, rfl, m1, m2, .inr ⟨l, rfl, lok, .inr ⟨y, xx, rfl, cok, fun H1 t1 => ?_⟩⟩⟩)⟩
      have J1 := I2.sm t1
      refine ⟨_, rfl, _, congrArg some I.x17, _, congrArg some I.x14, _, congrArg some I.x13, rfl, D, .ref c, .int m, .ref wy, .ref ce, _, .int m, _, _, rfl, J1.st.hc, .int m, J1.st.hw, hdv.sm t1, .inr (.inr ⟨cs, m, rfl, kc, rfl, m1, m2, .inr ⟨l, rfl, lok, .inr ⟨y, xx, rfl, cok, fun H2 t2 => ?_⟩⟩⟩)⟩
      rw [← hbk]
      refine ⟨by show 2 ≤ sizeLine; decide, fun p np => ⟨p, bk, rfl, SqL.of upd_same, br.1, by omega, ?_⟩⟩
      have t3 : Same H2 (upd H2 p (.lst [.int bk, .int bk])) := same_upd np
      generalize upd H2 p (.lst [.int bk, .int bk]) = H3 at *
      refine ⟨_, rfl, _, rfl, by show 2 ≤ sizeLine; decide, fun p4 np4 => ⟨p4, bk, rfl, SqL.of upd_same, br.1, by omega, rfl, _, rfl, ite2 (fun z => ?_) (fun _ => ?_)⟩⟩
      · rw [Bool.not_eq_true', decide_eq_false_iff_not] at z
        exact absurd rfl z
      · have t4 : Same H3 (upd H3 p4 (.lst [.int bk, .int bk])) := same_upd np4
        have J4 := J1.sm (t2.trans (t3.trans t4))
        have hdv4 := hdv.sm (t1.trans (t2.trans (t3.trans t4)))
        have s4 := s1.trans (t1.trans (t2.trans (t3.trans t4)))
        generalize upd H3 p4 (.lst [.int bk, .int bk]) = H4 at *
        have hl := lay_at J4.st.hw
        cases l with
        | lst bs =>
          obtain ⟨b, hl, _⟩ := hl
          exact ⟨_, congrArg some I.x17, wy, _, 0, _, rfl, rfl, SqT.of hl, rfl, rfl, _, rfl, iteF ⟨s4, _, rfl, J4, h12, hb.sm (t1.trans (t2.trans (t3.trans t4)))⟩⟩
        | pad z =>
          have hb4 := hb.sm (t1.trans (t2.trans (t3.trans t4)))
          have J7 := J4.set 7 (some (.int m))
          refine ⟨_, congrArg some I.x17, wy, _, 0, _, rfl, rfl, SqT.of hl, rfl, rfl, _, rfl, iteT ⟨_, congrArg some I.x17, wy, _, 0, _, rfl, rfl, SqT.of hl, rfl, rfl, _, rfl, iteT ⟨_, congrArg some I.x14, ?_⟩⟩⟩
          refine ⟨_, congrArg some I.x17, wy, _, 1, _, rfl, rfl, SqT.of hl, rfl, .inl ⟨_, rfl, _, rfl, _, _, rfl, rfl, _, _, rfl, rfl, _, rfl, ite2 (fun le => ?_) (fun _ => iteF ⟨s4, _, rfl, J7, h12, hb4⟩)⟩⟩
          have le : z + m ≤ 31 := of_decide_eq_true le
          refine ⟨_, congrArg some I.x13, _, congrArg some I.x14, _, congrArg some I.x17, wy, _, 0, _, rfl, rfl, SqT.of hl, rfl, _, congrArg some I.x17, wy, _, 1, _, rfl, rfl, SqT.of hl, rfl, _, rfl, _, _, rfl, rfl, by show 2 ≤ sizeLine; decide, fun p5 np5 => ?_⟩
          obtain ⟨t5, d5, h5⟩ := tup_da J4.dr (.cons (.str "padded") (.cons (.int (z + m)) .nil)) np5
          generalize upd H4 p5 (.tup [.str "padded", .int (z + m)]) = H5 at *
          have J5 := J7.sm t5
          refine ⟨_, rfl, D, _, _, _, _, _, .int m, (Lay.pad (z + m)).dat, _, rfl, J5.st.hc, .int m, h5, hdv4.sm t5, .inr (.inr ⟨cs, m, rfl, kc, rfl, m1, m2, .inr ⟨.pad (z + m), rfl, ⟨by have := lok.1; omega, le⟩, .inr ⟨y, xx, rfl, cok, fun H6 t6 => ?_⟩⟩⟩)⟩
          rw [bank_pad_on, ← hbk]
          refine ⟨_, rfl, rfl, _, rfl, ite2 (fun z => ?_) (fun _ => ⟨s4.trans (t5.trans t6), _, rfl, J5.sm t6, h12, hb4.sm (t5.trans t6)⟩)⟩
          rw [Bool.not_eq_true', decide_eq_false_iff_not] at z
          exact absurd rfl z
        | trn z =>
          have hb4 := hb.sm (t1.trans (t2.trans (t3.trans t4)))
          have J7 := J4.set 7 (some (.int (boxL cs).2))
          refine ⟨_, congrArg some I.x17, wy, _, 0, _, rfl, rfl, SqT.of hl, rfl, rfl, _, rfl, iteT ⟨_, congrArg some I.x17, wy, _, 0, _, rfl, rfl, SqT.of hl, rfl, rfl, _, rfl, iteF ⟨_, congrArg some I.x13, 1, rfl, c, _, -1, _, rfl, rfl, SqT.of (dat_ints J4.st.hc), cnt_last kc, ?_⟩⟩⟩
          refine ⟨_, congrArg some I.x17, wy, _, 1, _, rfl, rfl, SqT.of hl, rfl, .inl ⟨_, rfl, _, rfl, _, _, rfl, rfl, _, _, rfl, rfl, _, rfl, ite2 (fun le => ?_) (fun _ => iteF ⟨s4, _, rfl, J7, h12, hb4⟩)⟩⟩
          have le : z + (boxL cs).2 ≤ 31 := of_decide_eq_true le
          refine ⟨_, congrArg some I.x13, _, congrArg some I.x14, _, congrArg some I.x17, wy, _, 0, _, rfl, rfl, SqT.of hl, rfl, _, congrArg some I.x17, wy, _, 1, _, rfl, rfl, SqT.of hl, rfl, _, rfl, _, _, rfl, rfl, by show 2 ≤ sizeLine; decide, fun p5 np5 => ?_⟩
          obtain ⟨t5, d5, h5⟩ := tup_da J4.dr (.cons (.str "turned") (.cons (.int (z + (boxL cs).2)) .nil)) np5
          generalize upd H4 p5 (.tup [.str "turned", .int (z + (boxL cs).2)]) = H5 at *
          have J5 := J7.sm t5
          refine ⟨_, rfl, D, _, _, _, _, _, .int m, (Lay.trn (z + (boxL cs).2)).dat, _, rfl, J5.st.hc, .int m, h5, hdv4.sm t5, .inr (.inr ⟨cs, m, rfl, kc, rfl, m1, m2, .inr ⟨.trn (z + (boxL cs).2), rfl, ⟨by have := lok.1; omega, le⟩, .inr ⟨y, xx, rfl, cok, fun H6 t6 => ?_⟩⟩⟩)⟩
          rw [bank_trn_on, ← hbk]
          refine ⟨_, rfl, rfl, _, rfl, ite2 (fun z => ?_) (fun _ => ⟨s4.trans (t5.trans t6), _, rfl, J5.sm t6, h12, hb4.sm (t5.trans t6)⟩)⟩
          rw [Bool.not_eq_true', decide_eq_false_iff_not] at z
          exact absurd rfl z
    · rintro σ H' ⟨s1, x, rfl, I, h12, hb⟩
      exact hN _ _ ⟨x, c, wy, cl, lo, cs, m, l, ls, vb, db, rfl, I, h12, hb⟩
end
end Lm
namespace Lm
open PySem PySem.Spec PyProof.Rows L2 LamX
/-! ### data without lists -/
mutual
def noL : PyData → Bool
  | .list _ => false
  | .tuple ds => noLAll ds
  | .none => true
  | .bool _ => true
  | .int _ => true
  | .str _ => true
  | .dict _ => true
def noLAll : List PyData → Bool
  | [] => true
  | d :: r => noL d && noLAll r
end
mutual
theorem Da.tups {D : DrA} {H H' : Hp} (f : ∀ b xs, H b = some (.tup xs) → H' b = some (.tup xs)) : ∀ {d : PyData} {v : V}, noL d = true → Da D H v d → Da D H' v d
  | _, _, _, .non => .non
  | _, _, _, .bl b => .bl b
  | _, _, _, .int i => .int i
  | _, _, _, .str x => .str x
  | _, _, n, .lst _ _ _ _ => by rw [noL] at n; cases n
  | _, _, n, .tup h n1 n2 ha => .tup (f _ _ h) n1 n2 (DaAll.tups f (by rw [noL] at n; exact n) ha)
theorem DaAll.tups {D : DrA} {H H' : Hp} (f : ∀ b xs, H b = some (.tup xs) → H' b = some (.tup xs)) : ∀ {ds : List PyData} {vs : List V}, noLAll ds = true → DaAll D H vs ds → DaAll D H' vs ds
  | _, _, _, .nil => .nil
  | _, _, n, .cons h ha => .cons (Da.tups f (by rw [noLAll, Bool.and_eq_true] at n; exact n.1) h) (DaAll.tups f (by rw [noLAll, Bool.and_eq_true] at n; exact n.2) ha)
end
/-- the row of what was seen, at sv -/
structure SvI (T : List (Addr × Str)) (n : Nat) (D : DrA) (c wy cl lo : Addr) (cs : List Int) (m : Int) (l : Lay) (ls : List (Int × Int)) (vb : V) (db : PyData) (sv : Addr) (k : Nat) (x : Nat → Option V) (H : Hp) : Prop where
  x1 : x 1 = some (.ref D.d)
  x5 : x 5 = some (.ref lo)
  x13 : x 13 = some (.ref c)
  x14 : x 14 = some (.int m)
  x17 : x 17 = some (.ref wy)
  x12 : x 12 = some vb
  x8 : x 8 = some (.ref sv)
  snap : ∃ H1, LawSt D c wy cl lo cs m l ls H1 ∧ Da D H1 vb db ∧ H1 sv = none ∧ FrT D H1 H
  dr : DrawAt D n H
  tb : Tabs T H
  hs : H sv = some (.lst (List.replicate k (.bl true)))
  s1 : sv ≠ D.d
  s2 : sv ≠ D.w
  s3 : sv ≠ D.c
section
variable {T : List (Addr × Str)} {n : Nat} {D : DrA} {c wy cl lo : Addr} {cs : List Int} {m : Int} {l : Lay} {ls : List (Int × Int)} {vb : V} {db : PyData} {sv : Addr} {k : Nat} {x : Nat → Option V} {H H' : Hp}
theorem SvI.st (I : SvI T n D c wy cl lo cs m l ls vb db sv k x H) : LawSt D c wy cl lo cs m l ls H := by
  obtain ⟨H1, h, _, _, f⟩ := I.snap
  exact h.fr f
theorem SvI.hb (I : SvI T n D c wy cl lo cs m l ls vb db sv k x H) : Da D H vb db := by
  obtain ⟨H1, _, h, _, f⟩ := I.snap
  exact h.fr f
theorem SvI.set (h : SvI T n D c wy cl lo cs m l ls vb db sv k x H) (i : Nat) (v : Option V) (hi : (i ≠ 1 ∧ i ≠ 8 ∧ i ≠ 5 ∧ i ≠ 12) ∧ i ≠ 13 ∧ i ≠ 14 ∧ i ≠ 17 := by decide) : SvI T n D c wy cl lo cs m l ls vb db sv k (sx x i v) H :=
  ⟨(if_neg hi.1.1.symm).trans h.x1, (if_neg hi.1.2.2.1.symm).trans h.x5, (if_neg hi.2.1.symm).trans h.x13, (if_neg hi.2.2.1.symm).trans h.x14, (if_neg hi.2.2.2.symm).trans h.x17, (if_neg hi.1.2.2.2.symm).trans h.x12, (if_neg hi.1.2.1.symm).trans h.x8,
    h.snap, h.dr, h.tb, h.hs, h.s1, h.s2, h.s3⟩
theorem SvI.fr {n' : Nat} (h : SvI T n D c wy cl lo cs m l ls vb db sv k x H) (f : Fr D H H') (d : DrawAt D n' H') : SvI T n' D c wy cl lo cs m l ls vb db sv k x H' := by
  obtain ⟨H1, a, b, e, g⟩ := h.snap
  exact ⟨h.x1, h.x5, h.x13, h.x14, h.x17, h.x12, h.x8, ⟨H1, a, b, e, g.trans f.t⟩, d, Lm.Tabs.fr h.tb h.dr f, f _ _ h.hs h.s1 h.s2, h.s1, h.s2, h.s3⟩
theorem SvI.sm (h : SvI T n D c wy cl lo cs m l ls vb db sv k x H) (s : Same H H') : SvI T n D c wy cl lo cs m l ls vb db sv k x H' := h.fr (.of s) (h.dr.sm s)
theorem SvI.ext (h : SvI T n D c wy cl lo cs m l ls vb db sv k x H) (e : ExtN H H') (t : Tabs T H') : SvI T n D c wy cl lo cs m l ls vb db sv k x H' := by
  obtain ⟨H1, a, b, z, g⟩ := h.snap
  exact ⟨h.x1, h.x5, h.x13, h.x14, h.x17, h.x12, h.x8, ⟨H1, a, b, z, g.trans (extN_frT e)⟩, h.dr.ext e, t, e _ _ h.hs (fun _ z => by cases z), h.s1, h.s2, h.s3⟩
theorem SvI.put (h : SvI T n D c wy cl lo cs m l ls vb db sv k x H) : SvI T n D c wy cl lo cs m l ls vb db sv (k + 1) x (upd H sv (.lst (List.replicate k (.bl true) ++ [.bl true]))) := by
  obtain ⟨H1, a, b, z, g⟩ := h.snap
  refine ⟨h.x1, h.x5, h.x13, h.x14, h.x17, h.x12, h.x8, ⟨H1, a, b, z, fun y o e n1 n2 n3 => ?_⟩, ?_, ?_, ?_, h.s1, h.s2, h.s3⟩
  · rw [upd_ne (fun q => by rw [q, z] at e; cases e)]
    exact g y o e n1 n2 n3
  · obtain ⟨ws, gs, r, t, g1, g2, g3, g4, g5, g6⟩ := h.dr
    exact ⟨ws, gs, r, t, by rw [upd_ne h.s1.symm]; exact g1, by rw [upd_ne h.s2.symm]; exact g2, by rw [upd_ne h.s3.symm]; exact g3, g4, g5, g6⟩
  · intro p hp
    obtain ⟨ps, e1, e2, e3⟩ := h.tb p hp
    refine ⟨ps, by rw [upd_ne (ne_of e1 h.hs (fun z => by cases z))]; exact e1, e2, fun pos cv hc => ?_⟩
    obtain ⟨c, a, b⟩ := e3 pos cv hc
    exact ⟨c, a, by rw [upd_ne (ne_of b h.hs (fun z => by unfold CodeO at z; cases z))]; exact b⟩
  · rw [List.replicate_succ']
    exact upd_same
end
section
variable {P : Program} {w : World} {K : PySem.W.Frag} {mg : Str → Option Value} {base : Heap} {CS BC BB BL BE BO f c Pt : Addr} {A : Around} {outer : List Env} {s : Shared} {H0 : Hp} {E : XK} {cdv : Value} {T : List (Addr × Str)} {D : DrA} {n : Nat}
def J7 (T : List (Addr × Str)) (D : DrA) (n : Nat) : L2.St → Hp → Prop := fun σ H => ∃ x c wy cl lo cs m l ls vb db v, σ = S x ∧ LI T n D c wy cl lo cs m l ls x H ∧ x 12 = some vb ∧ Da D H vb db ∧ x 6 = some (.int v) ∧ PriceIs (ls.map fun c => bankL cs m l c.1 c.2) v
theorem st9 (C : Callees P w K mg base CS BC BB BL BE BO) (hr : Room 20 (A.deeper (envOfC "law" (defScope sLaw) s.heap.objs.size f cdv))) : LX P w K mg base f cdv A outer s H0 E 9 (J6 T D n) (J7 T D n) := by
  refine ⟨_, ps_set (i := 6) scLaw.nd rfl (.inl rfl) (pe_h C.GR hr (by decide) (by rfl) (E := C8.E0) pass0 (pa_cons (pv 13) (pa_cons (pv 14) (pa_cons (pv 17) (pa_cons (pv 5) pa_nil))))), ?_⟩
  rintro Dn σ H ⟨x, c, wy, cl, lo, cs, m, l, ls, vb, db, rfl, I, h12, hb⟩ hN
  have hlo := I.st.hlo
  cases hlo with
  | tup hx n1 n2 ha =>
    refine ⟨_, congrArg some I.x13, _, congrArg some I.x14, _, congrArg some I.x17, _, congrArg some I.x5, D, c, wy, lo, cs, m, l, _, ls, rfl, dat_ints I.st.hc, I.st.cnt, I.st.m1, I.st.hw, I.st.lok, hx, dat_cells ha I.st.cell, Nat.le_trans I.st.len (by decide), fun H1 v s1 hv => ?_⟩
    exact hN _ _ ⟨sx x 6 (some (.int v)), c, wy, cl, lo, cs, m, l, ls, vb, db, v, rfl, (I.sm s1).set 6 _, h12, hb.sm s1, rfl, hv⟩
theorem price_range {bs : List Int} {v : Int} (h : PriceIs bs v) (hl : bs.length ≤ 256) : 0 ≤ v ∧ v < 512 := by
  refine ⟨h.2 0 (List.mem_cons_self ..), ?_⟩
  rcases List.mem_cons.mp h.1 with e | e
  · omega
  · obtain ⟨b, _, e⟩ := List.mem_map.mp e
    unfold cntL at e
    have := List.length_filter_le (fun z => decide (z = b)) bs
    omega
theorem st10 (C : Callees P w K mg base CS BC BB BL BE BO) (hr : Room 20 (A.deeper (envOfC "law" (defScope sLaw) s.heap.objs.size f cdv))) (hg : A.guards = some []) : LX P w K mg base f cdv A outer s H0 E 10 (J7 T D n) (J6 T D n) := by
  have hu64 : (A.deeper (envOfC "law" (defScope sLaw) s.heap.objs.size f cdv)).units + 64 < cLine := by
    have := hr.un
    omega
  have hgg : (A.deeper (envOfC "law" (defScope sLaw) s.heap.objs.size f cdv)).guards = some [] := hg
  refine ⟨_, ps_if (pt_cmpR op_ne
        (pe_callB (call_repr2 hgg hu64) (by rfl) C.N.brep (by decide +kernel) (pa_cons (pe_lst (pa_cons (pe_h C.co hr (by decide) (by rfl) passL (pa_cons (pv 13) (pa_cons (pv 14) (pa_cons (pv 17) (pa_cons (pv 5) pa_nil)))))
          (pa_cons (pe_hK C.cok hr (by decide) (by rfl) passL (pk_cons (pv 5) (pk_cons (pv 17) (pk_cons (pv 14) (pk_cons (pv 13) pk_nil))))) pa_nil))) pa_nil))
        (pe_callB (call_repr2 hgg hu64) (by rfl) C.N.brep (by decide +kernel) (pa_cons (pe_lst (pa_cons (pv 6) (pa_cons (pv 6) pa_nil))) pa_nil)) (nomark _)) (pss_one (ps_ret pe_bl)) pss_nil, ?_⟩
  rintro Dn σ H ⟨x, c, wy, cl, lo, cs, m, l, ls, vb, db, v, rfl, I, h12, hb, h6, hv⟩ hN
  have vr := price_range hv (by rw [List.length_map]; exact I.st.len)
  have hlen : lenD (.tuple (ls.map cellD)) ≤ 1000 := by
    show (ls.map cellD).length ≤ 1000
    rw [List.length_map]
    exact Nat.le_trans I.st.len (by decide)
  refine ⟨_, congrArg some I.x13, _, congrArg some I.x14, _, congrArg some I.x17, _, congrArg some I.x5, D, _, _, _, _, _, .int m, _, _, rfl, I.st.hc, .int m, I.st.hw, I.st.hlo, hlen, .inr (.inr ⟨cs, m, rfl, I.st.cnt, rfl, I.st.m1, I.st.m2, .inr ⟨l, rfl, I.st.lok, .inr ⟨ls, rfl, I.st.cell, I.st.asc, fun H1 v1 t1 hv1 => ?_⟩⟩⟩)⟩
  have J1 := I.sm t1
  obtain rfl := hv.one hv1
  refine ⟨_, congrArg some I.x5, _, congrArg some I.x17, _, congrArg some I.x14, _, congrArg some I.x13, rfl, D, .ref c, .int m, .ref wy, .ref lo, _, .int m, _, _, rfl, J1.st.hc, .int m, J1.st.hw, J1.st.hlo, hlen, .inr (.inr ⟨cs, m, rfl, I.st.cnt, rfl, I.st.m1, I.st.m2, .inr ⟨l, rfl, I.st.lok, .inr ⟨ls, rfl, I.st.cell, I.st.asc, fun H2 v2 t2 hv2 => ?_⟩⟩⟩)⟩
  obtain rfl := hv.one hv2
  refine ⟨by show 2 ≤ sizeLine; decide, fun p np => ⟨p, v, rfl, SqL.of upd_same, vr.1, vr.2, ?_⟩⟩
  have t3 : Same H2 (upd H2 p (.lst [.int v, .int v])) := same_upd np
  generalize upd H2 p (.lst [.int v, .int v]) = H3 at *
  refine ⟨_, congrArg some h6, _, congrArg some h6, by show 2 ≤ sizeLine; decide, fun p4 np4 => ⟨p4, v, rfl, SqL.of upd_same, vr.1, vr.2, rfl, _, rfl, ite2 (fun z => ?_) (fun _ => ?_)⟩⟩
  · rw [Bool.not_eq_true', decide_eq_false_iff_not] at z
    exact absurd rfl z
  · have t := t2.trans (t3.trans (same_upd (o := .lst [.int v, .int v]) np4))
    exact hN _ _ ⟨x, c, wy, cl, lo, cs, m, l, ls, vb, db, rfl, J1.sm t, h12, hb.sm (t1.trans t)⟩
theorem st11 (C : Callees P w K mg base CS BC BB BL BE BO) (hr : Room 20 (A.deeper (envOfC "law" (defScope sLaw) s.heap.objs.size f cdv))) (hn : n + 1 ≤ B) : LX P w K mg base f cdv A outer s H0 E 11 (J6 T D n) (J6 T D (n + 1)) := by
  refine ⟨_, ps_if (pt_not (pt_val (pe_h C.GL hr (by decide) (by rfl) (E := C8.E0) pass0 (pa_cons (pv 13) (pa_cons (pv 14) (pa_cons (pe_h C.GT hr (by decide) (by rfl) (E := C8.E0) pass0 (pa_cons (pv 1) (pa_cons pe_int pa_nil))) pa_nil)))))) (pss_one (ps_ret pe_bl)) pss_nil, ?_⟩
  rintro Dn σ H ⟨x, c, wy, cl, lo, cs, m, l, ls, vb, db, rfl, I, h12, hb⟩ hN
  refine ⟨_, congrArg some I.x13, _, congrArg some I.x14, _, congrArg some I.x1, D, n, 32, rfl, I.dr, hn, by decide, by decide, fun H1 u d1 f1 u0 u1 => ?_⟩
  have I1 := I.fr f1 d1
  refine ⟨D, n + 1, c, cs, m, u, rfl, d1, I1.st.hc, I1.st.cnt, I1.st.m1, I1.st.m2, u0, by omega, fun H2 s2 => ⟨_, rfl, iteF (hN _ _ ⟨x, c, wy, cl, lo, cs, m, l, ls, vb, db, rfl, I1.sm s2, h12, (hb.fr f1.t).sm s2⟩)⟩⟩
end
end Lm
namespace Lm
open PySem PySem.Spec PyProof.Rows L2 LamX
theorem noCnt_kind {d : PyData} (h : isTup d = false) : ¬ CntIs d := by
  rintro ⟨cs, rfl, _⟩
  cases h
theorem noCnt_one {n : Int} (h : ¬ (1 ≤ n ∧ n ≤ 16)) : ¬ CntIs (.tuple [.int n]) := by
  rintro ⟨cs, e, ⟨c, rfl, k⟩ | ⟨a, b, rfl, _⟩⟩
  · injection e with e
    injection e with e _
    injection e with e
    subst e
    exact h k
  · injection e with e
    injection e with _ e
    cases e
section
variable {P : Program} {w : World} {K : PySem.W.Frag} {mg : Str → Option Value} {base : Heap} {CS BC BB BL BE BO f c Pt : Addr} {A : Around} {outer : List Env} {s : Shared} {H0 : Hp} {E : XK} {cdv : Value} {T : List (Addr × Str)} {D : DrA} {n : Nat}
def J8 (T : List (Addr × Str)) (D : DrA) (n : Nat) : L2.St → Hp → Prop := fun σ H => ∃ x c wy cl lo cs m l ls vb db vo od, σ = S x ∧ LI T n D c wy cl lo cs m l ls x H ∧ x 12 = some vb ∧ Da D H vb db ∧ x 15 = some vo ∧ Da D H vo od ∧ ¬ CntIs od
theorem st12 (C : Callees P w K mg base CS BC BB BL BE BO) (hr : Room 20 (A.deeper (envOfC "law" (defScope sLaw) s.heap.objs.size f cdv))) (hn : n + 1 ≤ B) : LX P w K mg base f cdv A outer s H0 E 12 (J6 T D n) (J8 T D (n + 1)) := by
  refine ⟨_, ps_set (i := 15) scLaw.nd rfl (.inr rfl) (pe_h C.GP hr (by decide) (by rfl) (E := C8.E0) pass0 (pa_cons (pv 1) (pa_cons (pe_lst (pa_cons pe_non (pa_cons (pe_tup pa_nil) (pa_cons (pe_lst (pa_cons pe_int pa_nil)) (pa_cons (pe_tup (pa_cons pe_int pa_nil)) (pa_cons (pe_tup (pa_cons pe_int pa_nil))
    (pa_cons (pe_tup (pa_cons pe_int (pa_cons pe_int (pa_cons pe_int pa_nil)))) (pa_cons (pe_tup (pa_cons pe_bl pa_nil)) (pa_cons pe_int (pa_cons (pe_tup (pa_cons pe_str pa_nil)) (pa_cons (pe_tup (pa_cons pe_int (pa_cons pe_int pa_nil))) pa_nil))))))))))) pa_nil))), ?_⟩
  rintro Dn σ H ⟨x, c, wy, cl, lo, cs, m, l, ls, vb, db, rfl, I, h12, hb⟩ hN
  have k0 : Pk (fun d => ¬ CntIs d) D H [.non] := Pk.nil.add (fun _ _ z => z) .non (noCnt_kind rfl)
  have d0 := I.dr
  refine ⟨_, congrArg some I.x1, Nat.zero_le _, fun p1 np1 => ?_⟩
  obtain ⟨s1, d1, h1⟩ := tup_da d0 .nil np1
  generalize upd H p1 (.tup []) = H1 at *
  have k1 := k0.add s1 h1 (by
    rintro ⟨cs, e, ⟨_, rfl, _⟩ | ⟨_, _, rfl, _⟩⟩ <;> cases e)
  refine ⟨by show 1 ≤ sizeLine; decide, fun p2 np2 => ?_⟩
  obtain ⟨s2, d2, e2, o2, w2, g2⟩ := lst_da d1 (.cons (.int 4) .nil) np2
  have h2 : Da D _ (.ref p2) (.list _) := .lst e2 o2 w2 g2
  generalize upd H1 p2 (.lst [.int 4]) = H2 at *
  have k2 := k1.add s2 h2 (noCnt_kind rfl)
  refine ⟨by show 1 ≤ sizeLine; decide, fun p3 np3 => ?_⟩
  obtain ⟨s3, d3, h3⟩ := tup_da d2 (.cons (.int 0) .nil) np3
  generalize upd H2 p3 (.tup [.int 0]) = H3 at *
  have k3 := k2.add s3 h3 (noCnt_one (by omega))
  refine ⟨by show 1 ≤ sizeLine; decide, fun p4 np4 => ?_⟩
  obtain ⟨s4, d4, h4⟩ := tup_da d3 (.cons (.int 17) .nil) np4
  generalize upd H3 p4 (.tup [.int 17]) = H4 at *
  have k4 := k3.add s4 h4 (noCnt_one (by omega))
  refine ⟨by show 3 ≤ sizeLine; decide, fun p5 np5 => ?_⟩
  obtain ⟨s5, d5, h5⟩ := tup_da d4 (.cons (.int 4) (.cons (.int 4) (.cons (.int 4) .nil))) np5
  generalize upd H4 p5 (.tup [.int 4, .int 4, .int 4]) = H5 at *
  have k5 := k4.add s5 h5 (by
    rintro ⟨cs, e, ⟨_, rfl, _⟩ | ⟨_, _, rfl, _⟩⟩ <;> cases e)
  refine ⟨by show 1 ≤ sizeLine; decide, fun p6 np6 => ?_⟩
  obtain ⟨s6, d6, h6⟩ := tup_da d5 (.cons (.bl true) .nil) np6
  generalize upd H5 p6 (.tup [.bl true]) = H6 at *
  have k6 := k5.add s6 h6 (by
    rintro ⟨cs, e, ⟨_, rfl, _⟩ | ⟨_, _, rfl, _⟩⟩ <;> cases e)
  have k7 := k6.add (fun _ _ z => z) (.int 4) (noCnt_kind rfl)
  refine ⟨by show 1 ≤ sizeLine; decide, fun p8 np8 => ?_⟩
  obtain ⟨s8, d8, h8⟩ := tup_da d6 (.cons (.str "4") .nil) np8
  generalize upd H6 p8 (.tup [.str "4"]) = H8 at *
  have k8 := k7.add s8 h8 (by
    rintro ⟨cs, e, ⟨_, rfl, _⟩ | ⟨_, _, rfl, _⟩⟩ <;> cases e)
  refine ⟨by show 2 ≤ sizeLine; decide, fun p9 np9 => ?_⟩
  obtain ⟨s9, d9, h9⟩ := tup_da d8 (.cons (.int 4) (.cons (.int 0) .nil)) np9
  generalize upd H8 p9 (.tup [.int 4, .int 0]) = H9 at *
  have k9 := k8.add s9 h9 (by
    rintro ⟨cs, e, ⟨_, rfl, _⟩ | ⟨a, b, rfl, k⟩⟩
    · cases e
    · cases e
      omega)
  refine ⟨by show 10 ≤ sizeLine; decide, fun p np => ?_⟩
  have kf : Pk (fun d => ¬ CntIs d) D H9 [.non, .ref p1, .ref p2, .ref p3, .ref p4, .ref p5, .ref p6, .int 4, .ref p8, .ref p9] := k9
  obtain ⟨es, ea, en⟩ := kf
  obtain ⟨s10, d10, e10, o10, w10, g10⟩ := lst_da d9 ea np
  have t := s1.trans (s2.trans (s3.trans (s4.trans (s5.trans (s6.trans (s8.trans (s9.trans s10)))))))
  refine pick_da (E := C8.E0) d10 hn e10 o10 w10 g10 (fun z => by cases z) (by show 10 < 1073741824; decide) fun H' v d d' f' hm hv => ?_
  exact hN _ _ ⟨sx x 15 (some v), c, wy, cl, lo, cs, m, l, ls, vb, db, v, d, rfl, (((I.sm t).fr f' d').set 15 _), h12, (hb.sm t).fr f'.t, rfl, hv, en d hm⟩
/-- the row of what was seen, and N of the state besides -/
def JS (T : List (Addr × Str)) (D : DrA) (n b : Nat) (N : (Nat → Option V) → Hp → List Int → Prop) : L2.St → Hp → Prop := fun σ H => ∃ x c wy cl lo cs m l ls vb db sv k, σ = S x ∧ SvI T n D c wy cl lo cs m l ls vb db sv k x H ∧ k ≤ b ∧ N x H cs
def NoX : (Nat → Option V) → Hp → List Int → Prop := fun _ _ _ => True
/-- a value in slot i, of data that keeps R -/
def Slot (D : DrA) (i : Nat) (R : List Int → PyData → Prop) : (Nat → Option V) → Hp → List Int → Prop := fun x H cs => ∃ v d, x i = some v ∧ Da D H v d ∧ R cs d
theorem st13 (C : Callees P w K mg base CS BC BB BL BE BO) (hr : Room 20 (A.deeper (envOfC "law" (defScope sLaw) s.heap.objs.size f (.ref c)))) (TB : LamX.TabB base mg c Pt) (hT : T = TL Pt) : LX P w K mg base f (.ref c) A outer s H0 E 13 (J8 T D n) (JS T D n 1 (Slot D 15 fun _ d => ¬ CntIs d)) := by
  refine ⟨_, ps_set (i := 8) scLaw.nd rfl (.inl rfl) (pe_lst (pa_cons (pe_callB (call_isX C.bc.ex) (by rfl) C.N.bisi (by decide +kernel) (pa_cons
    (pe_caught (T := T) C.caught C.lane TB rfl hT (hr.mono (by decide : 12 ≤ 20)) (by rfl) (show LamS (defScope sLaw) _ from lamS_by (by decide +kernel)) rfl (fun _ _ _ _ _ => rfl)
      (fun A outer s H E f c' hr => pe_h C.il hr (by decide) (by rfl) passLam (pa_cons (pv 15) (pa_cons pe_non (pa_cons (pv 17) pa_nil)))))
    (pa_cons (pe_glob (v := V.ref BC) (by rfl) C.bc.at_ rfl) pa_nil))) pa_nil)), ?_⟩
  rintro Dn σ H ⟨x, c, wy, cl, lo, cs, m, l, ls, vb, db, vo, od, rfl, I, h12, hb, h15, ho, hno⟩ hN
  refine ⟨I.tb, fun H1 e1 T1 => ?_⟩
  have I1 := I.ext e1 T1
  refine ⟨_, congrArg some h15, _, congrArg some I.x17, D, _, _, _, _, .none, _, rfl, ho.fr (extN_frT e1), .non, I1.st.hw, .inl ⟨hno, fun H2 t2 => ⟨C.bc.exm, fun a na => ⟨a, .ref BC, .ref BC, true, rfl, upd_same, fun _ e => e, C.bc.kit, ?_⟩⟩⟩⟩
  have t3 : Same H2 (upd H2 a (ExI a (.ref BC) none)) := same_upd na
  have I3 := (I1.sm t2).sm t3
  have hb3 := ((hb.fr (extN_frT e1)).sm t2).sm t3
  have ho3 := ((ho.fr (extN_frT e1)).sm t2).sm t3
  generalize upd H2 a (ExI a (.ref BC) none) = H3 at *
  refine ⟨by show 1 ≤ sizeLine; decide, fun sv nsv => ?_⟩
  have t4 : Same H3 (upd H3 sv (.lst [.bl true])) := same_upd nsv
  have o := I3.dr.off nsv
  have oc : sv ≠ D.c := by
    obtain ⟨_, _, _, _, _, _, g3, _⟩ := I3.dr
    exact fun z => by rw [z, g3] at nsv; cases nsv
  have I4 := (I3.sm t4).set 8 (some (.ref sv))
  exact hN _ _ ⟨sx x 8 (some (.ref sv)), c, wy, cl, lo, cs, m, l, ls, vb, db, sv, 1, rfl, ⟨I4.x1, I4.x5, I4.x13, I4.x14, I4.x17, h12, rfl, ⟨H3, I3.st, hb3, nsv, (Fr.of t4).t⟩, I4.dr, I4.tb, upd_same, o.1, o.2, oc⟩, Nat.le_refl _, vo, od, h15, ho3.sm t4, hno⟩
theorem st14 (C : Callees P w K mg base CS BC BB BL BE BO) (hr : Room 20 (A.deeper (envOfC "law" (defScope sLaw) s.heap.objs.size f (.ref c)))) (TB : LamX.TabB base mg c Pt) (hT : T = TL Pt) : LX P w K mg base f (.ref c) A outer s H0 E 14 (JS T D n 1 (Slot D 15 fun _ d => ¬ CntIs d)) (JS T D n 2 NoX) := by
  refine ⟨_, ps_expr (pe_bm PySem.F.plainAttrs_list PySem.F.slot_list_append PySem.F.type_list_append mt_append (pv 8) (pa_cons (pe_callB (call_isX C.bc.ex) (by rfl) C.N.bisi (by decide +kernel) (pa_cons
    (pe_caught (T := T) C.caught C.lane TB rfl hT (hr.mono (by decide : 12 ≤ 20)) (by rfl) (show LamS (defScope sLaw) _ from lamS_by (by decide +kernel)) rfl (fun _ _ _ _ _ => rfl)
      (fun A outer s H E f c' hr => pe_h C.co hr (by decide) (by rfl) passLam (pa_cons (pv 15) (pa_cons pe_int (pa_cons pe_non (pa_cons pe_non pa_nil))))))
    (pa_cons (pe_glob (v := V.ref BC) (by rfl) C.bc.at_ rfl) pa_nil))) pa_nil)), ?_⟩
  rintro Dn σ H ⟨x, c, wy, cl, lo, cs, m, l, ls, vb, db, sv, k, rfl, I, kb, vo, od, h15, ho, hno⟩ hN
  refine ⟨_, congrArg some I.x8, .inl ⟨rfl, _, .inl (.inl I.hs)⟩, I.tb, fun H1 e1 T1 => ?_⟩
  have I1 := I.ext e1 T1
  refine ⟨_, congrArg some h15, D, _, _, _, _, _, .int 0, .none, .none, rfl, ho.fr (extN_frT e1), .int 0, .non, .non, Nat.zero_le _, .inl ⟨hno, fun H2 t2 => ⟨C.bc.exm, fun a na => ⟨a, .ref BC, .ref BC, true, rfl, upd_same, fun _ e => e, C.bc.kit, ?_⟩⟩⟩⟩
  have I3 := (I1.sm t2).sm (same_upd (o := ExI a (.ref BC) none) na)
  refine ⟨sv, _, .bl true, rfl, rfl, I3.hs, ?_, hN _ _ ⟨x, c, wy, cl, lo, cs, m, l, ls, vb, db, sv, k + 1, rfl, I3.put, by omega, trivial⟩⟩
  rw [List.length_replicate]
  exact small1000 (by omega)
end
end Lm
namespace Lm
open PySem PySem.Spec PyProof.Rows L2 LamX
theorem noBnk_kind {d : PyData} (h : isNum d = false) : ¬ BnkIs d := by
  rintro ⟨m, rfl, _⟩
  cases h
theorem noBnk_int {n : Int} (h : ¬ (1 ≤ n ∧ n ≤ 32)) : ¬ BnkIs (.int n) := by
  rintro ⟨m, e, k⟩
  injection e with e
  subst e
  exact h k
section
variable {P : Program} {w : World} {K : PySem.W.Frag} {mg : Str → Option Value} {base : Heap} {CS BC BB BL BE BO f c Pt : Addr} {A : Around} {outer : List Env} {s : Shared} {H0 : Hp} {E : XK} {cdv : Value} {T : List (Addr × Str)} {D : DrA} {n : Nat}
def WrongB : List Int → PyData → Prop := fun _ d => ¬ BnkIs d ∧ noL d = true
theorem st15 (C : Callees P w K mg base CS BC BB BL BE BO) (hr : Room 20 (A.deeper (envOfC "law" (defScope sLaw) s.heap.objs.size f cdv))) (hn : n + 1 ≤ B) : LX P w K mg base f cdv A outer s H0 E 15 (JS T D n 2 NoX) (JS T D (n + 1) 2 (Slot D 18 WrongB)) := by
  refine ⟨_, ps_set (i := 18) scLaw.nd rfl (.inr rfl) (pe_h C.GP hr (by decide) (by rfl) (E := C8.E0) pass0 (pa_cons (pv 1) (pa_cons (pe_lst (pa_cons pe_int (pa_cons pe_int (pa_cons pe_non (pa_cons pe_bl (pa_cons pe_str (pa_cons (pe_tup (pa_cons pe_int pa_nil)) (pa_cons (pe_un un_neg pe_int) pa_nil)))))))) pa_nil))), ?_⟩
  rintro Dn σ H ⟨x, c, wy, cl, lo, cs, m, l, ls, vb, db, sv, k, rfl, I, kb, _⟩ hN
  refine ⟨_, congrArg some I.x1, by show 1 ≤ sizeLine; decide, fun p1 np1 => ?_⟩
  obtain ⟨s1, d1, h1⟩ := tup_da I.dr (.cons (.int 4) .nil) np1
  generalize upd H p1 (.tup [.int 4]) = H1 at *
  have k1 : Pk (fun d => WrongB cs d) D H1 [.int 0, .int 33, .non, .bl true, .str "4", .ref p1, .int (-1)] :=
    ((((((Pk.nil.add (fun _ _ z => z) (.int 0) ⟨noBnk_int (by omega), by rw [noL]⟩).add (fun _ _ z => z) (.int 33) ⟨noBnk_int (by omega), by rw [noL]⟩).add (fun _ _ z => z) .non ⟨noBnk_kind rfl, by rw [noL]⟩).add (fun _ _ z => z) (.bl true) ⟨noBnk_kind rfl, by rw [noL]⟩).add
      (fun _ _ z => z) (.str "4") ⟨noBnk_kind rfl, by rw [noL]⟩).add (fun _ _ z => z) h1 ⟨noBnk_kind rfl, by rw [noL, noLAll, noLAll, noL]; rfl⟩).add (fun _ _ z => z) (.int (-1)) ⟨noBnk_int (by omega), by rw [noL]⟩
  refine ⟨1, rfl, by show 7 ≤ sizeLine; decide, fun p np => ?_⟩
  obtain ⟨es, ea, en⟩ := k1
  obtain ⟨s2, d2, e2, o2, w2, g2⟩ := lst_da d1 ea np
  refine pick_da (E := C8.E0) d2 hn e2 o2 w2 g2 (fun z => by cases z) (by show 7 < 1073741824; decide) fun H' v d d' f' hm hv => ?_
  exact hN _ _ ⟨sx x 18 (some v), c, wy, cl, lo, cs, m, l, ls, vb, db, sv, k, rfl, ((I.sm (s1.trans s2)).fr f' d').set 18 _, kb, v, d, rfl, hv, en d hm⟩
theorem WrongB.put {cs : List Int} {d : PyData} {v : V} {H : Hp} {sv : Addr} {o : HO} {ws : List V} (h : Da D H v d) (n : noL d = true) (hs : H sv = some (.lst ws)) : Da D (upd H sv o) v d := by
  refine Da.tups (fun b xs e => ?_) n h
  rw [upd_ne (ne_of e hs (fun z => by cases z))]
  exact e
theorem st16 (C : Callees P w K mg base CS BC BB BL BE BO) (hr : Room 20 (A.deeper (envOfC "law" (defScope sLaw) s.heap.objs.size f (.ref c)))) (TB : LamX.TabB base mg c Pt) (hT : T = TL Pt) : LX P w K mg base f (.ref c) A outer s H0 E 16 (JS T D n 2 (Slot D 18 WrongB)) (JS T D n 3 (Slot D 18 WrongB)) := by
  refine ⟨_, ps_expr (pe_bm PySem.F.plainAttrs_list PySem.F.slot_list_append PySem.F.type_list_append mt_append (pv 8) (pa_cons (pe_callB (call_isX C.bb.ex) (by rfl) C.N.bisi (by decide +kernel) (pa_cons
    (pe_caught (T := T) C.caught C.lane TB rfl hT (hr.mono (by decide : 12 ≤ 20)) (by rfl) (show LamS (defScope sLaw) _ from lamS_by (by decide +kernel)) rfl (fun _ _ _ _ _ => rfl)
      (fun A outer s H E f c' hr => pe_h C.il hr (by decide) (by rfl) passLam (pa_cons (pv 13) (pa_cons (pv 18) (pa_cons (pv 17) pa_nil)))))
    (pa_cons (pe_glob (v := V.ref BB) (by rfl) C.bb.at_ rfl) pa_nil))) pa_nil)), ?_⟩
  rintro Dn σ H ⟨x, c, wy, cl, lo, cs, m, l, ls, vb, db, sv, k, rfl, I, kb, vw, dw, h18, hw, hno, hnl⟩ hN
  refine ⟨_, congrArg some I.x8, .inl ⟨rfl, _, .inl (.inl I.hs)⟩, I.tb, fun H1 e1 T1 => ?_⟩
  have I1 := I.ext e1 T1
  have hw1 := hw.fr (extN_frT e1)
  refine ⟨_, congrArg some I.x13, _, congrArg some h18, _, congrArg some I.x17, D, _, _, _, _, _, _, rfl, I1.st.hc, hw1, I1.st.hw, .inr (.inl ⟨⟨cs, rfl, I1.st.cnt⟩, hno, fun H2 t2 => ⟨C.bb.exm, fun a na => ⟨a, .ref BB, .ref BB, true, rfl, upd_same, fun _ e => e, C.bb.kit, ?_⟩⟩⟩)⟩
  have t3 := same_upd (o := ExI a (.ref BB) none) na
  have I3 := (I1.sm t2).sm t3
  refine ⟨sv, _, .bl true, rfl, rfl, I3.hs, ?_, hN _ _ ⟨x, c, wy, cl, lo, cs, m, l, ls, vb, db, sv, k + 1, rfl, I3.put, by omega, vw, dw, h18, WrongB.put (cs := cs) ((hw1.sm t2).sm t3) hnl I3.hs, hno, hnl⟩⟩
  rw [List.length_replicate]
  exact small1000 (by omega)
theorem st17 (C : Callees P w K mg base CS BC BB BL BE BO) (hr : Room 20 (A.deeper (envOfC "law" (defScope sLaw) s.heap.objs.size f (.ref c)))) (TB : LamX.TabB base mg c Pt) (hT : T = TL Pt) : LX P w K mg base f (.ref c) A outer s H0 E 17 (JS T D n 3 (Slot D 18 WrongB)) (JS T D n 4 NoX) := by
  refine ⟨_, ps_expr (pe_bm PySem.F.plainAttrs_list PySem.F.slot_list_append PySem.F.type_list_append mt_append (pv 8) (pa_cons (pe_callB (call_isX C.bb.ex) (by rfl) C.N.bisi (by decide +kernel) (pa_cons
    (pe_caught (T := T) C.caught C.lane TB rfl hT (hr.mono (by decide : 12 ≤ 20)) (by rfl) (show LamS (defScope sLaw) _ from lamS_by (by decide +kernel)) rfl (fun _ _ _ _ _ => rfl)
      (fun A outer s H E f c' hr => pe_h C.bo hr (by decide) (by rfl) passLam (pa_cons (pv 13) (pa_cons (pv 18) (pa_cons pe_non (pa_cons pe_non pa_nil))))))
    (pa_cons (pe_glob (v := V.ref BB) (by rfl) C.bb.at_ rfl) pa_nil))) pa_nil)), ?_⟩
  rintro Dn σ H ⟨x, c, wy, cl, lo, cs, m, l, ls, vb, db, sv, k, rfl, I, kb, vw, dw, h18, hw, hno, hnl⟩ hN
  refine ⟨_, congrArg some I.x8, .inl ⟨rfl, _, .inl (.inl I.hs)⟩, I.tb, fun H1 e1 T1 => ?_⟩
  have I1 := I.ext e1 T1
  have hw1 := hw.fr (extN_frT e1)
  refine ⟨_, congrArg some I.x13, _, congrArg some h18, D, _, _, _, _, _, _, .none, .none, rfl, I1.st.hc, hw1, .non, .non, .inr (.inl ⟨⟨cs, rfl, I1.st.cnt⟩, hno, fun H2 t2 => ⟨C.bb.exm, fun a na => ⟨a, .ref BB, .ref BB, true, rfl, upd_same, fun _ e => e, C.bb.kit, ?_⟩⟩⟩)⟩
  have t3 := same_upd (o := ExI a (.ref BB) none) na
  have I3 := (I1.sm t2).sm t3
  refine ⟨sv, _, .bl true, rfl, rfl, I3.hs, ?_, hN _ _ ⟨x, c, wy, cl, lo, cs, m, l, ls, vb, db, sv, k + 1, rfl, I3.put, by omega, trivial⟩⟩
  rw [List.length_replicate]
  exact small1000 (by omega)
theorem st18 (C : Callees P w K mg base CS BC BB BL BE BO) (hr : Room 20 (A.deeper (envOfC "law" (defScope sLaw) s.heap.objs.size f (.ref c)))) (TB : LamX.TabB base mg c Pt) (hT : T = TL Pt) : LX P w K mg base f (.ref c) A outer s H0 E 18 (JS T D n 4 NoX) (JS T D n 6 NoX) := by
  refine ⟨_, ps_if (pt_not (pt_val (pe_h C.GI hr (by decide) (by rfl) (E := C8.E0) pass0 (pa_cons (pv 13) (pa_cons (pv 14) (pa_cons (pv 12) pa_nil)))))) (pss_cons (ps_expr (pe_bm PySem.F.plainAttrs_list PySem.F.slot_list_append PySem.F.type_list_append mt_append (pv 8) (pa_cons (pe_callB (call_isX C.bl.ex) (by rfl) C.N.bisi (by decide +kernel) (pa_cons
    (pe_caught (T := T) C.caught C.lane TB rfl hT (hr.mono (by decide : 12 ≤ 20)) (by rfl) (show LamS (defScope sLaw) _ from lamS_by (by decide +kernel)) rfl (fun _ _ _ _ _ => rfl)
      (fun A outer s H E f c' hr => pe_h C.bo hr (by decide) (by rfl) passLam (pa_cons (pv 13) (pa_cons (pv 14) (pa_cons (pv 12) (pa_cons pe_non pa_nil))))))
    (pa_cons (pe_glob (v := V.ref BL) (by rfl) C.bl.at_ rfl) pa_nil))) pa_nil))) (pss_one (ps_expr (pe_bm PySem.F.plainAttrs_list PySem.F.slot_list_append PySem.F.type_list_append mt_append (pv 8) (pa_cons (pe_callB (call_isX C.bl.ex) (by rfl) C.N.bisi (by decide +kernel) (pa_cons
    (pe_caught (T := T) C.caught C.lane TB rfl hT (hr.mono (by decide : 12 ≤ 20)) (by rfl) (show LamS (defScope sLaw) _ from lamS_by (by decide +kernel)) rfl (fun _ _ _ _ _ => rfl)
      (fun A outer s H E f c' hr => pe_h C.co hr (by decide) (by rfl) passLam (pa_cons (pv 13) (pa_cons (pv 14) (pa_cons (pv 12) (pa_cons pe_non pa_nil))))))
    (pa_cons (pe_glob (v := V.ref BL) (by rfl) C.bl.at_ rfl) pa_nil))) pa_nil))))) pss_nil, ?_⟩
  rintro Dn σ H ⟨x, c, wy, cl, lo, cs, m, l, ls, vb, db, sv, k, rfl, I, kb, _⟩ hN
  refine ⟨_, congrArg some I.x13, _, congrArg some I.x14, _, congrArg some I.x12, D, c, cs, m, vb, db, rfl, dat_ints I.st.hc, I.st.cnt, I.hb, fun G1 u1 => ⟨_, rfl, ?_⟩⟩
  have I := I.sm u1
  cases hw : isWayD cs m db with
  | true => exact iteF (hN _ _ ⟨x, c, wy, cl, lo, cs, m, l, ls, vb, db, sv, k, rfl, I, by omega, trivial⟩)
  | false =>
    refine iteT ⟨_, congrArg some I.x8, .inl ⟨rfl, _, .inl (.inl I.hs)⟩, I.tb, fun H1 e1 T1 => ?_⟩
    have I1 := I.ext e1 T1
    refine ⟨_, congrArg some I.x13, _, congrArg some I.x14, _, congrArg some I.x12, D, _, _, _, _, _, .int m, db, .none, rfl, I1.st.hc, .int m, I1.hb, .non, .inr (.inr ⟨cs, m, rfl, I.st.cnt, rfl, I.st.m1, I.st.m2, .inl ⟨hw, fun H2 t2 => ⟨C.bl.exm, fun a na => ⟨a, .ref BL, .ref BL, true, rfl, upd_same, fun _ e => e, C.bl.kit, ?_⟩⟩⟩⟩)⟩
    have I3 := (I1.sm t2).sm (same_upd (o := ExI a (.ref BL) none) na)
    refine ⟨sv, _, .bl true, rfl, rfl, I3.hs, by rw [List.length_replicate]; exact small1000 (by omega), ?_⟩
    have J := I3.put
    refine ⟨_, congrArg some J.x8, .inl ⟨rfl, _, .inl (.inl J.hs)⟩, J.tb, fun H1 e1 T1 => ?_⟩
    have I1 := J.ext e1 T1
    refine ⟨_, congrArg some I.x13, _, congrArg some I.x14, _, congrArg some I.x12, D, _, _, _, _, _, .int m, db, .none, rfl, I1.st.hc, .int m, I1.hb, .non, Nat.zero_le _, .inr (.inr ⟨cs, m, rfl, I.st.cnt, rfl, I.st.m1, I.st.m2, .inl ⟨hw, fun H2 t2 => ⟨C.bl.exm, fun a na => ⟨a, .ref BL, .ref BL, true, rfl, upd_same, fun _ e => e, C.bl.kit, ?_⟩⟩⟩⟩)⟩
    have I3 := (I1.sm t2).sm (same_upd (o := ExI a (.ref BL) none) na)
    exact ⟨sv, _, .bl true, rfl, rfl, I3.hs, by rw [List.length_replicate]; exact small1000 (by omega), hN _ _ ⟨x, c, wy, cl, lo, cs, m, l, ls, vb, db, sv, k + 1 + 1, rfl, I3.put, by omega, trivial⟩⟩
def Box2 : (Nat → Option V) → Hp → List Int → Prop := fun x _ cs => x 9 = some (.int (boxL cs).1) ∧ x 10 = some (.int (boxL cs).2)
theorem st19 (C : Callees P w K mg base CS BC BB BL BE BO) (hr : Room 20 (A.deeper (envOfC "law" (defScope sLaw) s.heap.objs.size f cdv))) : LX P w K mg base f cdv A outer s H0 E 19 (JS T D n 6 NoX) (JS T D n 6 Box2) := by
  refine ⟨_, ps_asg (pe_h C.GX hr (by decide) (by rfl) (E := C8.E0) pass0 (pa_cons (pv 13) pa_nil)) (pg_tup rfl (pgs_cons (pg_name (i := 9) scLaw.nd rfl (.inl rfl)) (pgs_cons (pg_name (i := 10) scLaw.nd rfl (.inl rfl)) pgs_nil))), ?_⟩
  rintro Dn σ H ⟨x, c, wy, cl, lo, cs, m, l, ls, vb, db, sv, k, rfl, I, kb, _⟩ hN
  refine ⟨_, congrArg some I.x13, c, cs, rfl, dat_ints I.st.hc, I.st.cnt, fun H1 bp s1 hb => ⟨bp, _, rfl, SqT.of hb, rfl, _, _, rfl, _, _, rfl, rfl, ?_⟩⟩
  exact hN _ _ ⟨sx (sx x 9 (some (.int (boxL cs).1))) 10 (some (.int (boxL cs).2)), c, wy, cl, lo, cs, m, l, ls, vb, db, sv, k, rfl, ((I.sm s1).set 9 _).set 10 _, kb, rfl, rfl⟩
def NoCell : List Int → PyData → Prop := fun cs d => ¬ CellIs cs d
theorem st20 (C : Callees P w K mg base CS BC BB BL BE BO) (hr : Room 20 (A.deeper (envOfC "law" (defScope sLaw) s.heap.objs.size f cdv))) (hn : n + 1 ≤ B) : LX P w K mg base f cdv A outer s H0 E 20 (JS T D n 6 Box2) (JS T D (n + 1) 6 (Slot D 16 NoCell)) := by
  refine ⟨_, ps_set (i := 16) scLaw.nd rfl (.inr rfl) (pe_h C.GP hr (by decide) (by rfl) (E := C8.E0) pass0 (pa_cons (pv 1) (pa_cons (pe_lst (pa_cons pe_non (pa_cons (pe_tup (pa_cons (pv 9) (pa_cons pe_int pa_nil))) (pa_cons (pe_tup (pa_cons pe_int (pa_cons (pv 10) pa_nil))) (pa_cons (pe_tup (pa_cons (pe_un un_neg pe_int) (pa_cons pe_int pa_nil)))
    (pa_cons (pe_lst (pa_cons pe_int (pa_cons pe_int pa_nil))) (pa_cons (pe_tup (pa_cons pe_int pa_nil)) (pa_cons (pe_tup (pa_cons pe_bl (pa_cons pe_int pa_nil))) (pa_cons pe_int pa_nil))))))))) pa_nil))), ?_⟩
  rintro Dn σ H ⟨x, c, wy, cl, lo, cs, m, l, ls, vb, db, sv, k, rfl, I, kb, h9, h10⟩ hN
  have k0 : Pk (fun d => NoCell cs d) D H [.non] := Pk.nil.add (fun _ _ z => z) .non (noCell_kind rfl)
  refine ⟨_, congrArg some I.x1, _, congrArg some h9, by show 2 ≤ sizeLine; decide, fun p1 np1 => ?_⟩
  obtain ⟨s1, d1, h1⟩ := tup_da I.dr (.cons (.int (boxL cs).1) (.cons (.int 0) .nil)) np1
  generalize upd H p1 (.tup [.int (boxL cs).1, .int 0]) = H1 at *
  have k1 := k0.add s1 h1 (noCell_of (fun z => by unfold CellOk at z; omega))
  refine ⟨_, congrArg some h10, by show 2 ≤ sizeLine; decide, fun p2 np2 => ?_⟩
  obtain ⟨s2, d2, h2⟩ := tup_da d1 (.cons (.int 0) (.cons (.int (boxL cs).2) .nil)) np2
  generalize upd H1 p2 (.tup [.int 0, .int (boxL cs).2]) = H2 at *
  have k2 := k1.add s2 h2 (noCell_of (fun z => by unfold CellOk at z; omega))
  refine ⟨1, rfl, by show 2 ≤ sizeLine; decide, fun p3 np3 => ?_⟩
  obtain ⟨s3, d3, h3⟩ := tup_da d2 (.cons (.int (-1)) (.cons (.int 0) .nil)) np3
  generalize upd H2 p3 (.tup [.int (-1), .int 0]) = H3 at *
  have k3 := k2.add s3 h3 (noCell_of (fun z => by unfold CellOk at z; omega))
  refine ⟨by show 2 ≤ sizeLine; decide, fun p4 np4 => ?_⟩
  obtain ⟨s4, d4, e4, o4, w4, g4⟩ := lst_da d3 (.cons (.int 0) (.cons (.int 0) .nil)) np4
  have h4 : Da D _ (.ref p4) (.list _) := .lst e4 o4 w4 g4
  generalize upd H3 p4 (.lst [.int 0, .int 0]) = H4 at *
  have k4 := k3.add s4 h4 (noCell_kind rfl)
  refine ⟨by show 1 ≤ sizeLine; decide, fun p5 np5 => ?_⟩
  obtain ⟨s5, d5, h5⟩ := tup_da d4 (.cons (.int 0) .nil) np5
  generalize upd H4 p5 (.tup [.int 0]) = H5 at *
  have k5 := k4.add s5 h5 (by rintro ⟨y, x, e, _⟩; cases e)
  refine ⟨by show 2 ≤ sizeLine; decide, fun p6 np6 => ?_⟩
  obtain ⟨s6, d6, h6⟩ := tup_da d5 (.cons (.bl true) (.cons (.int 0) .nil)) np6
  generalize upd H5 p6 (.tup [.bl true, .int 0]) = H6 at *
  have k6 := k5.add s6 h6 (by rintro ⟨y, x, e, _⟩; cases e)
  have k7 := k6.add (fun _ _ z => z) (.int 0) (noCell_kind rfl)
  refine ⟨by show 8 ≤ sizeLine; decide, fun p np => ?_⟩
  have kf : Pk (fun d => NoCell cs d) D H6 [.non, .ref p1, .ref p2, .ref p3, .ref p4, .ref p5, .ref p6, .int 0] := k7
  obtain ⟨es, ea, en⟩ := kf
  obtain ⟨s7, d7, e7, o7, w7, g7⟩ := lst_da d6 ea np
  have t := s1.trans (s2.trans (s3.trans (s4.trans (s5.trans (s6.trans s7)))))
  refine pick_da (E := C8.E0) d7 hn e7 o7 w7 g7 (fun z => by cases z) (by show 8 < 1073741824; decide) fun H' v d d' f' hm hv => ?_
  exact hN _ _ ⟨sx x 16 (some v), c, wy, cl, lo, cs, m, l, ls, vb, db, sv, k, rfl, ((I.sm t).fr f' d').set 16 _, kb, v, d, rfl, hv, en d hm⟩
theorem st21 (C : Callees P w K mg base CS BC BB BL BE BO) (hr : Room 20 (A.deeper (envOfC "law" (defScope sLaw) s.heap.objs.size f (.ref c)))) (TB : LamX.TabB base mg c Pt) (hT : T = TL Pt) : LX P w K mg base f (.ref c) A outer s H0 E 21 (JS T D n 6 (Slot D 16 NoCell)) (JS T D n 7 NoX) := by
  refine ⟨_, ps_expr (pe_bm PySem.F.plainAttrs_list PySem.F.slot_list_append PySem.F.type_list_append mt_append (pv 8) (pa_cons (pe_callB (call_isX C.be.ex) (by rfl) C.N.bisi (by decide +kernel) (pa_cons
    (pe_caught (T := T) C.caught C.lane TB rfl hT (hr.mono (by decide : 12 ≤ 20)) (by rfl) (show LamS (defScope sLaw) _ from lamS_by (by decide +kernel)) rfl (fun _ _ _ _ _ => rfl)
      (fun A outer s H E f c' hr => pe_h C.bo hr (by decide) (by rfl) passLam (pa_cons (pv 13) (pa_cons (pv 14) (pa_cons (pv 17) (pa_cons (pv 16) pa_nil))))))
    (pa_cons (pe_glob (v := V.ref BE) (by rfl) C.be.at_ rfl) pa_nil))) pa_nil)), ?_⟩
  rintro Dn σ H ⟨x, c, wy, cl, lo, cs, m, l, ls, vb, db, sv, k, rfl, I, kb, vw, dw, h16, hw, hno⟩ hN
  refine ⟨_, congrArg some I.x8, .inl ⟨rfl, _, .inl (.inl I.hs)⟩, I.tb, fun H1 e1 T1 => ?_⟩
  have I1 := I.ext e1 T1
  refine ⟨_, congrArg some I.x13, _, congrArg some I.x14, _, congrArg some I.x17, _, congrArg some h16, D, _, _, _, _, _, .int m, _, dw, rfl, I1.st.hc, .int m, I1.st.hw, hw.fr (extN_frT e1), .inr (.inr ⟨cs, m, rfl, I.st.cnt, rfl, I.st.m1, I.st.m2, .inr ⟨l, rfl, I.st.lok, .inl ⟨hno, fun H2 t2 => ⟨C.be.exm, fun a na => ⟨a, .ref BE, .ref BE, true, rfl, upd_same, fun _ e => e, C.be.kit, ?_⟩⟩⟩⟩⟩)⟩
  have t3 := same_upd (o := ExI a (.ref BE) none) na
  have I3 := (I1.sm t2).sm t3
  refine ⟨sv, _, .bl true, rfl, rfl, I3.hs, ?_, hN _ _ ⟨x, c, wy, cl, lo, cs, m, l, ls, vb, db, sv, k + 1, rfl, I3.put, by omega, trivial⟩⟩
  rw [List.length_replicate]
  exact small1000 (by omega)
def NoLot : List Int → PyData → Prop := fun cs d => ¬ LotIs cs d ∧ lenD d ≤ 1000
theorem st22 (C : Callees P w K mg base CS BC BB BL BE BO) (hr : Room 20 (A.deeper (envOfC "law" (defScope sLaw) s.heap.objs.size f cdv))) (hn : n + 1 ≤ B) : LX P w K mg base f cdv A outer s H0 E 22 (JS T D n 7 NoX) (JS T D (n + 1) 7 (Slot D 11 NoLot)) := by
  refine ⟨_, ps_set (i := 11) scLaw.nd rfl (.inr rfl) (pe_h C.GO hr (by decide) (by rfl) (E := C8.E0) pass0 (pa_cons (pv 1) (pa_cons (pv 13) (pa_cons (pv 5) pa_nil)))), ?_⟩
  rintro Dn σ H ⟨x, c, wy, cl, lo, cs, m, l, ls, vb, db, sv, k, rfl, I, kb, _⟩ hN
  refine ⟨_, congrArg some I.x1, _, congrArg some I.x13, _, congrArg some I.x5, D, n, c, lo, cs, ls, rfl, I.dr, hn, I.st.hc, I.st.cnt, I.st.hlo, I.st.asc, I.st.len, fun H' v d hv hno hle d' f' => ?_⟩
  exact hN _ _ ⟨sx x 11 (some v), c, wy, cl, lo, cs, m, l, ls, vb, db, sv, k, rfl, (I.fr f' d').set 11 _, kb, v, d, rfl, hv, hno, hle⟩
theorem st23 (C : Callees P w K mg base CS BC BB BL BE BO) (hr : Room 20 (A.deeper (envOfC "law" (defScope sLaw) s.heap.objs.size f (.ref c)))) (TB : LamX.TabB base mg c Pt) (hT : T = TL Pt) : LX P w K mg base f (.ref c) A outer s H0 E 23 (JS T D n 7 (Slot D 11 NoLot)) (JS T D n 8 NoX) := by
  refine ⟨_, ps_expr (pe_bm PySem.F.plainAttrs_list PySem.F.slot_list_append PySem.F.type_list_append mt_append (pv 8) (pa_cons (pe_callB (call_isX C.bt.ex) (by rfl) C.N.bisi (by decide +kernel) (pa_cons
    (pe_caught (T := T) C.caught C.lane TB rfl hT (hr.mono (by decide : 12 ≤ 20)) (by rfl) (show LamS (defScope sLaw) _ from lamS_by (by decide +kernel)) rfl (fun _ _ _ _ _ => rfl)
      (fun A outer s H E f c' hr => pe_h C.co hr (by decide) (by rfl) passLam (pa_cons (pv 13) (pa_cons (pv 14) (pa_cons (pv 17) (pa_cons (pv 11) pa_nil))))))
    (pa_cons (pe_glob (v := V.ref BO) (by rfl) C.bt.at_ rfl) pa_nil))) pa_nil)), ?_⟩
  rintro Dn σ H ⟨x, c, wy, cl, lo, cs, m, l, ls, vb, db, sv, k, rfl, I, kb, vw, dw, h11, hw, hno, hle⟩ hN
  refine ⟨_, congrArg some I.x8, .inl ⟨rfl, _, .inl (.inl I.hs)⟩, I.tb, fun H1 e1 T1 => ?_⟩
  have I1 := I.ext e1 T1
  refine ⟨_, congrArg some I.x13, _, congrArg some I.x14, _, congrArg some I.x17, _, congrArg some h11, D, _, _, _, _, _, .int m, _, dw, rfl, I1.st.hc, .int m, I1.st.hw, hw.fr (extN_frT e1), hle, .inr (.inr ⟨cs, m, rfl, I.st.cnt, rfl, I.st.m1, I.st.m2, .inr ⟨l, rfl, I.st.lok, .inl ⟨hno, fun H2 t2 => ⟨C.bt.exm, fun a na => ⟨a, .ref BO, .ref BO, true, rfl, upd_same, fun _ e => e, C.bt.kit, ?_⟩⟩⟩⟩⟩)⟩
  have t3 := same_upd (o := ExI a (.ref BO) none) na
  have I3 := (I1.sm t2).sm t3
  refine ⟨sv, _, .bl true, rfl, rfl, I3.hs, ?_, hN _ _ ⟨x, c, wy, cl, lo, cs, m, l, ls, vb, db, sv, k + 1, rfl, I3.put, by omega, trivial⟩⟩
  rw [List.length_replicate]
  exact small1000 (by omega)
theorem st24 (C : Callees P w K mg base CS BC BB BL BE BO) (hr : Room 20 (A.deeper (envOfC "law" (defScope sLaw) s.heap.objs.size f cdv))) : LX P w K mg base f cdv A outer s H0 E 24 (JS T D n 8 NoX) (J0 T D n) := by
  have hu64 : (A.deeper (envOfC "law" (defScope sLaw) s.heap.objs.size f cdv)).units + 64 < cLine := by
    have := hr.un
    omega
  refine ⟨_, ps_if (pt_cmpR (op_neD hu64) (pe_lc (own := [("_law_one", 20)]) (g := gName 20) rfl scLaw.nd (pi_list (pv 8)) (blkOk_by (own := [("_law_one", 20)]) (N := nLaw) (sc := defScope sLaw) (by decide +kernel)) (fun _ _ _ _ _ => pg_name (i := 20) scLaw.nd rfl (Or.inl rfl))
    (fun _ _ _ _ _ => pts_one (pt_not (pt_val (pv 20)))) (fun _ _ _ _ _ => pe_int)) (pe_lst pa_nil) (nomark _)) (pss_one (ps_ret pe_bl)) pss_nil, ?_⟩
  rintro Dn σ H ⟨x, c, wy, cl, lo, cs, m, l, ls, vb, db, sv, k, rfl, I, kb, _⟩ hN
  refine ⟨_, congrArg some I.x8, sv, rfl, ⟨_, SqL.of I.hs⟩, fun R nR => lc_list (K := K) (a := sv) (xs := List.replicate k (.bl true)) (fun i H' => Same H H' ∧ H' R = some (.lst [])) ⟨same_upd nR, upd_same⟩ (fun i H' _ h => SqL.of (h.1 _ _ I.hs)) ?_ ?_⟩
  · rintro i v H' hv ⟨s1, hR⟩
    obtain rfl : v = .bl true := by
      have := List.mem_of_getElem? hv
      exact List.eq_of_mem_replicate this
    exact ⟨rfl, _, rfl, true, rfl, iteF ⟨s1, hR⟩⟩
  · rintro H1 ⟨s1, hR⟩
    refine ⟨Nat.zero_le _, fun Z nZ => ?_⟩
    have s2 : Same H1 (upd H1 Z (.lst [])) := same_upd nZ
    refine ⟨.list [], .list [], .lst (SqL.of (s2 _ _ hR)) .nil, .lst (SqL.of upd_same) .nil, by decide +kernel, by decide +kernel, _, rfl, iteF ?_⟩
    have J := I.sm (s1.trans s2)
    exact hN _ _ ⟨x, rfl, J.x1, J.dr, J.tb⟩
end
end Lm
namespace Lm
open PySem PySem.Spec PyProof.Rows L2 LamX
theorem steps_all {ι : Type} {X : Cx} {st : List Stmt} {I J : ι → L2.St → Hp → Prop} (h : ∀ i, StepS X st (I i) (J i)) :
    ∃ t, PSs X st t ∧ ∀ i D σ H, I i σ H → (∀ σ' H', J i σ' H' → D.nx σ' H') → t D σ H :=
  ⟨fun D σ H => ∃ i, Classical.choose (h i) D σ H, ⟨fun pins s σ H D I ⟨i, q⟩ => (Classical.choose_spec (h i)).1.run pins s σ H D I q⟩, fun i D σ H hI hN => ⟨i, (Classical.choose_spec (h i)).2 D σ H hI hN⟩⟩
section
variable {P : Program} {w : World} {K : PySem.W.Frag} {mg : Str → Option Value} {base : Heap} {CS BC BB BL BE BO f c Pt : Addr} {A : Around} {outer : List Env} {s : Shared} {H0 : Hp} {E : XK} {cdv : Value} {T : List (Addr × Str)} {D : DrA} {n : Nat}
theorem J0.mono {σ : L2.St} {H : Hp} {n' : Nat} (h : J0 T D n σ H) (k : n ≤ n') : J0 T D n' σ H := by
  obtain ⟨x, e, h1, d, t⟩ := h
  exact ⟨x, e, h1, d.mono k, t⟩
theorem law_lap (C : Callees P w K mg base CS BC BB BL BE BO) (hr : Room 20 (A.deeper (envOfC "law" (defScope sLaw) s.heap.objs.size f (.ref c)))) (hg : A.guards = some []) (TB : LamX.TabB base mg c Pt) (hT : T = TL Pt) (hn : n + 4000 ≤ B) :
    StepS (XL P w K mg base f (.ref c) A outer s H0 E) (forBody ((defBody sLaw).getD 1 (.Pass ⟨0, 0, 0, 0⟩))) (J0 T D n) (J0 T D (n + 615)) := by
  show StepS (XL P w K mg base f (.ref c) A outer s H0 E) [lawSt 0, lawSt 1, lawSt 2, lawSt 3, lawSt 4, lawSt 5, lawSt 6, lawSt 7, lawSt 8, lawSt 9, lawSt 10, lawSt 11, lawSt 12, lawSt 13, lawSt 14, lawSt 15, lawSt 16, lawSt 17, lawSt 18, lawSt 19, lawSt 20, lawSt 21, lawSt 22, lawSt 23, lawSt 24] (J0 T D n) (J0 T D (n + 615))
  exact steps_cons (st0 C hr hn) (steps_cons (st1 C hr hn) (steps_cons (st2 C hr hn) (steps_cons (st3 C hr hn) (steps_cons (st4 C hr hn) (steps_cons (st5 C hr) (steps_cons (st6 C hr (by omega)) (steps_cons (st7 C hr) (steps_cons (st8 C hr hg) (steps_cons (st9 C hr) (steps_cons (st10 C hr hg)
    (steps_cons (st11 C hr (by omega)) (steps_cons (st12 C hr (by omega)) (steps_cons (st13 C hr TB hT) (steps_cons (st14 C hr TB hT) (steps_cons (st15 C hr (by omega)) (steps_cons (st16 C hr TB hT) (steps_cons (st17 C hr TB hT) (steps_cons (st18 C hr TB hT) (steps_cons (st19 C hr)
    (steps_cons (st20 C hr (by omega)) (steps_cons (st21 C hr TB hT) (steps_cons (st22 C hr (by omega)) (steps_cons (st23 C hr TB hT) (steps_cons (st24 C hr) steps_nil))))))))))))))))))))))))
def spLaw (K : PySem.W.Frag) (T : List (Addr × Str)) : Sp := fun vs H Q _ => ∃ (a : Addr) (ns : List Int), vs = [.ref a] ∧ SqL K H a (ns.map V.int) ∧ ns.length ≤ 63 ∧ Tabs T H ∧ ∀ H', Q (.bl true) H'
theorem law_body (C : Callees P w K mg base CS BC BB BL BE BO) (hr : Room 20 (A.deeper (envOfC "law" (defScope sLaw) s.heap.objs.size f (.ref c)))) (hg : A.guards = some []) (TB : LamX.TabB base mg c Pt) {vs : List V} {Q : VK} (h : spLaw K (TL Pt) vs H0 Q E) :
    ∃ t, PSs (XL P w K mg base f (.ref c) A outer s H0 E) (defBody sLaw) t ∧ t { nx := fun _ H' => Q .non H', rt := Q } (L2.start nLaw vs) H0 := by
  obtain ⟨a, ns, rfl, hS, hl, tb, q⟩ := h
  obtain ⟨tB, hB, rB⟩ := steps_all (ι := { p : DrA × Nat // p.2 + 4000 ≤ B }) (I := fun p => J0 (TL Pt) p.1.1 p.1.2) (J := fun p => J0 (TL Pt) p.1.1 (p.1.2 + 615)) fun p => law_lap (P := P) (w := w) (outer := outer) (s := s) (H0 := H0) (E := E) (f := f) C hr hg TB rfl p.2
  refine ⟨_, pss_cons (ps_set (i := 1) scLaw.nd rfl (.inr rfl) (pe_h C.GB hr (by decide) (by rfl) (E := C8.E0) pass0 (pa_cons (pv 0) pa_nil)))
    (pss_cons (ps_for PassesOwn.never rfl (pi_range1 (by rfl) C.N.brng (pa_cons (pe_op op_add pe_int (pe_callB (call_min2 rfl) (by rfl) C.N.bmin (by decide +kernel) (pa_cons (pe_callB call_len_seq (by rfl) C.N.blen PySem.boot_len (pa_cons (pv 0) pa_nil)) (pa_cons pe_int pa_nil)))) pa_nil)) (pg_name (i := 2) scLaw.nd rfl (.inl rfl)) hB)
    (pss_one (ps_ret (pe_cmpR op_eq (pe_h C.co hr (by decide) (by rfl) passL (pa_cons (pe_tup (pa_cons pe_int pa_nil)) (pa_cons pe_int (pa_cons (pe_tup (pa_cons pe_str (pa_cons pe_int pa_nil))) (pa_cons (pe_tup pa_nil) pa_nil))))) pe_int (nomark _))))), ?_⟩
  refine ⟨_, rfl, a, ns, rfl, hS, hl, fun H1 D s1 d1 _ _ => ?_⟩
  obtain ⟨m, hm, hm0, hm1⟩ : ∃ m : Int, m = (if (6 : Int) < ((ns.map V.int).length : Int) then 6 else ((ns.map V.int).length : Int)) ∧ 0 ≤ m ∧ m ≤ 6 := by
    refine ⟨_, rfl, ?_, ?_⟩ <;> split <;> omega
  refine ⟨_, rfl, a, _, rfl, .inl (s1.seq hS), _, _, rfl, ?_⟩
  rw [← hm]
  refine ⟨_, _, rfl, rfl, 2 + m, rfl, by omega, by omega, for_range (fun i σ H' => J0 (TL Pt) D (i * 615) σ H') ⟨sx (sx (fun _ => none) 0 (some (.ref a))) 1 (some (.ref D.d)), rfl, rfl, d1.mono (by omega), tb.ext s1⟩ ?_ ?_⟩
  · rintro i σ H' hi ⟨x, rfl, h1, d, t⟩
    have hi : i < 8 := by omega
    have hb : i * 615 + 4000 ≤ B := by unfold B; omega
    refine rB ⟨(D, i * 615), hb⟩ _ _ _ ⟨sx x 2 (some (.int (0 + (i : Int)))), rfl, h1, d, t⟩ fun σ' H'' h => ?_
    have e : (i + 1) * 615 = i * 615 + 615 := by omega
    show J0 (TL Pt) D ((i + 1) * 615) σ' H''
    rw [e]
    exact h
  · rintro σ H' ⟨x, rfl, h1, d, t⟩
    refine ⟨by show 1 ≤ sizeLine; decide, fun p1 np1 => ?_⟩
    obtain ⟨t1, d1, h1⟩ := tup_da d (.cons (.int 3) .nil) np1
    generalize upd H' p1 (.tup [.int 3]) = G1 at *
    refine ⟨by show 2 ≤ sizeLine; decide, fun p2 np2 => ?_⟩
    obtain ⟨t2, d2, h2⟩ := tup_da d1 (.cons (.str "padded") (.cons (.int 0) .nil)) np2
    generalize upd G1 p2 (.tup [.str "padded", .int 0]) = G2 at *
    refine ⟨Nat.zero_le _, fun p3 np3 => ?_⟩
    obtain ⟨t3, d3, h3⟩ := tup_da d2 .nil np3
    generalize upd G2 p3 (.tup []) = G3 at *
    refine ⟨D, _, _, _, _, .tuple [.int 3], .int 2, (Lay.pad 0).dat, .tuple [], rfl, (h1.sm t2).sm t3, .int 2, h2.sm t3, h3, Nat.zero_le _, .inr (.inr ⟨[3], 2, rfl, .inl ⟨3, rfl, by decide, by decide⟩, rfl, by decide, by decide, .inr ⟨.pad 0, rfl, ⟨by decide, by decide⟩, .inr ⟨[], rfl, (fun _ z => nomatch z), .nil, fun G4 v t4 hv => ?_⟩⟩⟩)⟩
    have hv : v = 0 := price_nil hv
    subst hv
    exact ⟨rfl, q G4⟩
end
end Lm
/-! The end of a law row whose run is told at the caller itself (so that what guards stand around it is known). -/
namespace Lm
open PySem PySem.Spec PyProof.Rows L2 LamX
/-- the run of the law's def at fa, called by the row's own caller -/
def RunAt (P : Program) (w : World) (K : PySem.W.Frag) (mg : Str → Option Value) (fa a c Pt : Addr) (ns : List Int) (s : Shared) : Prop :=
  ∀ (base : Heap) (H : Hp), K.In base → base.Ns mainGlobals mg → LamX.TabB base mg c Pt → Env0 P w K mg base callerA [] s H → H Pt = some (.tbl #[]) → SqL K H a (ns.map V.int) →
    codeAny (model P w) callerA (.call (.ref fa) ⟨[.ref a], []⟩) (CR C8.CX0 [] P w H s (fun v _ => v = .bl true) fun _ _ _ => False) s
section
variable {P : Program} {w : World} {K : PySem.W.Frag} {mg mb : Str → Option Value} {fa a c Pt : Addr} {s : Shared} {vs : List Value} {ns : List Int}
theorem end_core (inK : K.In s.heap) (nsG : s.heap.Ns mainGlobals mg) (nsB : s.heap.Ns builtinsNs mb) (boot : ∀ x : Str, x ≠ "__name__" → mb x = bootBuiltins x) (lim : s.heap.NoLimit) (gens : s.gens = #[])
    (tab : s.heap.get? Pt = some { cls := .none, data := .fields #[] }) (tabK : K.lookup Pt = none) (code : PySem.W.CodeHd s.heap c Pt) (bmod : ∃ (bm : Addr) (ob : Obj), mg "__builtins__" = some (.ref bm) ∧ bm ≠ builtinsNs ∧ s.heap.get? bm = some ob ∧ ob.cls = .type "module" ∧ ob.dict = some builtinsNs ∧ ob.data = .plain)
    (scr : s.heap.get? a = some { cls := .type "list", data := .seq vs.toArray }) (run : RunAt P w K mg fa a c Pt ns s)
    (H : Hp) (hP : H Pt = some (.tbl #[])) (hA : H a = none ∨ ∃ o xs, H a = some (.frz o (.lst xs))) (hS : SqL K H a (ns.map V.int)) (ok : HOk P w H s.heap) (only : ∀ b, H b ≠ none → b = a ∨ b = Pt) (aK : H a ≠ none → K.lookup a = none) :
    codeAny (model P w) callerA (.call (.ref fa) ⟨[.ref a], []⟩) (fun r s' => r = .ok (.ret (.bool true)) ∧ OldK s.heap s'.heap ∧ s'.os = s.os ∧ AllBare s'.gens) s := by
  have out : ∀ {b : Addr}, b ≠ a → b ≠ Pt → H b = none := fun {b} h1 h2 => by
    cases q : H b with
    | none => rfl
    | some u => exact ((only b (by rw [q]; exact Option.some_ne_none u)).elim h1 h2).elim
  have seen : ∀ {b : Addr} {o : Obj}, s.heap.get? b = some o → b ≠ a → b ≠ Pt → (hidT s.heap H).get? b = some o := fun e h1 h2 => hidT_get e (out h1 h2)
  have offA : ∀ {b : Addr} {o : Obj}, s.heap.get? b = some o → (∀ z, o.data ≠ .seq z) → b ≠ a := fun e h z => by
    rw [z, scr] at e
    injection e with e
    exact h _ (congrArg Obj.data e).symm
  have offP : ∀ {b : Addr} {o : Obj}, s.heap.get? b = some o → o.data ≠ .fields #[] → b ≠ Pt := fun e h z => by
    rw [z, tab] at e
    injection e with e
    exact h (congrArg Obj.data e).symm
  have dicts : ∀ {b : Addr} {m : Str → Option Value}, s.heap.Ns b m → b ≠ Pt ∧ (hidT s.heap H).Ns b m := fun ⟨o, es, ep, e, d, r⟩ => by
    have hp := offP e (by rw [d]; intro z; cases z)
    exact ⟨hp, o, es, ep, seen e (offA e (by rw [d]; intro _ z; cases z)) hp, d, r⟩
  have frag : K.In (hidT s.heap H) := by
    intro b o e
    have g := inK b o e
    by_cases hb : b = Pt
    · rw [hb, tabK] at e
      cases e
    · by_cases ha : b = a
      · by_cases hn : H a = none
        · exact hidT_get g (by rw [ha]; exact hn)
        · rw [ha, aK hn] at e
          cases e
      · exact seen g ha hb
  have world : L2.Mod K mg (hidT s.heap H) := by
    obtain ⟨mc, l1, l2⟩ := lim
    exact ⟨frag, (dicts nsG).2, ⟨mb, (dicts nsB).2, boot⟩, ⟨mc, (dicts l1).2, l2⟩⟩
  have tables : LamX.TabB (hidT s.heap H) mg c Pt := by
    refine ⟨?_, ?_, (dicts nsG).1⟩
    · obtain ⟨o, us, z1, z2, z3, z4, z5, z6, z7, e, y1, y2, y3, y4⟩ := code
      refine ⟨o, us, z1, z2, z3, z4, z5, z6, z7, seen e (offA e ?_) y4.2.2.2.2.2, y1, y2, y3, y4⟩
      intro _ z
      rw [y2] at z
      cases z
    · obtain ⟨bm, ob, b1, b2, b3, b4, b5, b6⟩ := bmod
      have hp := offP b3 (by rw [b6]; intro z; cases z)
      refine ⟨bm, ob, b1, b2, ?_, hp, seen b3 (offA b3 (by rw [b6]; intro _ z; cases z)) hp, b4, b5, b6⟩
      intro z
      obtain ⟨o, es, ep, e, d, _⟩ := nsG
      rw [← z, b3] at e
      injection e with e
      rw [← e, b6] at d
      cases d
  have env : Env0 P w K mg (hidT s.heap H) callerA [] s H :=
    ⟨rfl, world, fun _ _ e => of_hidT e, Nat.le_of_eq (hidT_size s.heap H), trivial, (fun _ z => nomatch z), ok, AllBare.of_eq gens⟩
  refine codeAny_mono (run _ H frag (dicts nsG).2 tables env hP hS) ?_
  intro r s' hr
  match r, hr with
  | .ok (.ret u), hr =>
    obtain ⟨_, H', os, bare, un, ok', r', rfl⟩ := hr
    obtain rfl : u = Value.bool true := r'
    have kept : ∀ b o, b ≠ Pt → s.heap.get? b = some o → s'.heap.get? b = some o := by
      intro b o hb e
      by_cases ha : b = a
      · rcases hA with hn | ⟨o1, xs, hf⟩
        · exact un.keep b o e (by rw [ha]; exact hn) (fun z => nomatch (show b ∈ ([] : List Addr) from z)) (fun z => nomatch z)
        · have e1 := (ok a _ hf).1
          have e2 := (ok' a _ (un.frzs a o1 _ hf)).1
          rw [ha] at e ⊢
          rw [e1] at e
          rw [e2, ← e]
      · exact un.keep b o e (out ha hb) (fun z => nomatch (show b ∈ ([] : List Addr) from z)) (fun z => nomatch z)
    obtain ⟨more, hm⟩ := un.tbls Pt #[] hP
    have grown : s'.heap.get? Pt = some { cls := .none, data := .fields more } := by
      have g : s'.heap.get? Pt = some { cls := .none, data := .fields (#[] ++ more) } := ok' Pt _ hm
      rwa [Array.empty_append] at g
    refine ⟨rfl, ⟨fun b o e => ?_, fun b o e => ?_⟩, os, bare⟩
    · by_cases hb : b = Pt
      · rw [hb, tab] at e
        injection e with e
        subst hb e
        exact .inr (.inl ⟨(code.tab tab).isCodeTable, rfl, #[], more, rfl, by rw [Array.empty_append]; exact grown⟩)
      · exact .inl (kept b o hb e)
    · by_cases hb : b = Pt
      · rw [hb]
        exact ⟨_, grown⟩
      · exact ⟨o, kept b o hb e⟩
  | .ok .next, hr => exact hr.elim
  | .ok .brk, hr => exact hr.elim
  | .ok .cont, hr => exact hr.elim
  | .error e, hr => exact hr.elim
/-- from what the head leaves -/
theorem end_run (inK : K.In s.heap) (nsG : s.heap.Ns mainGlobals mg) (nsB : s.heap.Ns builtinsNs mb) (boot : ∀ x : Str, x ≠ "__name__" → mb x = bootBuiltins x) (lim : s.heap.NoLimit) (gens : s.gens = #[])
    (tab : s.heap.get? Pt = some { cls := .none, data := .fields #[] }) (tabK : K.lookup Pt = none) (code : PySem.W.CodeHd s.heap c Pt) (bmod : ∃ (bm : Addr) (ob : Obj), mg "__builtins__" = some (.ref bm) ∧ bm ≠ builtinsNs ∧ s.heap.get? bm = some ob ∧ ob.cls = .type "module" ∧ ob.dict = some builtinsNs ∧ ob.data = .plain)
    (scr : s.heap.get? a = some { cls := .type "list", data := .seq vs.toArray }) (hni : IntsAre vs ns) (len : ns.length ≤ sizeLine) (run : RunAt P w K mg fa a c Pt ns s) :
    codeAny (model P w) callerA (.call (.ref fa) ⟨[.ref a], []⟩) (fun r s' => r = .ok (.ret (.bool true)) ∧ OldK s.heap s'.heap ∧ s'.os = s.os ∧ AllBare s'.gens) s := by
  have rv := vals_ints hni
  have lv := hni.length
  have aP : a ≠ Pt := fun z => by
    rw [z, tab] at scr
    injection scr with z
    have z := congrArg Obj.data z
    cases z
  cases hk : K.lookup a with
  | some o =>
    have e := inK a o hk
    rw [scr] at e
    cases e
    refine end_core inK nsG nsB boot lim gens tab tabK code bmod scr run (fun b => if b = Pt then some (.tbl #[]) else none) (if_pos rfl) (.inl (if_neg aP)) ?_ (fun b u z => ?_) (fun b z => ?_) (fun z => absurd (if_neg aP) z)
    · exact .inr ⟨_, vs.toArray, _, hk, rfl, rfl, rfl, by rw [List.size_toArray, lv]; exact len, by simpa using rv⟩
    · have z : (if b = Pt then some (HO.tbl #[]) else none) = some u := z
      by_cases hb : b = Pt
      · subst hb
        rw [if_pos rfl] at z
        cases z
        exact tab
      · rw [if_neg hb] at z
        cases z
    · by_cases hb : b = Pt
      · exact .inr hb
      · exact absurd (if_neg hb) z
  | none =>
    refine end_core inK nsG nsB boot lim gens tab tabK code bmod scr run (fun b => if b = a then some (.frz { cls := .type "list", data := .seq vs.toArray } (.lst (ns.map V.int))) else if b = Pt then some (.tbl #[]) else none)
      ((if_neg aP.symm).trans (if_pos rfl)) (.inr ⟨_, _, if_pos rfl⟩) (.inl (.inr ⟨_, if_pos rfl⟩)) (fun b u z => ?_) (fun b z => ?_) (fun _ => hk)
    · have z : (if b = a then some (HO.frz { cls := .type "list", data := .seq vs.toArray } (.lst (ns.map V.int))) else if b = Pt then some (.tbl #[]) else none) = some u := z
      by_cases ha : b = a
      · subst ha
        rw [if_pos rfl] at z
        cases z
        exact ⟨scr, by rw [List.length_map]; exact len, vs, _, rv, scr⟩
      · rw [if_neg ha] at z
        by_cases hb : b = Pt
        · subst hb
          rw [if_pos rfl] at z
          cases z
          exact tab
        · rw [if_neg hb] at z
          cases z
    · by_cases ha : b = a
      · exact .inl ha
      · by_cases hb : b = Pt
        · exact .inr hb
        · exact absurd ((if_neg ha).trans (if_neg hb)) z
end
end Lm
namespace Lm
open PySem PySem.Spec PyProof.Rows L2 LamX
/-- the fields of a code object that a lambda's making reads -/
def CodeF (vs : Array Value) (Pt : Addr) : Prop := ∃ file tf flags tg inF text tt, vs[11]? = some (.ref Pt) ∧ vs.getD 11 .none = .ref Pt ∧ vs.getD 18 .none = .str file tf ∧ vs.getD 7 .none = .int flags tg ∧ vs.getD 9 .none = .bool inF ∧ vs.getD 10 .none = .int text tt
theorem walk_guard {l : PySem.W.OpenLaw} {n : Nat} {q : Program} {loose : List Str} {XP : (Str → Option Value) → Heap → Prop} {YP : World → Heap → Prop} {d : DefRec} {K : Params → PySem.W.Frag} (most : l.most = some n) (fits : n ≤ sizeLine) (plain : d.params.defaults = [])
    (isRec : ((recsOf q).any fun e => e.name == d.name) = true) (hY : ∀ (w : World) (h : Heap), YP w h → (K w.params).In h)
    (F : ∀ (w : World) (mg : Str → Option Value) (fa : Addr) (h : Heap), (K w.params).In h → h.Ns mainGlobals mg → mg d.name = some (.ref fa) →
      ∃ (o : Obj) (fd : FuncData) (c Pt : Addr) (dd : Option Addr) (vs : Array Value) (sl : Array (Option Value)), (K w.params).lookup fa = some o ∧ o.data = .func fd ∧ fd.code = .ref c ∧ (K w.params).lookup c = some ⟨.type "code", dd, .fields vs, sl⟩ ∧ CodeF vs Pt ∧ c ≠ Pt ∧
        (K w.params).lookup Pt = none ∧ ∀ (s : Shared) (a : Addr) (ns : List Int), ns.length ≤ n → RunAt l.prog w (K w.params) mg fa a c Pt ns s) :
    PySem.W.WalkO q loose XP YP l.row.toRowW d [] (fun f vs => PySem.call f vs) := by
  refine Att.attach_callB most plain ?_
  intro w s₀ s mg mb fa o pm cd doc a vs ns G Y ho hd hcd hmg hobj hints hlen hbits hg
  have inK := hY w _ Y
  obtain ⟨o1, fd, c, Pt, dd, us, sl, k1, k2, k3, k4, cf, cP, kP, run⟩ := F w mg fa _ inK G.T.g hmg
  obtain ⟨file, tf, flags, tg, inF, text, tt, r1, r2, r3, r4, r5, r6⟩ := cf
  have code : PySem.W.CodeHd s.heap c Pt := ⟨_, us, file, tf, flags, tg, inF, text, tt, inK _ _ k4, rfl, rfl, r1, r2, r3, r4, r5, r6, cP⟩
  have tab : s.heap.get? Pt = some { cls := .none, data := .fields #[] } := by
    obtain ⟨e, hm, he⟩ := List.any_eq_true.mp isRec
    obtain ⟨b, o2, fd2, c2, P2, h1, h2, h3, h4, h5, ⟨oc, vc, e1, _, e3, e4⟩, hP⟩ := G.T.tab e hm
    have he : e.name = d.name := beq_iff_eq.mp he
    rw [he, hmg] at h1
    injection h1 with h1
    injection h1 with h1
    subst h1
    rw [inK _ _ k1] at h2
    injection h2 with h2
    subst h2
    rw [k2] at h3
    injection h3 with h3
    subst h3
    rw [k3] at h4
    injection h4 with h4
    subst h4
    rw [inK _ _ k4] at e1
    injection e1 with e1
    subst e1
    injection e3 with e3
    subst e3
    rw [r1] at e4
    injection e4 with e4
    injection e4 with e4
    rw [e4]
    exact hP
  exact end_run inK G.T.g G.T.b G.T.builtins G.T.nolimit hg tab kP code G.T.bmain hobj hints (Nat.le_trans hlen fits) (run s a ns hlen)
/-! ### the defs where the head leaves them -/
structure At (K : PySem.W.Frag) (mg : Str → Option Value) (x : Str) (st : Stmt) : Prop where
  ex : ∃ (f : Addr) (fd : FuncData), mg x = some (.ref f) ∧ Fun K x x st f fd
theorem at_mk {K : PySem.W.Frag} {h : Heap} {mg : Str → Option Value} {x : Str} {st : Stmt} {f : Addr} {oc kV doc pm cdv ct : Value} {od an : Option Addr} {osl : Array (Option Value)} (X : K.In h) (G : h.Ns mainGlobals mg) (a : PySem.W.nsIn K mainGlobals x = some (some (.ref f)))
    (l : K.lookup f = some ⟨oc, od, .func (PySem.W.fnOf x x (defArgs st) (defBody st) (defScope st) .none kV doc pm an cdv ct), osl⟩) (c : PySem.W.codeIn K cdv x = true) (k : PySem.W.keepIn K (.ref f) = true) : At K mg x st :=
  ⟨f, _, PySem.W.mg_of X G a, fun_mk l c k⟩
theorem has_of {P : Program} {w : World} {K : PySem.W.Frag} {mg : Str → Option Value} {base : Heap} {CX : CXT} {k : Nat} {x : Str} {st : Stmt} {ps : List Str} {sp : Sp} (h : At K mg x st) (b : ∀ f fd, Fun K x x st f fd → L2.Binds K fd ps []) (ok : ∀ f fd, Fun K x x st f fd → FnOk P w K mg base CX k f fd ps sp) :
    Has P w K mg base CX k x ps sp := by
  obtain ⟨f, fd, m, F⟩ := h.ex
  exact ⟨f, fd, m, F.kp, b f fd F, ok f fd F⟩
theorem bl_mk {K : PySem.W.Frag} {h : Heap} {mg : Str → Option Value} (X : K.In h) (G : h.Ns mainGlobals mg) (z1 : PySem.W.nsIn K mainGlobals "int" = some none) (z2 : PySem.W.nsIn K mainGlobals "len" = some none) (z3 : PySem.W.nsIn K mainGlobals "isinstance" = some none) (z4 : PySem.W.nsIn K mainGlobals "bool" = some none)
    (z5 : PySem.W.nsIn K mainGlobals "tuple" = some none) (z6 : PySem.W.nsIn K mainGlobals "list" = some none) (z7 : PySem.W.nsIn K mainGlobals "str" = some none) (z8 : PySem.W.nsIn K mainGlobals "max" = some none) (z9 : PySem.W.nsIn K mainGlobals "range" = some none)
    (z10 : PySem.W.nsIn K mainGlobals "abs" = some none) (z11 : PySem.W.nsIn K mainGlobals "all" = some none) (z12 : PySem.W.nsIn K mainGlobals "min" = some none) (z13 : PySem.W.nsIn K mainGlobals "repr" = some none) : Bl mg :=
  ⟨PySem.W.mg_none_of X G z1, PySem.W.mg_none_of X G z2, PySem.W.mg_none_of X G z3, PySem.W.mg_none_of X G z4, PySem.W.mg_none_of X G z5, PySem.W.mg_none_of X G z6, PySem.W.mg_none_of X G z7, PySem.W.mg_none_of X G z8, PySem.W.mg_none_of X G z9, PySem.W.mg_none_of X G z10, PySem.W.mg_none_of X G z11, PySem.W.mg_none_of X G z12, PySem.W.mg_none_of X G z13⟩
/-- the law's own defs, as the head leaves them -/
structure Defs (K : PySem.W.Frag) (mg : Str → Option Value) : Prop where
  begun : At K mg "_law_begun" sBegun
  pick : At K mg "_law_pick" sPick
  caught : At K mg "_law_caught" sCaught
  whole : At K mg "_law_is_whole" sWhole
  box : At K mg "_law_box" sBox
  take : At K mg "_law_take" sTake
  mixed : At K mg "_law_mixed" sMixed
  few : At K mg "_law_few_of" sFew
  says : At K mg "_law_says" sSays
  bent : At K mg "_law_bent" sBent
  bank : At K mg "_law_bank" sBank
  price : At K mg "_law_price" sPrice
  way : At K mg "_law_way" sWay
  isWay : At K mg "_law_is_way" sIsWay
  cells : At K mg "_law_cells" sCells
  gcd : At K mg "_law_shared_part_of" sGcd
  lines : At K mg "_law_lines_right" sLines
  wrong : At K mg "_law_wrong_lot" sWrong
/-- what the program promises, and its exception classes -/
structure Promises (P : Program) (w : World) (K : PySem.W.Frag) (mg : Str → Option Value) (base : Heap) (CS BC BB BL BE BO : Addr) : Prop where
  il : Has P w K mg base (L2.CX P w) 10 "is_laying" ["counts", "banks", "thing"] (spIL BC BB)
  bo : Has P w K mg base (L2.CX P w) 10 "bank_of" ["counts", "banks", "laying", "cell"] (spBO BC BB BL BE)
  co : Has P w K mg base (L2.CX P w) 10 "cost" ["counts", "banks", "laying", "lot"] (spCO BC BB BL BO)
  ilk : HasK P w K mg base (L2.CX P w) 10 "is_laying" ["counts", "banks", "thing"] ["thing", "banks", "counts"] List.reverse (spIL BC BB)
  bok : HasK P w K mg base (L2.CX P w) 10 "bank_of" ["counts", "banks", "laying", "cell"] ["cell", "laying", "banks", "counts"] List.reverse (spBO BC BB BL BE)
  cok : HasK P w K mg base (L2.CX P w) 10 "cost" ["counts", "banks", "laying", "lot"] ["lot", "laying", "banks", "counts"] List.reverse (spCO BC BB BL BO)
  lane : mg "LaneError" = some (.ref CS)
  bc : XCls K mg CS "BadCounts" BC
  bb : XCls K mg CS "BadBanks" BB
  bl : XCls K mg CS "BadLaying" BL
  be : XCls K mg CS "BadCell" BE
  bt : XCls K mg CS "BadLot" BO
section
variable {P : Program} {w : World} {K : PySem.W.Frag} {mg : Str → Option Value} {base : Heap} {CS BC BB BL BE BO : Addr}
theorem bind1 {x : Str} {st : Stmt} {f : Addr} {fd : FuncData} {p : Str} (F : Fun K x x st f fd) (h : ∀ us : List Value, us.length = 1 → True) : True := trivial
theorem callees (N : Bl mg) (D : Defs K mg) (R : Promises P w K mg base CS BC BB BL BE BO) : Callees P w K mg base CS BC BB BL BE BO := by
  have GM : Has P w K mg base CX0 1 "_law_mixed" ["_law_draw"] spMixed := has_of D.mixed (fun f fd F => F.binds (ps := ["_law_draw"]) fun _ _ _ _ _ _ us hl => match us, hl with | [_], _ => rfl) (fun f fd F => ok_mixed F N)
  have GT : Has P w K mg base CX0 2 "_law_take" ["_law_draw", "_law_size"] spTake := has_of D.take (fun f fd F => F.binds (ps := ["_law_draw", "_law_size"]) fun _ _ _ _ _ _ us hl => match us, hl with | [_, _], _ => rfl) (fun f fd F => ok_take F N GM)
  have GP : Has P w K mg base CX0 3 "_law_pick" ["_law_draw", "_law_some"] spPick := has_of D.pick (fun f fd F => F.binds (ps := ["_law_draw", "_law_some"]) fun _ _ _ _ _ _ us hl => match us, hl with | [_, _], _ => rfl) (fun f fd F => ok_pick F N GT)
  have GX : Has P w K mg base CX0 1 "_law_box" ["_law_counts_here"] spBox := has_of D.box (fun f fd F => F.binds (ps := ["_law_counts_here"]) fun _ _ _ _ _ _ us hl => match us, hl with | [_], _ => rfl) (fun f fd F => ok_box F N)
  have GI : Has P w K mg base CX0 1 "_law_is_whole" ["_law_item"] spNum := has_of D.whole (fun f fd F => F.binds (ps := ["_law_item"]) fun _ _ _ _ _ _ us hl => match us, hl with | [_], _ => rfl) (fun f fd F => ok_whole F N)
  have GK : Has P w K mg base CX0 1 "_law_bank" ["_law_counts_here", "_law_many_here", "_law_way_here", "_law_cell_here"] spBank := has_of D.bank (fun f fd F => F.binds (ps := ["_law_counts_here", "_law_many_here", "_law_way_here", "_law_cell_here"]) fun _ _ _ _ _ _ us hl => match us, hl with | [_, _, _, _], _ => rfl) (fun f fd F => ok_bank F N)
  have GG : Has P w K mg base CX0 1 "_law_shared_part_of" ["_law_one", "_law_two"] spGcd := has_of D.gcd (fun f fd F => F.binds (ps := ["_law_one", "_law_two"]) fun _ _ _ _ _ _ us hl => match us, hl with | [_, _], _ => rfl) (fun f fd F => ok_gcd F N)
  have bb := fun (f : Addr) (fd : FuncData) (F : Fun K "_law_bent" "_law_bent" sBent f fd) => F.binds (ps := ["_law_draw", "_law_item"]) fun _ _ _ _ _ _ us hl => match us, hl with | [_, _], _ => rfl
  have N0 : Has P w K mg base CX0 3 "_law_bent" ["_law_draw", "_law_item"] (spBentBelow 0) := has_of D.bent bb (fun f fd F => ok_bent_no F 2)
  have N1 : Has P w K mg base CX0 4 "_law_bent" ["_law_draw", "_law_item"] (spBent 0) := has_of D.bent bb (fun f fd F => ok_bent F N 0 (by decide) GT GP GI N0)
  have N2 : Has P w K mg base CX0 5 "_law_bent" ["_law_draw", "_law_item"] (spBent 1) := has_of D.bent bb (fun f fd F => ok_bent F N 1 (by decide) GT GP GI N1)
  have N3 : Has P w K mg base CX0 6 "_law_bent" ["_law_draw", "_law_item"] (spBent 2) := has_of D.bent bb (fun f fd F => ok_bent F N 2 (by decide) GT GP GI N2)
  refine ⟨N, ?_, GP, GT, GX, ?_, ?_, ?_, GK, ?_, ?_, ?_, ?_, ?_, N3, R.il, R.bo, R.co, R.ilk, R.bok, R.cok, R.lane, R.bc, R.bb, R.bl, R.be, R.bt, ?_⟩
  · exact has_of D.begun (fun f fd F => F.binds (ps := ["_law_script"]) fun _ _ _ _ _ _ us hl => match us, hl with | [_], _ => rfl) (fun f fd F => ok_begun F N)
  · exact has_of D.few (fun f fd F => F.binds (ps := ["_law_draw", "_law_some", "_law_size"]) fun _ _ _ _ _ _ us hl => match us, hl with | [_, _, _], _ => rfl) (fun f fd F => ok_few F GT)
  · exact has_of D.says (fun f fd F => F.binds (ps := ["_law_found", "_law_due"]) fun _ _ _ _ _ _ us hl => match us, hl with | [_, _], _ => rfl) (fun f fd F => ok_says F)
  · exact has_of D.isWay (fun f fd F => F.binds (ps := ["_law_counts_here", "_law_many_here", "_law_item"]) fun _ _ _ _ _ _ us hl => match us, hl with | [_, _, _], _ => rfl) (fun f fd F => ok_isWay F N GX GI)
  · exact has_of D.price (fun f fd F => F.binds (ps := ["_law_counts_here", "_law_many_here", "_law_way_here", "_law_lot_here"]) fun _ _ _ _ _ _ us hl => match us, hl with | [_, _, _, _], _ => rfl) (fun f fd F => ok_price F N GK)
  · exact has_of D.way (fun f fd F => F.binds (ps := ["_law_draw", "_law_counts_here", "_law_many_here"]) fun _ _ _ _ _ _ us hl => match us, hl with | [_, _, _], _ => rfl) (fun f fd F => ok_way F N GX GT GP)
  · exact has_of D.cells (fun f fd F => F.binds (ps := ["_law_counts_here"]) fun _ _ _ _ _ _ us hl => match us, hl with | [_], _ => rfl) (fun f fd F => ok_cells F N GX)
  · exact has_of D.lines (fun f fd F => F.binds (ps := ["_law_counts_here", "_law_many_here", "_law_number"]) fun _ _ _ _ _ _ us hl => match us, hl with | [_, _, _], _ => rfl) (fun f fd F => ok_lines F N GX GG R.co)
  · exact has_of D.wrong (fun f fd F => F.binds (ps := ["_law_draw", "_law_counts_here", "_law_lot_here"]) fun _ _ _ _ _ _ us hl => match us, hl with | [_, _, _], _ => rfl) (fun f fd F => ok_wrong F N GX GP)
  · obtain ⟨f, fd, m, F⟩ := D.caught.ex
    exact ⟨f, fd, m, F.kp, F.binds (ps := ["_law_task"]) (fun _ _ _ _ _ _ us hl => match us, hl with | [_], _ => rfl), F⟩
end
end Lm
namespace Lm
open PySem PySem.Spec PyProof.Rows L2 LamX
theorem run_at {P : Program} {w : World} {K : PySem.W.Frag} {mg : Str → Option Value} {fa a c Pt : Addr} {ns : List Int} {s : Shared} {oc kV doc pm ct : Value} {od an : Option Addr} {osl : Array (Option Value)}
    (C : ∀ base : Heap, K.In base → base.Ns mainGlobals mg → ∃ CS BC BB BL BE BO, Callees P w K mg base CS BC BB BL BE BO)
    (lk : K.lookup fa = some ⟨oc, od, .func (PySem.W.fnOf "law" "law" (defArgs sLaw) (defBody sLaw) (defScope sLaw) .none kV doc pm an (.ref c) ct), osl⟩) (hcd : PySem.W.codeIn K (.ref c) "law" = true) (hl : ns.length ≤ 63) : RunAt P w K mg fa a c Pt ns s := by
  intro base H inB nsB TB e0 hP hS
  obtain ⟨CS, BC, BB, BL, BE, BO, C⟩ := C base inB nsB
  have hr : Room 21 callerA := ⟨rfl, by decide, by decide⟩
  refine run_ofS (k := 20) (N := nLaw) (ps := ["_law_script"]) (us := [.ref a]) (vs := [.ref a]) lk hcd scLaw hr e0 (.of_eq rfl) (.cons rfl .nil) rfl fun hr' => ?_
  have tabs : Tabs (TL Pt) H := fun p hp => by
    rw [List.mem_singleton.mp hp]
    exact TabS.nil hP
  obtain ⟨t, ht, hq⟩ := law_body (P := P) (w := w) (outer := []) (s := s) (H0 := H) (E := fun _ _ _ => False) (f := fa) (Q := fun v _ => v = .bl true) (vs := [.ref a]) C hr' rfl TB ⟨a, ns, rfl, hS, hl, tabs, fun _ => rfl⟩
  exact ⟨t, ht.nox, hq⟩
theorem fin62 {P : Program} {w : World} {K : PySem.W.Frag} {h : Heap} {mg : Str → Option Value} {fa : Addr} (X : K.In h) (G : h.Ns mainGlobals mg) (hfa : mg "law" = some (.ref fa)) (N : Bl mg) (D : Defs K mg)
    (R : ∀ base : Heap, K.In base → base.Ns mainGlobals mg → ∃ CS BC BB BL BE BO, Promises P w K mg base CS BC BB BL BE BO)
    {f3 c Pt : Addr} {oc kV doc pm ct : Value} {od an dd : Option Addr} {osl sl : Array (Option Value)} {vs : Array Value} (a : PySem.W.nsIn K mainGlobals "law" = some (some (.ref f3)))
    (lk : K.lookup f3 = some ⟨oc, od, .func (PySem.W.fnOf "law" "law" (defArgs sLaw) (defBody sLaw) (defScope sLaw) .none kV doc pm an (.ref c) ct), osl⟩) (hcd : PySem.W.codeIn K (.ref c) "law" = true)
    (lc : K.lookup c = some ⟨.type "code", dd, .fields vs, sl⟩) (cf : CodeF vs Pt) (cP : c ≠ Pt) (kP : K.lookup Pt = none) :
    ∃ (o : Obj) (fd : FuncData) (c Pt : Addr) (dd : Option Addr) (vs : Array Value) (sl : Array (Option Value)), K.lookup fa = some o ∧ o.data = .func fd ∧ fd.code = .ref c ∧ K.lookup c = some ⟨.type "code", dd, .fields vs, sl⟩ ∧ CodeF vs Pt ∧ c ≠ Pt ∧
        K.lookup Pt = none ∧ ∀ (s : Shared) (a : Addr) (ns : List Int), ns.length ≤ 63 → RunAt P w K mg fa a c Pt ns s := by
  have e := hfa.symm.trans (PySem.W.mg_of X G a)
  injection e with e
  injection e with e
  subst e
  refine ⟨_, _, c, Pt, dd, vs, sl, lk, rfl, rfl, lc, cf, cP, kP, fun s a ns hl => run_at (fun base inB nsB => ?_) lk hcd hl⟩
  obtain ⟨CS, BC, BB, BL, BE, BO, r⟩ := R base inB nsB
  exact ⟨CS, BC, BB, BL, BE, BO, callees N D r⟩
end Lm
namespace Lm
open PySem PySem.Spec PyProof.Rows L2 LamX
/-! ### lanesmeet.plain -/
def btw (lo hi : Int) : PyData → Bool
  | .int n => decide (lo ≤ n) && decide (n ≤ hi)
  | _ => false
def tupOf (k : Int) : PyData → Bool
  | .tuple ds => decide ((ds.length : Int) = k)
  | _ => false
def numTup (k : Int) : PyData → Bool
  | .tuple ds => decide ((ds.length : Int) = k) && ds.all isNum
  | _ => false
section
variable {P : Program} {w : World} {K : PySem.W.Frag} {mg : Str → Option Value} {base : Heap}
abbrev sNumber : Stmt := topS 8
theorem scNumber : FnScope ["thing"] ["thing"] (defScope sNumber) := ⟨rfl, rfl, rfl, by decide +kernel, rfl, by decide +kernel, by decide +kernel⟩
theorem ok_number {f : Addr} {fd : FuncData} (F : Fun K "is_number" "is_number" sNumber f fd) (N : Bl mg) : FnOk P w K mg base CX0 1 f fd ["thing"] spNum := by
  refine F.ok scNumber (fun vs H Q E h => ?_) (fun cdv A outer s H vs Q E hr h => ?_)
  · obtain ⟨D, v, d, rfl, _⟩ := h
    rfl
  · obtain ⟨D, v, d, rfl, h, q⟩ := h
    refine ⟨_, pss_one (ps_ret (pe_and (pe_callB call_isi (by rfl) N.bisi (by decide +kernel) (pa_cons (pv 0) (pa_cons (pe_bltn (v := .ty "int") (by rfl) N.bint (by decide +kernel) rfl) pa_nil)))
      (pe_one (pe_not (pe_callB call_isi (by rfl) N.bisi (by decide +kernel) (pa_cons (pv 0) (pa_cons (pe_bltn (v := .ty "bool") (by rfl) N.bbool (by decide +kernel) rfl) pa_nil))))))), ?_⟩
    refine ⟨v, rfl, v, .ty "int", _, _, isIntB d, rfl, .ty "int", h.ty, kit_int K d, isIntB d, rfl, ?_⟩
    cases hb : isIntB d with
    | true =>
      refine iteT ⟨v, rfl, v, .ty "bool", _, _, isBoolB d, rfl, .ty "bool", h.ty, kit_bool K d, isBoolB d, rfl, ?_⟩
      have e : isNum d = !isBoolB d := by cases d <;> first | rfl | cases hb
      rw [← e]
      exact q
    | false =>
      have e : isNum d = false := by cases d <;> first | rfl | cases hb
      rw [e] at q
      exact iteF q
abbrev sBetween : Stmt := topS 9
theorem scBetween : FnScope ["thing", "low", "high"] ["thing", "low", "high"] (defScope sBetween) := ⟨rfl, rfl, rfl, by decide +kernel, rfl, by decide +kernel, by decide +kernel⟩
def spBtw : Sp := fun vs H Q _ => ∃ (D : DrA) (v : V) (d : PyData) (lo hi : Int), vs = [v, .int lo, .int hi] ∧ Da D H v d ∧ Q (.bl (btw lo hi d)) H
theorem ok_between {f : Addr} {fd : FuncData} (F : Fun K "is_between" "is_between" sBetween f fd) (GN : Has P w K mg base CX0 1 "is_number" ["thing"] spNum) : FnOk P w K mg base CX0 2 f fd ["thing", "low", "high"] spBtw := by
  refine F.ok scBetween (fun vs H Q E h => ?_) (fun cdv A outer s H vs Q E hr h => ?_)
  · obtain ⟨D, v, d, lo, hi, rfl, _⟩ := h
    rfl
  · obtain ⟨D, v, d, lo, hi, rfl, h, q⟩ := h
    refine ⟨_, pss_one (ps_ret (pe_and (pe_h GN hr (by decide) (by rfl) pass0 (pa_cons (pv 0) pa_nil)) (pe_one (pe_chain op_le op_le (pv 1) (pv 0) (pv 2))))), ?_⟩
    refine ⟨v, rfl, D, v, d, rfl, h, isNum d, rfl, ?_⟩
    cases h with
    | int n =>
      refine iteT ⟨_, rfl, _, rfl, _, _, rfl, rfl, _, rfl, ?_⟩
      have q : Q (.bl (decide (lo ≤ n) && decide (n ≤ hi))) H := q
      refine ite2 (fun z => ⟨_, rfl, _, _, rfl, rfl, ?_⟩) (fun z => ?_)
      · rw [z, Bool.true_and] at q
        exact q
      · rw [Bool.not_eq_true] at z
        rw [z, Bool.false_and] at q
        exact q
    | non => exact iteF q
    | bl _ => exact iteF q
    | str _ => exact iteF q
    | lst _ _ _ _ => exact iteF q
    | tup _ _ _ _ => exact iteF q
abbrev sTupleOf : Stmt := topS 10
theorem scTupleOf : FnScope ["thing", "count"] ["thing", "count"] (defScope sTupleOf) := ⟨rfl, rfl, rfl, by decide +kernel, rfl, by decide +kernel, by decide +kernel⟩
def spTupOf : Sp := fun vs H Q _ => ∃ (D : DrA) (v : V) (d : PyData) (k : Int), vs = [v, .int k] ∧ Da D H v d ∧ Q (.bl (tupOf k d)) H
theorem ok_tupleOf {f : Addr} {fd : FuncData} (F : Fun K "is_tuple_of" "is_tuple_of" sTupleOf f fd) (N : Bl mg) : FnOk P w K mg base CX0 1 f fd ["thing", "count"] spTupOf := by
  refine F.ok scTupleOf (fun vs H Q E h => ?_) (fun cdv A outer s H vs Q E hr h => ?_)
  · obtain ⟨D, v, d, k, rfl, _⟩ := h
    rfl
  · obtain ⟨D, v, d, k, rfl, h, q⟩ := h
    refine ⟨_, pss_one (ps_ret (pe_and (pe_callB call_isi (by rfl) N.bisi (by decide +kernel) (pa_cons (pv 0) (pa_cons (pe_bltn (v := .ty "tuple") (by rfl) N.btup (by decide +kernel) rfl) pa_nil)))
      (pe_one (pe_cmpR op_eq (pe_callB call_len_seq (by rfl) N.blen PySem.boot_len (pa_cons (pv 0) pa_nil)) (pv 1) (nomark _))))), ?_⟩
    refine ⟨v, rfl, v, .ty "tuple", _, _, isTup d, rfl, .ty "tuple", h.ty, kit_tup K d, isTup d, rfl, ?_⟩
    cases h with
    | tup h1 n1 n2 ha =>
      rename_i a xs ds
      refine iteT ⟨_, rfl, _, _, rfl, .inr (SqT.of h1), _, rfl, rfl, ?_⟩
      rw [ha.length]
      have e : decide (V.int (ds.length : Int) = V.int k) = decide ((ds.length : Int) = k) := decide_eq_decide.mpr ⟨V.int.inj, congrArg V.int⟩
      rw [e]
      exact q
    | non => exact iteF q
    | bl _ => exact iteF q
    | str _ => exact iteF q
    | lst _ _ _ _ => exact iteF q
    | int _ => exact iteF q
abbrev sNumTup : Stmt := topS 11
theorem scNumTup : FnScope ["thing", "count", "item"] ["thing", "count"] (defScope sNumTup) := ⟨rfl, rfl, rfl, by decide +kernel, rfl, by decide +kernel, by decide +kernel⟩
def spNumTup : Sp := fun vs H Q _ => ∃ (D : DrA) (v : V) (d : PyData) (k : Int), vs = [v, .int k] ∧ Da D H v d ∧ k ≤ 100 ∧ ∀ H', Same H H' → Q (.bl (numTup k d)) H'
theorem ok_numTup {f : Addr} {fd : FuncData} (F : Fun K "is_number_tuple" "is_number_tuple" sNumTup f fd) (N : Bl mg) (GN : Has P w K mg base CX0 1 "is_number" ["thing"] spNum) (GT : Has P w K mg base CX0 1 "is_tuple_of" ["thing", "count"] spTupOf) : FnOk P w K mg base CX0 2 f fd ["thing", "count"] spNumTup := by
  refine F.ok scNumTup (fun vs H Q E h => ?_) (fun cdv A outer s H vs Q E hr h => ?_)
  · obtain ⟨D, v, d, k, rfl, _⟩ := h
    rfl
  · obtain ⟨D, v, d, k, rfl, h, hk, q⟩ := h
    refine ⟨_, pss_one (ps_ret (pe_and (pe_h GT hr (by decide) (by rfl) pass0 (pa_cons (pv 0) (pa_cons (pv 1) pa_nil)))
      (pe_one (pe_callB (cr_all rfl) (by rfl) N.ball (by decide +kernel) (pa_cons (pe_lc (own := [("item", 2)]) (g := gName 2) (tt := tYes) rfl scNumTup.nd (pi_tup (pv 0)) (blkOk_by (own := [("item", 2)]) (N := ["thing", "count", "item"]) (sc := defScope sNumTup) (by decide +kernel)) (fun _ _ _ _ _ => pg_name (i := 2) scNumTup.nd rfl (Or.inl rfl))
        (fun _ _ _ _ _ => pts_nil) (fun _ _ _ _ _ => pe_h GN (hr.mono (by decide : 1 ≤ 1)) (by decide) (by rfl) pass0 (pa_cons (pv 2) pa_nil))) pa_nil))))), ?_⟩
    refine ⟨v, rfl, _, rfl, D, v, d, k, rfl, h, tupOf k d, rfl, ?_⟩
    cases h with
    | tup h1 n1 n2 ha =>
      rename_i a xs ds
      by_cases e : (ds.length : Int) = k
      · refine ite2 (fun _ => ?_) (fun z => absurd (decide_eq_true e) z)
        have hl := ha.length
        refine ⟨_, rfl, a, rfl, ⟨_, SqT.of h1⟩, fun R nR => lc_tup (K := K) (a := a) (xs := xs) (fun i H' => Same H H' ∧ H' R = some (.lst (((ds.map isNum).take i).map V.bl))) ⟨same_upd nR, upd_same⟩ (fun i H' _ h => SqT.of (h.1 _ _ h1)) ?_ ?_⟩
        · rintro i x H' hx ⟨s1, hR⟩
          obtain ⟨de, hde, hv⟩ := ha.get hx
          have hi : i < ds.length := (List.getElem?_eq_some_iff.mp hde).1
          refine ⟨rfl, _, rfl, D, x, de, rfl, hv.sm s1, _, hR, ?_, same_put s1 nR, ?_⟩
          · rw [List.length_map, List.length_take, List.length_map]
            exact small1000 (by omega)
          · have ht : (ds.map isNum).take (i + 1) = (ds.map isNum).take i ++ [isNum de] := by
              rw [List.take_add_one, List.getElem?_map, hde]
              rfl
            rw [ht, List.map_append]
            exact upd_same
        · rintro H1 ⟨s1, hR⟩
          rw [show (ds.map isNum).take xs.length = ds.map isNum from by rw [hl, ← List.length_map (f := isNum), List.take_length]] at hR
          refine ⟨R, ds.map isNum, rfl, SqL.of hR, ?_⟩
          have z := q _ s1
          have ez : numTup k (.tuple ds) = (ds.map isNum).all id := by
            show (decide ((ds.length : Int) = k) && ds.all isNum) = _
            rw [decide_eq_true e, Bool.true_and, List.all_map]
            rfl
          rw [ez] at z
          exact z
      · refine ite2 (fun z => absurd (of_decide_eq_true z) e) (fun _ => ?_)
        have z := q _ (fun _ _ z => z)
        have ez : numTup k (.tuple ds) = false := by
          show (decide ((ds.length : Int) = k) && ds.all isNum) = false
          rw [decide_eq_false e, Bool.false_and]
        rw [ez] at z
        exact z
    | non => exact iteF (q _ (fun _ _ z => z))
    | bl _ => exact iteF (q _ (fun _ _ z => z))
    | str _ => exact iteF (q _ (fun _ _ z => z))
    | lst _ _ _ _ => exact iteF (q _ (fun _ _ z => z))
    | int _ => exact iteF (q _ (fun _ _ z => z))
end
end Lm
namespace Lm
open PySem PySem.Spec PyProof.Rows L2 LamX
/-! ### raising an own exception class with a message -/
structure XMk (K : PySem.W.Frag) (mg : Str → Option Value) (x : Str) (C : Addr) : Prop where
  at_ : mg x = some (.ref C)
  q : PySem.W.excIn K C [.type "ValueError", .type "Exception", .type "BaseException", .type "object"] "ValueError.__new__" = true
  kC : PySem.W.keepIn K (.ref C) = true
  sub : PySem.W.subIn K (.ref C) (.type "BaseException") = some true
  ty : PySem.W.typeIn K (.ref C) = some (.type "type")
theorem ps_bad {X : Cx} {W : WX} {x m : Str} {C : Addr} {j : Nat} {p p2 pos pos2 : Pos} (hc : X.calm = true) (M : XMk X.K X.mg x C) (tk : Takes X W) (hg : Gl X x) (hdb : (x == ("__debug__" : Str)) = false := by decide) :
    PS X (.Raise (some (.Call (.Name x p) [.Constant (.str m) j p2] [] pos)) none pos2) (fun _ σ H => W (.ref C) none σ H) :=
  ps_raise hc tk (pmk_own PySem.F.excBase_ValueError M.q M.at_ M.kC (raises_own M.sub M.ty) hg hdb)
section
variable {P : Program} {w : World} {K : PySem.W.Frag} {mg : Str → Option Value} {base : Heap}
theorem passE {N : List Str} {qual : Str} {scope : Scope} {f : Addr} {cdv : Value} {A : Around} {outer : List Env} {s : Shared} {H : Hp} {E : XK} : Passes (L2.CX P w) (cxOf (L2.CX P w) P w K mg base N qual scope f cdv A outer s H E) E := by
  have tk : Takes (cxOf (L2.CX P w) P w K mg base N qual scope f cdv A outer s H E) (fun cls d _ H => E cls d H) := takes_of (E := E) rfl rfl rfl rfl
  exact passes_call tk (fun _ _ _ _ h => h)
/-! ### lanesmeet.banks -/
theorem btw_int {lo hi : Int} {d : PyData} (h : btw lo hi d = true) : ∃ n, d = .int n ∧ lo ≤ n ∧ n ≤ hi := by
  cases d with
  | int n =>
    have h : (decide (lo ≤ n) && decide (n ≤ hi)) = true := h
    rw [Bool.and_eq_true] at h
    exact ⟨n, rfl, of_decide_eq_true h.1, of_decide_eq_true h.2⟩
  | none => cases h
  | bool _ => cases h
  | str _ => cases h
  | list _ => cases h
  | tuple _ => cases h
  | dict _ => cases h
theorem btw_of {lo hi n : Int} (h1 : lo ≤ n) (h2 : n ≤ hi) : btw lo hi (.int n) = true := by
  show (decide (lo ≤ n) && decide (n ≤ hi)) = true
  rw [decide_eq_true h1, decide_eq_true h2]
  rfl
theorem cntIs_iff {ds : List PyData} : CntIs (.tuple ds) ↔ (1 ≤ ds.length ∧ ds.length ≤ 2) ∧ ds.all (btw 1 16) = true := by
  constructor
  · rintro ⟨cs, e, ⟨c, rfl, h1, h2⟩ | ⟨a, b, rfl, h1, h2, h3, h4⟩⟩
    · injection e with e
      subst e
      refine ⟨⟨by show 1 ≤ 1; decide, by show 1 ≤ 2; decide⟩, ?_⟩
      show (btw 1 16 (.int c) && true) = true
      rw [btw_of h1 h2]
      rfl
    · injection e with e
      subst e
      refine ⟨⟨by show 1 ≤ 2; decide, by show 2 ≤ 2; decide⟩, ?_⟩
      show (btw 1 16 (.int a) && (btw 1 16 (.int b) && true)) = true
      rw [btw_of h1 h2, btw_of h3 h4]
      rfl
  · rintro ⟨⟨l1, l2⟩, h⟩
    rw [List.all_eq_true] at h
    match ds, l1, l2, h with
    | [x], _, _, h =>
      obtain ⟨n, rfl, a, b⟩ := btw_int (h x (List.mem_cons_self ..))
      exact ⟨[n], rfl, .inl ⟨n, rfl, a, b⟩⟩
    | [x, y], _, _, h =>
      obtain ⟨n, rfl, a, b⟩ := btw_int (h x (List.mem_cons_self ..))
      obtain ⟨m, rfl, c, d⟩ := btw_int (h y (List.mem_cons_of_mem _ (List.mem_cons_self ..)))
      exact ⟨[n, m], rfl, .inr ⟨n, m, rfl, a, b, c, d⟩⟩
    | _ :: _ :: _ :: r, _, l2, _ =>
      simp at l2
abbrev sCB : Stmt := topS 17
theorem scCB : FnScope ["banks"] ["banks"] (defScope sCB) := ⟨rfl, rfl, rfl, by decide +kernel, rfl, by decide +kernel, by decide +kernel⟩
def spCB (BB : Addr) : Sp := fun vs H Q E => ∃ (D : DrA) (v : V) (b : PyData), vs = [v] ∧ Da D H v b ∧ ((¬ BnkIs b ∧ E (.ref BB) none H) ∨ (BnkIs b ∧ Q .non H))
theorem bnkIs_iff {b : PyData} : BnkIs b ↔ btw 1 32 b = true := by
  constructor
  · rintro ⟨m, rfl, h1, h2⟩
    exact btw_of h1 h2
  · intro h
    obtain ⟨n, rfl, a, b⟩ := btw_int h
    exact ⟨n, rfl, a, b⟩
theorem ok_CB {BB : Addr} {f : Addr} {fd : FuncData} {tk : Tok} (F : Fun K "check_banks" "check_banks" sCB f fd) (M : XMk K mg "BadBanks" BB) (MB : mg "MOST_BANKS" = some (.int 32 tk)) (GB : Has P w K mg base CX0 2 "is_between" ["thing", "low", "high"] spBtw) : FnOk P w K mg base (L2.CX P w) 3 f fd ["banks"] (spCB BB) := by
  refine F.okX scCB (fun vs H Q E h => ?_) (fun cdv A outer s H vs Q E hr h => ?_)
  · obtain ⟨D, v, b, rfl, _⟩ := h
    rfl
  · obtain ⟨D, v, b, rfl, h, q⟩ := h
    refine ⟨_, pss_one (ps_if (pt_not (pt_val (pe_h GB hr (by decide) (by rfl) (E := C8.E0) pass0 (pa_cons (pv 0) (pa_cons pe_int (pa_cons (pe_glob (v := .int 32) (by rfl) MB ⟨tk, rfl⟩) pa_nil)))))) (pss_one (ps_bad rfl M (takes_of (E := E) rfl rfl rfl rfl) (by rfl))) pss_nil), ?_⟩
    refine ⟨v, rfl, D, v, b, 1, 32, rfl, h, _, rfl, ?_⟩
    cases hb : btw 1 32 b with
    | true => exact iteF (q.elim (fun z => absurd (bnkIs_iff.mpr hb) z.1) (fun z => z.2))
    | false => exact iteT (q.elim (fun z => z.2) (fun z => by rw [bnkIs_iff.mp z.1] at hb; cases hb))
abbrev sCC : Stmt := topS 16
theorem scCC : FnScope ["counts", "banks", "count"] ["counts", "banks"] (defScope sCC) := ⟨rfl, rfl, rfl, by decide +kernel, rfl, by decide +kernel, by decide +kernel⟩
def spCC (BC BB : Addr) : Sp := fun vs H Q E => ∃ (D : DrA) (v1 v2 : V) (c b : PyData), vs = [v1, v2] ∧ Da D H v1 c ∧ Da D H v2 b ∧
  ((¬ CntIs c ∧ ∀ H', Same H H' → E (.ref BC) none H') ∨ (CntIs c ∧ ¬ BnkIs b ∧ ∀ H', Same H H' → E (.ref BB) none H') ∨ (CntIs c ∧ BnkIs b ∧ ∀ H', Same H H' → Q .non H'))
theorem ok_CC {BC BB : Addr} {f : Addr} {fd : FuncData} (F : Fun K "check_counts" "check_counts" sCC f fd) (N : Bl mg) (M : XMk K mg "BadCounts" BC) (GB : Has P w K mg base CX0 2 "is_between" ["thing", "low", "high"] spBtw) (CB : Has P w K mg base (L2.CX P w) 3 "check_banks" ["banks"] (spCB BB)) : FnOk P w K mg base (L2.CX P w) 4 f fd ["counts", "banks"] (spCC BC BB) := by
  refine F.okX scCC (fun vs H Q E h => ?_) (fun cdv A outer s H vs Q E hr h => ?_)
  · obtain ⟨D, v1, v2, c, b, rfl, _⟩ := h
    rfl
  · obtain ⟨D, v, v2, c, b, rfl, h, hb, q⟩ := h
    refine ⟨_, pss_cons (ps_if (pw_or (pt_not (pt_val (pe_callB call_isi (by rfl) N.bisi (by decide +kernel) (pa_cons (pv 0) (pa_cons (pe_bltn (v := .ty "tuple") (by rfl) N.btup (by decide +kernel) rfl) pa_nil)))))
        (pw_or1 (pt_not (pt_chain op_le op_le pe_int (pe_callB call_len_seq (by rfl) N.blen PySem.boot_len (pa_cons (pv 0) pa_nil)) pe_int)))).pt
        (pss_one (ps_bad rfl M (takes_of (E := E) rfl rfl rfl rfl) (by rfl))) pss_nil)
      (pss_cons (ps_if (pt_not (pt_val (pe_callB (cr_all rfl) (by rfl) N.ball (by decide +kernel) (pa_cons (pe_lc (own := [("count", 2)]) (g := gName 2) (tt := tYes) rfl scCC.nd (pi_tup (pv 0)) (blkOk_by (own := [("count", 2)]) (N := ["counts", "banks", "count"]) (sc := defScope sCC) (by decide +kernel)) (fun _ _ _ _ _ => pg_name (i := 2) scCC.nd rfl (Or.inl rfl))
        (fun _ _ _ _ _ => pts_nil) (fun _ _ _ _ _ => pe_h GB (hr.mono (by decide : 2 ≤ 3)) (by decide) (by rfl) (E := C8.E0) pass0 (pa_cons (pv 2) (pa_cons pe_int (pa_cons pe_int pa_nil))))) pa_nil))))
        (pss_one (ps_bad rfl M (takes_of (E := E) rfl rfl rfl rfl) (by rfl))) pss_nil)
      (pss_one (ps_expr (pe_h CB hr (by decide) (by rfl) passE (pa_cons (pv 1) pa_nil))))), ?_⟩
    have bad : ¬ CntIs c → ∀ H', Same H H' → E (.ref BC) none H' := fun n => by
      rcases q with z | z | z
      · exact z.2
      · exact absurd z.1 n
      · exact absurd z.1 n
    have good : CntIs c → ∀ H', Same H H' → (¬ BnkIs b ∧ E (.ref BB) none H') ∨ (BnkIs b ∧ Q .non H') := fun n H' s => by
      rcases q with z | ⟨_, z1, z2⟩ | ⟨_, z1, z2⟩
      · exact absurd n z.1
      · exact .inl ⟨z1, z2 _ s⟩
      · exact .inr ⟨z1, z2 _ s⟩
    refine ⟨v, rfl, v, .ty "tuple", _, _, isTup c, rfl, .ty "tuple", h.ty, kit_tup K c, isTup c, rfl, ?_⟩
    cases h with
    | tup h1 n1 n2 ha =>
      rename_i a xs ds
      have hl := ha.length
      refine iteF ⟨_, rfl, a, xs, rfl, .inr (SqT.of h1), ?_⟩
      have nl : ¬ (1 ≤ ds.length ∧ ds.length ≤ 2) → ¬ CntIs (.tuple ds) := fun z k => z (cntIs_iff.mp k).1
      refine ⟨_, _, rfl, rfl, _, rfl, ite2 (fun z1 => ⟨_, _, rfl, rfl, _, rfl, ite2 (fun z2 => bad (nl ?_) _ (fun _ _ z => z)) (fun z2 => ?_)⟩) (fun z1 => ⟨_, rfl, iteT (bad (nl ?_) _ (fun _ _ z => z))⟩)⟩
      · intro k
        rw [Bool.not_eq_true', decide_eq_false_iff_not] at z2
        omega
      · have z1 := of_decide_eq_true z1
        have z2 : (xs.length : Int) ≤ 2 := by
          refine Classical.byContradiction fun n => z2 ?_
          rw [decide_eq_false n]
          rfl
        have l12 : 1 ≤ ds.length ∧ ds.length ≤ 2 := by omega
        refine ⟨_, rfl, a, rfl, ⟨_, SqT.of h1⟩, fun R nR => lc_tup (K := K) (a := a) (xs := xs) (fun i H' => Same H H' ∧ H' R = some (.lst (((ds.map (btw 1 16)).take i).map V.bl))) ⟨same_upd nR, upd_same⟩ (fun i H' _ h => SqT.of (h.1 _ _ h1)) ?_ ?_⟩
        · rintro i x H' hx ⟨s1, hR⟩
          obtain ⟨de, hde, hv⟩ := ha.get hx
          have hi : i < ds.length := (List.getElem?_eq_some_iff.mp hde).1
          refine ⟨rfl, _, rfl, D, x, de, 1, 16, rfl, hv.sm s1, _, hR, ?_, same_put s1 nR, ?_⟩
          · rw [List.length_map, List.length_take, List.length_map]
            exact small1000 (by omega)
          · have ht : (ds.map (btw 1 16)).take (i + 1) = (ds.map (btw 1 16)).take i ++ [btw 1 16 de] := by
              rw [List.take_add_one, List.getElem?_map, hde]
              rfl
            rw [ht, List.map_append]
            exact upd_same
        · rintro H1 ⟨s1, hR⟩
          rw [show (ds.map (btw 1 16)).take xs.length = ds.map (btw 1 16) from by rw [hl, ← List.length_map (f := btw 1 16), List.take_length]] at hR
          refine ⟨R, ds.map (btw 1 16), rfl, SqL.of hR, _, rfl, ?_⟩
          have ea : (ds.map (btw 1 16)).all id = ds.all (btw 1 16) := by rw [List.all_map]; rfl
          rw [ea]
          cases hall : ds.all (btw 1 16) with
          | true => exact iteF ⟨_, rfl, D, v2, b, rfl, hb.sm s1, good (cntIs_iff.mpr ⟨l12, hall⟩) _ s1⟩
          | false => exact iteT (bad (fun k => by rw [(cntIs_iff.mp k).2] at hall; cases hall) _ s1)
      · intro k
        exact z1 (decide_eq_true (by omega))
    | non => exact iteT (iteT (bad (noCnt_kind rfl) _ (fun _ _ z => z)))
    | bl _ => exact iteT (iteT (bad (noCnt_kind rfl) _ (fun _ _ z => z)))
    | str _ => exact iteT (iteT (bad (noCnt_kind rfl) _ (fun _ _ z => z)))
    | lst _ _ _ _ => exact iteT (iteT (bad (noCnt_kind rfl) _ (fun _ _ z => z)))
    | int _ => exact iteT (iteT (bad (noCnt_kind rfl) _ (fun _ _ z => z)))
end
end Lm
namespace Lm
open PySem PySem.Spec PyProof.Rows L2 LamX
section
variable {P : Program} {w : World} {K : PySem.W.Frag} {mg : Str → Option Value} {base : Heap}
abbrev sSheet : Stmt := topS 15
theorem scSheet : FnScope ["counts"] ["counts"] (defScope sSheet) := ⟨rfl, rfl, rfl, by decide +kernel, rfl, by decide +kernel, by decide +kernel⟩
theorem ok_sheet {f : Addr} {fd : FuncData} (F : Fun K "grid_of" "grid_of" sSheet f fd) (N : Bl mg) : FnOk P w K mg base CX0 1 f fd ["counts"] spBox := by
  refine F.ok scSheet (fun vs H Q E h => ?_) (fun cdv A outer s H vs Q E hr h => ?_)
  · obtain ⟨a, cs, rfl, _⟩ := h
    rfl
  · obtain ⟨a, cs, rfl, ha, hc, q⟩ := h
    refine ⟨_, pss_one (ps_ret (pe_ifExp (pt_cmpR op_eq (pe_callB call_len_seq (by rfl) N.blen PySem.boot_len (pa_cons (pv 0) pa_nil)) pe_int (nomark _))
      (pe_tup (pa_cons pe_int (pa_cons (pe_ix ix_tup (pv 0) pe_int (fun _ _ => rfl)) pa_nil))) (pv 0))), ?_⟩
    refine ⟨.ref a, rfl, a, _, rfl, .inr (SqT.of ha), rfl, _, rfl, ?_⟩
    rcases hc with ⟨c, rfl, _⟩ | ⟨x, y, rfl, _⟩
    · refine iteT ⟨.ref a, rfl, a, _, 0, .int c, rfl, rfl, SqT.of ha, rfl, (by show 2 ≤ sizeLine; decide), fun p np => ?_⟩
      exact q _ p (same_upd np) upd_same
    · refine iteF ⟨.ref a, rfl, ?_⟩
      exact q _ a (fun _ _ z => z) ha
/-! ### is_laying_of -/
abbrev sLO : Stmt := topS 18
def nLO : List Str := ["counts", "banks", "thing", "rows", "columns", "bank"]
theorem scLO : FnScope ["counts", "banks", "thing", "rows", "columns", "bank"] ["counts", "banks", "thing"] (defScope sLO) := ⟨rfl, rfl, rfl, by decide +kernel, rfl, by decide +kernel, by decide +kernel⟩
theorem ok_LO {f : Addr} {fd : FuncData} {tk : Tok} (F : Fun K "is_laying_of" "is_laying_of" sLO f fd) (N : Bl mg) (MB : mg "MOST_BANKS" = some (.int 32 tk)) (GX : Has P w K mg base CX0 1 "grid_of" ["counts"] spBox) (GB : Has P w K mg base CX0 2 "is_between" ["thing", "low", "high"] spBtw) (GT : Has P w K mg base CX0 1 "is_tuple_of" ["thing", "count"] spTupOf) :
    FnOk P w K mg base CX0 4 f fd ["counts", "banks", "thing"] spIsWay := by
  refine F.ok scLO (fun vs H Q E h => ?_) (fun cdv A outer s H vs Q E hr h => ?_)
  · obtain ⟨D, c, cs, m, v, d, rfl, _⟩ := h
    rfl
  · obtain ⟨D, c, cs, m, v, d, rfl, hc, kc, hd, q⟩ := h
    refine ⟨_, pss_cons (ps_if (pw_or (pt_not (pt_val (pe_h GT hr (by decide) (by rfl) pass0 (pa_cons (pv 2) (pa_cons pe_int pa_nil)))))
          (pw_or1 (pt_not (pt_val (pe_callB call_isi (by rfl) N.bisi (by decide +kernel) (pa_cons (pe_ix ix_tup (pv 2) pe_int (fun _ _ => rfl)) (pa_cons (pe_bltn (v := .ty "str") (by rfl) N.bstr (by decide +kernel) rfl) pa_nil))))))).pt
        (pss_one (ps_ret pe_bl)) pss_nil)
      (pss_cons (ps_if (pt_cmpR op_in_seq (pe_ix ix_tup (pv 2) pe_int (fun _ _ => rfl)) (pe_tup (pa_cons pe_str (pa_cons pe_str pa_nil))) (by rfl))
        (pss_one (ps_ret (pe_h GB hr (by decide) (by rfl) pass0 (pa_cons (pe_ix ix_tup (pv 2) pe_int (fun _ _ => rfl)) (pa_cons pe_int (pa_cons (pe_op op_sub (pe_glob (v := .int 32) (by rfl) MB ⟨tk, rfl⟩) pe_int) pa_nil)))))) pss_nil)
      (pss_cons (ps_asg (pe_h GX hr (by decide) (by rfl) pass0 (pa_cons (pv 0) pa_nil)) (pg_tup rfl (pgs_cons (pg_name (i := 3) scLO.nd rfl (.inl rfl)) (pgs_cons (pg_name (i := 4) scLO.nd rfl (.inl rfl)) pgs_nil))))
      (pss_cons (ps_if (pw_or (pt_cmpR op_ne (pe_ix ix_tup (pv 2) pe_int (fun _ _ => rfl)) pe_str (nomark _)) (pw_or1 (pt_not (pt_val (pe_h GT hr (by decide) (by rfl) pass0 (pa_cons (pe_ix ix_tup (pv 2) pe_int (fun _ _ => rfl)) (pa_cons (pe_op op_mul (pv 3) (pv 4)) pa_nil))))))).pt
        (pss_one (ps_ret pe_bl)) pss_nil)
      (pss_one (ps_ret (pe_callB (cr_all rfl) (by rfl) N.ball (by decide +kernel) (pa_cons (pe_lc (own := [("bank", 5)]) (g := gName 5) (tt := tYes) rfl scLO.nd (pi_tupK K (pe_ix ix_tup (pv 2) pe_int (fun _ _ => rfl)))
          (blkOk_by (own := [("bank", 5)]) (N := nLO) (sc := defScope sLO) (by decide +kernel)) (fun _ _ _ _ _ => pg_name (i := 5) scLO.nd rfl (Or.inl rfl)) (fun _ _ _ _ _ => pts_nil)
          (fun _ _ _ _ _ => pe_h GB (hr.mono (by decide : 2 ≤ 3)) (by decide) (by rfl) pass0 (pa_cons (pv 5) (pa_cons pe_int (pa_cons (pe_op op_sub (pv 1) pe_int) pa_nil))))) pa_nil))))))), ?_⟩
    have done : ∀ {H' : Hp}, Same H H' → isWayD cs m d = false → Q (.bl false) H' := fun s e => by
      have := q _ s
      rwa [e] at this
    refine ⟨v, rfl, D, v, d, 2, rfl, hd, _, rfl, ?_⟩
    have no : tupOf 2 d = false → isWayD cs m d = false := fun e => by
      cases d with
      | tuple ds =>
        match ds, e with
        | [], _ => rfl
        | [_], _ => rfl
        | [_, _], e => cases e
        | _ :: _ :: _ :: _, _ => rfl
      | _ => rfl
    cases ht : tupOf 2 d with
    | false => exact iteT (iteT (done (fun _ _ z => z) (no ht)))
    | true =>
      refine iteF ?_
      cases hd with
      | non => cases ht
      | bl _ => cases ht
      | int _ => cases ht
      | str _ => cases ht
      | lst _ _ _ _ => cases ht
      | tup h1 n1 n2 ha =>
        rename_i a xs ds
        match ds, xs, ha, ht with
        | [d0, d1], _, .cons (v := v0) h0 (.cons (v := v1) hd1 .nil), _ =>
          refine ⟨_, rfl, a, _, 0, _, rfl, rfl, SqT.of h1, rfl, v0, .ty "str", _, _, isStr d0, rfl, .ty "str", h0.ty, kit_str K d0, isStr d0, rfl, ?_⟩
          cases h0 with
          | non => exact iteT (done (fun _ _ z => z) rfl)
          | bl b => exact iteT (done (fun _ _ z => z) rfl)
          | int i => exact iteT (done (fun _ _ z => z) rfl)
          | lst _ _ _ _ => exact iteT (done (fun _ _ z => z) rfl)
          | tup _ _ _ _ => exact iteT (done (fun _ _ z => z) rfl)
          | str k =>
            refine iteF ⟨_, rfl, a, _, 0, _, rfl, rfl, SqT.of h1, rfl, by show 2 ≤ sizeLine; decide, fun p np => ?_⟩
            have s2 : Same H (upd H p (.tup [.str "padded", .str "turned"])) := same_upd np
            have hp : (upd H p (.tup [.str "padded", .str "turned"])) p = some _ := upd_same
            generalize upd H p (.tup [.str "padded", .str "turned"]) = H2 at *
            have g1 := s2 _ _ h1
            have gd := hd1.sm s2
            refine ⟨p, _, rfl, .inr (SqT.of hp), rfl, rfl, _, rfl, ?_⟩
            have wy : isWayD cs m (.tuple [.str k, d1]) = wayX cs m k d1 := rfl
            by_cases hk : k = "padded" ∨ k = "turned"
            · refine ite2 (fun _ => ?_) (fun e => absurd ((inV_ways k).trans (decide_eq_true hk)) e)
              refine ⟨_, rfl, a, _, 1, _, rfl, rfl, SqT.of g1, rfl, _, _, rfl, rfl, D, v1, d1, 0, 31, rfl, gd, ?_⟩
              have e := q _ s2
              rw [wy] at e
              have ew : wayX cs m k d1 = btw 0 31 d1 := by
                unfold wayX
                rw [if_pos hk]
                cases d1 <;> rfl
              rw [ew] at e
              exact e
            · refine ite2 (fun e => absurd (of_decide_eq_true ((inV_ways k).symm.trans e)) hk) (fun _ => ?_)
              refine ⟨.ref c, rfl, c, cs, rfl, s2 _ _ hc, kc, fun H3 bp s3 hb => ?_⟩
              refine ⟨bp, _, rfl, SqT.of hb, rfl, _, _, rfl, _, _, rfl, rfl, ?_⟩
              have g3 := s3 _ _ g1
              have gd3 := gd.sm s3
              refine ⟨_, rfl, a, _, 0, _, rfl, rfl, SqT.of g3, rfl, rfl, _, rfl, ?_⟩
              have wn : k ≠ "listed" → Q (.bl false) H3 := fun e => done (s2.trans s3) (by
                rw [wy]
                unfold wayX
                rw [if_neg hk, if_neg e])
              by_cases hl : k = "listed"
              · refine ite2 (fun e => ?_) (fun _ => ?_)
                · rw [hl, Bool.not_eq_true', decide_eq_false_iff_not] at e
                  exact absurd rfl e
                have bx := kc.box
                have ar := kc.area
                have wz : wayX cs m k d1 = (match d1 with | .tuple bs => decide ((bs.length : Int) = (boxL cs).1 * (boxL cs).2) && bs.all (numIn m) | _ => false) := by
                  unfold wayX
                  rw [if_neg hk, if_pos hl]
                  cases d1 <;> rfl
                refine ⟨_, rfl, a, _, 1, _, rfl, rfl, SqT.of g3, rfl, _, rfl, _, rfl, _, _, rfl, rfl, .inl (by constructor <;> omega), D, v1, d1, _, rfl, gd3, _, rfl, ?_⟩
                cases gd3 with
                | non => exact iteT (done (s2.trans s3) (by rw [wy, wz]))
                | bl _ => exact iteT (done (s2.trans s3) (by rw [wy, wz]))
                | int _ => exact iteT (done (s2.trans s3) (by rw [wy, wz]))
                | str _ => exact iteT (done (s2.trans s3) (by rw [wy, wz]))
                | lst _ _ _ _ => exact iteT (done (s2.trans s3) (by rw [wy, wz]))
                | tup hbs m1 m2 hbd =>
                  rename_i b ys bs _
                  have ll := hbd.length
                  have wb : ∀ {H' : Hp} {r : Bool}, Same H3 H' → (decide ((bs.length : Int) = (boxL cs).1 * (boxL cs).2) && bs.all (numIn m)) = r → Q (.bl r) H' := fun s e => by
                    have z := q _ ((s2.trans s3).trans s)
                    rw [wy, wz] at z
                    rw [← e]
                    exact z
                  by_cases hle : (bs.length : Int) = (boxL cs).1 * (boxL cs).2
                  · have e2 : tupOf ((boxL cs).1 * (boxL cs).2) (.tuple bs) = true := decide_eq_true hle
                    rw [e2]
                    refine iteF ?_
                    refine ⟨_, rfl, a, _, 1, _, rfl, rfl, SqT.of g3, rfl, b, rfl, ⟨_, SqT.of hbs⟩, fun R nR => lc_tup (K := K) (a := b) (xs := ys) (fun i H' => Same H3 H' ∧ H' R = some (.lst (((bs.map (numIn m)).take i).map V.bl))) ⟨same_upd nR, upd_same⟩ (fun i H' _ h => SqT.of (h.1 _ _ hbs)) ?_ ?_⟩
                    · rintro i x H' hx ⟨s4, hR⟩
                      obtain ⟨de, hde, hv⟩ := hbd.get hx
                      have hi : i < bs.length := (List.getElem?_eq_some_iff.mp hde).1
                      have eb : btw 0 (m - 1) de = numIn m de := by
                        cases de with
                        | int n =>
                          show (decide (0 ≤ n) && decide (n ≤ m - 1)) = (decide (0 ≤ n) && decide (n < m))
                          rw [show decide (n ≤ m - 1) = decide (n < m) from decide_eq_decide.mpr (by omega)]
                        | _ => rfl
                      refine ⟨rfl, _, rfl, _, rfl, _, _, rfl, rfl, D, x, de, 0, m - 1, rfl, hv.sm s4, ?_⟩
                      rw [eb]
                      refine ⟨_, hR, ?_, same_put s4 nR, ?_⟩
                      · rw [List.length_map, List.length_take, List.length_map]
                        exact small1000 (by omega)
                      · have ht : (bs.map (numIn m)).take (i + 1) = (bs.map (numIn m)).take i ++ [numIn m de] := by
                          rw [List.take_add_one, List.getElem?_map, hde]
                          rfl
                        rw [ht, List.map_append]
                        exact upd_same
                    · rintro H4 ⟨s4, hR⟩
                      rw [show (bs.map (numIn m)).take ys.length = bs.map (numIn m) from by rw [ll, ← List.length_map (f := numIn m), List.take_length]] at hR
                      refine ⟨R, bs.map (numIn m), rfl, SqL.of hR, wb s4 ?_⟩
                      rw [decide_eq_true hle, Bool.true_and, List.all_map]
                      rfl
                  · have e2 : tupOf ((boxL cs).1 * (boxL cs).2) (.tuple bs) = false := decide_eq_false hle
                    rw [e2]
                    exact iteT (wb (fun _ _ z => z) (by rw [decide_eq_false hle, Bool.false_and]))
              · refine ite2 (fun _ => iteT (wn hl)) (fun e => absurd ?_ e)
                rw [Bool.not_eq_true', decide_eq_false_iff_not]
                exact fun z => hl (V.str.inj z)
end
end Lm
namespace Lm
open PySem PySem.Spec PyProof.Rows L2 LamX
theorem cntIs_of {cs : List Int} (k : Cnt cs) : CntIs (.tuple (cs.map .int)) := ⟨cs, rfl, k⟩
theorem way_lay {cs : List Int} {m : Int} {d : PyData} (h : isWayD cs m d = true) : ∃ l : Lay, d = l.dat ∧ l.Ok cs m := by
  have pair : ∀ {x0 x : PyData}, wayP cs m x0 x = true → ∃ k, x0 = .str k ∧ wayX cs m k x = true := by
    intro x0 x h
    cases x0 with
    | str k => exact ⟨k, rfl, h⟩
    | _ => cases h
  match d, h with
  | .tuple [x0, x], h =>
    obtain ⟨k, rfl, hx⟩ := pair h
    clear h
    have h := hx
    clear hx
    unfold wayX at h
    by_cases h1 : k = "padded" ∨ k = "turned"
    · rw [if_pos h1] at h
      cases x with
      | int n =>
        have h : (decide (0 ≤ n) && decide (n ≤ 31)) = true := h
        rw [Bool.and_eq_true] at h
        have a := of_decide_eq_true h.1
        have b := of_decide_eq_true h.2
        rcases h1 with rfl | rfl
        · exact ⟨.pad n, rfl, a, b⟩
        · exact ⟨.trn n, rfl, a, b⟩
      | _ => cases h
    · rw [if_neg h1] at h
      by_cases h2 : k = "listed"
      · rw [if_pos h2] at h
        subst h2
        cases x with
        | tuple bs =>
          have h : (decide ((bs.length : Int) = (boxL cs).1 * (boxL cs).2) && bs.all (numIn m)) = true := h
          rw [Bool.and_eq_true, List.all_eq_true] at h
          have allI : ∀ es : List PyData, (∀ e ∈ es, numIn m e = true) → ∃ ns : List Int, es = ns.map .int ∧ ∀ b ∈ ns, 0 ≤ b ∧ b < m := by
            intro es
            induction es with
            | nil => intro _; exact ⟨[], rfl, fun _ z => nomatch z⟩
            | cons e r ih =>
              intro h
              obtain ⟨ns, rfl, hn⟩ := ih fun x hx => h x (List.mem_cons_of_mem _ hx)
              have he := h e (List.mem_cons_self ..)
              cases e with
              | int n =>
                have he : (decide (0 ≤ n) && decide (n < m)) = true := he
                rw [Bool.and_eq_true] at he
                refine ⟨n :: ns, rfl, fun b hb => ?_⟩
                rcases List.mem_cons.mp hb with rfl | hb
                · exact ⟨of_decide_eq_true he.1, of_decide_eq_true he.2⟩
                · exact hn b hb
              | _ => cases he
          obtain ⟨ns, rfl, hn⟩ := allI bs h.2
          have hl := of_decide_eq_true h.1
          rw [List.length_map] at hl
          exact ⟨.lst ns, rfl, hl, hn⟩
        | _ => cases h
      · rw [if_neg h2] at h
        cases h
section
variable {P : Program} {w : World} {K : PySem.W.Frag} {mg : Str → Option Value} {base : Heap}
abbrev sCL : Stmt := topS 19
theorem scCL : FnScope ["counts", "banks", "laying"] ["counts", "banks", "laying"] (defScope sCL) := ⟨rfl, rfl, rfl, by decide +kernel, rfl, by decide +kernel, by decide +kernel⟩
def spCL (BL : Addr) : Sp := fun vs H Q E => ∃ (D : DrA) (c : Addr) (cs : List Int) (m : Int) (v3 : V) (t : PyData), vs = [.ref c, .int m, v3] ∧ H c = some (.tup (cs.map V.int)) ∧ Cnt cs ∧ Da D H v3 t ∧
  ((isWayD cs m t = false ∧ ∀ H', Same H H' → E (.ref BL) none H') ∨ (isWayD cs m t = true ∧ ∀ H', Same H H' → Q .non H'))
theorem ok_CL {BL : Addr} {f : Addr} {fd : FuncData} (F : Fun K "check_laying" "check_laying" sCL f fd) (M : XMk K mg "BadLaying" BL) (GL : Has P w K mg base CX0 4 "is_laying_of" ["counts", "banks", "thing"] spIsWay) :
    FnOk P w K mg base (L2.CX P w) 5 f fd ["counts", "banks", "laying"] (spCL BL) := by
  refine F.okX scCL (fun vs H Q E h => ?_) (fun cdv A outer s H vs Q E hr h => ?_)
  · obtain ⟨D, c, cs, m, v3, t, rfl, _⟩ := h
    rfl
  · obtain ⟨D, c, cs, m, v3, t, rfl, hc, kc, h3, q⟩ := h
    refine ⟨_, pss_one (ps_if (pt_not (pt_val (pe_h GL hr (by decide) (by rfl) (E := C8.E0) pass0 (pa_cons (pv 0) (pa_cons (pv 1) (pa_cons (pv 2) pa_nil)))))) (pss_one (ps_bad rfl M (takes_of (E := E) rfl rfl rfl rfl) (by rfl))) pss_nil), ?_⟩
    refine ⟨_, rfl, _, rfl, _, rfl, D, c, cs, m, v3, t, rfl, hc, kc, h3, fun H2 s2 => ⟨_, rfl, ?_⟩⟩
    rcases q with ⟨hw, e⟩ | ⟨hw, e⟩
    · rw [hw]
      exact iteT (e _ s2)
    · rw [hw]
      exact iteF (e _ s2)
abbrev sIL : Stmt := topS 25
theorem scIL : FnScope ["counts", "banks", "thing"] ["counts", "banks", "thing"] (defScope sIL) := ⟨rfl, rfl, rfl, by decide +kernel, rfl, by decide +kernel, by decide +kernel⟩
theorem ok_IL {BC BB : Addr} {f : Addr} {fd : FuncData} (F : Fun K "is_laying" "is_laying" sIL f fd) (GC : Has P w K mg base (L2.CX P w) 4 "check_counts" ["counts", "banks"] (spCC BC BB)) (GL : Has P w K mg base CX0 4 "is_laying_of" ["counts", "banks", "thing"] spIsWay) :
    FnOk P w K mg base (L2.CX P w) 10 f fd ["counts", "banks", "thing"] (spIL BC BB) := by
  refine F.okX scIL (fun vs H Q E h => ?_) (fun cdv A outer s H vs Q E hr h => ?_)
  · obtain ⟨D, v1, v2, v3, c, b, t, rfl, _⟩ := h
    rfl
  · obtain ⟨D, v1, v2, v3, c, b, t, rfl, h1, h2, h3, q⟩ := h
    refine ⟨_, pss_cons (ps_expr (pe_h GC hr (by decide) (by rfl) passE (pa_cons (pv 0) (pa_cons (pv 1) pa_nil))))
      (pss_one (ps_ret (pe_h GL hr (by decide) (by rfl) (E := C8.E0) pass0 (pa_cons (pv 0) (pa_cons (pv 1) (pa_cons (pv 2) pa_nil)))))), ?_⟩
    refine ⟨_, rfl, _, rfl, D, v1, v2, c, b, rfl, h1, h2, ?_⟩
    rcases q with ⟨hn, e⟩ | ⟨hc, hn, e⟩ | ⟨cs, m, rfl, kc, rfl, m1, m2, q⟩
    · exact .inl ⟨hn, e⟩
    · exact .inr (.inl ⟨hc, hn, e⟩)
    · refine .inr (.inr ⟨cntIs_of kc, ⟨m, rfl, m1, m2⟩, fun H1 s1 => ?_⟩)
      cases h2
      have h1' := h1.sm s1
      cases v1 with
      | ref c => exact ⟨_, rfl, _, rfl, _, rfl, D, c, cs, m, v3, t, rfl, dat_ints h1', kc, h3.sm s1, fun H2 s2 => q _ (s1.trans s2)⟩
      | _ => cases h1
end
end Lm
namespace Lm
open PySem PySem.Spec PyProof.Rows L2 LamX
def cellB (cs : List Int) : PyData → Bool
  | .tuple [.int y, .int x] => (decide (0 ≤ y) && decide (y < (boxL cs).1)) && (decide (0 ≤ x) && decide (x < (boxL cs).2))
  | _ => false
theorem cellB_iff {cs : List Int} {d : PyData} : CellIs cs d ↔ cellB cs d = true := by
  constructor
  · rintro ⟨y, x, rfl, a, b, c, e⟩
    show ((decide (0 ≤ y) && decide (y < (boxL cs).1)) && (decide (0 ≤ x) && decide (x < (boxL cs).2))) = true
    rw [decide_eq_true a, decide_eq_true b, decide_eq_true c, decide_eq_true e]
    rfl
  · intro h
    unfold cellB at h
    split at h
    · rename_i y x
      rw [Bool.and_eq_true, Bool.and_eq_true, Bool.and_eq_true] at h
      exact ⟨y, x, rfl, of_decide_eq_true h.1.1, of_decide_eq_true h.1.2, of_decide_eq_true h.2.1, of_decide_eq_true h.2.2⟩
    · cases h
theorem numTup_two {d : PyData} (h : numTup 2 d = true) : ∃ y x : Int, d = .tuple [.int y, .int x] := by
  have num : ∀ {e : PyData}, isNum e = true → ∃ n, e = .int n := fun {e} h => by
    cases e with
    | int n => exact ⟨n, rfl⟩
    | _ => cases h
  cases d with
  | tuple ds =>
    have h : (decide ((ds.length : Int) = 2) && ds.all isNum) = true := h
    rw [Bool.and_eq_true, List.all_eq_true] at h
    have hl := of_decide_eq_true h.1
    match ds, hl, h.2 with
    | [a, b], _, h =>
      obtain ⟨y, rfl⟩ := num (h a (List.mem_cons_self ..))
      obtain ⟨x, rfl⟩ := num (h b (List.mem_cons_of_mem _ (List.mem_cons_self ..)))
      exact ⟨y, x, rfl⟩
    | [], hl, _ => simp at hl
    | [_], hl, _ => simp at hl
    | _ :: _ :: _ :: r, hl, _ =>
      simp at hl
      omega
  | _ => cases h
theorem numTup_no {cs : List Int} {d : PyData} (h : numTup 2 d = false) : cellB cs d = false := by
  cases hb : cellB cs d with
  | false => rfl
  | true =>
    obtain ⟨y, x, rfl, _⟩ := cellB_iff.mpr hb
    cases h
section
variable {P : Program} {w : World} {K : PySem.W.Frag} {mg : Str → Option Value} {base : Heap}
abbrev sCellOf : Stmt := topS 20
theorem scCellOf : FnScope ["counts", "thing", "rows", "columns"] ["counts", "thing"] (defScope sCellOf) := ⟨rfl, rfl, rfl, by decide +kernel, rfl, by decide +kernel, by decide +kernel⟩
def spCellOf : Sp := fun vs H Q _ => ∃ (D : DrA) (c : Addr) (cs : List Int) (v : V) (d : PyData), vs = [.ref c, v] ∧ H c = some (.tup (cs.map V.int)) ∧ Cnt cs ∧ Da D H v d ∧ ∀ H', Same H H' → Q (.bl (cellB cs d)) H'
theorem ok_cellOf {f : Addr} {fd : FuncData} (F : Fun K "is_cell_of" "is_cell_of" sCellOf f fd) (GX : Has P w K mg base CX0 1 "grid_of" ["counts"] spBox) (GN : Has P w K mg base CX0 2 "is_number_tuple" ["thing", "count"] spNumTup) : FnOk P w K mg base CX0 3 f fd ["counts", "thing"] spCellOf := by
  refine F.ok scCellOf (fun vs H Q E h => ?_) (fun cdv A outer s H vs Q E hr h => ?_)
  · obtain ⟨D, c, cs, v, d, rfl, _⟩ := h
    rfl
  · obtain ⟨D, c, cs, v, d, rfl, hc, kc, hd, q⟩ := h
    refine ⟨_, pss_cons (ps_asg (pe_h GX hr (by decide) (by rfl) pass0 (pa_cons (pv 0) pa_nil)) (pg_tup rfl (pgs_cons (pg_name (i := 2) scCellOf.nd rfl (.inl rfl)) (pgs_cons (pg_name (i := 3) scCellOf.nd rfl (.inl rfl)) pgs_nil))))
      (pss_one (ps_ret (pe_and (pe_h GN hr (by decide) (by rfl) pass0 (pa_cons (pv 1) (pa_cons pe_int pa_nil))) (pe_and (pe_chain op_le op_lt pe_int (pe_ix ix_tup (pv 1) pe_int (fun _ _ => rfl)) (pv 2)) (pe_one (pe_chain op_le op_lt pe_int (pe_ix ix_tup (pv 1) pe_int (fun _ _ => rfl)) (pv 3))))))), ?_⟩
    refine ⟨.ref c, rfl, c, cs, rfl, hc, kc, fun H2 bp s2 hb => ?_⟩
    refine ⟨bp, _, rfl, SqT.of hb, rfl, _, _, rfl, _, _, rfl, rfl, ?_⟩
    refine ⟨_, rfl, D, v, d, 2, rfl, hd.sm s2, by decide, fun H1 s1 => ⟨_, rfl, ?_⟩⟩
    have sm := s2.trans s1
    cases hn : numTup 2 d with
    | false =>
      have z := q _ sm
      rw [numTup_no hn] at z
      exact iteF z
    | true =>
      obtain ⟨y, x, rfl⟩ := numTup_two hn
      obtain ⟨a, rfl, ha⟩ := at_cell (e := (y, x)) (hd.sm sm)
      have z : Q (.bl ((decide (0 ≤ y) && decide (y < (boxL cs).1)) && (decide (0 ≤ x) && decide (x < (boxL cs).2)))) H1 := q _ sm
      refine iteT ?_
      refine ⟨_, rfl, a, _, 0, _, rfl, rfl, SqT.of ha, rfl, _, _, rfl, rfl, _, rfl, ?_⟩
      by_cases h1 : 0 ≤ y
      · rw [decide_eq_true h1, Bool.true_and] at z
        refine ite2 (fun _ => ⟨_, rfl, _, _, rfl, rfl, _, rfl, ?_⟩) (fun e => absurd (decide_eq_true h1) e)
        by_cases h2 : y < (boxL cs).1
        · rw [decide_eq_true h2, Bool.true_and] at z
          refine ite2 (fun _ => ⟨_, rfl, a, _, 1, _, rfl, rfl, SqT.of ha, rfl, _, _, rfl, rfl, _, rfl, ?_⟩) (fun e => absurd (decide_eq_true h2) e)
          by_cases h3 : 0 ≤ x
          · rw [decide_eq_true h3, Bool.true_and] at z
            exact ite2 (fun _ => ⟨_, rfl, _, _, rfl, rfl, z⟩) (fun e => absurd (decide_eq_true h3) e)
          · rw [decide_eq_false h3, Bool.false_and] at z
            exact ite2 (fun e => absurd (of_decide_eq_true e) h3) (fun _ => z)
        · rw [decide_eq_false h2, Bool.false_and] at z
          exact ite2 (fun e => absurd (of_decide_eq_true e) h2) (fun _ => z)
      · rw [decide_eq_false h1, Bool.false_and, Bool.false_and] at z
        exact ite2 (fun e => absurd (of_decide_eq_true e) h1) (fun _ => ⟨_, rfl, iteF z⟩)
/-! ### bank_at -/
abbrev sBankAt : Stmt := topS 22
theorem scBankAt : FnScope ["counts", "banks", "laying", "cell", "_", "columns", "word", "told", "y", "x"] ["counts", "banks", "laying", "cell"] (defScope sBankAt) := ⟨rfl, rfl, rfl, by decide +kernel, rfl, by decide +kernel, by decide +kernel⟩
def spBankAt : Sp := fun vs H Q _ => ∃ (D : DrA) (c wy ce : Addr) (cs : List Int) (m : Int) (l : Lay) (y x : Int), vs = [.ref c, .int m, .ref wy, .ref ce] ∧ H c = some (.tup (cs.map V.int)) ∧ Cnt cs ∧ 1 ≤ m ∧ m ≤ 32 ∧ Da D H (.ref wy) l.dat ∧ l.Ok cs m ∧
  H ce = some (.tup [.int y, .int x]) ∧ CellOk cs y x ∧ ∀ H', Same H H' → Q (.int (bankL cs m l y x)) H'
theorem ok_bankAt {f : Addr} {fd : FuncData} (F : Fun K "bank_at" "bank_at" sBankAt f fd) (GX : Has P w K mg base CX0 1 "grid_of" ["counts"] spBox) : FnOk P w K mg base CX0 2 f fd ["counts", "banks", "laying", "cell"] spBankAt := by
  refine F.ok scBankAt (fun vs H Q E h => ?_) (fun cdv A outer s H vs Q E hr h => ?_)
  · obtain ⟨D, c, wy, ce, cs, m, l, y, x, rfl, _⟩ := h
    rfl
  · obtain ⟨D, c, wy, ce, cs, m, l, y, x, rfl, hc, kc, hm, hm2, hw, lo, hce, ⟨y0, y1, x0, x1⟩, q⟩ := h
    refine ⟨_, pss_cons (ps_asg (pe_h GX hr (by decide) (by rfl) pass0 (pa_cons (pv 0) pa_nil)) (pg_tup rfl (pgs_cons (pg_name (i := 4) scBankAt.nd rfl (.inl rfl)) (pgs_cons (pg_name (i := 5) scBankAt.nd rfl (.inl rfl)) pgs_nil))))
      (pss_cons (ps_asg (pv 2) (pg_tup rfl (pgs_cons (pg_name (i := 6) scBankAt.nd rfl (.inl rfl)) (pgs_cons (pg_name (i := 7) scBankAt.nd rfl (.inl rfl)) pgs_nil))))
      (pss_cons (ps_asg (pv 3) (pg_tup rfl (pgs_cons (pg_name (i := 8) scBankAt.nd rfl (.inl rfl)) (pgs_cons (pg_name (i := 9) scBankAt.nd rfl (.inl rfl)) pgs_nil))))
      (pss_cons (ps_if (pt_cmpR op_eq (pv 6) pe_str (nomark _)) (pss_one (ps_ret (pe_op op_mod (pe_op op_add (pe_op op_mul (pv 8) (pe_op op_add (pv 5) (pv 7))) (pv 9)) (pv 1)))) pss_nil)
      (pss_cons (ps_if (pt_cmpR op_eq (pv 6) pe_str (nomark _)) (pss_one (ps_ret (pe_op op_mod (pe_op op_add (pe_op op_mul (pv 8) (pv 5)) (pe_op op_mod (pe_op op_add (pv 9) (pe_op op_mul (pv 7) (pv 8))) (pv 5))) (pv 1)))) pss_nil)
      (pss_one (ps_ret (pe_ix ix_tup (pv 7) (pe_op op_add (pe_op op_mul (pv 8) (pv 5)) (pv 9)) (fun _ _ => rfl)))))))), ?_⟩
    have bx := kc.box
    have c64 : ∀ z : Int, 0 ≤ z → z ≤ 100000 → -(2 ^ 64) < z ∧ z < 2 ^ 64 := fun z a b => ⟨by omega, by omega⟩
    refine ⟨.ref c, rfl, c, cs, rfl, hc, kc, fun H1 bp s1 hb => ?_⟩
    refine ⟨bp, _, rfl, SqT.of hb, rfl, _, _, rfl, _, _, rfl, rfl, ?_⟩
    have hl := lay_at (hw.sm s1)
    have q := q _ s1
    cases l with
    | pad n =>
      refine ⟨_, rfl, wy, _, rfl, SqT.of hl, rfl, _, _, rfl, _, _, rfl, rfl, ?_⟩
      refine ⟨_, rfl, ce, _, rfl, SqT.of (s1 _ _ hce), rfl, _, _, rfl, _, _, rfl, rfl, _, rfl, rfl, _, rfl, iteT ?_⟩
      exact ⟨_, rfl, _, rfl, _, rfl, _, _, rfl, rfl, _, _, rfl, rfl, .inl (c64 y y0 (by omega)), _, rfl, _, _, rfl, rfl, _, rfl, _, _, rfl, rfl, by omega, q⟩
    | trn n =>
      refine ⟨_, rfl, wy, _, rfl, SqT.of hl, rfl, _, _, rfl, _, _, rfl, rfl, ?_⟩
      refine ⟨_, rfl, ce, _, rfl, SqT.of (s1 _ _ hce), rfl, _, _, rfl, _, _, rfl, rfl, _, rfl, rfl, _, rfl, iteF ⟨_, rfl, rfl, _, rfl, iteT ?_⟩⟩
      exact ⟨_, rfl, _, rfl, _, _, rfl, rfl, .inl (c64 y y0 (by omega)), _, rfl, _, rfl, _, rfl, _, _, rfl, rfl, .inr (c64 y y0 (by omega)), _, _, rfl, rfl, _, rfl, _, _, rfl, rfl, by omega, _, _, rfl, rfl, _, rfl, _, _, rfl, rfl, by omega, q⟩
    | lst bs =>
      obtain ⟨b, hl, hbs⟩ := hl
      refine ⟨_, rfl, wy, _, rfl, SqT.of hl, rfl, _, _, rfl, _, _, rfl, rfl, ?_⟩
      refine ⟨_, rfl, ce, _, rfl, SqT.of (s1 _ _ hce), rfl, _, _, rfl, _, _, rfl, rfl, _, rfl, rfl, _, rfl, iteF ⟨_, rfl, rfl, _, rfl, iteF ?_⟩⟩
      have hyx : 0 ≤ y * (boxL cs).2 := Int.mul_nonneg y0 (by omega)
      have hlt : y * (boxL cs).2 + x < (bs.length : Int) := by
        rw [lo.1]
        have h1 : (y + 1) * (boxL cs).2 ≤ (boxL cs).1 * (boxL cs).2 := Int.mul_le_mul_of_nonneg_right (by omega) (by omega)
        rw [Int.add_mul, Int.one_mul] at h1
        omega
      obtain ⟨j, hj⟩ : ∃ j : Nat, y * (boxL cs).2 + x = (j : Int) := ⟨(y * (boxL cs).2 + x).toNat, by omega⟩
      have hjl : j < bs.length := by omega
      refine ⟨_, rfl, _, rfl, _, rfl, _, _, rfl, rfl, .inl (c64 y y0 (by omega)), _, rfl, _, _, rfl, rfl, b, _, _, .int (bs[j]), rfl, rfl, SqT.of hbs, ?_, ?_⟩
      · rw [hj]
        refine atI_nat ?_
        rw [List.getElem?_map, List.getElem?_eq_getElem hjl]
        rfl
      · have e : bankL cs m (.lst bs) y x = bs[j] := by
          show bs.getD (y * (boxL cs).2 + x).toNat 0 = bs[j]
          rw [hj]
          show bs.getD ((j : Int)).toNat 0 = bs[j]
          rw [Int.toNat_natCast, List.getD_eq_getElem?_getD, List.getElem?_eq_getElem hjl]
          rfl
        rw [e] at q
        exact q
end
end Lm
namespace Lm
open PySem PySem.Spec PyProof.Rows L2 LamX
section
variable {P : Program} {w : World} {K : PySem.W.Frag} {mg : Str → Option Value} {base : Heap}
abbrev sBO : Stmt := topS 26
theorem scBO : FnScope ["counts", "banks", "laying", "cell"] ["counts", "banks", "laying", "cell"] (defScope sBO) := ⟨rfl, rfl, rfl, by decide +kernel, rfl, by decide +kernel, by decide +kernel⟩
theorem ref_of_tup {D : DrA} {H : Hp} {v : V} {ds : List PyData} (h : Da D H v (.tuple ds)) : ∃ a, v = .ref a := by
  cases h
  exact ⟨_, rfl⟩
theorem lay_ref {D : DrA} {H : Hp} {v : V} {l : Lay} (h : Da D H v l.dat) : ∃ a, v = .ref a := by
  cases l <;> exact ref_of_tup h
theorem ok_BO {BC BB BL BE : Addr} {f : Addr} {fd : FuncData} (F : Fun K "bank_of" "bank_of" sBO f fd) (M : XMk K mg "BadCell" BE) (G0 : Has P w K mg base (L2.CX P w) 4 "check_counts" ["counts", "banks"] (spCC BC BB)) (GL : Has P w K mg base (L2.CX P w) 5 "check_laying" ["counts", "banks", "laying"] (spCL BL)) (GC : Has P w K mg base CX0 3 "is_cell_of" ["counts", "thing"] spCellOf)
    (GB : Has P w K mg base CX0 2 "bank_at" ["counts", "banks", "laying", "cell"] spBankAt) : FnOk P w K mg base (L2.CX P w) 10 f fd ["counts", "banks", "laying", "cell"] (spBO BC BB BL BE) := by
  refine F.okX scBO (fun vs H Q E h => ?_) (fun cdv A outer s H vs Q E hr h => ?_)
  · obtain ⟨D, v1, v2, v3, v4, c, b, t, e, rfl, _⟩ := h
    rfl
  · obtain ⟨D, v1, v2, v3, v4, c, b, t, e, rfl, h1, h2, h3, h4, q⟩ := h
    refine ⟨_, pss_cons (ps_expr (pe_h G0 hr (by decide) (by rfl) passE (pa_cons (pv 0) (pa_cons (pv 1) pa_nil))))
      (pss_cons (ps_expr (pe_h GL hr (by decide) (by rfl) passE (pa_cons (pv 0) (pa_cons (pv 1) (pa_cons (pv 2) pa_nil)))))
      (pss_cons (ps_if (pt_not (pt_val (pe_h GC hr (by decide) (by rfl) (E := C8.E0) pass0 (pa_cons (pv 0) (pa_cons (pv 3) pa_nil))))) (pss_one (ps_bad rfl M (takes_of (E := E) rfl rfl rfl rfl) (by rfl))) pss_nil)
      (pss_one (ps_ret (pe_h GB hr (by decide) (by rfl) (E := C8.E0) pass0 (pa_cons (pv 0) (pa_cons (pv 1) (pa_cons (pv 2) (pa_cons (pv 3) pa_nil))))))))), ?_⟩
    refine ⟨_, rfl, _, rfl, D, v1, v2, c, b, rfl, h1, h2, ?_⟩
    rcases q with ⟨hn, z⟩ | ⟨hc, hn, z⟩ | ⟨cs, m, rfl, kc, rfl, m1, m2, q⟩
    · exact .inl ⟨hn, z⟩
    · exact .inr (.inl ⟨hc, hn, z⟩)
    · refine .inr (.inr ⟨cntIs_of kc, ⟨m, rfl, m1, m2⟩, fun H0 s0 => ?_⟩)
      obtain ⟨ca, rfl⟩ := ref_of_tup h1
      cases h2
      refine ⟨_, rfl, _, rfl, _, rfl, D, ca, cs, m, v3, t, rfl, dat_ints (h1.sm s0), kc, h3.sm s0, ?_⟩
      rcases q with ⟨hw, z⟩ | ⟨l, rfl, lo, q⟩
      · exact .inl ⟨hw, fun H1 s1 => z _ (s0.trans s1)⟩
      · refine .inr ⟨lay_way lo, fun H1 s1 => ?_⟩
        obtain ⟨wa, rfl⟩ := lay_ref h3
        have t1 := s0.trans s1
        refine ⟨_, rfl, _, rfl, D, ca, cs, v4, e, rfl, dat_ints (h1.sm t1), kc, h4.sm t1, fun H2 s2 => ⟨_, rfl, ?_⟩⟩
        have t2 := t1.trans s2
        rcases q with ⟨hn, z⟩ | ⟨y, x, rfl, cok, z⟩
        · have : cellB cs e = false := by
            cases hb : cellB cs e with
            | false => rfl
            | true => exact absurd (cellB_iff.mpr hb) hn
          rw [this]
          exact iteT (z _ t2)
        · rw [cellB_iff.mp ⟨y, x, rfl, cok⟩]
          obtain ⟨ce, rfl, hce⟩ := at_cell (e := (y, x)) (h4.sm t2)
          exact iteF ⟨_, rfl, _, rfl, _, rfl, _, rfl, D, ca, wa, ce, cs, m, l, y, x, rfl, dat_ints (h1.sm t2), kc, m1, m2, h3.sm t2, lo, hce, cok, fun H3 s3 => z _ (t2.trans s3)⟩
/-! ### is_rising, is_lot -/
def ascB : List (Int × Int) → Bool
  | a :: b :: r => HT.lexLt [a.1, a.2] [b.1, b.2] && ascB (b :: r)
  | _ => true
theorem lex_iff {a b : Int × Int} : HT.lexLt [a.1, a.2] [b.1, b.2] = true ↔ LtC a b := by
  unfold LtC
  rw [HT.lexLt_cons, HT.lexLt_cons, HT.lexLt_nil_nil]
  by_cases h1 : a.1 = b.1
  · rw [if_pos h1]
    by_cases h2 : a.2 = b.2
    · rw [if_pos h2]
      constructor
      · intro z; cases z
      · intro z; omega
    · rw [if_neg h2, decide_eq_true_iff]
      omega
  · rw [if_neg h1, decide_eq_true_iff]
    omega
theorem ltC_trans {a b c : Int × Int} (h : LtC a b) (k : LtC b c) : LtC a c := by
  unfold LtC at *
  omega
theorem ascB_iff : ∀ {ls : List (Int × Int)}, ascB ls = true ↔ ls.Pairwise LtC
  | [] => ⟨fun _ => .nil, fun _ => rfl⟩
  | [a] => ⟨fun _ => List.pairwise_singleton _ _, fun _ => rfl⟩
  | a :: b :: r => by
    show (HT.lexLt [a.1, a.2] [b.1, b.2] && ascB (b :: r)) = true ↔ _
    rw [Bool.and_eq_true, lex_iff, ascB_iff (ls := b :: r), List.pairwise_cons (a := a)]
    constructor
    · rintro ⟨h, k⟩
      refine ⟨fun c hc => ?_, k⟩
      rcases List.mem_cons.mp hc with rfl | hc
      · exact h
      · exact ltC_trans h ((List.pairwise_cons.mp k).1 c hc)
    · rintro ⟨h, k⟩
      exact ⟨h b (List.mem_cons_self ..), k⟩
abbrev sRise : Stmt := topS 12
theorem scRise : FnScope ["things", "at"] ["things"] (defScope sRise) := ⟨rfl, rfl, rfl, by decide +kernel, rfl, by decide +kernel, by decide +kernel⟩
def spRise : Sp := fun vs H Q _ => ∃ (D : DrA) (a : Addr) (ls : List (Int × Int)), vs = [.ref a] ∧ Da D H (.ref a) (.tuple (ls.map cellD)) ∧ ls.length ≤ 1000 ∧ Q (.bl (ascB ls)) H
theorem ascB_drop : ∀ (ls : List (Int × Int)) (i : Nat) {a b : Int × Int}, ls[i]? = some a → ls[i + 1]? = some b → ascB (ls.drop i) = (HT.lexLt [a.1, a.2] [b.1, b.2] && ascB (ls.drop (i + 1)))
  | [], _, _, _, h, _ => by simp at h
  | [_], 0, _, _, _, h => by simp at h
  | [_], _ + 1, _, _, h, _ => by simp at h
  | x :: y :: r, 0, a, b, h1, h2 => by
    simp at h1 h2
    subst h1 h2
    rfl
  | x :: y :: r, i + 1, a, b, h1, h2 => by
    have := ascB_drop (y :: r) i (a := a) (b := b) (by simpa using h1) (by simpa using h2)
    simpa using this
theorem ok_rise {f : Addr} {fd : FuncData} (F : Fun K "is_rising" "is_rising" sRise f fd) (N : Bl mg) : FnOk P w K mg base CX0 1 f fd ["things"] spRise := by
  refine F.ok scRise (fun vs H Q E h => ?_) (fun cdv A outer s H vs Q E hr h => ?_)
  · obtain ⟨D, a, ls, rfl, _⟩ := h
    rfl
  · obtain ⟨D, a, ls, rfl, hd, hl, q⟩ := h
    have hu : (A.deeper (envOfC "is_rising" (defScope sRise) s.heap.objs.size f cdv)).units < cLine := by
      have := hr.un
      omega
    refine ⟨_, pss_cons (ps_for PassesOwn.never rfl (pi_range1 (by rfl) N.brng (pa_cons (pe_op op_sub (pe_callB call_len_seq (by rfl) N.blen PySem.boot_len (pa_cons (pv 0) pa_nil)) pe_int) pa_nil)) (pg_name (i := 1) scRise.nd rfl (.inl rfl))
        (pss_one (ps_if (pt_not (pt_cmpR (op_ltT hu) (pe_ix ix_tup (pv 0) (pv 1) (fun _ _ => rfl)) (pe_ix ix_tup (pv 0) (pe_op op_add (pv 1) pe_int) (fun _ _ => rfl)) (nomark _))) (pss_one (ps_ret pe_bl)) pss_nil)))
      (pss_one (ps_ret pe_bl)), ?_⟩
    cases hd with
    | tup h1 n1 n2 ha =>
      rename_i xs
      have hx := ha.length
      rw [List.length_map] at hx
      refine ⟨_, rfl, a, xs, rfl, .inr (SqT.of h1), _, _, rfl, rfl, _, rfl, by omega, by omega, for_range (fun i σ H' => H' = H ∧ ascB (ls.drop i) = ascB ls ∧ ∃ x1, σ = [some (.ref a), x1]) ⟨rfl, rfl, _, rfl⟩ ?_ ?_⟩
      · rintro i σ H' hi ⟨rfl, hs, x1, rfl⟩
        have hi1 : i + 1 < ls.length := by omega
        obtain ⟨d0, e0, f0⟩ := ha.get (List.getElem?_eq_getElem (show i < xs.length by omega))
        obtain ⟨d1, e1, f1⟩ := ha.get (List.getElem?_eq_getElem (show i + 1 < xs.length by omega))
        rw [List.getElem?_map, List.getElem?_eq_getElem (show i < ls.length by omega)] at e0
        rw [List.getElem?_map, List.getElem?_eq_getElem hi1] at e1
        cases e0
        cases e1
        obtain ⟨p0, g0, k0⟩ := at_cell f0
        obtain ⟨p1, g1, k1⟩ := at_cell f1
        refine ⟨_, rfl, _, rfl, a, xs, _, xs[i], rfl, rfl, SqT.of h1, ?_, ?_⟩
        · rw [Int.zero_add]
          exact atI_nat (List.getElem?_eq_getElem _)
        · refine ⟨_, rfl, _, rfl, _, _, rfl, rfl, a, xs, _, xs[i + 1], rfl, rfl, SqT.of h1, ?_, ?_⟩
          · rw [Int.zero_add]
            exact atI_nat (j := i + 1) (List.getElem?_eq_getElem _)
          · refine ⟨p0, p1, [(ls[i]).1, (ls[i]).2], [(ls[i + 1]).1, (ls[i + 1]).2], g0, g1, SqT.of k0, SqT.of k1, _, rfl, ?_⟩
            have step := ascB_drop ls i (List.getElem?_eq_getElem (show i < ls.length by omega)) (List.getElem?_eq_getElem hi1)
            cases hlt : HT.lexLt [(ls[i]).1, (ls[i]).2] [(ls[i + 1]).1, (ls[i + 1]).2] with
            | true =>
              rw [hlt, Bool.true_and] at step
              exact iteF ⟨rfl, step.symm.trans hs, _, rfl⟩
            | false =>
              rw [hlt, Bool.false_and] at step
              rw [← hs, step] at q
              exact iteT q
      · rintro σ H' ⟨rfl, hs, x1, rfl⟩
        have last : ascB (ls.drop ((xs.length : Int) - 1).toNat) = true := by
          have : (ls.drop ((xs.length : Int) - 1).toNat).length ≤ 1 := by
            rw [List.length_drop]
            omega
          match ls.drop ((xs.length : Int) - 1).toNat, this with
          | [], _ => rfl
          | [_], _ => rfl
          | _ :: _ :: _, h => simp at h
        rw [← hs, last] at q
        exact q
end
end Lm
/-! max(xs, default=d) of a list of ints. -/
namespace Lm
open PySem PySem.Spec PyProof.Rows L2
theorem fold_top : ∀ (ns : List Int) (n : Int), (ns.foldl max n = n ∨ ns.foldl max n ∈ ns) ∧ n ≤ ns.foldl max n ∧ ∀ y ∈ ns, y ≤ ns.foldl max n
  | [], n => ⟨.inl rfl, Int.le_refl _, fun _ z => nomatch z⟩
  | k :: r, n => by
    obtain ⟨h1, h2, h3⟩ := fold_top r (max n k)
    refine ⟨?_, ?_, ?_⟩
    · show r.foldl max (max n k) = n ∨ r.foldl max (max n k) ∈ k :: r
      rcases h1 with e | e
      · by_cases c : n ≤ k
        · rw [e]
          right
          rw [show max n k = k by omega]
          exact List.mem_cons_self ..
        · left
          rw [e]
          omega
      · exact .inr (List.mem_cons_of_mem _ e)
    · show n ≤ r.foldl max (max n k)
      omega
    · intro y hy
      show y ≤ r.foldl max (max n k)
      rcases List.mem_cons.mp hy with rfl | hy
      · omega
      · exact h3 y hy
theorem depth_ints : ∀ ns : List Int, PyData.depthAll (ns.map PyData.int) ≤ 1
  | [] => by simp [PyData.depthAll]
  | n :: r => by
    have := depth_ints r
    simp [PyData.depthAll, PyData.depth]
    omega
def rMaxD (K : PySem.W.Frag) : List V → List V → Hp → VK → Prop := fun vs zs H Q => ∃ (a : Addr) (ns : List Int) (d : Int), vs = [.ref a] ∧ zs = [.int d] ∧ SqL K H a (ns.map V.int) ∧ (ns = [] → Q (.int d) H) ∧ ∀ m, m ∈ ns → (∀ y, y ∈ ns → y ≤ m) → Q (.int m) H
theorem cr_maxD {X : Cx} (hc : X.calm = true) (hu : X.A.units + 16 < cLine) : CallRK X (.builtin "max") [Str.ofString "default"] (rMaxD X.K) := by
  intro pins s σ H vs zs us ws Q I r rz h
  obtain ⟨a, ns, d, rfl, rfl, hs, q0, q1⟩ := h
  obtain rfl := Vals.ref1 r
  obtain ⟨w1, rfl, t, rfl⟩ := vals1 rz
  obtain ⟨its, rv, hl, _⟩ := I.list hs
  obtain ⟨as, rd⟩ := Dp.readsAll I _ _ _ (dp_ints (K := X.K) (H := H) ns) rv
  have alike : PySem.W.AlikeAll (ns.map PyData.int) := by
    constructor
    · intro x hx y hy
      obtain ⟨i, _, rfl⟩ := List.mem_map.mp hx
      obtain ⟨j, _, rfl⟩ := List.mem_map.mp hy
      rfl
    · intro x hx z
      obtain ⟨i, _, rfl⟩ := List.mem_map.mp hx
      cases z
  have depth := depth_ints ns
  refine PySem.W.max_list_default (I.ok.hd hc) hl.isList rd alike (by omega) (fun e h' tk hk => ⟨.int d, H, I.kept (t' := tk) hk, ⟨t, rfl⟩, q0 (List.map_eq_nil_iff.mp e)⟩) fun y ys i v h' tk bs e hi rv2 hk => ?_
  cases ns with
  | nil => cases e
  | cons n r =>
    rw [List.map_cons] at e
    injection e with e1 e2
    subst e1 e2
    rw [PySem.W.maxD_ints] at rv2
    cases rv2 with
    | int _ t2 =>
      obtain ⟨f1, f2, f3⟩ := fold_top r n
      refine ⟨.int (r.foldl max n), H, I.kept (t' := tk) hk, ⟨t2, rfl⟩, q1 _ ?_ fun y hy => ?_⟩
      · rcases f1 with e | e
        · rw [e]
          exact List.mem_cons_self ..
        · exact List.mem_cons_of_mem _ e
      · rcases List.mem_cons.mp hy with rfl | hy
        · exact f2
        · exact f3 y hy
end Lm
namespace Lm
open PySem PySem.Spec PyProof.Rows L2 LamX
/-- an own exception class, as the head leaves it -/
theorem x_mk {K : PySem.W.Frag} {h : Heap} {mg : Str → Option Value} {x : Str} {CS C : Addr} (X : K.In h) (G : h.Ns mainGlobals mg) (a : PySem.W.nsIn K mainGlobals x = some (some (.ref C)))
    (h1 : PySem.W.findIn K (.ref C) "__getattribute__" = some (some (.builtin "BaseException.__getattribute__"))) (h2 : PySem.W.findIn K (.ref C) "__getattr__" = some none) (h3 : PySem.W.subIn K (.ref C) (.type "BaseException") = some true) (h4 : PySem.W.hasDictIn K C = true)
    (h5 : PySem.W.findIn K (.ref C) "__class__" = some (some (.builtin "object.__class__"))) (h6 : PySem.W.specialIn K (.builtin "object.__class__") "__get__" = some (some (.builtin "getset_descriptor.__get__"))) (h7 : PySem.W.takesIn K (.builtin "object.__class__") = some true) (h8 : PySem.W.mroIn K C (.type "object") = some true)
    (kit : PySem.W.kitOne K (.ref C) (.ref C) = some true) (exm : PySem.W.exmOne K (.ref C) (.ref CS) = some true) (q : PySem.W.excIn K C [.type "ValueError", .type "Exception", .type "BaseException", .type "object"] "ValueError.__new__" = true)
    (kC : PySem.W.keepIn K (.ref C) = true) (ty : PySem.W.typeIn K (.ref C) = some (.type "type")) : XCls K mg CS x C ∧ XMk K mg x C :=
  ⟨⟨PySem.W.mg_of X G a, ⟨h1, h2, h3, h4, h5, h6, h7, h8⟩, kit, exm⟩, ⟨PySem.W.mg_of X G a, q, kC, h3, ty⟩⟩
section
variable {P : Program} {w : World} {K : PySem.W.Frag} {mg : Str → Option Value} {base : Heap}
abbrev sLot : Stmt := topS 21
theorem scLot : FnScope ["counts", "thing", "cell"] ["counts", "thing"] (defScope sLot) := ⟨rfl, rfl, rfl, by decide +kernel, rfl, by decide +kernel, by decide +kernel⟩
def spLot : Sp := fun vs H Q _ => ∃ (D : DrA) (c : Addr) (cs : List Int) (v : V) (d : PyData), vs = [.ref c, v] ∧ H c = some (.tup (cs.map V.int)) ∧ Cnt cs ∧ Da D H v d ∧ lenD d ≤ 1000 ∧ ∀ (H' : Hp) (b : Bool), Same H H' → (b = true ↔ LotIs cs d) → Q (.bl b) H'
theorem cells_of {cs : List Int} : ∀ {ds : List PyData}, ds.all (cellB cs) = true → ∃ ls : List (Int × Int), ds = ls.map cellD ∧ ∀ c ∈ ls, CellOk cs c.1 c.2
  | [], _ => ⟨[], rfl, fun _ z => nomatch z⟩
  | d :: r, h => by
    rw [List.all_cons, Bool.and_eq_true] at h
    obtain ⟨y, x, rfl, k⟩ := cellB_iff.mpr h.1
    obtain ⟨ls, rfl, hl⟩ := cells_of h.2
    refine ⟨(y, x) :: ls, rfl, fun c hc => ?_⟩
    rcases List.mem_cons.mp hc with rfl | hc
    · exact k
    · exact hl c hc
theorem ok_lot {f : Addr} {fd : FuncData} (F : Fun K "is_lot" "is_lot" sLot f fd) (N : Bl mg) (GC : Has P w K mg base CX0 3 "is_cell_of" ["counts", "thing"] spCellOf) (GR : Has P w K mg base CX0 1 "is_rising" ["things"] spRise) : FnOk P w K mg base CX0 4 f fd ["counts", "thing"] spLot := by
  refine F.ok scLot (fun vs H Q E h => ?_) (fun cdv A outer s H vs Q E hr h => ?_)
  · obtain ⟨D, c, cs, v, d, rfl, _⟩ := h
    rfl
  · obtain ⟨D, c, cs, v, d, rfl, hc, kc, hd, hl, q⟩ := h
    refine ⟨_, pss_one (ps_ret (pe_and (pe_callB call_isi (by rfl) N.bisi (by decide +kernel) (pa_cons (pv 1) (pa_cons (pe_bltn (v := .ty "tuple") (by rfl) N.btup (by decide +kernel) rfl) pa_nil)))
        (pe_and (pe_callB (cr_all rfl) (by rfl) N.ball (by decide +kernel) (pa_cons (pe_lc (own := [("cell", 2)]) (g := gName 2) (tt := tYes) rfl scLot.nd (pi_tup (pv 1)) (blkOk_by (own := [("cell", 2)]) (N := ["counts", "thing", "cell"]) (sc := defScope sLot) (by decide +kernel)) (fun _ _ _ _ _ => pg_name (i := 2) scLot.nd rfl (Or.inl rfl))
          (fun _ _ _ _ _ => pts_nil) (fun _ _ _ _ _ => pe_h GC (hr.mono (by decide : 3 ≤ 3)) (by decide) (by rfl) pass0 (pa_cons (pv 0) (pa_cons (pv 2) pa_nil)))) pa_nil))
        (pe_one (pe_h GR hr (by decide) (by rfl) pass0 (pa_cons (pv 1) pa_nil)))))), ?_⟩
    refine ⟨v, rfl, v, .ty "tuple", _, _, isTup d, rfl, .ty "tuple", hd.ty, kit_tup K d, isTup d, rfl, ?_⟩
    have no : ∀ {H'}, Same H H' → ¬ LotIs cs d → Q (.bl false) H' := fun s n => q _ false s ⟨fun z => absurd z (by decide), fun z => absurd z n⟩
    have hd0 := hd
    cases hd with
    | tup h1 n1 n2 ha =>
      rename_i a xs ds
      have hx := ha.length
      have hl : ds.length ≤ 1000 := hl
      refine iteT ⟨_, rfl, a, rfl, ⟨_, SqT.of h1⟩, fun R nR => lc_tup (K := K) (a := a) (xs := xs) (fun i H' => Same H H' ∧ H' R = some (.lst (((ds.map (cellB cs)).take i).map V.bl))) ⟨same_upd nR, upd_same⟩ (fun i H' _ h => SqT.of (h.1 _ _ h1)) ?_ ?_⟩
      · rintro i x H' hx ⟨s1, hR⟩
        obtain ⟨de, hde, hv⟩ := ha.get hx
        have hi : i < ds.length := (List.getElem?_eq_some_iff.mp hde).1
        refine ⟨rfl, _, rfl, _, rfl, D, c, cs, x, de, rfl, s1 _ _ hc, kc, hv.sm s1, fun H2 s2 => ⟨_, s2 _ _ hR, ?_, same_put (s1.trans s2) nR, ?_⟩⟩
        · rw [List.length_map, List.length_take, List.length_map]
          exact small1000 (by omega)
        · have ht : (ds.map (cellB cs)).take (i + 1) = (ds.map (cellB cs)).take i ++ [cellB cs de] := by
            rw [List.take_add_one, List.getElem?_map, hde]
            rfl
          rw [ht, List.map_append]
          exact upd_same
      · rintro H1 ⟨s1, hR⟩
        rw [show (ds.map (cellB cs)).take xs.length = ds.map (cellB cs) from by rw [hx, ← List.length_map (f := cellB cs), List.take_length]] at hR
        refine ⟨R, ds.map (cellB cs), rfl, SqL.of hR, _, rfl, ?_⟩
        have ea : (ds.map (cellB cs)).all id = ds.all (cellB cs) := by rw [List.all_map]; rfl
        rw [ea]
        cases hall : ds.all (cellB cs) with
        | false =>
          refine iteF (no s1 ?_)
          rintro ⟨ls, e, k, _⟩
          injection e with e
          subst e
          have : (ls.map cellD).all (cellB cs) = true := by
            rw [List.all_map, List.all_eq_true]
            intro c hc
            exact cellB_iff.mp ⟨c.1, c.2, rfl, k c hc⟩
          rw [this] at hall
          cases hall
        | true =>
          obtain ⟨ls, rfl, hk⟩ := cells_of hall
          rw [List.length_map] at hl
          refine iteT ⟨_, rfl, D, a, ls, rfl, hd0.sm s1, hl, q _ _ s1 ?_⟩
          rw [ascB_iff]
          exact ⟨fun h => ⟨ls, rfl, hk, h⟩, fun ⟨ls', e, _, h⟩ => by
            injection e with e
            rw [map_cellD_inj e]
            exact h⟩
    | non => exact iteF (no (fun _ _ z => z) (noLot_kind rfl))
    | bl _ => exact iteF (no (fun _ _ z => z) (noLot_kind rfl))
    | str _ => exact iteF (no (fun _ _ z => z) (noLot_kind rfl))
    | lst _ _ _ _ => exact iteF (no (fun _ _ z => z) (noLot_kind rfl))
    | int _ => exact iteF (no (fun _ _ z => z) (noLot_kind rfl))
end
end Lm
/-! list(d.values()) of a dict with number or text keys. -/
namespace Lm
open PySem PySem.Spec PyProof.Rows L2
theorem vals_kv {kvs : List (Key × V)} {vs : List (Key × Value)} : KV kvs vs → Vals (kvs.map (·.2)) (vs.map (·.2)) := by
  intro h
  unfold KV at h
  induction h with
  | nil => exact .nil
  | cons r t ih => exact .cons r.2 ih
def tListVals (te : TE) : TE := fun σ H Q => te σ H fun x H1 => ∃ (d : Addr) (kvs : List (Key × V)), x = .ref d ∧ H1 d = some (.dK kvs) ∧ ∀ p, H1 p = none → Q (.ref p) (upd H1 p (.lst (kvs.map (·.2))))
section
variable {X : Cx} {e : Expr} {te : TE} {p apos cpos pos : Pos}
theorem pe_listVals (hc : X.calm = true) (he : PE X e te) (hg : Gl X "list") (hm : X.mg "list" = none) (hv : bootBuiltins "list" = some (.type "list")) (hbase : attributeBase e "values" X.env (eval e X.env) = eval e X.env := by rfl) (hline : (apos.endLine == cpos.line) = true := by rfl)
    (hs : starEach [.Call (.Attribute e "values" apos) [] [] cpos] X.env = (false, eval (.Call (.Attribute e "values" apos) [] [] cpos) X.env) :: starEach [] X.env := by rfl) :
    PE X (.Call (.Name "list" p) [.Call (.Attribute e "values" apos) [] [] cpos] [] pos) (tListVals te) := by
  refine ⟨fun pins s σ H Q I hq => ?_⟩
  refine wpAny_Call_Name_kw (ld_blt I hg hm hv ?_)
  refine PyProof.Rows.callWith_type1 ?_ hs rfl
  rw [hs]
  show wpAny _ _ (spliced ((false, eval (.Call (.Attribute e "values" apos) [] [] cpos) X.env) :: backTo pos (starEach [] X.env))) _ _ s
  refine Calls.spliced_cons ?_
  refine wpAny_Call_method (T := "dict") (id := "dict.values") hbase rfl hline F.plainAttrs_dict F.slot_dict_values F.type_dict_values (thn (he.run pins s σ H _ I hq) fun u s1 ⟨x, H1, I1, rx, d, kvs, ex, hd, q⟩ => ?_)
  subst ex
  obtain rfl : u = Value.ref d := rx
  obtain ⟨hz, hs0, vs, kv, hdo⟩ := I1.hok d _ hd
  obtain ⟨ep, hat⟩ := hdo.dictAt
  have lk : kvs.length = vs.length := Paired.length kv
  have I2 : Inv X pins σ H1 { s1 with heap := s1.heap.push { cls := .type "dict_values", data := .fields #[.ref d] } } := I1.kept (t' := s1.toks) fun b ob q => Heap.get?_push_of_some _ q
  refine ⟨hdo.typeIs, hdo.mapOf.noDict, ?_⟩
  show wpAny _ _ (callWith cpos (.builtin "dict.values") [.ref d] [] []) _ X.xe s1
  refine method_meetsIn F.slot_dict_values F.entry_dict_values rfl (PySem.evalArgs_none ⟨rfl, hdo.typeIs, F.args_dict_values_1 _, _, meets_dict_values (mixKind X.prog X.w) d hs0, ⟨vs, hdo⟩, ?_⟩)
  refine Calls.spliced_nil ?_
  refine PySem.W.kdl_call (PySem.W.kdl_values (knd := mixKind X.prog X.w) (kvs := vs) (ep := ep)) (I1.ok.hd hc) ⟨⟨_, Heap.get?_push_size _ rfl, rfl, rfl⟩, hat.push _⟩ (by omega) fun h' tk acc c hk hS hacc => ?_
  have ev : acc.toList = vs.map (·.2) := PySem.W.kdl_vals_eq acc.toList (by rw [Array.length_toList]; exact hacc.1) fun j v e => hacc.2 j v (by rw [← Array.getElem?_toList]; exact e)
  refine ⟨.ref _, upd H1 _ (.lst (kvs.map (·.2))), I2.laid (t' := tk) hk (Nat.le_refl _) ⟨by rw [List.length_map]; omega, acc.toList, c, by rw [ev]; exact vals_kv kv, by rw [Array.toArray_toList]; exact hS⟩, rfl, q _ (I2.hok.fresh (Nat.le_refl _))⟩
end
end Lm
namespace Lm
open PySem PySem.Spec PyProof.Rows L2 LamX
/-- the dict that counts bs -/
structure CntDict (kvs : List (Key × V)) (bs : List Int) : Prop where
  val : ∀ b : Int, valV kvs (.inl b) = if b ∈ bs then some (.int (cntL bs b)) else none
  key : ∀ kv ∈ kvs, ∃ b : Int, kv.1 = .inl b ∧ b ∈ bs ∧ kv.2 = .int (cntL bs b)
  len : kvs.length ≤ bs.length
theorem cntL_snoc (bs : List Int) (a b : Int) : cntL (bs ++ [a]) b = cntL bs b + if a = b then 1 else 0 := by
  unfold cntL
  rw [List.filter_append, List.length_append]
  by_cases h : a = b
  · rw [if_pos h]
    have : ([a].filter fun z => decide (z = b)) = [a] := by simp [h]
    rw [this]
    show ((_ + 1 : Nat) : Int) = _
    omega
  · rw [if_neg h]
    have : ([a].filter fun z => decide (z = b)) = [] := by simp [h]
    rw [this]
    show ((_ + 0 : Nat) : Int) = _
    omega
theorem cntL_none {bs : List Int} {b : Int} (h : b ∉ bs) : cntL bs b = 0 := by
  rw [cntL_count, List.count_eq_zero_of_not_mem h]
  rfl
theorem CntDict.put {kvs : List (Key × V)} {bs : List Int} (h : CntDict kvs bs) (a : Int) : CntDict (putK kvs (.inl a) (.int (cntL bs a + 1))) (bs ++ [a]) := by
  refine ⟨fun b => ?_, fun kv hkv => ?_, ?_⟩
  · rw [valV_put]
    by_cases e : a = b
    · subst e
      rw [if_pos rfl, if_pos (List.mem_append_right _ (List.mem_cons_self ..)), cntL_snoc, if_pos rfl]
    · rw [if_neg (fun z => e (Sum.inl.inj z).symm), h.val]
      by_cases m : b ∈ bs
      · rw [if_pos m, if_pos (List.mem_append_left _ m), cntL_snoc, if_neg e, Int.add_zero]
      · rw [if_neg m, if_neg]
        intro z
        rcases List.mem_append.mp z with z | z
        · exact m z
        · exact e (List.mem_singleton.mp z).symm
  · unfold putK at hkv
    split at hkv
    · obtain ⟨kv', h1, h2⟩ := List.mem_map.mp hkv
      obtain ⟨b, e, m, ev⟩ := h.key kv' h1
      split at h2
      · rename_i ha
        rw [e] at ha
        have ha := Sum.inl.inj ha
        subst ha
        rw [← h2]
        exact ⟨b, e, List.mem_append_left _ m, by rw [cntL_snoc, if_pos rfl]⟩
      · rename_i ha
        rw [← h2]
        exact ⟨b, e, List.mem_append_left _ m, by rw [ev, cntL_snoc, if_neg (fun z => ha (by rw [e, z])), Int.add_zero]⟩
    · rename_i hany
      rcases List.mem_append.mp hkv with z | z
      · obtain ⟨b, e, m, ev⟩ := h.key kv z
        refine ⟨b, e, List.mem_append_left _ m, ?_⟩
        rw [ev, cntL_snoc, if_neg, Int.add_zero]
        intro ab
        refine hany (List.any_eq_true.mpr ⟨kv, z, ?_⟩)
        rw [e, ab]
        exact decide_eq_true rfl
      · rw [List.mem_singleton.mp z]
        exact ⟨a, rfl, List.mem_append_right _ (List.mem_cons_self ..), by rw [cntL_snoc, if_pos rfl]⟩
  · have : (putK kvs (Sum.inl a) (V.int (cntL bs a + 1))).length ≤ kvs.length + 1 := by
      unfold putK
      split
      · rw [List.length_map]
        omega
      · rw [List.length_append]
        exact Nat.le_refl _
    rw [List.length_append]
    have := h.len
    show _ ≤ bs.length + 1
    omega
def keyI : Key → Int
  | .inl b => b
  | _ => 0
theorem cnt_price {kvs : List (Key × V)} {bs : List Int} (h : CntDict kvs bs) {v : Int} (h0 : kvs = [] → v = 0) (h1 : kvs ≠ [] → v ∈ kvs.map (fun kv => cntL bs (keyI kv.1)) ∧ ∀ y ∈ kvs.map (fun kv => cntL bs (keyI kv.1)), y ≤ v) : PriceIs bs v := by
  have at_ : ∀ b ∈ bs, cntL bs b ∈ kvs.map (fun kv => cntL bs (keyI kv.1)) := fun b hb => by
    have := h.val b
    rw [if_pos hb] at this
    obtain ⟨kv, hk, e⟩ := List.mem_map.mp (valV_in this)
    refine List.mem_map.mpr ⟨kv, hk, ?_⟩
    rw [e]
    rfl
  by_cases hk : kvs = []
  · rw [h0 hk]
    have : bs = [] := by
      cases bs with
      | nil => rfl
      | cons b r =>
        have := at_ b (List.mem_cons_self ..)
        rw [hk] at this
        cases this
    rw [this]
    exact ⟨List.mem_cons_self .., fun y hy => by
      rcases List.mem_cons.mp hy with rfl | hy
      · exact Int.le_refl _
      · cases hy⟩
  · obtain ⟨k1, k2⟩ := h1 hk
    obtain ⟨kv, hkv, e⟩ := List.mem_map.mp k1
    obtain ⟨b, eb, mb, _⟩ := h.key kv hkv
    rw [eb] at e
    have e : cntL bs b = v := e
    refine ⟨List.mem_cons_of_mem _ (List.mem_map.mpr ⟨b, mb, e⟩), fun y hy => ?_⟩
    rcases List.mem_cons.mp hy with rfl | hy
    · rw [← e]
      unfold cntL
      omega
    · obtain ⟨b', hb', rfl⟩ := List.mem_map.mp hy
      exact k2 _ (at_ b' hb')
section
variable {P : Program} {w : World} {K : PySem.W.Frag} {mg : Str → Option Value} {base : Heap}
abbrev sCostAt : Stmt := topS 23
def nCostAt : List Str := ["counts", "banks", "laying", "lot", "found", "cell", "bank"]
theorem scCostAt : FnScope ["counts", "banks", "laying", "lot", "found", "cell", "bank"] ["counts", "banks", "laying", "lot"] (defScope sCostAt) := ⟨rfl, rfl, rfl, by decide +kernel, rfl, by decide +kernel, by decide +kernel⟩
def spCostAt : Sp := fun vs H Q _ => ∃ (D : DrA) (c wy lo : Addr) (cs : List Int) (m : Int) (l : Lay) (ls : List (Int × Int)), vs = [.ref c, .int m, .ref wy, .ref lo] ∧ H c = some (.tup (cs.map V.int)) ∧ Cnt cs ∧ 1 ≤ m ∧ m ≤ 32 ∧ Da D H (.ref wy) l.dat ∧ l.Ok cs m ∧ Da D H (.ref lo) (.tuple (ls.map cellD)) ∧
  (∀ c ∈ ls, CellOk cs c.1 c.2) ∧ ls.length ≤ 1000 ∧ ∀ (H' : Hp) (v : Int), Same H H' → PriceIs (ls.map fun c => bankL cs m l c.1 c.2) v → Q (.int v) H'
theorem ok_costAt {f : Addr} {fd : FuncData} (F : Fun K "cost_of" "cost_of" sCostAt f fd) (N : Bl mg) (GB : Has P w K mg base CX0 2 "bank_at" ["counts", "banks", "laying", "cell"] spBankAt) : FnOk P w K mg base CX0 3 f fd ["counts", "banks", "laying", "lot"] spCostAt := by
  refine F.ok scCostAt (fun vs H Q E h => ?_) (fun cdv A outer s H vs Q E hr h => ?_)
  · obtain ⟨D, c, wy, lo, cs, m, l, ls, rfl, _⟩ := h
    rfl
  · obtain ⟨D, c, wy, lo, cs, m, l, ls, rfl, hc, kc, m1, m2, hw, lok, hlo, hk, hl, q⟩ := h
    have hu := hu_of hr
    have hu16 : (A.deeper (envOfC "cost_of" (defScope sCostAt) s.heap.objs.size f cdv)).units + 16 < cLine := by
      have := hr.un
      omega
    refine ⟨_, pss_cons (ps_set (i := 4) scCostAt.nd rfl (.inl rfl) pe_dnewK)
      (pss_cons (ps_for PassesOwn.never rfl (pi_tup (pv 3)) (pg_name (i := 5) scCostAt.nd rfl (.inl rfl))
        (pss_cons (ps_set (i := 6) scCostAt.nd rfl (.inl rfl) (pe_h GB hr (by decide) (by rfl) pass0 (pa_cons (pv 0) (pa_cons (pv 1) (pa_cons (pv 2) (pa_cons (pv 5) pa_nil))))))
        (pss_one (ps_dput hu (pv 4) (pv 6) (pe_op op_add (pe_dget2 hu (pv 4) (pv 6) pe_int ⟨rfl, rfl, rfl, rfl⟩) pe_int) rfl))))
      (pss_one (ps_ret (pe_callBK (cr_maxD rfl hu16) (by rfl) N.bmax (by rfl) (pa_cons (pe_listVals rfl (pv 4) (by rfl) N.blist (by rfl)) pa_nil) (pk_cons pe_int pk_nil))))), ?_⟩
    have hlo0 := hlo
    cases hlo with
    | tup h1 n1 n2 ha =>
      rename_i xs
      have hx := ha.length
      rw [List.length_map] at hx
      obtain ⟨fn, hfn⟩ : ∃ fn : Int × Int → Int, fn = fun c => bankL cs m l c.1 c.2 := ⟨_, rfl⟩
      rw [← hfn] at q
      intro M nM
      refine ⟨_, rfl, lo, rfl, ⟨_, SqT.of (same_upd nM _ _ h1)⟩, for_tup (K := K) (a := lo) (xs := xs) (fun i σ H' => Same H H' ∧ ∃ kvs x5 x6, σ = [some (.ref c), some (.int m), some (.ref wy), some (.ref lo), some (.ref M), x5, x6] ∧ H' M = some (.dK kvs) ∧ CntDict kvs ((ls.take i).map fn))
        ⟨same_upd nM, [], none, none, rfl, upd_same, ⟨fun b => rfl, (fun _ z => nomatch z), Nat.le_refl _⟩⟩ (fun i σ H' _ h => SqT.of (h.1 _ _ h1)) ?_ ?_⟩
      · rintro i x σ H' hxi ⟨s1, kvs, x5, x6, rfl, hM, cd⟩
        obtain ⟨de, hde, hv⟩ := (ha.sm s1).get hxi
        obtain ⟨e, he, rfl⟩ : ∃ e, ls[i]? = some e ∧ de = cellD e := by
          rw [List.getElem?_map] at hde
          cases z : ls[i]? with
          | none => rw [z] at hde; cases hde
          | some e => rw [z] at hde; exact ⟨e, rfl, (Option.some.inj hde).symm⟩
        have hi : i < ls.length := (List.getElem?_eq_some_iff.mp he).1
        obtain ⟨ce, rfl, hce⟩ := at_cell hv
        refine ⟨_, rfl, _, rfl, _, rfl, _, rfl, D, c, wy, ce, cs, m, l, e.1, e.2, rfl, s1 _ _ hc, kc, m1, m2, hw.sm s1, lok, hce, hk e (List.mem_of_getElem? he), fun H2 s2 => ?_⟩
        have hM2 := s2 _ _ hM
        have ef : bankL cs m l e.1 e.2 = fn e := by rw [hfn]
        rw [ef]
        have eo : (valV kvs (.inl (fn e))).getD (.int 0) = .int (cntL ((ls.take i).map fn) (fn e)) := by
          rw [cd.val]
          by_cases hb : fn e ∈ (ls.take i).map fn
          · rw [if_pos hb]
            rfl
          · rw [if_neg hb, cntL_none hb]
            rfl
        refine ⟨_, rfl, M, rfl, .inl ⟨kvs, .inl hM2⟩, _, rfl, valV kvs (.inl (fn e)), DGet.k (k := .inl (fn e)) hM2, _, _, eo, rfl, ?_⟩
        refine ⟨_, rfl, _, rfl, M, _, rfl, DPut.k (k := .inl (fn e)) hM2 ?_, ?_⟩
        · have := cd.len
          rw [List.length_map, List.length_take] at this
          exact small1000 (by omega)
        · refine ⟨same_put (s1.trans s2) nM, _, _, _, rfl, upd_same, ?_⟩
          have ht : (ls.take (i + 1)).map fn = (ls.take i).map fn ++ [fn e] := by
            rw [List.take_add_one, he, List.map_append]
            rfl
          rw [ht]
          exact cd.put (fn e)
      · rintro σ H' ⟨s1, kvs, x5, x6, rfl, hM, cd⟩
        rw [hx, List.take_length] at cd
        refine ⟨_, rfl, M, kvs, rfl, hM, fun R nR => ?_⟩
        have sR : Same H (upd H' R (.lst (kvs.map (·.2)))) := s1.trans (same_upd nR)
        have ev : kvs.map (·.2) = (kvs.map fun kv => cntL (ls.map fn) (keyI kv.1)).map V.int := by
          rw [List.map_map]
          refine List.map_congr_left fun kv hkv => ?_
          obtain ⟨b, eb, mb, e2⟩ := cd.key kv hkv
          show kv.2 = V.int (cntL (ls.map fn) (keyI kv.1))
          rw [e2, eb]
          rfl
        refine ⟨R, kvs.map (fun kv => cntL (ls.map fn) (keyI kv.1)), 0, rfl, rfl, SqL.of (by rw [← ev]; exact upd_same), fun e => ?_, fun v hv hm => ?_⟩
        · exact q _ 0 sR (cnt_price cd (fun _ => rfl) fun n => absurd (List.map_eq_nil_iff.mp e) n)
        · refine q _ v sR (cnt_price cd (fun e => ?_) fun _ => ⟨hv, hm⟩)
          rw [e] at hv
          cases hv
end
end Lm
namespace Lm
open PySem PySem.Spec PyProof.Rows L2 LamX
section
variable {P : Program} {w : World} {K : PySem.W.Frag} {mg : Str → Option Value} {base : Heap}
abbrev sCO : Stmt := topS 27
theorem scCO : FnScope ["counts", "banks", "laying", "lot"] ["counts", "banks", "laying", "lot"] (defScope sCO) := ⟨rfl, rfl, rfl, by decide +kernel, rfl, by decide +kernel, by decide +kernel⟩
theorem ok_CO {BC BB BL BO : Addr} {f : Addr} {fd : FuncData} (F : Fun K "cost" "cost" sCO f fd) (M : XMk K mg "BadLot" BO) (G0 : Has P w K mg base (L2.CX P w) 4 "check_counts" ["counts", "banks"] (spCC BC BB)) (GL : Has P w K mg base (L2.CX P w) 5 "check_laying" ["counts", "banks", "laying"] (spCL BL)) (GT : Has P w K mg base CX0 4 "is_lot" ["counts", "thing"] spLot)
    (GA : Has P w K mg base CX0 3 "cost_of" ["counts", "banks", "laying", "lot"] spCostAt) : FnOk P w K mg base (L2.CX P w) 10 f fd ["counts", "banks", "laying", "lot"] (spCO BC BB BL BO) := by
  refine F.okX scCO (fun vs H Q E h => ?_) (fun cdv A outer s H vs Q E hr h => ?_)
  · obtain ⟨D, v1, v2, v3, v4, c, b, t, e, rfl, _⟩ := h
    rfl
  · obtain ⟨D, v1, v2, v3, v4, c, b, t, e, rfl, h1, h2, h3, h4, hle, q⟩ := h
    refine ⟨_, pss_cons (ps_expr (pe_h G0 hr (by decide) (by rfl) passE (pa_cons (pv 0) (pa_cons (pv 1) pa_nil))))
      (pss_cons (ps_expr (pe_h GL hr (by decide) (by rfl) passE (pa_cons (pv 0) (pa_cons (pv 1) (pa_cons (pv 2) pa_nil)))))
      (pss_cons (ps_if (pt_not (pt_val (pe_h GT hr (by decide) (by rfl) (E := C8.E0) pass0 (pa_cons (pv 0) (pa_cons (pv 3) pa_nil))))) (pss_one (ps_bad rfl M (takes_of (E := E) rfl rfl rfl rfl) (by rfl))) pss_nil)
      (pss_one (ps_ret (pe_h GA hr (by decide) (by rfl) (E := C8.E0) pass0 (pa_cons (pv 0) (pa_cons (pv 1) (pa_cons (pv 2) (pa_cons (pv 3) pa_nil))))))))), ?_⟩
    refine ⟨_, rfl, _, rfl, D, v1, v2, c, b, rfl, h1, h2, ?_⟩
    rcases q with ⟨hn, z⟩ | ⟨hc, hn, z⟩ | ⟨cs, m, rfl, kc, rfl, m1, m2, q⟩
    · exact .inl ⟨hn, z⟩
    · exact .inr (.inl ⟨hc, hn, z⟩)
    · refine .inr (.inr ⟨cntIs_of kc, ⟨m, rfl, m1, m2⟩, fun H0 s0 => ?_⟩)
      obtain ⟨ca, rfl⟩ := ref_of_tup h1
      cases h2
      refine ⟨_, rfl, _, rfl, _, rfl, D, ca, cs, m, v3, t, rfl, dat_ints (h1.sm s0), kc, h3.sm s0, ?_⟩
      rcases q with ⟨hw, z⟩ | ⟨l, rfl, lo, q⟩
      · exact .inl ⟨hw, fun H1 s1 => z _ (s0.trans s1)⟩
      · refine .inr ⟨lay_way lo, fun H1 s1 => ?_⟩
        obtain ⟨wa, rfl⟩ := lay_ref h3
        have t1 := s0.trans s1
        refine ⟨_, rfl, _, rfl, D, ca, cs, v4, e, rfl, dat_ints (h1.sm t1), kc, h4.sm t1, hle, fun H2 r s2 hr => ⟨_, rfl, ?_⟩⟩
        have t2 := t1.trans s2
        rcases q with ⟨hn, z⟩ | ⟨ls, rfl, hk, ha, z⟩
        · cases r with
          | true => exact absurd (hr.mp rfl) hn
          | false => exact iteT (z _ t2)
        · have : r = true := hr.mpr ⟨ls, rfl, hk, ha⟩
          subst this
          obtain ⟨la, rfl⟩ := ref_of_tup h4
          have hlen : ls.length ≤ 1000 := by
            have this : (ls.map cellD).length ≤ 1000 := hle
            rwa [List.length_map] at this
          exact iteF ⟨_, rfl, _, rfl, _, rfl, _, rfl, D, ca, wa, la, cs, m, l, ls, rfl, dat_ints (h1.sm t2), kc, m1, m2, h3.sm t2, lo, h4.sm t2, hk, hlen, fun H3 v s3 hv => z _ v (t2.trans s3) hv⟩
/-! ### calls by keywords alone, in the parameters' order turned about -/
theorem hasK_of {CX : CXT} {k : Nat} {x : Str} {st : Stmt} {ps ks : List Str} {sp : Sp} (h : At K mg x st)
    (to : ∀ (kV doc pm : Value) (an : Option Addr) (cdv ct : Value) (ws : List Value), ws.length = ks.length → bindArgs (PySem.W.fnOf x x (defArgs st) (defBody st) (defScope st) .none kV doc pm an cdv ct) ⟨[], ks.zip ws⟩ = pure (ps.zip ws.reverse))
    (ok : ∀ f fd, Fun K x x st f fd → FnOk P w K mg base CX k f fd ps sp) : HasK P w K mg base CX k x ps ks List.reverse sp := by
  obtain ⟨f, fd, m, F⟩ := h.ex
  have ok' := ok f fd F
  have kp := F.kp
  obtain ⟨oc, od, kV, doc, pm, an, cdv, ct, osl, rfl, lk, hcd⟩ := F.ex
  refine ⟨f, _, fun _ ws => ws.reverse, m, kp, ⟨fun s us ws inK hu hw => ?_, fun r rz => rz.reverse⟩, ok'⟩
  cases us with
  | nil => exact .of_eq (to kV doc pm an cdv ct ws hw)
  | cons _ _ => cases hu
/-- the program's own defs, as the head leaves them -/
structure PDefs (K : PySem.W.Frag) (mg : Str → Option Value) : Prop where
  number : At K mg "is_number" sNumber
  between : At K mg "is_between" sBetween
  tupleOf : At K mg "is_tuple_of" sTupleOf
  numTup : At K mg "is_number_tuple" sNumTup
  rise : At K mg "is_rising" sRise
  cc : At K mg "check_counts" sCC
  cb : At K mg "check_banks" sCB
  sheet : At K mg "grid_of" sSheet
  lo : At K mg "is_laying_of" sLO
  il : At K mg "is_laying" sIL
  cl : At K mg "check_laying" sCL
  cellOf : At K mg "is_cell_of" sCellOf
  bankAt : At K mg "bank_at" sBankAt
  bo : At K mg "bank_of" sBO
  lot : At K mg "is_lot" sLot
  costAt : At K mg "cost_of" sCostAt
  co : At K mg "cost" sCO
theorem promises {CS BC BB BL BE BO : Addr} {tk : Tok} (N : Bl mg) (MB : mg "MOST_BANKS" = some (.int 32 tk)) (D : PDefs K mg) (lane : mg "LaneError" = some (.ref CS)) (bc : XCls K mg CS "BadCounts" BC ∧ XMk K mg "BadCounts" BC) (bb : XCls K mg CS "BadBanks" BB ∧ XMk K mg "BadBanks" BB) (bl : XCls K mg CS "BadLaying" BL ∧ XMk K mg "BadLaying" BL)
    (be : XCls K mg CS "BadCell" BE ∧ XMk K mg "BadCell" BE) (bt : XCls K mg CS "BadLot" BO ∧ XMk K mg "BadLot" BO) : Promises P w K mg base CS BC BB BL BE BO := by
  have GN : Has P w K mg base CX0 1 "is_number" ["thing"] spNum := has_of D.number (fun f fd F => F.binds (ps := ["thing"]) fun _ _ _ _ _ _ us hl => match us, hl with | [_], _ => rfl) (fun f fd F => ok_number F N)
  have GB : Has P w K mg base CX0 2 "is_between" ["thing", "low", "high"] spBtw := has_of D.between (fun f fd F => F.binds (ps := ["thing", "low", "high"]) fun _ _ _ _ _ _ us hl => match us, hl with | [_, _, _], _ => rfl) (fun f fd F => ok_between F GN)
  have GT : Has P w K mg base CX0 1 "is_tuple_of" ["thing", "count"] spTupOf := has_of D.tupleOf (fun f fd F => F.binds (ps := ["thing", "count"]) fun _ _ _ _ _ _ us hl => match us, hl with | [_, _], _ => rfl) (fun f fd F => ok_tupleOf F N)
  have GM : Has P w K mg base CX0 2 "is_number_tuple" ["thing", "count"] spNumTup := has_of D.numTup (fun f fd F => F.binds (ps := ["thing", "count"]) fun _ _ _ _ _ _ us hl => match us, hl with | [_, _], _ => rfl) (fun f fd F => ok_numTup F N GN GT)
  have GR : Has P w K mg base CX0 1 "is_rising" ["things"] spRise := has_of D.rise (fun f fd F => F.binds (ps := ["things"]) fun _ _ _ _ _ _ us hl => match us, hl with | [_], _ => rfl) (fun f fd F => ok_rise F N)
  have CB : Has P w K mg base (L2.CX P w) 3 "check_banks" ["banks"] (spCB BB) := has_of D.cb (fun f fd F => F.binds (ps := ["banks"]) fun _ _ _ _ _ _ us hl => match us, hl with | [_], _ => rfl) (fun f fd F => ok_CB F bb.2 MB GB)
  have CC : Has P w K mg base (L2.CX P w) 4 "check_counts" ["counts", "banks"] (spCC BC BB) := has_of D.cc (fun f fd F => F.binds (ps := ["counts", "banks"]) fun _ _ _ _ _ _ us hl => match us, hl with | [_, _], _ => rfl) (fun f fd F => ok_CC F N bc.2 GB CB)
  have GX : Has P w K mg base CX0 1 "grid_of" ["counts"] spBox := has_of D.sheet (fun f fd F => F.binds (ps := ["counts"]) fun _ _ _ _ _ _ us hl => match us, hl with | [_], _ => rfl) (fun f fd F => ok_sheet F N)
  have LO : Has P w K mg base CX0 4 "is_laying_of" ["counts", "banks", "thing"] spIsWay := has_of D.lo (fun f fd F => F.binds (ps := ["counts", "banks", "thing"]) fun _ _ _ _ _ _ us hl => match us, hl with | [_, _, _], _ => rfl) (fun f fd F => ok_LO F N MB GX GB GT)
  have CL : Has P w K mg base (L2.CX P w) 5 "check_laying" ["counts", "banks", "laying"] (spCL BL) := has_of D.cl (fun f fd F => F.binds (ps := ["counts", "banks", "laying"]) fun _ _ _ _ _ _ us hl => match us, hl with | [_, _, _], _ => rfl) (fun f fd F => ok_CL F bl.2 LO)
  have CE : Has P w K mg base CX0 3 "is_cell_of" ["counts", "thing"] spCellOf := has_of D.cellOf (fun f fd F => F.binds (ps := ["counts", "thing"]) fun _ _ _ _ _ _ us hl => match us, hl with | [_, _], _ => rfl) (fun f fd F => ok_cellOf F GX GM)
  have BA : Has P w K mg base CX0 2 "bank_at" ["counts", "banks", "laying", "cell"] spBankAt := has_of D.bankAt (fun f fd F => F.binds (ps := ["counts", "banks", "laying", "cell"]) fun _ _ _ _ _ _ us hl => match us, hl with | [_, _, _, _], _ => rfl) (fun f fd F => ok_bankAt F GX)
  have LT : Has P w K mg base CX0 4 "is_lot" ["counts", "thing"] spLot := has_of D.lot (fun f fd F => F.binds (ps := ["counts", "thing"]) fun _ _ _ _ _ _ us hl => match us, hl with | [_, _], _ => rfl) (fun f fd F => ok_lot F N CE GR)
  have CA : Has P w K mg base CX0 3 "cost_of" ["counts", "banks", "laying", "lot"] spCostAt := has_of D.costAt (fun f fd F => F.binds (ps := ["counts", "banks", "laying", "lot"]) fun _ _ _ _ _ _ us hl => match us, hl with | [_, _, _, _], _ => rfl) (fun f fd F => ok_costAt F N BA)
  refine ⟨?_, ?_, ?_, ?_, ?_, ?_, lane, bc.1, bb.1, bl.1, be.1, bt.1⟩
  · exact has_of D.il (fun f fd F => F.binds (ps := ["counts", "banks", "thing"]) fun _ _ _ _ _ _ us hl => match us, hl with | [_, _, _], _ => rfl) (fun f fd F => ok_IL F CC LO)
  · exact has_of D.bo (fun f fd F => F.binds (ps := ["counts", "banks", "laying", "cell"]) fun _ _ _ _ _ _ us hl => match us, hl with | [_, _, _, _], _ => rfl) (fun f fd F => ok_BO F be.2 CC CL CE BA)
  · exact has_of D.co (fun f fd F => F.binds (ps := ["counts", "banks", "laying", "lot"]) fun _ _ _ _ _ _ us hl => match us, hl with | [_, _, _, _], _ => rfl) (fun f fd F => ok_CO F bt.2 CC CL LT CA)
  · exact hasK_of D.il (fun _ _ _ _ _ _ ws hl => match ws, hl with | [_, _, _], _ => rfl) (fun f fd F => ok_IL F CC LO)
  · exact hasK_of D.bo (fun _ _ _ _ _ _ ws hl => match ws, hl with | [_, _, _, _], _ => rfl) (fun f fd F => ok_BO F be.2 CC CL CE BA)
  · exact hasK_of D.co (fun _ _ _ _ _ _ ws hl => match ws, hl with | [_, _, _, _], _ => rfl) (fun f fd F => ok_CO F bt.2 CC CL LT CA)
/-- an own exception class, as the head leaves it -/
structure XFacts (K : PySem.W.Frag) (x : Str) (CS C : Addr) : Prop where
  a : PySem.W.nsIn K mainGlobals x = some (some (.ref C))
  h1 : PySem.W.findIn K (.ref C) "__getattribute__" = some (some (.builtin "BaseException.__getattribute__"))
  h2 : PySem.W.findIn K (.ref C) "__getattr__" = some none
  h3 : PySem.W.subIn K (.ref C) (.type "BaseException") = some true
  h4 : PySem.W.hasDictIn K C = true
  h5 : PySem.W.findIn K (.ref C) "__class__" = some (some (.builtin "object.__class__"))
  h6 : PySem.W.specialIn K (.builtin "object.__class__") "__get__" = some (some (.builtin "getset_descriptor.__get__"))
  h7 : PySem.W.takesIn K (.builtin "object.__class__") = some true
  h8 : PySem.W.mroIn K C (.type "object") = some true
  e1 : PySem.W.isClsIn K CS = true
  e2 : PySem.W.typeIn K (.ref CS) = some (.type "type")
  e3 : PySem.W.subIn K (.ref C) (.ref CS) = some true
  e4 : PySem.W.subIn K (.ref CS) (.type "BaseException") = some true
  q : PySem.W.excIn K C [.type "ValueError", .type "Exception", .type "BaseException", .type "object"] "ValueError.__new__" = true
  kC : PySem.W.keepIn K (.ref C) = true
  ty : PySem.W.typeIn K (.ref C) = some (.type "type")
theorem kit_own (K : PySem.W.Frag) (C : Addr) : PySem.W.kitOne K (.ref C) (.ref C) = some true := by
  unfold PySem.W.kitOne
  rw [if_pos (beq_self_eq_true _)]
theorem exm_own {K : PySem.W.Frag} {C S : Addr} (b : PySem.W.subIn K (.ref S) (.type "BaseException") = some true) (i : PySem.W.isClsIn K S = true) (t : PySem.W.typeIn K (.ref S) = some (.type "type")) (u : PySem.W.subIn K (.ref C) (.ref S) = some true) : PySem.W.exmOne K (.ref C) (.ref S) = some true := by
  have i' : (PySem.W.clsIn K S).isSome = true := i
  unfold PySem.W.exmOne PySem.W.kitCls
  rw [if_pos (by rw [b]; rfl)]
  show (if ((PySem.W.clsIn K S).isSome && PySem.W.typeIn K (.ref S) == some (.type "type")) = true then PySem.W.subIn K (.ref C) (.ref S) else none) = some true
  rw [if_pos (by rw [i', t]; rfl)]
  exact u
theorem XFacts.mk2 {h : Heap} {x : Str} {CS C : Addr} (X : K.In h) (G : h.Ns mainGlobals mg) (f : XFacts K x CS C) : XCls K mg CS x C ∧ XMk K mg x C :=
  x_mk X G f.a f.h1 f.h2 f.h3 f.h4 f.h5 f.h6 f.h7 f.h8 (kit_own K C) (exm_own f.e4 f.e1 f.e2 f.e3) f.q f.kC f.ty
theorem prom_mk {h : Heap} {CS BC BB BL BE BO : Addr} (X : K.In h) (G : h.Ns mainGlobals mg) (N : Bl mg) {tk : Tok} (MB : PySem.W.nsIn K mainGlobals "MOST_BANKS" = some (some (.int 32 tk))) (D : PDefs K mg) (lane : PySem.W.nsIn K mainGlobals "LaneError" = some (some (.ref CS))) (bc : XFacts K "BadCounts" CS BC) (bb : XFacts K "BadBanks" CS BB) (bl : XFacts K "BadLaying" CS BL)
    (be : XFacts K "BadCell" CS BE) (bt : XFacts K "BadLot" CS BO) : ∀ base : Heap, K.In base → base.Ns mainGlobals mg → ∃ CS BC BB BL BE BO, Promises P w K mg base CS BC BB BL BE BO :=
  fun _ _ _ => ⟨CS, BC, BB, BL, BE, BO, promises N (PySem.W.mg_of X G MB) D (PySem.W.mg_of X G lane) (bc.mk2 X G) (bb.mk2 X G) (bl.mk2 X G) (be.mk2 X G) (bt.mk2 X G)⟩
end
end Lm
open PySem PySem.W PyProof.Rows
set_option Elab.async false
set_option maxRecDepth 100000 in
set_option maxHeartbeats 0 in
theorem PySem.Challenge.cw_lanesmeet_k62_layings_and_banks_holds : PySem.Challenge.rw_lanesmeet_k62_layings_and_banks.Holds := by
  w_on; o_law; k_head; (case hw => w_witness2)
  k_fill
  refine Lm.walk_guard (l := PySem.Challenge.rw_lanesmeet_k62_layings_and_banks) (n := 63) rfl (by decide) rfl ?rec (fun w h Y => PySem.W.km_in_of Y) ?F
  case rec => rfl
  case F =>
    intro w mg fa h KX G hmg
    refine' Lm.fin62 KX G hmg ?qN ?qD ?qR ?qa ?qlk ?qhcd ?qlc ?qcf ?qcP ?qkP
    (case qa => k_is); (case qlk => k_is); (case qhcd => k_is); (case qlc => k_is)
    (case qN => refine' Lm.bl_mk KX G ?_ ?_ ?_ ?_ ?_ ?_ ?_ ?_ ?_ ?_ ?_ ?_ ?_ <;> k_is)
    (case qD => refine' ⟨?_, ?_, ?_, ?_, ?_, ?_, ?_, ?_, ?_, ?_, ?_, ?_, ?_, ?_, ?_, ?_, ?_, ?_⟩ <;> (refine' Lm.at_mk KX G ?ya ?yl ?yc ?yk; (case ya => k_is); (case yl => k_is); (case yc => k_is); (case yk => k_is)))
    case qcf => exact ⟨_, _, _, _, _, _, _, rfl, rfl, rfl, rfl, rfl, rfl⟩
    case qcP => decide
    case qkP => rfl
    case qR =>
      refine' Lm.prom_mk KX G ?rN ?rM ?rD ?rl ?rc ?rb ?ry ?re ?rt
      (case rM => k_is)
      (case rl => k_is)
      (case rN => refine' Lm.bl_mk KX G ?_ ?_ ?_ ?_ ?_ ?_ ?_ ?_ ?_ ?_ ?_ ?_ ?_ <;> k_is)
      (case rD => refine' ⟨?_, ?_, ?_, ?_, ?_, ?_, ?_, ?_, ?_, ?_, ?_, ?_, ?_, ?_, ?_, ?_, ?_⟩ <;> (refine' Lm.at_mk KX G ?ya ?yl ?yc ?yk; (case ya => k_is); (case yl => k_is); (case yc => k_is); (case yk => k_is)))
      (case rc => refine' ⟨?rcza, ?rcz1, ?rcz2, ?rcz3, ?rcz4, ?rcz5, ?rcz6, ?rcz7, ?rcz8, ?rczd, ?rcze, ?rczf, ?rczg, ?rczq, ?rczk, ?rczt⟩; (case rcza => k_is); (case rczq => k_exc); all_goals k_is)
      (case rb => refine' ⟨?rbza, ?rbz1, ?rbz2, ?rbz3, ?rbz4, ?rbz5, ?rbz6, ?rbz7, ?rbz8, ?rbzd, ?rbze, ?rbzf, ?rbzg, ?rbzq, ?rbzk, ?rbzt⟩; (case rbza => k_is); (case rbzq => k_exc); all_goals k_is)
      (case ry => refine' ⟨?ryza, ?ryz1, ?ryz2, ?ryz3, ?ryz4, ?ryz5, ?ryz6, ?ryz7, ?ryz8, ?ryzd, ?ryze, ?ryzf, ?ryzg, ?ryzq, ?ryzk, ?ryzt⟩; (case ryza => k_is); (case ryzq => k_exc); all_goals k_is)
      (case re => refine' ⟨?reza, ?rez1, ?rez2, ?rez3, ?rez4, ?rez5, ?rez6, ?rez7, ?rez8, ?rezd, ?reze, ?rezf, ?rezg, ?rezq, ?rezk, ?rezt⟩; (case reza => k_is); (case rezq => k_exc); all_goals k_is)
      (case rt => refine' ⟨?rtza, ?rtz1, ?rtz2, ?rtz3, ?rtz4, ?rtz5, ?rtz6, ?rtz7, ?rtz8, ?rtzd, ?rtze, ?rtzf, ?rtzg, ?rtzq, ?rtzk, ?rtzt⟩; (case rtza => k_is); (case rtzq => k_exc); all_goals k_is)
