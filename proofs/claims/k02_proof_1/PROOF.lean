import PyProof.Rows.All
import Wide.All
import OpenK.AllK
import Wide.FinOn
import PySem.Challenge.RW_lanesmeet_k02_greatest_differences
import HandS.Base
import HandS.Call
import HandS.List
import HandS.Comp
import HandS.Ends
import HandS.Dict
import HandS.Iter
import HandS.Exc
import HandS.TryOnly
import HandS.ExcOwn
import HandS.ExcIs
import HandS.IsInst
import HandS.Lambda
import HandS.Words
import HandS.WordsList
import HandS.WordsDict
import HandS.WordsExc
import HandS.ExcInit
import HandS.FStr
import KE.KExcSuper
import PyProof.FString2
import PyProof.ReprReads
import HandS.Defaults
import HandS.Codes
import HandS.Wide
import HandS.Style
import HandS.TupAny
import HandS.Conv
import HandS.More
import HandS.Deep
import HandS.TupLe
import HandS.Text
import HandS.ExcField
import KE.KExcIs
import PyProof.ExcBaseAll.ValueError
import HandS.Small
import HandS.SortKw
import HandS.Steps
import HandS.SetFor
import HandS.Strs
import HandS.NoneIn
import HandS.Walk
import HandS.DictComp
import HandS.SetKeys
import KE.KDictCopyH
import KE.KDictKeyed
import KE.KeyNested
import KE.GoesEnum
import KE.KRevSl
import HandS.Flow
import PyProof.ReprHeads
import KE.SortData
import PyProof.ReprRoads
import PyProof.ReprLen
import HandS.DictEq
import PyProof.StrOps2
import HandS.EndTab
import HandS.EndOwn
import KE.KExcLine
import KE.RegKSuper
set_option Elab.async false
set_option linter.all false
set_option maxRecDepth 100000
set_option maxHeartbeats 8000000
/-! An own exception that an except clause keeps: it is tracked from the clause on. -/
namespace Lm
open PySem PySem.Spec PyProof.Rows L2
/-- an exception's object, of the class cls, its own dict at d -/
def ExI (a : Addr) (cls : Value) (d : Option Addr) : HO := .ext fun h => ∃ oe : Obj, h.get? a = some oe ∧ Zc cls d oe ∧ ∃ vs, oe.data = .fields vs
theorem exI_ok {P : Program} {w : World} {H : Hp} {h : Heap} {a : Addr} {cls : Value} {d : Option Addr} {oe : Obj} {vs : Array Value} (e : h.get? a = some oe) (z : Zc cls d oe) (v : oe.data = .fields vs) : ObjOk P w H h a (ExI a cls d) :=
  ⟨⟨oe, e, z, vs, v⟩, ⟨oe, e⟩, fun _ _ ⟨o, q, r⟩ k => ⟨o, k o q, r⟩⟩
section
variable {X : Cx} {pins : List (Addr × Obj)} {σ : L2.St} {H : Hp} {s0 s1 : Shared} {B : Heap}
/-- back on the ground with the exception's object tracked -/
theorem landT {a : Addr} {o : HO} (I : Inv X pins σ H s0) (nb : ∀ b u, s0.heap.get? b = some u → b ∉ frs X.stack → B.get? b = some u)
    (st : B.StaysIn s1.heap) (up : s0.heap.UpToSlots s1.heap) (os : s1.os = s0.os) (ag : AllBare s1.gens)
    (n0 : s0.heap.get? a = none) (na : H a = none) (new : ObjOk X.prog X.w (upd H a o) s1.heap a o) : Inv X pins σ (upd H a o) s1 := by
  have slots : ∀ b ∈ frs X.stack, ∀ u, s0.heap.get? b = some u → ∃ sl, s1.heap.get? b = some { u with slots := sl } := by
    intro b hb u e
    obtain ⟨_, u', e', hd⟩ := I.stack.mem hb
    rw [e] at e'
    cases e'
    exact up b u e hd
  have off : ∀ b u, s0.heap.get? b = some u → b ≠ a := by
    intro b u e z
    rw [z, n0] at e
    cases e
  have un : Un (frs X.stack) [] H (upd H a o) s0.heap s1.heap := by
    constructor
    · intro b u e _ hb _
      exact st b u (nb b u e hb)
    · intro b u e _ hb _
      exact slots b hb u e
    · intro b u e n _
      rw [upd_ne (off b u e)]
      exact n
    · intro b u e _
      by_cases hb : b ∈ frs X.stack
      · obtain ⟨sl, q⟩ := slots b hb u e
        exact ⟨_, q⟩
      · exact ⟨u, st b u (nb b u e hb)⟩
    · intro b xs e
      rw [upd_ne (ne_of_none e na)]
      exact e
    · intro b u xs e
      rw [upd_ne (ne_of_none e na)]
      exact e
    · intro b ps e
      refine ⟨#[], ?_⟩
      rw [upd_ne (ne_of_none e na), e]
      simp
  have hk : HOk X.prog X.w H s1.heap := (I.inGround nb).kept st
  have hk2 : HOk X.prog X.w (upd H a o) s1.heap := by
    intro b u e
    by_cases hb : b = a
    · rw [hb] at e ⊢
      rw [upd_same] at e
      cases e
      exact new
    · rw [upd_ne hb] at e
      refine (hk b u e).stay (fun _ _ _ q => q) (fun c q => ?_) (fun c xs q => ?_)
      · rw [upd_ne (ne_of_none q na)]
        exact q
      · rw [upd_ne (ne_of_none q na)]
        exact q
  have fin := I.call (ch := []) (h' := s1.heap) (g' := s1.gens) (t' := s1.toks) (d' := s1.drawn) un hk2 ag (fun _ z => nomatch z)
  obtain ⟨p1, p2, p3, p4, p5⟩ := s1
  have e5 : p5 = s0.os := os
  subst e5
  exact fin
theorem suiteOf {a : Addr} {s : Shared} (I : Inv X pins σ H s) : Inv (X.suite a (X.pn ++ pins)) [] σ H s where
  ok := I.ok.suite _ _
  os := I.os
  bare := I.bare
  base := I.base
  loc := I.loc
  cell := I.cell
  free := I.free
  freeC := I.freeC
  pin := fun p hp => I.pin p (by
    have hp' : p ∈ (X.pn ++ pins) ++ [] := hp
    rwa [List.append_nil] at hp')
  hok := I.hok
  len := I.len
theorem ofSuite {a : Addr} {s : Shared} {more : List (Addr × Obj)} (ok : X.Ok) (I : Inv (X.suite a (X.pn ++ pins)) more σ H s) : Inv X pins σ H s where
  ok := ok
  os := I.os
  bare := I.bare
  base := I.base
  loc := I.loc
  cell := I.cell
  free := I.free
  freeC := I.freeC
  pin := fun p hp => I.pin p (List.mem_append_left _ hp)
  hok := I.hok
  len := I.len
end
/-- what such a clause wishes of an exception of the body -/
def wTr (K : PySem.W.Frag) (m : Nat) (c : Value) (i : Nat) (ts : Addr → TS) (D : Ends) : WX := fun cls d σ H =>
  PySem.W.exmOne K cls c = some true ∧ ∀ a, σ.length = m → H a = none → ts a { nx := fun σ' H' => D.nx (σ'.set i none) H', rt := D.rt, bk := fun σ' H' => D.bk (σ'.set i none) H', ct := fun σ' H' => D.ct (σ'.set i none) H' }
    (σ.set i (some (.ref a))) (upd H a (ExI a cls d))
section
variable {X : Cx} {x n : Str} {c : Value} {i : Nat} {body suite : List Stmt} {b₀ : Stmt} {np pos pos' : Pos} {tb : WX → TS} {ts : Addr → TS}
/-- try: .. / except x as n: suite; the exception's object is tracked in the suite and behind it -/
theorem ps_tryT (hs : X.stack = X.env :: X.outer) (hf : X.env.frame = some X.env.locals) (hN : X.N.Nodup) (hi : X.N[i]? = some n) (hln : X.env.kindOf n = some .local) (hc : Names X x c)
    (hb : ∀ (W : WX) (pn : List (Addr × Obj)) (xe : Value → Shared → Prop), Takes (X.tr pn xe) W → PassesOwn (model X.prog X.w) X.A X.env xe → PSs (X.tr pn xe) body (tb W))
    (hsu : ∀ (a : Addr) (pn : List (Addr × Obj)), PSs (X.suite a pn) (b₀ :: suite) (ts a)) :
    PS X (.Try body [.ExceptHandler (some (.Name x np)) (some n) (b₀ :: suite) pos'] [] [] pos) (fun D σ H => tb (wTr X.K X.N.length c i ts D) D σ H) := by
  constructor
  intro pins s σ H D I h
  have ok := I.ok
  have hfr : X.A.frames = some (X.env :: X.outer) := by rw [ok.frames, hs]
  refine wpAny_Try_except ?_
  refine wpAny_mono ((hb (wTr X.K X.N.length c i ts D) (X.pn ++ pins)
    (fun e s₁ => wpAny (model X.prog X.w) X.A (noteFrame e X.env) (fun _ s₂ => wpAny (model X.prog X.w) X.A (setFlight e none)
      (fun _ s₃ => wpAny (model X.prog X.w) X.A (handleBy e X.env [.ExceptHandler (some (.Name x np)) (some n) (b₀ :: suite) pos']) (SP X pins D) X.xe s₃) X.xe s₂) X.xe s₁)
    (fun u s' xx => ?kept) PassesOwn.looking).run [] s σ H D (I.toTry _) h) (fun f s1 hsp => ?done) (fun e s1 he => he)
  case kept =>
    obtain ⟨a, B, sI, pins', σ', H', cls, d, rfl, Ja, nb, up, sky, na, os, ag, hcls, hgo⟩ := xx
    have J : Inv X pins σ' H' sI := Ja.ofTry ok
    have nb' : ∀ b o, sI.heap.get? b = some o → b ∉ frs X.stack → B.get? b = some o := nb
    have skyX : Sky B (X.env :: X.outer) a (Zc cls d) X.env.locals s'.heap := by
      rw [← hs]
      exact sky
    refine Sky.land Zc.steady hfr hf skyX ?_
    intro h3 fl3 up3
    obtain ⟨oe3, vs3, g3, z3, d3⟩ := fl3.there
    have n0 : sI.heap.get? a = none := by
      cases q : sI.heap.get? a with
      | none => rfl
      | some o =>
        exfalso
        have hm : a ∈ frs X.stack := by
          refine Classical.byContradiction fun hn => ?_
          have z := nb' a o q hn
          rw [fl3.2.1] at z
          cases z
        rw [hs] at hm
        obtain ⟨_, o', e', hnf⟩ := fl3.2.2.1.mem hm
        rw [g3] at e'
        cases e'
        exact hnf _ d3
    have J3 := landT (a := a) (o := ExI a cls d) (s1 := { s' with heap := h3 }) J nb' fl3.1 (up.trans up3) os ag n0 na (exI_ok g3 z3 d3)
    refine wpAny_handleBy_cons (codeAny_handlers_test ?_) (by intro q; cases q)
    have LT : PySem.W.Looks (model X.prog X.w) h3 (typeOf (.ref a)) cls := by
      intro A Q E s k q
      refine wpAny_typeOf_ref (k _ _ g3) ?_
      rw [z3.1]
      exact q
    have LM := PySem.W.exm_one (M := model X.prog X.w) J3.kIn LT hcls
    have test : ∀ {Q : Value → Shared → Prop} {E : Value → Shared → Prop}, Q c { s' with heap := h3 } →
        wpAny (model X.prog X.w) (X.A.mark (some (.ref a))) (eval (.Name x np) X.env) Q E { s' with heap := h3 } := by
      intro Q E q
      obtain ⟨hg, hdbg, hm | ⟨hm, hv, hnn⟩⟩ := hc
      · exact ld_glob (X := X.suite a (X.pn ++ pins)) (suiteOf J3) hg hm q hdbg
      · exact ld_blt (X := X.suite a (X.pn ++ pins)) (suiteOf J3) hg hm hv q hnn hdbg
    refine test (LM.here ?_)
    refine codeAny_handlers_suite_as ?_
    refine HandSPX.lands_againZ fl3 ?_
    intro h4 fl4 up4
    obtain ⟨oe4, vs4, g4, z4, d4⟩ := fl4.there
    have J4 := landT (a := a) (o := ExI a cls d) (s1 := { s' with heap := h4 }) J nb' fl4.1 ((up.trans up3).trans up4) os ag n0 na (exI_ok g4 z4 d4)
    refine store_ok (X := X.suite a (X.pn ++ pins)) (v := .ref a) (suiteOf J4) hN hi (.inl hln) rfl (fun s5 S5 => ?_) (.inr hln)
    refine wpAny_mono ((hsu a (X.pn ++ pins)).run [] s5 _ _ _ S5 (hgo a J.len na)) (fun f s6 hsp => ?_) (fun _ _ z => z.elim)
    have gone : ∀ {σ6 : L2.St} {H6 : Hp} {R : Shared → Prop}, Inv (X.suite a (X.pn ++ pins)) [] σ6 H6 s6 → (∀ s7, Inv X pins (σ6.set i none) H6 s7 → R s7) →
        wpAny (model X.prog X.w) X.A (do bindName X.env n .none; unbindBehindTheSuite X.env n pos') (fun _ s7 => R s7) X.xe s6 := by
      intro σ6 H6 R S6 hq
      exact gone_ok (ofSuite ok S6) hN hi hln hq
    cases f with
    | next =>
      obtain ⟨σ6, H6, S6, q6⟩ := hsp
      exact gone S6 fun s7 J7 => ⟨_, _, J7, q6⟩
    | brk =>
      obtain ⟨σ6, H6, S6, q6⟩ := hsp
      exact gone S6 fun s7 J7 => ⟨_, _, J7, q6⟩
    | cont =>
      obtain ⟨σ6, H6, S6, q6⟩ := hsp
      exact gone S6 fun s7 J7 => ⟨_, _, J7, q6⟩
    | ret u =>
      obtain ⟨v6, σ6, H6, S6, r6, q6⟩ := hsp
      exact gone S6 fun s7 J7 => ⟨_, _, _, J7, r6, q6⟩
  case done =>
   cases f with
    | next =>
      obtain ⟨σ', H', J', q⟩ := hsp
      exact wpAny_execs_nil ⟨σ', H', J'.ofTry ok, q⟩
    | brk =>
      obtain ⟨σ', H', J', q⟩ := hsp
      exact ⟨σ', H', J'.ofTry ok, q⟩
    | cont =>
      obtain ⟨σ', H', J', q⟩ := hsp
      exact ⟨σ', H', J'.ofTry ok, q⟩
    | ret u =>
      obtain ⟨v, σ', H', J', r, q⟩ := hsp
      exact ⟨v, σ', H', J'.ofTry ok, r, q⟩
end
/-! ### isinstance of such an exception -/
theorem call_isX {X : Cx} {D : Addr} (C : ExcC X.K D) : CallR X (.builtin "isinstance") (fun xs H Q => ∃ (a : Addr) (c : V) (cv : Value) (b : Bool), xs = [.ref a, c] ∧ H a = some (ExI a (.ref D) none) ∧ (∀ u, RelV c u → u = cv) ∧ PySem.W.kitOne X.K (.ref D) cv = some b ∧ Q (.bl b) H) := by
  intro pins s σ H xs us Q I r h
  obtain ⟨a, c, cv, b, rfl, ha, hcv, e, q⟩ := h
  cases r with
  | cons rx rr =>
    cases rr with
    | cons rt rr =>
      cases rr
      cases rx
      have ec := hcv _ rt
      subst ec
      obtain ⟨⟨oe, hget, hz, vs, hv⟩, _, _⟩ := I.hok a _ ha
      have J : PySem.W.InstAt s.heap a oe D none := by
        obtain ⟨oc, od, oda, osl⟩ := oe
        obtain ⟨h1, h2⟩ := hz
        dsimp only at h1 h2 hv
        subst h1 h2 hv
        exact ⟨hget, rfl, rfl, trivial⟩
      exact PySem.W.kia_one (PySem.W.handS_kitx_exc C.hg C.hk C.hs C.hd C.ha C.hn C.ht C.hm) I.kIn J e (fun z => nomatch z)
        (fun tk => ⟨.bl b, H, I.kept (t' := tk) (fun _ _ z => z), rfl, q⟩)
end Lm
/-! An own exception whose __init__ says super().__init__(f"..") and keeps one field. -/
namespace Lm
open PySem PySem.Spec PyProof.Rows L2
/-! ### {x!r} of None or an int -/
def tFmtN (te : TE) : TE := fun σ H Q => te σ H fun x H1 => (x = .non ∧ Q (.str "None") H1) ∨ ∃ i : Int, x = .int i ∧ i.natAbs.log2 < 1920 ∧ Q (.str (toString i)) H1
theorem pe_fmtN {X : Cx} {e : Expr} {te : TE} {pos : Pos} (he : PE X e te) : PE X (.FormattedValue e 114 none pos) (tFmtN te) := by
  refine ⟨fun pins s σ H Q I h => ?_⟩
  refine wpAny_FormattedValue_repr (thn (he.run pins s σ H _ I h) fun v s1 hv => ?_)
  obtain ⟨x, H1, I1, r1, q⟩ := hv
  rcases q with ⟨rfl, q⟩ | ⟨i, rfl, hz, q⟩
  · obtain rfl : v = Value.none := r1
    exact pyReprObj_none (wpAny_formatField_str ⟨.str "None", H1, I1.tok _, ⟨_, rfl⟩, q⟩ ⟨.str "None", H1, I1.tok _, ⟨_, rfl⟩, q⟩ (by decide +kernel))
  · obtain ⟨t, rfl⟩ := r1
    exact pyReprObj_int hz (wpAny_formatField_str ⟨.str (toString i), H1, I1.tok _, ⟨_, rfl⟩, q⟩ ⟨.str (toString i), H1, I1.tok _, ⟨_, rfl⟩, q⟩ (int_text_fits hz))
theorem lk_cons {α : Type} (k y : Str) (v : α) (r : List (Str × α)) : ((k, v) :: r).lookup y = if y = k then some v else r.lookup y := by
  by_cases h : y = k
  · rw [if_pos h]
    simp [List.lookup, h]
  · rw [if_neg h]
    have : (y == k) = false := by simpa using h
    simp [List.lookup, this]
theorem lk_nil {α : Type} (y : Str) : ([] : List (Str × α)).lookup y = none := rfl
/-! ### the frame of such an __init__ -/
/-- what the written part says of the def -/
structure InitAt (P : Program) (K : PySem.W.Frag) (mg : Str → Option Value) (C : Addr) (st : Stmt) (fI : Addr) (fd : FuncData) : Prop where
  ex : ∃ (oc : Value) (od : Option Addr) (kV doc pm : Value) (an : Option Addr) (cda cc : Addr) (ct : Value) (osl : Array (Option Value)) (qual : Str),
    fd = PySem.W.ksFn "__init__" qual (defArgs st) (defBody st) (defScope st) .none kV doc pm an (.ref cda) ct cc ∧ K.lookup fI = some ⟨oc, od, .func fd, osl⟩ ∧ PySem.W.codeIn K (.ref cda) qual = true ∧
    (∃ (ccl : Value) (cdd : Option Addr) (vs : Array Value) (ccs : Array (Option Value)) (file : Str) (tf : Tok), K.lookup cda = some ⟨ccl, cdd, .fields vs, ccs⟩ ∧ vs[2]? = some (.str file tf) ∧ ((P.main.file : Str) == file) = true) ∧
    ∃ (cl : Value) (cld : Option Addr) (csl : Array (Option Value)), K.lookup cc = some ⟨cl, cld, .cell (some (.ref C)), csl⟩
  cls : ∃ cd, PySem.W.clsIn K C = some cd
  self : PySem.W.mroIn K C (.ref C) = some true
  sup : mg "super" = none
  top : (P.main.scope.names.lookup ("super" : Str)).isSome = false
  along : PySem.W.ks_superIn K C C "__init__" = some (some (.builtin "ValueError.__init__"))
  isV : PySem.W.subIn K (.ref C) (.type "ValueError") = some true
  opq : PySem.W.nsIn K cStatics "thirdparty.any" = some none
  oex : OexC K C
/-- the context in which its body runs -/
def cxI (P : Program) (w : World) (K : PySem.W.Frag) (mg : Str → Option Value) (base : Heap) (N : List Str) (qual : Str) (scope : Scope) (f : Addr) (cd : Value) (cc : Addr) (A : Around) (outer : List Env) (s : Shared) (H : Hp) (xe : Value → Shared → Prop) : Cx where
  prog := P
  w := w
  K := K
  mg := mg
  base := base
  A := A.deeper (PySem.W.ksEnv qual scope s.heap.objs.size f cd cc)
  N := N
  s_0 := s
  H_0 := H
  env := PySem.W.ksEnv qual scope s.heap.objs.size f cd cc
  outer := outer
  stack := PySem.W.ksEnv qual scope s.heap.objs.size f cd cc :: outer
  ex := []
  calm := true
  fn := fun _ => false
  pn := []
  xe := xe
def nInit (x : Str) : List Str := ["self", x]
def scI (x : Str) : Scope := { kind := .function, names := [("self", .local), (x, .local), ("__class__", .free), ("super", .globalImplicit)], isGenerator := false, isCoroutine := false, more := [] }
section
variable {P : Program} {w : World} {K : PySem.W.Frag} {mg : Str → Option Value} {base : Heap}
theorem inv_init {x qual : Str} {f cc C : Addr} {cd : Value} {A : Around} {outer : List Env} {s : Shared} {H : Hp} {xe : Value → Shared → Prop} {u0 u1 : Value} {v0 v1 : V} {h₀ : Heap} {oc : Value} {od : Option Addr} {osl : Array (Option Value)}
    (hx : (x == ("self" : Str)) = false ∧ (x == ("__class__" : Str)) = false ∧ (x == ("super" : Str)) = false) (hd : A.handled = none) (e0 : Env0 P w K mg base A outer s H) (hcc : K.lookup cc = some ⟨oc, od, .cell (some (.ref C)), osl⟩)
    (r0 : RelV v0 u0) (r1 : RelV v1 u1) (ns : h₀.Ns s.heap.objs.size (fun y => ([("self", u0), (x, u1)] : List (Str × Value)).reverse.lookup y)) (hk : ∀ b o, s.heap.get? b = some o → h₀.get? b = some o) (t : Nat) :
    Inv (cxI P w K mg base (nInit x) qual (scI x) f cd cc A outer s H xe) [] [some v0, some v1] H { s with heap := h₀, toks := t } := by
  have KX : K.In s.heap := e0.mod.kin.keeps fun b o e => (e0.bs b o e).1
  have noA : ∀ b : Addr, b ∉ (cxI P w K mg base (nInit x) qual (scI x) f cd cc A outer s H xe).ex := fun b z => absurd (show b ∈ ([] : List Addr) from z) (by simp)
  have cells : ∀ y c, (cxI P w K mg base (nInit x) qual (scI x) f cd cc A outer s H xe).env.cells.lookup y = some c → y = ("__class__" : Str) ∧ c = cc := fun y c h => by
    have h : ([(("__class__" : Str), cc)] : List (Str × Addr)).lookup y = some c := h
    rw [lk_cons] at h
    by_cases e : y = ("__class__" : Str)
    · rw [if_pos e] at h
      exact ⟨e, (Option.some.inj h).symm⟩
    · rw [if_neg e] at h
      cases h
  have hccb : H cc = none := (e0.bs cc _ (e0.mod.kin _ _ hcc)).2
  refine ⟨⟨e0.mod, rfl, rfl, rfl, Nat.le_refl _, fun y z c h1 h2 => ?_, fun y hy => ?_, fun y c h => ?_, fun _ => hd, Around.frames_deeper e0.frames, .inr ⟨rfl, rfl⟩, fun b z => absurd z (noA b), e0.bs, e0.bsz, fun b _ _ => noA b, fun b z => absurd z (noA b), e0.funs, e0.frf⟩,
    rfl, e0.bare, Un.kept hk, ⟨_, ns, fun i y v h1 h2 h3 => ?_⟩, fun y c h => ?_, e0.hok.fresh (Nat.le_refl _), fun y c h => ?_, fun p hp => absurd (show p ∈ ([] : List (Addr × Obj)) from hp) (by simp), e0.hok.kept hk, rfl⟩
  · rw [(cells y c h1).1, (cells z c h2).1]
  · have hy : ([("self", .local), (x, .local), ("__class__", .free), ("super", .globalImplicit)] : List (Str × NameKind)).lookup y = some .cell ∨ ([("self", .local), (x, .local), ("__class__", .free), ("super", .globalImplicit)] : List (Str × NameKind)).lookup y = some .free := hy
    by_cases e : y = ("__class__" : Str)
    · exact ⟨cc, by rw [e]; rfl⟩
    · exfalso
      rw [lk_cons, lk_cons, lk_cons, lk_cons, lk_nil, if_neg e] at hy
      by_cases e1 : y = ("self" : Str)
      · rw [if_pos e1] at hy
        rcases hy with hy | hy <;> cases hy
      · rw [if_neg e1] at hy
        by_cases e2 : y = x
        · rw [if_pos e2] at hy
          rcases hy with hy | hy <;> cases hy
        · rw [if_neg e2] at hy
          by_cases e3 : y = ("super" : Str)
          · rw [if_pos e3] at hy
            rcases hy with hy | hy <;> cases hy
          · rw [if_neg e3] at hy
            rcases hy with hy | hy <;> cases hy
  · cases h
  · have hx1 : (x == ("self" : Str)) = false := hx.1
    match i, h1, h2 with
    | 0, h1, h2 =>
      have h1 : some ("self" : Str) = some y := h1
      cases h1
      have h2 : some (some v0) = some (some v) := h2
      cases h2
      refine ⟨u0, r0, .inl ⟨rfl, ?_⟩⟩
      have k : ¬ ("self" : Str) = x := fun z => by
        rw [← z] at hx1
        simp at hx1
      show ([(x, u1), ("self", u0)] : List (Str × Value)).lookup ("self" : Str) = some u0
      rw [lk_cons, if_neg k, lk_cons, if_pos rfl]
    | 1, h1, h2 =>
      have h1 : some x = some y := h1
      cases h1
      have h2 : some (some v1) = some (some v) := h2
      cases h2
      refine ⟨u1, r1, .inl ⟨?_, ?_⟩⟩
      · show ([("self", .local), (x, .local), ("__class__", .free), ("super", .globalImplicit)] : List (Str × NameKind)).lookup x = some .local
        rw [lk_cons, lk_cons, if_pos rfl]
        split <;> rfl
      · show ([(x, u1), ("self", u0)] : List (Str × Value)).lookup x = some u1
        rw [lk_cons, if_pos rfl]
    | i + 2, h1, h2 => cases h1
  · obtain ⟨_, rfl⟩ := cells y c h
    exact ⟨_, ⟨_, hk _ _ (KX _ _ hcc), rfl⟩⟩
  · obtain ⟨_, rfl⟩ := cells y c h
    exact hccb
theorem run_on {X : Cx} {pins : List (Addr × Obj)} {σ : L2.St} {H : Hp} {s : Shared} {D : Ends} {st : List Stmt} {t : TS} (I : Inv X pins σ H s) (p : PSs X st t) (q : t D σ H) : wpAny (model X.prog X.w) X.A (execs st X.env) (SP X pins D) X.xe s := p.run pins s σ H D I q
/-- ValueError.__init__, bound to the exception, is called -/
theorem call_mw {A : Around} {E : Value → Shared → Prop} {pins : List (Addr × Obj)} {σ : L2.St} {H : Hp} {s : Shared} {X : Cx} {u a C : Addr} {us : List Value} {Q : Value → Shared → Prop} (T : OexC X.K C) (I : Inv X pins σ H s) (e : H a = some (exo a C none))
    (hu : s.heap.get? u = some (PySem.W.kxs_mw "ValueError.__init__" a)) (hl : us.length ≤ sizeLine) (h : ∀ s', Inv X pins σ H s' → Q .none s') : wpAny (model X.prog X.w) A (call (.ref u) us) Q E s := by
  obtain ⟨nm, q, N, bs, bm, sn, sub, ab, col, dd, k0, k1, k2, k3, k5, hC, hbm⟩ := T.cls
  obtain ⟨t1, ho⟩ := exo_at I.hok e
  have fin : ∀ h', (∀ b o, b ≠ a → s.heap.get? b = some o → h'.get? b = some o) → h'.get? a = some (PySem.W.excRec (.ref C) s.heap.objs.size none .none .none (.bool false)) → Q .none { s with heap := h' } := fun h' k hx => by
    have J := I.write (t' := s.toks) (x := a) (e := a) (o := exo a C none) (by rw [e]; exact True.intro) (.inl rfl) k ⟨_, hx⟩ (exo_ok hx)
    have eu : upd H a (exo a C none) = H := by
      funext b
      by_cases hb : b = a
      · rw [hb, upd_same, e]
      · rw [upd_ne hb]
    rw [eu] at J
    exact h _ J
  have hCk := I.kIn _ _ hC
  obtain ⟨hh, g, d, t, os⟩ := s
  refine wpAny_call (codeAny_of_tree ?_)
  show wpAny _ A.in1 (callAny (.ref u) ⟨us, []⟩) _ _ _
  simp only [callAny]
  refine wpAny_bind (wpAny_load hu ?_)
  have kinds : (Value.type "method-wrapper" == Value.type "method" || Value.type "method-wrapper" == Value.type "builtin_function_or_method" || Value.type "method-wrapper" == Value.type "method-wrapper") = true := by decide
  simp only [PySem.W.kxs_mw, kinds, if_true]
  refine PySem.W.KFB.if_so (by decide) ?_
  refine wpAny_bind (PySem.W.check_bound_init PySem.F.excBase_ValueError.toExcCallFacts hCk ho rfl ?_)
  refine wpAny_bind (wpAny_pure (wpAny_pure ?_))
  refine ⟨plainId_quiet PySem.F.excBase_ValueError.init.plain _, codeAny_builtin PySem.F.excBase_ValueError.initEntry ?_⟩
  exact PySem.W.exc_init_tree (cls := .ref C) (t0 := t1) (dv := none) (c2 := .none) (c3 := .none) (b4 := .bool false) ho hl fun h' k hx _ => fin h' k hx
/-- the def's statements, as their text has them -/
structure InitTxt (st : Stmt) (x : Str) : Prop where
  sc : defScope st = scI x
  body : ∃ (m : Str) (j : Nat) (p0 p1 p2 p3 p4 p5 p6 p7 p8 p9 pa pb pc pd : Pos), defBody st = [
    .Expr (.Call (.Attribute (.Call (.Name "super" p0) [] [] p1) "__init__" p2) [.JoinedStr [.Constant (.str m) j p3, .FormattedValue (.Name x p4) 114 none p5] p6] [] p7) p8,
    .Assign [.Attribute (.Name "self" p9) x pa] (.Name x pb) pc] ∧ m.length ≤ 1000 ∧
    ∀ env, ∃ pl, eval (.Call (.Attribute (.Call (.Name "super" p0) [] [] p1) "__init__" p2) [.JoinedStr [.Constant (.str m) j p3, .FormattedValue (.Name x p4) 114 none p5] p6] [] p7) env = (do
      let ov ← attributeBase (.Call (.Name "super" p0) [] [] p1) "__init__" env (eval (.Call (.Name "super" p0) [] [] p1) env)
      standAt p2.atName
      let (f, first) ← holding [ov] (getMethod ov "__init__" pl)
      callWith p7 f first (backTo p7 (starEach [.JoinedStr [.Constant (.str m) j p3, .FormattedValue (.Name x p4) 114 none p5] p6] env)) [])
  params : (defArgs st).posonlyargs = [] ∧ ∃ a b, (defArgs st).args = [a, b] ∧ a.arg = "self"
/-- what it keeps: the argument in the one field -/
def spInit (K : PySem.W.Frag) (C : Addr) (x : Str) : Sp := fun vs H Q _ => ∃ (a : Addr) (y : V), vs = [.ref a, y] ∧ H a = some (exo a C none) ∧ PySem.W.findIn K (.ref C) x = some none ∧ (y = .non ∨ ∃ i : Int, y = .int i ∧ i.natAbs < 1000) ∧
  ∀ dx, H dx = none → dx ≠ a → Q .non (upd (upd H dx (exd dx [(x, y)])) a (exo a C (some dx)))
theorem ok_init {x : Str} {C fI : Addr} {st : Stmt} {fd : FuncData} (F : InitAt P K mg C st fI fd) (T : InitTxt st x) (hx : (x == ("self" : Str)) = false ∧ (x == ("__class__" : Str)) = false ∧ (x == ("super" : Str)) = false) (hdb : (x == ("__debug__" : Str)) = false ∧ (x == ("__classdict__" : Str)) = false) :
    FnOk P w K mg base CX0 1 fI fd ["self", x] (spInit K C x) := by
  refine ⟨fun vs H Q E h => ?_, fun A outer s H args us vs Q E hr e0 hb r hsp => ?_⟩
  · obtain ⟨a, y, rfl, _⟩ := h
    rfl
  · obtain ⟨a, y, rfl, ha, hno, hy, q⟩ := hsp
    obtain ⟨oc, od, kV, doc, pm, an, cda, cc, ct, osl, qual, rfl, lk, hcd, ⟨ccl, cdd, fs, ccs, file, tf, lcd, hfs, hfile⟩, cl, cld, csl, lcc⟩ := F.ex
    obtain ⟨cd, hcls⟩ := F.cls
    obtain ⟨m, j, p0, p1, p2, p3, p4, p5, p6, p7, p8, p9, pa, pb, pc, pd, hbody, hm, hev⟩ := T.body
    have hsc := T.sc
    have hpar := T.params
    have hself := F.self
    have hsup := F.sup
    have htop := F.top
    have halong := F.along
    have hisV := F.isV
    have hopq := F.opq
    have hoex := F.oex
    clear F T
    generalize defScope st = sc at *
    generalize defBody st = bd at *
    subst hsc hbody
    have KX : K.In s.heap := e0.mod.kin.keeps fun b o e => (e0.bs b o e).1
    have lim : s.heap.NoLimit := e0.mod.nolimit.keeps fun b o e => (e0.bs b o e).1
    match us, r with
    | [u0, u1], .cons r0 (.cons r1 .nil) =>
    obtain rfl : u0 = Value.ref a := r0
    refine ks_codeAny_call_defAt (binds := [("self", .ref a), (x, u1)]) hr.depth (KX _ _ lk) rfl lim (PySem.W.codeRec_of KX hcd) rfl hb ?_ ?_ (fun h₀ ns hk => ?_)
    · intro z hz
      have hz : z ∈ ([("self", .local), (x, .local), ("__class__", .free), ("super", .globalImplicit)] : List (Str × NameKind)) := hz
      simp at hz
      rcases hz with rfl | rfl | rfl | rfl <;> (intro e; cases e)
    · intro z hz
      have hz : z = (("self" : Str), Value.ref a) ∨ z = (x, u1) := by simpa using hz
      show ([("self", .local), (x, .local), ("__class__", .free), ("super", .globalImplicit)] : List (Str × NameKind)).lookup z.1 = some .local
      rcases hz with rfl | rfl
      · rw [lk_cons, if_pos rfl]
      · rw [lk_cons, lk_cons, if_pos rfl]
        split <;> rfl
    · have I := inv_init (qual := qual) (f := fI) (cd := .ref cda) (A := A) (outer := outer) (xe := fun e s' => wpAny (model P w) (A.deeper (PySem.W.ksEnv qual (scI x) s.heap.objs.size fI (.ref cda) cc)) (leaving (PySem.W.ksEnv qual (scI x) s.heap.objs.size fI (.ref cda) cc) e)
          (fun _ s'' => CR CX0 outer P w H s Q E (.error e) s'') (fun e' s'' => CR CX0 outer P w H s Q E (.error e') s'') s') hx hr.hd e0 lcc (v0 := .ref a) (u0 := .ref a) rfl r1 ns hk (s.toks + 2)
      have kS : (scI x).names.lookup ("super" : Str) = some .globalImplicit := by
        show ([("self", .local), (x, .local), ("__class__", .free), ("super", .globalImplicit)] : List (Str × NameKind)).lookup ("super" : Str) = some .globalImplicit
        rw [lk_cons, if_neg (by decide), lk_cons, if_neg (fun z => by rw [← z] at hx; simp at hx), lk_cons, if_neg (by decide), lk_cons, if_pos rfl]
      have kC : (scI x).names.lookup ("__class__" : Str) = some .free := by
        show ([("self", .local), (x, .local), ("__class__", .free), ("super", .globalImplicit)] : List (Str × NameKind)).lookup ("__class__" : Str) = some .free
        rw [lk_cons, if_neg (by decide), lk_cons, if_neg (fun z => by rw [← z] at hx; simp at hx), lk_cons, if_pos rfl]
      have kA : (scI x).names.lookup ("self" : Str) = some .local := rfl
      obtain ⟨hpos, ar, ar2, hargs, hself'⟩ := hpar
      obtain ⟨oD, hD1, hD2⟩ : ∃ oD, h₀.get? C = some oD ∧ oD.data = .cls cd := by
        unfold PySem.W.clsIn at hcls
        split at hcls
        · rename_i c0 d0 cd' sl ho
          cases hcls
          exact ⟨_, hk _ _ (KX _ _ ho), rfl⟩
        · cases hcls
      obtain ⟨t1, hxo⟩ := exo_at I.hok ha
      obtain ⟨pl, hev⟩ := hev (PySem.W.ksEnv qual (scI x) s.heap.objs.size fI (.ref cda) cc)
      refine ks_wpAt_execs_cons (ks_wpAt_Expr_any (ks_wpAt_MethodCall ?_ hev))
      · refine ks_wpAt_super_base (env := PySem.W.ksEnv qual (scI x) s.heap.objs.size fI (.ref cda) cc) (ar := ar) kS kC (by rfl) rfl (hk _ _ (KX _ _ lk)) rfl ?_ rfl (hk _ _ (KX _ _ lcd)) rfl hfs hfile htop ?_
        · show ((defArgs st).posonlyargs ++ (defArgs st).args).head? = some ar
          rw [hpos, hargs]
          rfl
        · obtain ⟨mb, b1, b2⟩ := e0.mod.blt
          refine PySem.W.ks_loadName_global rfl kS (Calls.loadGlobal_builtin (env := PySem.W.ksEnv qual (scI x) s.heap.objs.size fI (.ref cda) cc) (e0.mod.glob.keeps I.bk) hsup (b1.keeps I.bk) ((b2 "super" (by decide)).trans (by decide +kernel)) ⟨rfl, ?_⟩)
          refine wpAny_loadName_free rfl kC rfl ⟨_, hk _ _ (KX _ _ lcc), rfl⟩ ?_
          refine wpAny_loadName_local rfl (by rw [hself']; exact kA) ns (v := .ref a) ?_ ?_
          · rw [hself']
            show ([(x, u1), ("self", .ref a)] : List (Str × Value)).lookup ("self" : Str) = some (.ref a)
            rw [lk_cons, if_neg (fun z => by rw [← z] at hx; simp at hx), lk_cons, if_pos rfl]
          refine ks_wpAny_isType_cls hD1 hD2 ⟨rfl, ?_⟩
          refine ks_wpAny_call_super hD1 hD2 hxo rfl (fun c e => by cases e) (PySem.W.looks_mroIn I.kIn hself) (fun h2 hso hk2 => ?_)
          have I2 := I.kept (t' := s.toks + 2) hk2
          have hx2 := hk2 _ _ hxo
          have J2 : PySem.W.InstAt h2 a { cls := .ref C, dict := none, data := .fields #[.ref t1, .none, .none, .none, .bool false, .none] } C none := ⟨hx2, rfl, rfl, trivial⟩
          have along : PySem.W.alongIn K "__init__" ((cd.mro.dropWhile (· != .ref C)).drop 1) = some (some (.builtin "ValueError.__init__")) := by
            unfold PySem.W.ks_superIn at halong
            rw [hcls] at halong
            exact halong
          refine PySem.W.kxs_getMethod PySem.W.kxs_ValueError hso (PySem.W.looks_opaque I2.kIn hopq) (fun A Q E s k q => wpAny_bind ((PySem.W.looks_clsIn I2.kIn hcls) A _ E s k (wpAny_pure q))) rfl I2.kIn along (J2.type.andThen (PySem.W.looks_subIn I2.kIn hisV)) (PySem.W.ks_ne I2.kIn J2 hcls) (by decide) ?_
          have I3 := (I2.kept (t' := s.toks + 2 + 1) fun b o e => Heap.get?_push_of_some (PySem.W.kxs_mw "ValueError.__init__" a) e).pins_of (pins' := [(h2.objs.size, PySem.W.kxs_mw "ValueError.__init__" a)]) fun p hp => by
            rw [List.mem_singleton.mp hp]
            refine ⟨Heap.get?_push_size _ rfl, I2.hok.fresh (Nat.le_refl _), ?_, I2.nofs (Nat.le_refl _), fun v z => by cases z⟩
            exact Nat.ne_of_gt I2.lt
          have vx : Vis (scI x) x := .inl (by
            show ([("self", .local), (x, .local), ("__class__", .free), ("super", .globalImplicit)] : List (Str × NameKind)).lookup x = some .local
            rw [lk_cons, lk_cons, if_pos rfl]
            split <;> rfl)
          refine PySem.W.kxs_callWith (i := "ValueError.__init__") (x := a) rfl (PySem.Calls.evalArgs_plain ?_)
          refine thn ((pa_cons (pe_joined (.cons pe_str (.cons (pe_fmtN (pv 1 rfl vx hdb.1 hdb.2)) .nil))) pa_nil).run p7 [(h2.objs.size, PySem.W.kxs_mw "ValueError.__init__" a)] _ [some (.ref a), some y] H (fun vs H1 => vs.length = 1 ∧ H1 = H) I3 ?_) fun us s4 hus => ?_
          · have fits : ∀ z : Str, z.length ≤ 5000 → (Str.empty ++ m ++ z).length ≤ sizeLine := fun z hz => by
              rw [Str.length_append, Str.length_append, sizeLine_eq]
              have : Str.empty.length = 0 := rfl
              omega
            refine ⟨m, rfl, ?_, ?_⟩
            · have := fits "" (by decide +kernel)
              rw [Str.length_append] at this
              exact Nat.le_trans (Nat.le_add_right _ _) this
            · rcases hy with rfl | ⟨i, rfl, hi⟩
              · exact ⟨_, rfl, .inl ⟨rfl, _, rfl, fits _ (by decide +kernel), rfl, rfl⟩⟩
              · refine ⟨_, rfl, .inr ⟨i, rfl, ?_, _, rfl, fits _ ?_, rfl, rfl⟩⟩
                · by_cases h0 : i.natAbs = 0
                  · rw [h0]
                    decide
                  · have : i.natAbs.log2 < 10 := (Nat.log2_lt h0).mpr (by omega)
                    omega
                · have := int_text_length_le10 (a := i) (k := 4) (by decide) (by omega)
                  rw [PySem.ofString_length]
                  omega
          · obtain ⟨vs, H1, I4, r4, hl4, rfl⟩ := hus
            have pin := I4.pin _ (List.mem_append_right _ (List.mem_singleton.mpr rfl))
            refine ⟨pin.1, call_mw hoex I4 ha pin.1 ?_ fun s5 I5 => ?_⟩
            · show us.length ≤ sizeLine
              rw [← r4.length, hl4]
              decide
            · have I6 := (I5.pins_of (pins' := []) (fun _ z => nomatch z))
              have st := run_on (D := { nx := fun _ H' => Q .non H', rt := Q }) (st := [.Assign [.Attribute (.Name "self" p9) x pa] (.Name x pb) pc]) I6 (pss_one (ps_ost (pv 0) (pv 1 rfl vx hdb.1 hdb.2))) ⟨y, rfl, .ref a, rfl, a, C, rfl, hoex, hno, .inl ⟨ha, q⟩⟩
              refine wpAt_of_wpAny (wpAny_mono st (fun fl s6 hs => ?_) fun _ _ z => z)
              cases fl with
              | next =>
                obtain ⟨σ', H', J, qq⟩ := hs
                exact ⟨.non, H', J.os, J.bare, J.base, J.hok, rfl, qq⟩
              | ret u =>
                obtain ⟨v, σ', H', J, rv, qq⟩ := hs
                exact ⟨v, H', J.os, J.bare, J.base, J.hok, rv, qq⟩
              | brk =>
                obtain ⟨_, _, _, qq⟩ := hs
                exact False.elim qq
              | cont =>
                obtain ⟨_, _, _, qq⟩ := hs
                exact False.elim qq
end
end Lm
/-! repr of a list of data. -/
namespace Lm
open PySem PySem.Spec PyProof.Rows L2
theorem repr_list {prog : Program} {w : World} {A : Around} {E : Value → Shared → Prop} {s : Shared} {a : Addr} {oa : Obj} {x : Value} {l : List Value} {n : Nat} {as : List Addr} {ds : List PyData} {Q : Value → Shared → Prop}
    (ha : s.heap.get? a = some oa) (hc : oa.cls = .type "list") (hd : oa.data = .seq (x :: l).toArray n) (hr : ReadsAll s.heap (x :: l) ds as) (hs : PyData.showableAll ds = true) (hnd : PyData.hasDictAll ds = false)
    (hz : (listText (PyData.shownAll ds)).length ≤ sizeLine) (hg : A.guards = some []) (hu : A.units + (PyData.depthAll ds + 8) < cLine)
    (hQ : ∀ h' u tk, (∀ b o, s.heap.get? b = some o → h'.get? b = some o) → Q (.str (listText (PyData.shownAll ds)) u) { s with heap := h', toks := tk }) :
    wpAny (model prog w) A (call (.builtin "repr") [.ref a]) Q E s := by
  obtain ⟨bs, hb, hk⟩ := ReprAllK.of_readsAll (prog := prog) (w := w) hr hs (fun z => by rw [hnd] at z; cases z) (fun t ht => Nat.le_trans (listText_mem_le ht) hz)
  have r : Reads s.heap (.ref a) (.list ds) _ := .list ha hc hd hr
  have hna : a ∉ bs := not_mem_of_deeper r (by simp only [PyData.depth]; omega) hb
  have hT : s.TypeIs (.ref a) "list" := ⟨oa, ha, hc⟩
  refine Calls.call_function_entry F.kind_repr F.plain_repr F.entry_repr (F.args_repr1 _) ?_
  unfold Builtin.«repr»
  refine wpAny_bind (m := oneArg "repr" _) (wpAny_pure ?_)
  refine wpAny_bind (wpAny_cRoomFor (by show A.units + 1 < _; omega) ?_)
  refine wpAny_bind (wpAny_specialOf (name := Str.ofString "__repr__") hT PySem.F.slot_list_repr.lookup ?_)
  refine wpAny_bind (m := callSpecialIfBound? (.ref a) (Str.ofString "__repr__")) (wpAny_callSpecialIfBound?_slot (name := Str.ofString "__repr__") hT PySem.F.slot_list_repr
    (call_list_reprK ha hc hd hna (by simpa using hk.length_eq) (fun i y e => hk.item i y (by simpa using e)) (g := []) (by simpa using hg) (fun b _ => Clear.nil b) (by show A.units + 1 + _ < _; omega) (fun b o e => e) (fun h' u tk hk => ?_) hz))
  refine wpAny_bind (wpAny_isInstance (T := "str") (b := true) rfl isSubtype_str_str ?_)
  exact wpAny_pure ⟨_, rfl, hQ h' u tk hk⟩
end Lm
/-! A def at hand by its name; the state of the draws; data that the draws leave as they are. -/
namespace Lm
open PySem PySem.Spec PyProof.Rows L2
/-- the def named x keeps its promise -/
def Has (P : Program) (w : World) (K : PySem.W.Frag) (mg : Str → Option Value) (base : Heap) (CX : CXT) (k : Nat) (x : Str) (ps : List Str) (sp : Sp) : Prop :=
  ∃ (f : Addr) (fd : FuncData), mg x = some (.ref f) ∧ PySem.W.keepIn K (.ref f) = true ∧ L2.Binds K fd ps [] ∧ FnOk P w K mg base CX k f fd ps sp
theorem Has.imp {P : Program} {w : World} {K : PySem.W.Frag} {mg : Str → Option Value} {base : Heap} {CX : CXT} {k : Nat} {x : Str} {ps : List Str} {sp sp' : Sp} (h : Has P w K mg base CX k x ps sp) (i : ∀ vs H Q E, sp' vs H Q E → sp vs H Q E) : Has P w K mg base CX k x ps sp' := by
  obtain ⟨f, fd, a, b, c, d⟩ := h
  exact ⟨f, fd, a, b, c, d.imp i⟩
def tH (sp : Sp) (E : XK) (t : TA) : TE := fun σ H Q => t σ H fun vs H1 => sp vs H1 Q E
def tHK (ks : List Str) (gV : List V → List V) (sp : Sp) (E : XK) (tk : TA) : TE := fun σ H Q => tk σ H fun zs H1 => zs.length = ks.length ∧ sp (gV zs) H1 Q E
section
variable {X : Cx} {CX : CXT} {x : Str} {ps : List Str} {sp : Sp} {E : XK} {j k : Nat} {p pos : Pos} {e : Expr} {es : List Expr} {t : TA}
theorem pe_h (c : Has X.prog X.w X.K X.mg X.base CX k x ps sp) (hr : Room j X.A) (hk : k ≤ j) (hg : Gl X x) (hx : Passes CX X E) (ha : PA X (e :: es) t) (hdb : (x == ("__debug__" : Str)) = false := by decide)
    (he : starEach (e :: es) X.env = (false, eval e X.env) :: starEach es X.env := by rfl) (hpl : (backTo pos (starEach es X.env)).any (·.1) = false := by rfl) : PE X (.Call (.Name x p) (e :: es) [] pos) (tH sp E t) := by
  obtain ⟨f, fd, hm, kp, b, F⟩ := c
  constructor
  intro pins s σ H Q I h
  have h : t σ H fun vs H1 => sp vs H1 Q E := h
  refine (pe_call F (hr.mono hk) hg hm kp b .nil hx ha hdb he hpl).run pins s σ H Q I ?_
  show t σ H fun vs H1 => sp (vs ++ []) H1 Q E
  simpa using h
end
/-- a def that is called by keywords alone -/
def HasK (P : Program) (w : World) (K : PySem.W.Frag) (mg : Str → Option Value) (base : Heap) (CX : CXT) (k : Nat) (x : Str) (ps ks : List Str) (gV : List V → List V) (sp : Sp) : Prop :=
  ∃ (f : Addr) (fd : FuncData) (g : List Value → List Value → List Value), mg x = some (.ref f) ∧ PySem.W.keepIn K (.ref f) = true ∧ KBn K fd ps 0 ks g (fun _ zs => gV zs) ∧ FnOk P w K mg base CX k f fd ps sp
section
variable {X : Cx} {CX : CXT} {x : Str} {ps ks : List Str} {sp : Sp} {E : XK} {j k : Nat} {p pos : Pos} {kws : List Keyword} {tk : TA} {gV : List V → List V}
theorem pe_hK (c : HasK X.prog X.w X.K X.mg X.base CX k x ps ks gV sp) (hr : Room j X.A) (hk : k ≤ j) (hg : Gl X x) (hx : Passes CX X E) (hkw : PK X kws tk)
    (hall : (backToKw pos (keywordEach kws X.env)).all (·.1.isSome) = true := by rfl) (hks : (backToKw pos (keywordEach kws X.env)).filterMap (·.1) = ks := by rfl)
    (hpl : ((backTo pos (starEach [] X.env)).any (·.1) || (backToKw pos (keywordEach kws X.env)).any (·.1.isNone)) = false := by rfl) (hdb : (x == ("__debug__" : Str)) = false := by decide) :
    PE X (.Call (.Name x p) [] kws pos) (tHK ks gV sp E tk) := by
  obtain ⟨f, fd, g, hm, kp, b, F⟩ := c
  constructor
  intro pins s σ H Q I h
  have h : tk σ H fun zs H1 => zs.length = ks.length ∧ sp (gV zs) H1 Q E := h
  refine wpAny_Call_Name_kw (ld_glob I hg hm ?_ hdb)
  refine PySem.W.callWith_KW0 (h₀ := X.base) I.ok.mod.kin kp hall ?_ hpl
  refine thn (hkw.run pos pins s σ H _ I h) ?_
  intro ws s2 ⟨zs, H2, I2, rz, l2, q2⟩
  refine ⟨I2.kIn, ?_⟩
  rw [hks]
  exact run_fnN (us := []) (vs := []) F (hr.mono hk) b hx I2 .nil rz rfl l2 q2
end
/-! ### the state of the draws -/
structure DrA where
  d : Addr
  w : Addr
  c : Addr
def drF (D : DrA) (r t : Int) : List (Key × V) := [(.inr "wide", .ref D.w), (.inr "cells", .ref D.c), (.inr "rest", .int r), (.inr "turn", .int t)]
/-- the state stands, and at most n turns were taken -/
def DrawAt (D : DrA) (n : Nat) (H : Hp) : Prop := ∃ (ws cs : List Int) (r t : Int), H D.d = some (.dK (drF D r t)) ∧ H D.w = some (.lst (ws.map V.int)) ∧ H D.c = some (.lst (cs.map V.int)) ∧ ((∀ x ∈ cs, 0 ≤ x ∧ x < 2147483629) ∧ D.c ≠ D.w) ∧ 0 ≤ t ∧ t ≤ (n : Int)
theorem DrawAt.mono {D : DrA} {n m : Nat} {H : Hp} (h : DrawAt D n H) (l : n ≤ m) : DrawAt D m H := by
  obtain ⟨ws, cs, r, t, h1, h2, h3, h4, h5, h6⟩ := h
  exact ⟨ws, cs, r, t, h1, h2, h3, h4, h5, by omega⟩
theorem DrawAt.same {D : DrA} {n : Nat} {H H' : Hp} (h : DrawAt D n H) (s : ∀ b o, H b = some o → (∀ ps, o ≠ .tbl ps) → H' b = some o) : DrawAt D n H' := by
  obtain ⟨ws, cs, r, t, h1, h2, h3, h4, h5, h6⟩ := h
  exact ⟨ws, cs, r, t, s _ _ h1 (fun _ z => by cases z), s _ _ h2 (fun _ z => by cases z), s _ _ h3 (fun _ z => by cases z), h4, h5, h6⟩
/-- all but the state stands -/
def Fr (D : DrA) (H H' : Hp) : Prop := ∀ b o, H b = some o → b ≠ D.d → b ≠ D.w → H' b = some o
theorem Fr.refl (D : DrA) (H : Hp) : Fr D H H := fun _ _ h _ _ => h
theorem Fr.trans {D : DrA} {H H1 H2 : Hp} (a : Fr D H H1) (b : Fr D H1 H2) : Fr D H H2 := fun c o h n1 n2 => b c o (a c o h n1 n2) n1 n2
theorem Fr.of {D : DrA} {H H' : Hp} (a : Same H H') : Fr D H H' := fun c o h _ _ => a c o h
theorem same_upd {H : Hp} {p : Addr} {o : HO} (h : H p = none) : Same H (upd H p o) := by
  intro b x e
  rw [upd_ne (ne_of_none e h)]
  exact e
theorem drF_rest (D : DrA) (r t : Int) : valV (drF D r t) (.inr "rest") = some (.int r) := rfl
theorem drF_turn (D : DrA) (r t : Int) : valV (drF D r t) (.inr "turn") = some (.int t) := rfl
theorem drF_wide (D : DrA) (r t : Int) : valV (drF D r t) (.inr "wide") = some (.ref D.w) := rfl
theorem drF_cells (D : DrA) (r t : Int) : valV (drF D r t) (.inr "cells") = some (.ref D.c) := rfl
theorem drF_putR (D : DrA) (r t z : Int) : putK (drF D r t) (.inr "rest") (.int z) = drF D z t := rfl
theorem drF_putT (D : DrA) (r t z : Int) : putK (drF D r t) (.inr "turn") (.int z) = drF D r z := rfl
def B : Nat := 70368744177664
/-! ### data apart from the state -/
mutual
inductive Da (D : DrA) (H : Hp) : V → PyData → Prop
  | non : Da D H .non .none
  | bl (b : Bool) : Da D H (.bl b) (.bool b)
  | int (i : Int) : Da D H (.int i) (.int i)
  | str (x : Str) : Da D H (.str x) (.str x)
  | lst {a : Addr} {xs : List V} {ds : List PyData} : H a = some (.lst xs) → a ≠ D.d → a ≠ D.w → DaAll D H xs ds → Da D H (.ref a) (.list ds)
  | tup {a : Addr} {xs : List V} {ds : List PyData} : H a = some (.tup xs) → a ≠ D.d → a ≠ D.w → DaAll D H xs ds → Da D H (.ref a) (.tuple ds)
  | emp {a : Addr} : H a = some (.dK []) → a ≠ D.d → a ≠ D.w → Da D H (.ref a) (.dict [])
inductive DaAll (D : DrA) (H : Hp) : List V → List PyData → Prop
  | nil : DaAll D H [] []
  | cons {v : V} {vs : List V} {d : PyData} {ds : List PyData} : Da D H v d → DaAll D H vs ds → DaAll D H (v :: vs) (d :: ds)
end
/-- all but the state, and but the tables, stands -/
def FrT (D : DrA) (H H' : Hp) : Prop := ∀ b o, H b = some o → b ≠ D.d → b ≠ D.w → (∀ ps, o ≠ .tbl ps) → H' b = some o
theorem FrT.refl (D : DrA) (H : Hp) : FrT D H H := fun _ _ h _ _ _ => h
theorem FrT.trans {D : DrA} {H H1 H2 : Hp} (a : FrT D H H1) (b : FrT D H1 H2) : FrT D H H2 := fun c o h n1 n2 n3 => b c o (a c o h n1 n2 n3) n1 n2 n3
theorem Fr.t {D : DrA} {H H' : Hp} (a : Fr D H H') : FrT D H H' := fun c o h n1 n2 _ => a c o h n1 n2
mutual
theorem Da.fr {D : DrA} {H H' : Hp} (f : FrT D H H') : ∀ {d : PyData} {v : V}, Da D H v d → Da D H' v d
  | _, _, .non => .non
  | _, _, .bl b => .bl b
  | _, _, .int i => .int i
  | _, _, .str x => .str x
  | _, _, .lst h n1 n2 ha => .lst (f _ _ h n1 n2 (fun _ z => by cases z)) n1 n2 (DaAll.fr f ha)
  | _, _, .tup h n1 n2 ha => .tup (f _ _ h n1 n2 (fun _ z => by cases z)) n1 n2 (DaAll.fr f ha)
  | _, _, .emp h n1 n2 => .emp (f _ _ h n1 n2 (fun _ z => by cases z)) n1 n2
theorem DaAll.fr {D : DrA} {H H' : Hp} (f : FrT D H H') : ∀ {ds : List PyData} {vs : List V}, DaAll D H vs ds → DaAll D H' vs ds
  | _, _, .nil => .nil
  | _, _, .cons h ha => .cons (Da.fr f h) (DaAll.fr f ha)
end
theorem DaAll.length {D : DrA} {H : Hp} : ∀ {ds : List PyData} {vs : List V}, DaAll D H vs ds → vs.length = ds.length
  | _, _, .nil => rfl
  | _, _, .cons _ ha => congrArg Nat.succ (DaAll.length ha)
theorem DaAll.get {D : DrA} {H : Hp} : ∀ {ds : List PyData} {vs : List V} {i : Nat} {v : V}, DaAll D H vs ds → vs[i]? = some v → ∃ d, ds[i]? = some d ∧ Da D H v d
  | _, _, _, _, .nil, e => by simp at e
  | _, _, 0, _, .cons h _, e => by
    simp at e
    subst e
    exact ⟨_, rfl, h⟩
  | _, _, i + 1, _, .cons _ ha, e => by
    obtain ⟨d, h1, h2⟩ := DaAll.get (i := i) ha (by simpa using e)
    exact ⟨d, by simpa using h1, h2⟩
theorem DaAll.app {D : DrA} {H : Hp} : ∀ {ds es : List PyData} {vs ws : List V}, DaAll D H vs ds → DaAll D H ws es → DaAll D H (vs ++ ws) (ds ++ es)
  | _, _, _, _, .nil, h => h
  | _, _, _, _, .cons a b, h => .cons a (DaAll.app b h)
theorem DaAll.take {D : DrA} {H : Hp} (n : Nat) : ∀ {ds : List PyData} {vs : List V}, DaAll D H vs ds → DaAll D H (vs.take n) (ds.take n) := by
  induction n with
  | zero => intro ds vs _; exact .nil
  | succ n ih =>
    intro ds vs h
    cases h with
    | nil => exact .nil
    | cons a b => exact .cons a (ih b)
theorem DaAll.drop {D : DrA} {H : Hp} (n : Nat) : ∀ {ds : List PyData} {vs : List V}, DaAll D H vs ds → DaAll D H (vs.drop n) (ds.drop n) := by
  induction n with
  | zero => intro ds vs h; exact h
  | succ n ih =>
    intro ds vs h
    cases h with
    | nil => exact .nil
    | cons a b => exact ih b
theorem DaAll.rev {D : DrA} {H : Hp} : ∀ {ds : List PyData} {vs : List V}, DaAll D H vs ds → DaAll D H vs.reverse ds.reverse
  | _, _, .nil => .nil
  | _, _, .cons a b => by
    rw [List.reverse_cons, List.reverse_cons]
    exact DaAll.app (DaAll.rev b) (.cons a .nil)
theorem DaAll.ints {D : DrA} {H : Hp} : ∀ ns : List Int, DaAll D H (ns.map V.int) (ns.map PyData.int)
  | [] => .nil
  | n :: r => .cons (.int n) (DaAll.ints r)
/-- a new object lies apart from the state -/
theorem DrawAt.off {D : DrA} {n : Nat} {H : Hp} {p : Addr} (h : DrawAt D n H) (np : H p = none) : p ≠ D.d ∧ p ≠ D.w := by
  obtain ⟨ws, cs, r, t, h1, h2, _⟩ := h
  constructor
  · intro z
    rw [z, h1] at np
    cases np
  · intro z
    rw [z, h2] at np
    cases np
theorem DrawAt.new {D : DrA} {n : Nat} {H : Hp} {p : Addr} {o : HO} (h : DrawAt D n H) (np : H p = none) : DrawAt D n (upd H p o) := h.same fun b x e _ => same_upd np b x e
end Lm
/-! Raising such an exception; its field and its class asked where it is held. -/
namespace Lm
open PySem PySem.Spec PyProof.Rows L2
/-- a class with such an __init__, as the head leaves it -/
structure YMk (P : Program) (K : PySem.W.Frag) (mg : Str → Option Value) (base : Heap) (w : World) (x : Str) (f : Str) (C : Addr) : Prop where
  at_ : mg x = some (.ref C)
  oex : OexC K C
  ini : ∃ (fI : Addr) (fd : FuncData), PySem.W.findIn K (.ref C) "__init__" = some (some (.ref fI)) ∧ PySem.W.typeIn K (.ref fI) = some (.type "function") ∧ FnOk P w K mg base CX0 1 fI fd ["self", f] (spInit K C f) ∧ L2.Binds K fd ["self", f] []
  no : PySem.W.findIn K (.ref C) f = some none
/-- a reading by what it leads to -/
def tOf (te : TE) : TE := fun σ H Q => ∃ Q0 : VK, te σ H Q0 ∧ ∀ v H', Q0 v H' → Q v H'
theorem pe_of {X : Cx} {e : Expr} {te : TE} (he : PE X e te) : PE X e (tOf te) := by
  refine ⟨fun pins s σ H Q I h => ?_⟩
  obtain ⟨Q0, h0, k⟩ := h
  exact thn (he.run pins s σ H Q0 I h0) fun u s1 ⟨v, H1, I1, r, q⟩ => ⟨v, H1, I1, r, k _ _ q⟩
/-- raise X(e) -/
def tBadY (C : Addr) (f : Str) (W : WX) (te : TE) : TS := fun _ σ H => te σ H fun y H1 => (y = .non ∨ ∃ i : Int, y = .int i ∧ i.natAbs < 1000) ∧ ∀ dx, H1 dx = none → W (.ref C) (some dx) σ (upd H1 dx (.xd [(f, y)]))
theorem xd_heap {H : Hp} {a dx : Addr} {C : Addr} {f : Str} {y : V} (na : H a = none) (hd : dx ≠ a) :
    upd (del (upd (upd (upd H a (exo a C none)) dx (exd dx [(f, y)])) a (exo a C (some dx))) a) dx (.xd [(f, y)]) = upd H dx (.xd [(f, y)]) := by
  funext b
  by_cases h1 : b = dx
  · rw [h1, upd_same, upd_same]
  · rw [upd_ne h1, upd_ne h1]
    by_cases h2 : b = a
    · rw [h2, del_same, na]
    · rw [del_ne h2, upd_ne h2, upd_ne h1, upd_ne h2]
theorem ps_badY {X : Cx} {W : WX} {x f : Str} {C : Addr} {e : Expr} {te : TE} {p pos pos2 : Pos} {j : Nat} (hc : X.calm = true) (M : YMk X.prog X.K X.mg X.base X.w x f C) (tk : Takes X W) (hr : Room j X.A) (hj : 2 ≤ j) (hg : Gl X x) (he : PE X e te) (hdb : (x == ("__debug__" : Str)) = false := by decide)
    (hs : starEach [e] X.env = (false, eval e X.env) :: starEach [] X.env := by rfl) : PS X (.Raise (some (.Call (.Name x p) [e] [] pos)) none pos2) (tBadY C f W te) := by
  obtain ⟨fI, fd, i1, i2, F, hb⟩ := M.ini
  have base := ps_raise (pos := pos2) hc tk (pmk_oex (p := p) (pos := pos) M.oex i1 i2 F (hr.mono hj) hb .nil pass0 hg M.at_ (pa_cons (pe_of he) pa_nil hs) hdb hs)
  refine ⟨fun pins s σ H D I h => base.run pins s σ H D I ?_⟩
  refine ⟨_, h, fun y H1 hq => ?_⟩
  obtain ⟨hy, q⟩ := hq
  refine ⟨by show 1 ≤ 1000; decide, fun a na => ⟨a, y, rfl, upd_same, M.no, hy, fun dx hd hne => ⟨rfl, dx, [(f, y)], upd_same, ?_, ?_, ?_⟩⟩⟩
  · rw [upd_ne hne, upd_same]
  · rwa [upd_ne hne] at hd
  · rw [xd_heap na hne]
    exact q dx (by rwa [upd_ne hne] at hd)
/-! ### such an exception, held -/
/-- e.f -/
def tXat (K : PySem.W.Frag) (f : Str) (te : TE) : TE := fun σ H Q => te σ H fun x H1 => ∃ (a C dd : Addr) (fs : List (Str × V)) (v : V), x = .ref a ∧ XfC K C ∧ PySem.W.findIn K (.ref C) f = some none ∧ H1 a = some (ExI a (.ref C) (some dd)) ∧ H1 dd = some (.xd fs) ∧ fs.lookup f = some v ∧ Q v H1
theorem pe_xat {X : Cx} {e : Expr} {te : TE} {pos : Pos} {f : Str} (he : PE X e te) (hb : attributeBase e f X.env (eval e X.env) = eval e X.env := by rfl) : PE X (.Attribute e f pos) (tXat X.K f te) := by
  refine ⟨fun pins s σ H Q I h => ?_⟩
  refine attr_of hb (thn (he.run pins s σ H _ I h) fun u s1 hh => ?_)
  obtain ⟨x, H1, I1, rx, a, C, dd, fs, v, ex, T, hno, ha, ea, l, q⟩ := hh
  subst ex
  obtain rfl : u = Value.ref a := rx
  obtain ⟨⟨oe, hget, hz, vs, hv⟩, _, _⟩ := I1.hok a _ ha
  have hx : ObjOk X.prog X.w H1 s1.heap dd (.xd fs) := I1.hok dd _ ea
  obtain ⟨mA, hns, hr⟩ := hx
  obtain ⟨od, ho, hl⟩ := lookIn_ns hns
  obtain ⟨u, hu, ru⟩ := RelO.some_of (v := v) (o := mA f) (by rw [← l]; exact hr f)
  have J : PySem.W.InstAt s1.heap a oe C (some od) := ⟨hget, hz.1, by unfold PySem.W.notCls; rw [hv] <;> rfl, by rw [hz.2]; exact ho⟩
  exact HandSPX.exc_get I1.kIn J T.ga T.gg T.exC (PySem.W.findObj_own T.hdC hno rfl (by rw [hl, hu])) (handed_of ru) ⟨v, H1, I1.tok _, ru, q⟩
theorem cls_there {K : PySem.W.Frag} {D : Addr} {cd : ClassData} (h : PySem.W.clsIn K D = some cd) : ∃ oD, K.lookup D = some oD ∧ oD.data = .cls cd := by
  unfold PySem.W.clsIn at h
  split at h
  · rename_i ho
    cases h
    exact ⟨_, ho, rfl⟩
  · cases h
/-- isinstance of it -/
theorem kitxY {K : PySem.W.Frag} {x D : Addr} {ox od : Obj} (C : ExcC K D) : PySem.W.KitX K (.ref x) (.ref D) (fun h => PySem.W.InstAt h x ox D (some od)) where
  ty := fun _ _ _ I => I.type
  it := fun M h X _ => by
    obtain ⟨cd, hc, _⟩ := PySem.W.any_some C.hd
    obtain ⟨oD, l, e⟩ := cls_there hc
    intro A Q E s k q
    obtain ⟨hh, g, d, t, os⟩ := s
    exact ks_wpAny_isType_cls (k _ _ (X _ _ l)) e q
  ne := fun h tp dd its n sl X htp => (PySem.W.handS_kitx_exc (x := x) (ox := ox) C.hg C.hk C.hs C.hd C.ha C.hn C.ht C.hm).ne h tp dd its n sl X htp
  ca := fun X I k => by
    have some_ : (PySem.W.clsIn K D).isSome = true := by
      obtain ⟨cd, hc, _⟩ := PySem.W.any_some C.hd
      rw [hc]
      rfl
    exact PySem.W.kx_classE X I C.hg C.hk C.hs (PySem.W.findObj_dataE some_ C.ha C.hn C.ht) C.hm k
theorem call_isY {X : Cx} {D : Addr} (C : ExcC X.K D) : CallR X (.builtin "isinstance") (fun xs H Q => ∃ (a dd : Addr) (fs : List (Str × V)) (c : V) (cv : Value) (b : Bool), xs = [.ref a, c] ∧ H a = some (ExI a (.ref D) (some dd)) ∧ H dd = some (.xd fs) ∧ (∀ u, RelV c u → u = cv) ∧ PySem.W.kitOne X.K (.ref D) cv = some b ∧ Q (.bl b) H) := by
  intro pins s σ H xs us Q I r h
  obtain ⟨a, dd, fs, c, cv, b, rfl, ha, hd, hcv, e, q⟩ := h
  match us, r with
  | [_, u], .cons rx (.cons rt .nil) =>
    cases rx
    have ec := hcv _ rt
    subst ec
    obtain ⟨⟨oe, hget, hz, vs, hv⟩, _, _⟩ := I.hok a _ ha
    have hx : ObjOk X.prog X.w H s.heap dd (.xd fs) := I.hok dd _ hd
    obtain ⟨mA, ⟨od, es, ep, ho, hr⟩, _⟩ := hx
    have J : PySem.W.InstAt s.heap a oe D (some od) := ⟨hget, hz.1, by unfold PySem.W.notCls; rw [hv] <;> rfl, by rw [hz.2]; exact ho⟩
    exact PySem.W.kia_one (kitxY C) I.kIn J e (fun z => nomatch z) (fun tk => ⟨.bl b, H, I.kept (t' := tk) (fun _ _ z => z), rfl, q⟩)
end Lm
namespace Lm
open PySem PySem.Spec PyProof.Rows L2
def topS (i : Nat) : Stmt := PySem.Challenge.pw_lanesmeet_k02_greatest_differences.main.body.getD i (.Pass ⟨0, 0, 0, 0⟩)
/-- the built-ins that no name of the module hides -/
structure Bl (mg : Str → Option Value) : Prop where
  bint : mg "int" = none
  blen : mg "len" = none
  bisi : mg "isinstance" = none
  bbool : mg "bool" = none
  btup : mg "tuple" = none
  blist : mg "list" = none
  bstr : mg "str" = none
  bmax : mg "max" = none
  brng : mg "range" = none
  babs : mg "abs" = none
  ball : mg "all" = none
  bmin : mg "min" = none
  brep : mg "repr" = none
  bany : mg "any" = none
  bsrt : mg "sorted" = none
  benu : mg "enumerate" = none
theorem dp_ints {K : PySem.W.Frag} {H : Hp} : ∀ ns : List Int, DpAll K H (ns.map V.int) (ns.map PyData.int)
  | [] => .nil
  | n :: r => .cons (.int n) (dp_ints r)
theorem shaped_ints (ns : List Int) : SeqAt.shaped (.list (ns.map .int)) = true := by
  have h1 : PyData.canLayAll0 (ns.map .int) = true := by
    induction ns with
    | nil => simp [PyData.canLayAll0]
    | cons n r ih => simp [PyData.canLayAll0, PyData.canLay0, ih]
  have h2 : PyData.depthAll (ns.map .int) ≤ 1 := by
    induction ns with
    | nil => simp [PyData.depthAll]
    | cons n r ih =>
      have ih' := ih (by simpa [PyData.canLayAll0, PyData.canLay0] using h1)
      simp [PyData.depthAll, PyData.depth]
      omega
  unfold SeqAt.shaped
  simp [PyData.canLay0, PyData.depth, h1]
  omega
theorem same_put {H H' : Hp} {p : Addr} {o : HO} (s : Same H H') (n : H p = none) : Same H (upd H' p o) := by
  intro b x e
  rw [upd_ne (ne_of_none e n)]
  exact s b x e
theorem int_at {ns : List Int} {i : Nat} {x : V} (h : (ns.map V.int)[i]? = some x) : ∃ z, ns[i]? = some z ∧ x = .int z := by
  rw [List.getElem?_map] at h
  cases e : ns[i]? with
  | none => rw [e] at h; cases h
  | some z => rw [e] at h; exact ⟨z, rfl, (Option.some.inj h).symm⟩
/-! ### kinds of data -/
def kindOf : PyData → String
  | .none => "NoneType" | .bool _ => "bool" | .int _ => "int" | .str _ => "str" | .list _ => "list" | .tuple _ => "tuple" | .dict _ => "dict"
theorem Da.ty {K : PySem.W.Frag} {D : DrA} {H : Hp} {v : V} {d : PyData} (h : Da D H v d) : TyX K H v (.type (kindOf d)) := by
  cases h with
  | non => exact .base .non
  | bl b => exact .base (.bl b)
  | int i => exact .base (.int i)
  | str x => exact .base (.str x)
  | lst h _ _ _ => exact .base (.lst h)
  | tup h _ _ _ => exact .base (.tup h)
  | emp h _ _ => exact .base (.dK h)
def isTup : PyData → Bool
  | .tuple _ => true
  | _ => false
def isStr : PyData → Bool
  | .str _ => true
  | _ => false
def isIntB : PyData → Bool
  | .int _ => true
  | .bool _ => true
  | _ => false
def isBoolB : PyData → Bool
  | .bool _ => true
  | _ => false
def isNum : PyData → Bool
  | .int _ => true
  | _ => false
theorem kit_tup (K : PySem.W.Frag) : ∀ d : PyData, PySem.W.kitOne K (.type (kindOf d)) (.type "tuple") = some (isTup d)
  | .none => kit_ty (show kitB "NoneType" "tuple" = some false by decide +kernel)
  | .bool _ => kit_ty (show kitB "bool" "tuple" = some false by decide +kernel)
  | .int _ => kit_ty (show kitB "int" "tuple" = some false by decide +kernel)
  | .str _ => kit_ty (show kitB "str" "tuple" = some false by decide +kernel)
  | .list _ => kit_ty (show kitB "list" "tuple" = some false by decide +kernel)
  | .tuple _ => kit_ty (show kitB "tuple" "tuple" = some true by decide +kernel)
  | .dict _ => kit_ty (show kitB "dict" "tuple" = some false by decide +kernel)
theorem kit_str (K : PySem.W.Frag) : ∀ d : PyData, PySem.W.kitOne K (.type (kindOf d)) (.type "str") = some (isStr d)
  | .none => kit_ty (show kitB "NoneType" "str" = some false by decide +kernel)
  | .bool _ => kit_ty (show kitB "bool" "str" = some false by decide +kernel)
  | .int _ => kit_ty (show kitB "int" "str" = some false by decide +kernel)
  | .str _ => kit_ty (show kitB "str" "str" = some true by decide +kernel)
  | .list _ => kit_ty (show kitB "list" "str" = some false by decide +kernel)
  | .tuple _ => kit_ty (show kitB "tuple" "str" = some false by decide +kernel)
  | .dict _ => kit_ty (show kitB "dict" "str" = some false by decide +kernel)
theorem kit_int (K : PySem.W.Frag) : ∀ d : PyData, PySem.W.kitOne K (.type (kindOf d)) (.type "int") = some (isIntB d)
  | .none => kit_ty (show kitB "NoneType" "int" = some false by decide +kernel)
  | .bool _ => kit_ty (show kitB "bool" "int" = some true by decide +kernel)
  | .int _ => kit_ty (show kitB "int" "int" = some true by decide +kernel)
  | .str _ => kit_ty (show kitB "str" "int" = some false by decide +kernel)
  | .list _ => kit_ty (show kitB "list" "int" = some false by decide +kernel)
  | .tuple _ => kit_ty (show kitB "tuple" "int" = some false by decide +kernel)
  | .dict _ => kit_ty (show kitB "dict" "int" = some false by decide +kernel)
theorem kit_bool (K : PySem.W.Frag) : ∀ d : PyData, PySem.W.kitOne K (.type (kindOf d)) (.type "bool") = some (isBoolB d)
  | .none => kit_ty (show kitB "NoneType" "bool" = some false by decide +kernel)
  | .bool _ => kit_ty (show kitB "bool" "bool" = some true by decide +kernel)
  | .int _ => kit_ty (show kitB "int" "bool" = some false by decide +kernel)
  | .str _ => kit_ty (show kitB "str" "bool" = some false by decide +kernel)
  | .list _ => kit_ty (show kitB "list" "bool" = some false by decide +kernel)
  | .tuple _ => kit_ty (show kitB "tuple" "bool" = some false by decide +kernel)
  | .dict _ => kit_ty (show kitB "dict" "bool" = some false by decide +kernel)
/-! ### readings that tell data -/
theorem Da.sm {D : DrA} {H H' : Hp} {v : V} {d : PyData} (h : Da D H v d) (s : Same H H') : Da D H' v d := h.fr (Fr.t (.of s))
theorem DaAll.sm {D : DrA} {H H' : Hp} {v : List V} {d : List PyData} (h : DaAll D H v d) (s : Same H H') : DaAll D H' v d := h.fr (Fr.t (.of s))
theorem DrawAt.sm {D : DrA} {n : Nat} {H H' : Hp} (h : DrawAt D n H) (s : Same H H') : DrawAt D n H' := h.same fun b o e _ => s b o e
theorem small10000 {n : Nat} (h : n ≤ 10000) : n ≤ sizeLine := Nat.le_trans h (by unfold sizeLine; decide)
section
variable {K : PySem.W.Frag} {D : DrA} {n : Nat} {H : Hp} {Q : VK}
theorem tup_da {xs : List V} {ds : List PyData} {p : Addr} (dr : DrawAt D n H) (h : DaAll D H xs ds) (np : H p = none) : Same H (upd H p (.tup xs)) ∧ DrawAt D n (upd H p (.tup xs)) ∧ Da D (upd H p (.tup xs)) (.ref p) (.tuple ds) :=
  ⟨same_upd np, dr.new np, .tup upd_same (dr.off np).1 (dr.off np).2 (h.sm (same_upd np))⟩
theorem lst_da {xs : List V} {ds : List PyData} {p : Addr} (dr : DrawAt D n H) (h : DaAll D H xs ds) (np : H p = none) : Same H (upd H p (.lst xs)) ∧ DrawAt D n (upd H p (.lst xs)) ∧ (upd H p (.lst xs)) p = some (.lst xs) ∧ p ≠ D.d ∧ p ≠ D.w ∧ DaAll D (upd H p (.lst xs)) xs ds :=
  ⟨same_upd np, dr.new np, upd_same, (dr.off np).1, (dr.off np).2, h.sm (same_upd np)⟩
theorem cutV_whole {xs : List V} {lo hi : Option Int} (h : HT.sIx xs.length 0 lo = 0 ∧ HT.sIx xs.length xs.length hi = xs.length) : cutV xs lo hi = xs := by
  unfold cutV
  rw [h.1, h.2, List.drop_zero, Nat.sub_zero, List.take_length]
theorem slA_da {a : Addr} {ds : List PyData} {lo hi : Option Int} (dr : DrawAt D n H) (h : Da D H (.ref a) (.tuple ds)) (q : ∀ (H' : Hp) (p : Addr) (es : List PyData), Same H H' → DrawAt D n H' → es.length ≤ ds.length → Da D H' (.ref p) (.tuple es) → Q (.ref p) H') : rSlA K (.ref a) lo hi H Q := by
  cases h with
  | tup h n1 n2 ha =>
    rename_i xs
    refine ⟨a, xs, rfl, SqT.of h, fun _ => q H a ds (fun _ _ z => z) dr (Nat.le_refl _) (.tup h n1 n2 ha), fun _ p np => ?_⟩
    refine q _ p _ (same_upd np) (dr.new np) ?_ (.tup upd_same (dr.off np).1 (dr.off np).2 (((ha.drop _).take _).sm (same_upd np)))
    rw [List.length_take, List.length_drop]
    omega
theorem catA_da {a b : Addr} {ds es : List PyData} (dr : DrawAt D n H) (h : Da D H (.ref a) (.tuple ds)) (h' : Da D H (.ref b) (.tuple es)) (hl : ds.length + es.length ≤ 10000) (q : ∀ (H' : Hp) (p : Addr), Same H H' → DrawAt D n H' → Da D H' (.ref p) (.tuple (ds ++ es)) → Q (.ref p) H') : rCatA K (.ref a) (.ref b) H Q := by
  have hh := h
  have hh' := h'
  cases h with
  | tup h n1 n2 ha =>
    cases h' with
    | tup h' m1 m2 ha' =>
      rename_i xs ys
      refine ⟨a, b, xs, ys, rfl, rfl, SqT.of h, SqT.of h', small10000 (by rw [ha.length, ha'.length]; exact hl), fun e => ?_, fun _ e => ?_, fun _ _ p np => ?_⟩
      · subst e
        cases ha
        exact q H b (fun _ _ z => z) dr hh'
      · subst e
        cases ha'
        rw [List.append_nil] at q
        exact q H a (fun _ _ z => z) dr hh
      · exact q _ p (same_upd np) (dr.new np) (.tup upd_same (dr.off np).1 (dr.off np).2 ((ha.app ha').sm (same_upd np)))
end
theorem daAll_sub {H : Hp} {ys xs : List V} (k : ys.Sublist xs) : ∀ {ds : List PyData}, DaAll D H xs ds → ∃ es : List PyData, es.Sublist ds ∧ DaAll D H ys es := by
  induction k with
  | slnil => intro ds h; cases h; exact ⟨[], .slnil, .nil⟩
  | cons a s ih =>
    intro ds h
    cases h with
    | cons h t =>
      obtain ⟨es, s', p⟩ := ih t
      exact ⟨es, s'.cons _, p⟩
  | cons_cons a s ih =>
    intro ds h
    cases h with
    | cons h t =>
      obtain ⟨es, s', p⟩ := ih t
      exact ⟨_, s'.cons_cons _, .cons h p⟩
section
end
/-! ### raising an own exception class with a message -/
structure XMk (K : PySem.W.Frag) (mg : Str → Option Value) (x : Str) (C : Addr) : Prop where
  at_ : mg x = some (.ref C)
  q : PySem.W.excIn K C [.type "ValueError", .type "Exception", .type "BaseException", .type "object"] "ValueError.__new__" = true
  kC : PySem.W.keepIn K (.ref C) = true
  sub : PySem.W.subIn K (.ref C) (.type "BaseException") = some true
  ty : PySem.W.typeIn K (.ref C) = some (.type "type")
theorem ps_bad {X : Cx} {W : WX} {x m : Str} {C : Addr} {j : Nat} {p p2 pos pos2 : Pos} (hc : X.calm = true) (M : XMk X.K X.mg x C) (tk : Takes X W) (hg : Gl X x) (hdb : (x == ("__debug__" : Str)) = false := by decide) :
    PS X (.Raise (some (.Call (.Name x p) [.Constant (.str m) j p2] [] pos)) none pos2) (fun _ σ H => W (.ref C) none σ H) :=
  ps_raise hc tk (pmk_own PySem.F.excBase_ValueError M.q M.at_ M.kC (raises_own M.sub M.ty) hg hdb)
section
variable {P : Program} {w : World} {K : PySem.W.Frag} {mg : Str → Option Value} {base : Heap}
theorem passE {N : List Str} {qual : Str} {scope : Scope} {f : Addr} {cdv : Value} {A : Around} {outer : List Env} {s : Shared} {H : Hp} {E : XK} : Passes (L2.CX P w) (cxOf (L2.CX P w) P w K mg base N qual scope f cdv A outer s H E) E := by
  have tk : Takes (cxOf (L2.CX P w) P w K mg base N qual scope f cdv A outer s H E) (fun cls d _ H => E cls d H) := takes_of (E := E) rfl rfl rfl rfl
  exact passes_call tk (fun _ _ _ _ h => h)
end
def btw (lo hi : Int) : PyData → Bool
  | .int n => decide (lo ≤ n) && decide (n ≤ hi)
  | _ => false
theorem btw_int {lo hi : Int} {d : PyData} (h : btw lo hi d = true) : ∃ n, d = .int n ∧ lo ≤ n ∧ n ≤ hi := by
  cases d with
  | int n =>
    have h : (decide (lo ≤ n) && decide (n ≤ hi)) = true := h
    rw [Bool.and_eq_true] at h
    exact ⟨n, rfl, of_decide_eq_true h.1, of_decide_eq_true h.2⟩
  | none => cases h
  | bool _ => cases h
  | str _ => cases h
  | list _ => cases h
  | tuple _ => cases h
  | dict _ => cases h
theorem btw_of {lo hi n : Int} (h1 : lo ≤ n) (h2 : n ≤ hi) : btw lo hi (.int n) = true := by
  show (decide (lo ≤ n) && decide (n ≤ hi)) = true
  rw [decide_eq_true h1, decide_eq_true h2]
  rfl
section
variable {P : Program} {w : World} {K : PySem.W.Frag} {mg : Str → Option Value} {base : Heap}
def spNum : Sp := fun vs H Q _ => ∃ (D : DrA) (v : V) (d : PyData), vs = [v] ∧ Da D H v d ∧ Q (.bl (isNum d)) H
abbrev sNumber : Stmt := topS 6
theorem scNumber : FnScope ["thing"] ["thing"] (defScope sNumber) := ⟨rfl, rfl, rfl, by decide +kernel, rfl, by decide +kernel, by decide +kernel⟩
theorem ok_number {f : Addr} {fd : FuncData} (F : Fun K "is_number" "is_number" sNumber f fd) (N : Bl mg) : FnOk P w K mg base CX0 1 f fd ["thing"] spNum := by
  refine F.ok scNumber (fun vs H Q E h => ?_) (fun cdv A outer s H vs Q E hr h => ?_)
  · obtain ⟨D, v, d, rfl, _⟩ := h
    rfl
  · obtain ⟨D, v, d, rfl, h, q⟩ := h
    refine ⟨_, pss_one (ps_ret (pe_and (pe_callB call_isi (by rfl) N.bisi (by decide +kernel) (pa_cons (pv 0) (pa_cons (pe_bltn (v := .ty "int") (by rfl) N.bint (by decide +kernel) rfl) pa_nil)))
      (pe_one (pe_not (pe_callB call_isi (by rfl) N.bisi (by decide +kernel) (pa_cons (pv 0) (pa_cons (pe_bltn (v := .ty "bool") (by rfl) N.bbool (by decide +kernel) rfl) pa_nil))))))), ?_⟩
    refine ⟨v, rfl, v, .ty "int", _, _, isIntB d, rfl, .ty "int", h.ty, kit_int K d, isIntB d, rfl, ?_⟩
    cases hb : isIntB d with
    | true =>
      refine iteT ⟨v, rfl, v, .ty "bool", _, _, isBoolB d, rfl, .ty "bool", h.ty, kit_bool K d, isBoolB d, rfl, ?_⟩
      have e : isNum d = !isBoolB d := by cases d <;> first | rfl | cases hb
      rw [← e]
      exact q
    | false =>
      have e : isNum d = false := by cases d <;> first | rfl | cases hb
      rw [e] at q
      exact iteF q
end
end Lm
/-! The draws of k02. -/
namespace Lm
open PySem PySem.Spec PyProof.Rows L2
section
variable {P : Program} {w : World} {K : PySem.W.Frag} {mg : Str → Option Value} {base : Heap}
/-! ### _law_mixed_up -/
abbrev sMixed : Stmt := topS 38
theorem scMixed : FnScope ["state", "found", "turn", "prime", "blend", "cell"] ["state"] (defScope sMixed) := ⟨rfl, rfl, rfl, by decide +kernel, rfl, by decide +kernel, by decide +kernel⟩
def spMixed : Sp := fun vs H Q _ => ∃ (D : DrA) (n : Nat), vs = [.ref D.d] ∧ DrawAt D n H ∧ n + 1 ≤ B ∧
  ∀ H' z, DrawAt D (n + 1) H' → Fr D H H' → Q (.int z) H'
theorem ok_mixed {f : Addr} {fd : FuncData} (F : Fun K "_law_mixed_up" "_law_mixed_up" sMixed f fd) (N : Bl mg) : FnOk P w K mg base CX0 1 f fd ["state"] spMixed := by
  refine F.ok scMixed (fun vs H Q E h => ?_) (fun cdv A outer s H vs Q E hr h => ?_)
  · obtain ⟨D, n, rfl, _⟩ := h
    rfl
  · obtain ⟨D, n, rfl, ⟨ws, cs, r, t, h1, h2, h3, h4, h5, h6⟩, hn, q⟩ := h
    have hu := hu_of hr
    have mi := N.bint
    refine ⟨_, pss_cons (ps_dput hu (pv 0) pe_str (pe_op op_add (pe_dget hu (pv 0) pe_str (fun _ _ => rfl)) pe_int) rfl)
      (pss_cons (ps_par (i := 1) (j := 2) rfl scMixed.nd rfl rfl (by decide) rfl rfl (pa_cons pe_int (pa_cons (pe_dget hu (pv 0) pe_str (fun _ _ => rfl)) pa_nil)) rfl)
      (pss_cons (ps_for PassesOwn.never rfl (pi_list (pe_lst (pa_cons pe_int (pa_cons pe_int (pa_cons pe_int (pa_cons pe_int (pa_cons pe_int (pa_cons pe_int pa_nil)))))))) (pg_name (i := 3) scMixed.nd rfl (.inl rfl))
        (pss_cons (ps_set (i := 4) scMixed.nd rfl (.inl rfl) (pe_op op_add (pe_op op_mul pe_int (pv 2)) (pe_op op_fdiv (pv 3) pe_int)))
        (pss_cons (ps_for PassesOwn.never rfl (pi_list (pe_dget hu (pv 0) pe_str (fun _ _ => rfl))) (pg_name (i := 5) scMixed.nd rfl (.inl rfl))
          (pss_one (ps_set (i := 4) scMixed.nd rfl (.inl rfl) (pe_op op_mod (pe_callTy call_int1 (by rfl) mi (by decide +kernel) (pa_cons (pe_op op_add (pe_op op_mul (pv 4) pe_int) (pv 5)) pa_nil)) (pv 3)))))
        (pss_one (ps_set (i := 1) scMixed.nd rfl (.inl rfl) (pe_op op_add (pe_op op_mul (pv 1) pe_int) (pe_op op_mod (pe_callTy call_int1 (by rfl) mi (by decide +kernel) (pa_cons (pe_op op_pow (pv 4) pe_int) pa_nil)) (pv 3))))))))
      (pss_one (ps_ret (pv 1))))), ?_⟩
    refine ⟨_, rfl, D.d, _, rfl, DGet.k (k := .inr "turn") h1, _, _, rfl, rfl, _, rfl, D.d, _, rfl, DPut.k (k := .inr "turn") h1 (by show 4 < sizeLine; decide), ?_⟩
    rw [drF_putT]
    have h1' : (upd H D.d (.dK (drF D r (t + 1)))) D.d = some (.dK (drF D r (t + 1))) := upd_same
    have ewd : D.w ≠ D.d := ne_of h2 h1 (fun z => by cases z)
    have ecd : D.c ≠ D.d := ne_of h3 h1 (fun z => by cases z)
    have h2' : (upd H D.d (.dK (drF D r (t + 1)))) D.w = some (.lst (ws.map V.int)) := by rw [upd_ne ewd]; exact h2
    have h3' : (upd H D.d (.dK (drF D r (t + 1)))) D.c = some (.lst (cs.map V.int)) := by rw [upd_ne ecd]; exact h3
    have fr1 : Fr D H (upd H D.d (.dK (drF D r (t + 1)))) := fun b o e n1 n2 => by rw [upd_ne n1]; exact e
    generalize upd H D.d (.dK (drF D r (t + 1))) = H1 at *
    refine ⟨_, rfl, D.d, _, rfl, DGet.k (k := .inr "turn") h1', _, _, rfl, ?_⟩
    refine ⟨by show 6 ≤ sizeLine; decide, fun p np => ?_⟩
    have s2 : Same H1 (upd H1 p (.lst [.int 2147483629, .int 2147483587, .int 2147483579, .int 2147483563, .int 2147483549, .int 2147483543])) := same_upd np
    have hp : (upd H1 p (.lst [.int 2147483629, .int 2147483587, .int 2147483579, .int 2147483563, .int 2147483549, .int 2147483543])) p = some _ := upd_same
    have k1 := s2 _ _ h1'
    have k2 := s2 _ _ h2'
    have k3 := s2 _ _ h3'
    generalize upd H1 p (.lst [.int 2147483629, .int 2147483587, .int 2147483579, .int 2147483563, .int 2147483549, .int 2147483543]) = H2 at *
    refine ⟨p, rfl, ⟨_, .inl (.inl hp)⟩, for_list (K := K) (a := p) (xs := [.int 2147483629, .int 2147483587, .int 2147483579, .int 2147483563, .int 2147483549, .int 2147483543])
      (fun i σ H' => H' = H2 ∧ ∃ fo x3 x4 x5, σ = [some (.ref D.d), some (.int fo), some (.int (t + 1)), x3, x4, x5]) ⟨rfl, _, _, _, _, rfl⟩ (fun i σ H' _ h => by rw [h.1]; exact .inl (.inl hp)) ?_ ?_⟩
    · rintro i x σ H' hx ⟨rfl, fo, x3, x4, x5, rfl⟩
      obtain ⟨pr, rfl, p0, p1⟩ : ∃ pr : Int, x = .int pr ∧ 0 < pr ∧ pr < 2 ^ 40 := by
        match i, hx with
        | 0, hx => cases hx; exact ⟨_, rfl, by decide, by decide⟩
        | 1, hx => cases hx; exact ⟨_, rfl, by decide, by decide⟩
        | 2, hx => cases hx; exact ⟨_, rfl, by decide, by decide⟩
        | 3, hx => cases hx; exact ⟨_, rfl, by decide, by decide⟩
        | 4, hx => cases hx; exact ⟨_, rfl, by decide, by decide⟩
        | 5, hx => cases hx; exact ⟨_, rfl, by decide, by decide⟩
        | i + 6, hx => simp at hx
      refine ⟨_, rfl, _, _, rfl, rfl, .inl (by constructor <;> decide), _, rfl, _, _, rfl, rfl, (by constructor <;> decide), _, _, rfl, rfl, ?_⟩
      refine ⟨_, rfl, D.d, _, rfl, DGet.k (k := .inr "cells") k1, ?_⟩
      refine ⟨D.c, rfl, ⟨_, .inl (.inl k3)⟩, for_list (K := K) (a := D.c) (xs := cs.map V.int)
        (fun i σ H'' => H'' = H' ∧ ∃ bl x5, σ = [some (.ref D.d), some (.int fo), some (.int (t + 1)), some (.int pr), some (.int bl), x5] ∧ 0 ≤ bl ∧ bl < 2 ^ 63) ⟨rfl, _, _, rfl, ?_, ?_⟩ (fun i σ H' _ h => by rw [h.1]; exact .inl (.inl k3)) ?_ ?_⟩
      · omega
      · unfold B at hn; omega
      · rintro j y σ H'' hy ⟨rfl, bl, x5, rfl, b0, b1⟩
        obtain ⟨g, _, rfl⟩ : ∃ g, cs[j]? = some g ∧ y = .int g := by
          rw [List.getElem?_map] at hy
          cases e : cs[j]? with
          | none => rw [e] at hy; cases hy
          | some z => rw [e] at hy; exact ⟨z, rfl, (Option.some.inj hy).symm⟩
        refine ⟨_, rfl, _, _, rfl, rfl, .inr (by constructor <;> decide), _, rfl, _, _, rfl, rfl, .inl ⟨_, rfl, _, rfl, _, _, rfl, rfl, p0, rfl, _, _, rfl, ?_, ?_⟩⟩
        · exact Int.emod_nonneg _ (by omega)
        · have := Int.emod_lt_of_pos (bl * 48271 + g) p0
          omega
      · rintro σ H'' ⟨rfl, bl, x5, rfl, b0, b1⟩
        refine ⟨_, rfl, _, _, rfl, rfl, .inr (by constructor <;> decide), _, rfl, _, _, rfl, rfl, ⟨by decide, by decide, by omega⟩, .inl ⟨_, rfl, _, rfl, _, _, rfl, rfl, p0, _, _, rfl, rfl, rfl, _, _, _, _, rfl⟩⟩
    · rintro σ H' ⟨rfl, fo, x3, x4, x5, rfl⟩
      refine ⟨_, rfl, q _ _ ⟨ws, cs, r, t + 1, k1, k2, k3, h4, by omega, by omega⟩ (fr1.trans (.of s2))⟩
/-! ### _law_draw -/
abbrev sTake : Stmt := topS 39
theorem scTake : FnScope ["state", "size_here", "found"] ["state", "size_here"] (defScope sTake) := ⟨rfl, rfl, rfl, by decide +kernel, rfl, by decide +kernel, by decide +kernel⟩
def spTake : Sp := fun vs H Q _ => ∃ (D : DrA) (n : Nat) (z : Int), vs = [.ref D.d, .int z] ∧ DrawAt D n H ∧ n + 1 ≤ B ∧ 0 < z ∧ z < 1073741824 ∧
  ∀ H' v, DrawAt D (n + 1) H' → Fr D H H' → 0 ≤ v → v < z → Q (.int v) H'
theorem ok_take {f : Addr} {fd : FuncData} (F : Fun K "_law_draw" "_law_draw" sTake f fd) (N : Bl mg) (GM : Has P w K mg base CX0 1 "_law_mixed_up" ["state"] spMixed) : FnOk P w K mg base CX0 2 f fd ["state", "size_here"] spTake := by
  refine F.ok scTake (fun vs H Q E h => ?_) (fun cdv A outer s H vs Q E hr h => ?_)
  · obtain ⟨D, n, z, rfl, _⟩ := h
    rfl
  · obtain ⟨D, n, z, rfl, h, hn, z0, z1, q⟩ := h
    have hu := hu_of hr
    have hu64 : (A.deeper (envOfC "_law_draw" (defScope sTake) s.heap.objs.size f cdv)).units + 64 < cLine := by
      have := hr.un
      omega
    refine ⟨_, C8.pss_cut (ps_if (pt_cmpR op_eq (pe_dget hu (pv 0) pe_str (fun _ _ => rfl)) pe_int (nomark _))
        (pss_one (ps_dput hu (pv 0) pe_str (pe_ifExp (pt_cmpR (op_neD hu64) (pe_dget hu (pv 0) pe_str (fun _ _ => rfl)) (pe_lst pa_nil) (nomark _))
          (pe_bm PySem.F.plainAttrs_list PySem.F.slot_list_pop PySem.F.type_list_pop mt_popAt (pe_dget hu (pv 0) pe_str (fun _ _ => rfl)) (pa_cons pe_int pa_nil))
          (pe_h GM hr (by decide) (by rfl) pass0 (pa_cons (pv 0) pa_nil))) rfl)) pss_nil)
      (pss_cons (ps_set (i := 2) scTake.nd rfl (.inl rfl) (pe_op op_mod (pe_callTy call_int1 (by rfl) N.bint (by decide +kernel) (pa_cons (pe_dget hu (pv 0) pe_str (fun _ _ => rfl)) pa_nil)) (pv 1)))
      (pss_cons (ps_dput hu (pv 0) pe_str (pe_op op_fdiv (pe_dget hu (pv 0) pe_str (fun _ _ => rfl)) (pv 1)) rfl)
      (pss_one (ps_ret (pv 2))))), ?_⟩
    refine ⟨fun σ H1 => σ = [some (.ref D.d), some (.int z), none] ∧ DrawAt D (n + 1) H1 ∧ Fr D H H1, ?_, ?_⟩
    · obtain ⟨ws, cs, r, t, h1, h2, h3, h4, h5, h6⟩ := id h
      refine ⟨_, rfl, D.d, _, rfl, DGet.k (k := .inr "rest") h1, rfl, _, rfl, ite2 (fun e => ?_) (fun e => ?_)⟩
      · -- draw['wide'] != []
        refine ⟨_, rfl, D.d, _, rfl, DGet.k (k := .inr "wide") h1, Nat.zero_le _, fun p np => ?_⟩
        have s1 : Same H (upd H p (.lst [])) := same_upd np
        have d1 : DrawAt D n (upd H p (.lst [])) := h.new np
        have hp : (upd H p (.lst [])) p = some (.lst []) := upd_same
        have k1 := s1 _ _ h1
        have k2 := s1 _ _ h2
        have k3 := s1 _ _ h3
        generalize upd H p (.lst []) = H1 at *
        refine ⟨.list (ws.map .int), .list [], .lst (SqL.of k2) (dp_ints ws), .lst (SqL.of hp) .nil, shaped_ints ws, by decide +kernel, _, rfl, ?_⟩
        cases ws with
        | nil =>
          refine iteF ?_
          refine ⟨_, rfl, D, n, rfl, d1, hn, fun H2 v d2 f2 => ?_⟩
          obtain ⟨ws', cs', r', t', g1, g2, g3, g4, g5, g6⟩ := d2
          refine ⟨_, rfl, D.d, _, rfl, DPut.k (k := .inr "rest") g1 (by show 4 < sizeLine; decide), rfl, ?_, ?_⟩
          · rw [drF_putR]
            exact ⟨ws', cs', v, t', upd_same, by rw [upd_ne (ne_of g2 g1 (fun z => by cases z))]; exact g2, by rw [upd_ne (ne_of g3 g1 (fun z => by cases z))]; exact g3, g4, g5, g6⟩
          · intro b o eb n1 n2
            rw [upd_ne n1]
            exact f2 b o (s1 b o eb) n1 n2
        | cons y ys =>
          refine iteT ?_
          refine ⟨_, rfl, D.d, _, rfl, DGet.k (k := .inr "wide") k1, .inl ⟨rfl, _, .inl (.inl k2)⟩, D.w, _, 0, 0, .int y, rfl, rfl, k2, by decide, by decide, by simp [seqIndex?], rfl, ?_⟩
          have ewd : D.w ≠ D.d := ne_of k2 k1 (fun z => by cases z)
          have k1' : (upd H1 D.w (.lst (ys.map V.int))) D.d = some (.dK (drF D r t)) := by rw [upd_ne ewd.symm]; exact k1
          refine ⟨_, rfl, D.d, _, rfl, DPut.k (k := .inr "rest") k1' (by show 4 < sizeLine; decide), rfl, ?_, ?_⟩
          · rw [drF_putR]
            refine ⟨ys, cs, y, t, upd_same, ?_, ?_, h4, h5, by omega⟩
            · rw [upd_ne ewd]
              exact upd_same
            · rw [upd_ne (ne_of k3 k1 (fun z => by cases z)), upd_ne h4.2]
              exact k3
          · intro b o eb n1 n2
            rw [upd_ne n1, upd_ne n2]
            exact s1 b o eb
      · exact ⟨rfl, h.mono (by omega), Fr.refl D H⟩
    · rintro σ H1 ⟨rfl, ⟨ws, cs, r, t, h1, h2, h3, h4, h5, h6⟩, f1⟩
      refine ⟨_, rfl, D.d, _, rfl, DGet.k (k := .inr "rest") h1, .inl ⟨_, rfl, _, rfl, _, _, rfl, rfl, z0, ?_⟩⟩
      refine ⟨_, rfl, D.d, _, rfl, DGet.k (k := .inr "rest") h1, _, rfl, _, _, rfl, rfl, ⟨z0, z1⟩, _, rfl, D.d, _, rfl, DPut.k (k := .inr "rest") h1 (by show 4 < sizeLine; decide), ?_⟩
      rw [drF_putR]
      refine ⟨_, rfl, q _ _ ⟨ws, cs, _, t, upd_same, by rw [upd_ne (ne_of h2 h1 (fun z => by cases z))]; exact h2, by rw [upd_ne (ne_of h3 h1 (fun z => by cases z))]; exact h3, h4, h5, h6⟩ ?_ ?_ ?_⟩
      · intro b o eb n1 n2
        rw [upd_ne n1]
        exact f1 b o eb n1 n2
      · exact Int.emod_nonneg _ (by omega)
      · exact Int.emod_lt_of_pos _ z0
end
section
variable {P : Program} {w : World} {K : PySem.W.Frag} {mg : Str → Option Value} {base : Heap}
abbrev sPick : Stmt := topS 36
theorem scPick : FnScope ["state", "several"] ["state", "several"] (defScope sPick) := ⟨rfl, rfl, rfl, by decide +kernel, rfl, by decide +kernel, by decide +kernel⟩
def spPick : Sp := fun vs H Q _ => ∃ (D : DrA) (n : Nat) (l : Addr) (xs : List V), vs = [.ref D.d, .ref l] ∧ DrawAt D n H ∧ n + 1 ≤ B ∧ H l = some (.lst xs) ∧ l ≠ D.w ∧ xs ≠ [] ∧ xs.length < 1073741824 ∧
  ∀ (H' : Hp) (i : Nat) (v : V), xs[i]? = some v → DrawAt D (n + 1) H' → Fr D H H' → Q v H'
theorem ok_pick {f : Addr} {fd : FuncData} (F : Fun K "_law_pick" "_law_pick" sPick f fd) (N : Bl mg) (GT : Has P w K mg base CX0 2 "_law_draw" ["state", "size_here"] spTake) : FnOk P w K mg base CX0 3 f fd ["state", "several"] spPick := by
  refine F.ok scPick (fun vs H Q E h => ?_) (fun cdv A outer s H vs Q E hr h => ?_)
  · obtain ⟨D, n, l, xs, rfl, _⟩ := h
    rfl
  · obtain ⟨D, n, l, xs, rfl, h, hn, hl, lw, x0, x1, q⟩ := h
    refine ⟨_, pss_one (ps_ret (pe_ix ix_list (pv 1) (pe_h GT hr (by decide) (by rfl) pass0 (pa_cons (pv 0) (pa_cons (pe_callB call_len_seq (by rfl) N.blen PySem.boot_len (pa_cons (pv 1) pa_nil)) pa_nil))) (fun _ _ => rfl))), ?_⟩
    have ld : l ≠ D.d := by
      obtain ⟨ws, cs, r, t, h1, _⟩ := h
      exact ne_of hl h1 (fun z => by cases z)
    refine ⟨_, rfl, _, rfl, .ref l, rfl, l, xs, rfl, .inl (SqL.of hl), D, n, _, rfl, h, hn, ?_, ?_, ?_⟩
    · cases xs with
      | nil => exact absurd rfl x0
      | cons a r => rw [List.length_cons]; omega
    · omega
    · intro H' v d' f' v0 v1
      have hl' := f' _ _ hl ld lw
      obtain ⟨j, rfl⟩ : ∃ j : Nat, v = (j : Int) := ⟨v.toNat, by omega⟩
      have hj : j < xs.length := by omega
      refine ⟨l, xs, _, xs[j], rfl, rfl, SqL.of hl', atI_nat (List.getElem?_eq_getElem hj), q H' j _ (List.getElem?_eq_getElem hj) d' f'⟩
abbrev sBegun : Stmt := topS 35
theorem scBegun : FnScope ["script", "wide", "cell"] ["script"] (defScope sBegun) := ⟨rfl, rfl, rfl, by decide +kernel, rfl, by decide +kernel, by decide +kernel⟩
def spBegun (K : PySem.W.Frag) : Sp := fun vs H Q _ => ∃ (a : Addr) (ns : List Int), vs = [.ref a] ∧ SqL K H a (ns.map V.int) ∧ ns.length ≤ 63 ∧
  ∀ (H' : Hp) (D : DrA), Same H H' → DrawAt D 0 H' → H D.d = none → H D.w = none → Q (.ref D.d) H'
theorem ok_begun {f : Addr} {fd : FuncData} (F : Fun K "_law_begun" "_law_begun" sBegun f fd) (N : Bl mg) : FnOk P w K mg base CX0 1 f fd ["script"] (spBegun K) := by
  refine F.ok scBegun (fun vs H Q E h => ?_) (fun cdv A outer s H vs Q E hr h => ?_)
  · obtain ⟨a, ns, rfl, _⟩ := h
    rfl
  · obtain ⟨a, ns, rfl, hS, hl, q⟩ := h
    refine ⟨_, pss_cons (ps_setLc (i := 1) (own := [("cell", 2)]) (g := gName 2) (by rfl) scBegun.nd rfl rfl (sw_true rfl rfl rfl (by decide +kernel)) (pi_list (pv 0))
        (blkOk_by (own := [("cell", 2)]) (N := ["script", "wide", "cell"]) (sc := defScope sBegun) (by decide +kernel)) (fun _ _ _ _ _ => pg_name (i := 2) scBegun.nd rfl (Or.inl rfl))
        (fun _ _ _ _ _ => pts_one (pt_cmpR op_ge (pe_callB call_abs (by rfl) N.babs (by decide +kernel) (pa_cons (pv 2) pa_nil)) (pe_op op_pow pe_int pe_int) (nomark _)))
        (fun _ _ _ _ _ => pe_op op_sub (pe_callB call_abs (by rfl) N.babs (by decide +kernel) (pa_cons (pv 2) pa_nil)) (pe_op op_pow pe_int pe_int)))
      (pss_one (ps_ret (pe_disp (pps_cons pe_str (pv 1) (pps_cons pe_str (pe_lc (own := [("cell", 2)]) (g := gName 2) (tt := tYes) rfl scBegun.nd (pi_list (pv 0))
          (blkOk_by (own := [("cell", 2)]) (N := ["script", "wide", "cell"]) (sc := defScope sBegun) (by decide +kernel)) (fun _ _ _ _ _ => pg_name (i := 2) scBegun.nd rfl (Or.inl rfl)) (fun _ _ _ _ _ => pts_nil)
          (fun _ _ _ _ _ => pe_op op_mod (pe_callTy call_int1 (by rfl) N.bint (by decide +kernel) (pa_cons (pe_callB call_abs (by rfl) N.babs (by decide +kernel) (pa_cons (pv 2) pa_nil)) pa_nil)) pe_int))
        (pps_cons pe_str pe_int (pps_cons pe_str pe_int pps_nil)))) (by rfl) (by rfl) (fun z => by cases z) (by decide)))), ?_⟩
    refine ⟨.ref a, rfl, a, rfl, ⟨_, hS⟩, fun W nW => lc_list (K := K) (a := a) (xs := ns.map V.int)
      (fun i H' => Same H H' ∧ ∃ acc : List Int, H' W = some (.lst (acc.map V.int)) ∧ acc.length ≤ i) ⟨same_upd nW, [], upd_same, Nat.zero_le _⟩ (fun i H' _ h => h.1.seq hS) ?_ ?_⟩
    · rintro i x H' hx ⟨sm, acc, hW, hi⟩
      obtain ⟨z, _, rfl⟩ := int_at hx
      refine ⟨rfl, _, rfl, z, rfl, _, _, rfl, rfl, ⟨by decide, by decide, by decide⟩, _, _, rfl, rfl, _, rfl, ite2 (fun c => ?_) (fun c => ?_)⟩
      · refine ⟨_, rfl, z, rfl, _, _, rfl, rfl, ⟨by decide, by decide, by decide⟩, _, _, rfl, rfl, acc.map V.int, hW, ?_, same_put sm nW, acc ++ [(if z < 0 then -z else z) - 10 ^ Int.toNat 18], ?_, ?_⟩
        · rw [List.length_map]
          have hi' : i < (ns.map V.int).length := (List.getElem?_eq_some_iff.mp hx).1
          rw [List.length_map] at hi'
          exact small1000 (by omega)
        · rw [List.map_append]
          exact upd_same
        · rw [List.length_append]
          exact Nat.add_le_add_right hi 1
      · exact ⟨sm, acc, hW, by omega⟩
    · rintro H1 ⟨sm, acc, hW, hi⟩
      intro p np
      have hpW : p ≠ W := fun z => by rw [z, hW] at np; cases np
      refine ⟨.ref W, rfl, .ref a, rfl, a, rfl, ⟨_, (sm.trans (same_upd np)).seq hS⟩, fun C nC => lc_list (K := K) (a := a) (xs := ns.map V.int)
        (fun i H' => Same (upd H1 p (.dK [])) H' ∧ ∃ acc : List Int, H' C = some (.lst (acc.map V.int)) ∧ acc.length ≤ i ∧ ∀ x ∈ acc, 0 ≤ x ∧ x < 2147483629) ⟨same_upd nC, [], upd_same, Nat.zero_le _, (fun x hx => by cases hx)⟩ (fun i H' _ h => (sm.trans ((same_upd np).trans h.1)).seq hS) ?_ ?_⟩
      · rintro i x H' hx ⟨sm2, acc2, hC, hi2, hb⟩
        obtain ⟨z, _, rfl⟩ := int_at hx
        refine ⟨rfl, _, rfl, z, rfl, .inl ⟨_, rfl, _, _, rfl, rfl, (by show (0 : Int) < 2147483629; decide), acc2.map V.int, hC, ?_, same_put sm2 nC, acc2 ++ [(if z < 0 then -z else z) % 2147483629], ?_, ?_, ?_⟩⟩
        · rw [List.length_map]
          have hi' : i < (ns.map V.int).length := (List.getElem?_eq_some_iff.mp hx).1
          rw [List.length_map] at hi'
          exact small1000 (by omega)
        · rw [List.map_append]
          exact upd_same
        · rw [List.length_append]
          exact Nat.add_le_add_right hi2 1
        · intro x hx
          rcases List.mem_append.mp hx with hx | hx
          · exact hb x hx
          · rw [List.mem_singleton.mp hx]
            exact ⟨Int.emod_nonneg _ (by decide), Int.emod_lt_of_pos _ (by decide)⟩
      · rintro H2 ⟨sm2, acc2, hC, hi2, hb⟩
        have hp : H2 p = some (.dK []) := sm2 _ _ upd_same
        have hW2 : H2 W = some (.lst (acc.map V.int)) := sm2 _ _ (by rw [upd_ne hpW.symm]; exact hW)
        refine ⟨hp, drF ⟨p, W, C⟩ 0 0, rfl, (by show 4 ≤ 15; decide), ?_⟩
        have e : mergeK [] (drF ⟨p, W, C⟩ 0 0) = drF ⟨p, W, C⟩ 0 0 := rfl
        rw [e]
        have nCW : C ≠ W := by
          intro z
          rw [z, upd_ne hpW.symm, hW] at nC
          cases nC
        have nCp : C ≠ p := by
          intro z
          rw [z, upd_same] at nC
          cases nC
        have np0 : H p = none := by
          cases e : H p with
          | none => rfl
          | some o => rw [sm _ _ e] at np; cases np
        refine q _ ⟨p, W, C⟩ ?_ ⟨acc, acc2, 0, 0, upd_same, ?_, ?_, ⟨hb, nCW⟩, by decide, by decide⟩ np0 nW
        · exact same_put (sm.trans ((same_upd np).trans sm2)) np0
        · rw [upd_ne hpW.symm]
          exact hW2
        · rw [upd_ne nCp]
          exact hC

end
end Lm
/-! Plain defs, rows, systems (from P06a to P06m). -/
namespace Lm
open PySem PySem.Spec PyProof.Rows L2
theorem smallM {n : Nat} (h : n ≤ 1000000) : n ≤ sizeLine := by rw [sizeLine_eq]; omega
mutual
def shortD : PyData → Bool
  | .str x => decide (x.length ≤ 1000)
  | .list ds => shortAll ds
  | .tuple ds => shortAll ds
  | _ => true
def shortAll : List PyData → Bool
  | [] => true
  | d :: r => shortD d && shortAll r
end
def rowNameD : PyData → Bool
  | .str x => decide ((1 : Int) ≤ (x.length : Nat)) && decide (((x.length : Nat) : Int) ≤ 20)
  | _ => false
section
variable {P : Program} {w : World} {K : PySem.W.Frag} {mg : Str → Option Value} {base : Heap}
abbrev sRowName : Stmt := topS 23
theorem scRowName : FnScope ["thing"] ["thing"] (defScope sRowName) := ⟨rfl, rfl, rfl, by decide +kernel, rfl, by decide +kernel, by decide +kernel⟩
def spB (f : PyData → Bool) : Sp := fun vs H Q _ => ∃ (D : DrA) (v : V) (d : PyData), vs = [v] ∧ Da D H v d ∧ shortD d = true ∧ Q (.bl (f d)) H
theorem Da.strOf {D : DrA} {H : Hp} {v : V} {d : PyData} (h : Da D H v d) (e : isStr d = true) : ∃ x, v = .str x ∧ d = .str x := by
  cases h <;> first | exact ⟨_, rfl, rfl⟩ | cases e
theorem short_str {x : Str} (h : shortD (.str x) = true) : x.length ≤ sizeLine := by
  have : x.length ≤ 1000 := of_decide_eq_true h
  exact small10000 (by omega)
theorem ok_rowName {f : Addr} {fd : FuncData} (F : Fun K "is_row_name" "is_row_name" sRowName f fd) (N : Bl mg) : FnOk P w K mg base CX0 1 f fd ["thing"] (spB rowNameD) := by
  refine F.ok scRowName (fun vs H Q E h => ?_) (fun cdv A outer s H vs Q E hr h => ?_)
  · obtain ⟨D, v, d, rfl, _⟩ := h
    rfl
  · obtain ⟨D, v, d, rfl, h, sd, q⟩ := h
    refine ⟨_, pss_one (ps_ret (pe_and (pe_callB call_isi (by rfl) N.bisi (by decide +kernel) (pa_cons (pv 0) (pa_cons (pe_bltn (v := .ty "str") (by rfl) N.bstr (by decide +kernel) rfl) pa_nil)))
      (pe_one (pe_chain op_le op_le pe_int (pe_callB call_len_str (by rfl) N.blen PySem.boot_len (pa_cons (pv 0) pa_nil)) pe_int)))), ?_⟩
    refine ⟨v, rfl, v, .ty "str", _, _, isStr d, rfl, .ty "str", h.ty, kit_str K d, isStr d, rfl, ?_⟩
    cases e : isStr d with
    | false =>
      have z : rowNameD d = false := by cases d <;> first | rfl | cases e
      rw [z] at q
      exact iteF q
    | true =>
      obtain ⟨x, rfl, rfl⟩ := h.strOf e
      refine iteT ⟨_, rfl, x, rfl, short_str sd, _, _, rfl, rfl, _, rfl, ?_⟩
      have q : Q (.bl (decide ((1 : Int) ≤ (x.length : Nat)) && decide (((x.length : Nat) : Int) ≤ 20))) H := q
      refine ite2 (fun z => ⟨_, _, rfl, rfl, ?_⟩) (fun z => ?_)
      · rw [z, Bool.true_and] at q
        exact q
      · rw [Bool.not_eq_true] at z
        rw [z, Bool.false_and] at q
        exact q
end
section
variable {P : Program} {w : World} {K : PySem.W.Frag} {mg : Str → Option Value} {base : Heap}
/-! ### is_tuple_of -/
abbrev sTupOf : Stmt := topS 8
theorem scTupOf : FnScope ["thing", "count"] ["thing", "count"] (defScope sTupOf) := ⟨rfl, rfl, rfl, by decide +kernel, rfl, by decide +kernel, by decide +kernel⟩
def tupLen : PyData → Option Nat
  | .tuple ds => some ds.length
  | _ => none
def spTupD : Sp := fun vs H Q _ => ∃ (D : DrA) (v : V) (d : PyData) (n : Nat), vs = [v, .int (n : Nat)] ∧ Da D H v d ∧ Q (.bl (decide (tupLen d = some n))) H
theorem Da.tupOf {D : DrA} {H : Hp} {v : V} {d : PyData} (h : Da D H v d) (e : isTup d = true) : ∃ p xs ds, v = .ref p ∧ d = .tuple ds ∧ H p = some (.tup xs) ∧ p ≠ D.d ∧ p ≠ D.w ∧ DaAll D H xs ds := by
  cases h with
  | tup h n1 n2 ha => exact ⟨_, _, _, rfl, rfl, h, n1, n2, ha⟩
  | _ => cases e
theorem ok_tupD {f : Addr} {fd : FuncData} (F : Fun K "is_tuple_of" "is_tuple_of" sTupOf f fd) (N : Bl mg) : FnOk P w K mg base CX0 1 f fd ["thing", "count"] spTupD := by
  refine F.ok scTupOf (fun vs H Q E h => ?_) (fun cdv A outer s H vs Q E hr h => ?_)
  · obtain ⟨D, v, d, n, rfl, _⟩ := h
    rfl
  · obtain ⟨D, v, d, n, rfl, h, q⟩ := h
    refine ⟨_, pss_one (ps_ret (pe_and (pe_callB call_isi (by rfl) N.bisi (by decide +kernel) (pa_cons (pv 0) (pa_cons (pe_bltn (v := .ty "tuple") (by rfl) N.btup (by decide +kernel) rfl) pa_nil)))
      (pe_one (pe_cmpR op_eq (pe_callB call_len_seq (by rfl) N.blen PySem.boot_len (pa_cons (pv 0) pa_nil)) (pv 1) (nomark _))))), ?_⟩
    refine ⟨v, rfl, v, .ty "tuple", _, _, isTup d, rfl, .ty "tuple", h.ty, kit_tup K d, isTup d, rfl, ?_⟩
    cases e : isTup d with
    | false =>
      have z : decide (tupLen d = some n) = false := by cases d <;> first | rfl | cases e
      rw [z] at q
      exact iteF q
    | true =>
      obtain ⟨p, xs, ds, rfl, rfl, hp, _, _, ha⟩ := h.tupOf e
      refine iteT ⟨_, rfl, p, xs, rfl, .inr (SqT.of hp), _, rfl, rfl, ?_⟩
      rw [dec_int, ha.length]
      have z : decide (tupLen (.tuple ds) = some n) = (((ds.length : Nat) : Int) == (n : Nat)) := by
        show decide (some ds.length = some n) = _
        by_cases e : ds.length = n
        · rw [e]
          simp
        · have : ¬ ((ds.length : Int) = (n : Int)) := by omega
          simp [e, this]
      rw [← z]
      exact q
end
theorem pi_tupK {X : Cx} {tg l : Expr} {tl : TE} (K : PySem.W.Frag) (hl : PE X l tl) (hK : X.K = K := by rfl) : PI X tg l (iTup K tl) := hK ▸ pi_tup hl
theorem pi_listK {X : Cx} {tg l : Expr} {tl : TE} (K : PySem.W.Frag) (hl : PE X l tl) (hK : X.K = K := by rfl) : PI X tg l (iList K tl) := hK ▸ pi_list hl
def sideD : PyData → Bool
  | .none => true
  | d => rowNameD d
def sideEq : PyData → PyData → Bool
  | .none, .none => true
  | .str x, .str y => decide (x = y)
  | _, _ => false
def rowD : PyData → Bool
  | .tuple [a, b, c] => sideD a && sideD b && !sideEq a b && isNum c
  | _ => false
theorem side_cases {D : DrA} {H : Hp} {v : V} {d : PyData} (h : Da D H v d) (e : sideD d = true) : (v = .non ∧ d = .none) ∨ ∃ x, v = .str x ∧ d = .str x := by
  cases h <;> first | exact .inl ⟨rfl, rfl⟩ | exact .inr ⟨_, rfl, rfl⟩ | cases e
theorem side_eq {D : DrA} {H : Hp} {v u : V} {d e : PyData} (h : Da D H v d) (k : Da D H u e) (hd : sideD d = true) (he : sideD e = true) : scal v u = true ∧ decide (v = u) = sideEq d e := by
  rcases side_cases h hd with ⟨rfl, rfl⟩ | ⟨x, rfl, rfl⟩ <;> rcases side_cases k he with ⟨rfl, rfl⟩ | ⟨y, rfl, rfl⟩
  · exact ⟨rfl, by decide⟩
  · exact ⟨rfl, decide_eq_false (fun z => by cases z)⟩
  · exact ⟨rfl, decide_eq_false (fun z => by cases z)⟩
  · refine ⟨rfl, ?_⟩
    show decide (V.str x = V.str y) = decide (x = y)
    by_cases e : x = y
    · rw [e]; simp
    · rw [decide_eq_false e, decide_eq_false (fun z => e (by injection z))]
section
variable {P : Program} {w : World} {K : PySem.W.Frag} {mg : Str → Option Value} {base : Heap}
abbrev sRow : Stmt := topS 24
def nRow : List Str := ["thing", "a", "b", "c", "name"]
theorem scRow : FnScope nRow ["thing"] (defScope sRow) := ⟨rfl, rfl, rfl, by decide +kernel, rfl, by decide +kernel, by decide +kernel⟩
def spS (f : PyData → Bool) : Sp := fun vs H Q _ => ∃ (D : DrA) (v : V) (d : PyData), vs = [v] ∧ Da D H v d ∧ shortD d = true ∧ ∀ H', Same H H' → Q (.bl (f d)) H'
theorem ok_row {f : Addr} {fd : FuncData} (F : Fun K "is_row" "is_row" sRow f fd) (GT : Has P w K mg base CX0 1 "is_tuple_of" ["thing", "count"] spTupD) (GR : Has P w K mg base CX0 1 "is_row_name" ["thing"] (spB rowNameD)) (GN : Has P w K mg base CX0 1 "is_number" ["thing"] spNum) : FnOk P w K mg base CX0 2 f fd ["thing"] (spS rowD) := by
  refine F.ok scRow (fun vs H Q E h => ?_) (fun cdv A outer s H vs Q E hr h => ?_)
  · obtain ⟨D, v, d, rfl, _⟩ := h
    rfl
  · obtain ⟨D, v, d, rfl, h, sd, q⟩ := h
    refine ⟨_, pss_cons (ps_if (pt_not (pt_val (pe_h GT hr (by decide) (by rfl) pass0 (pa_cons (pv 0) (pa_cons pe_int pa_nil))))) (pss_one (ps_ret pe_bl)) pss_nil)
      (pss_cons (ps_asg (pv 0) (pg_tup rfl (pgs_cons (pg_name (i := 1) scRow.nd rfl (.inl rfl)) (pgs_cons (pg_name (i := 2) scRow.nd rfl (.inl rfl)) (pgs_cons (pg_name (i := 3) scRow.nd rfl (.inl rfl)) pgs_nil)))))
      (pss_cons (ps_for PassesOwn.never rfl (pi_tupK K (pe_tup (pa_cons (pv 1) (pa_cons (pv 2) pa_nil)))) (pg_name (i := 4) scRow.nd rfl (.inl rfl))
        (pss_one (ps_if (pw_and (pt_cmpR op_notN1 (pv 4) pe_non (nomark _)) (pw_and1 (pt_not (pt_val (pe_h GR hr (by decide) (by rfl) pass0 (pa_cons (pv 4) pa_nil)))))).pt (pss_one (ps_ret pe_bl)) pss_nil)))
      (pss_one (ps_ret (pe_and (pe_cmpR op_ne (pv 1) (pv 2) (nomark _)) (pe_one (pe_h GN hr (by decide) (by rfl) pass0 (pa_cons (pv 3) pa_nil)))))))), ?_⟩
    refine ⟨_, rfl, D, v, d, 3, rfl, h, _, rfl, ?_⟩
    by_cases e : tupLen d = some 3
    · rw [decide_eq_true e]
      have et : isTup d = true := by cases d <;> first | rfl | cases e
      obtain ⟨p, xs, ds, rfl, rfl, hp, pd, pw, ha⟩ := h.tupOf et
      have el : ds.length = 3 := Option.some.inj e
      obtain ⟨a, b, c, rfl⟩ : ∃ a b c, ds = [a, b, c] := by
        match ds, el with
        | [a, b, c], _ => exact ⟨a, b, c, rfl⟩
      cases ha with
      | cons h1 ha => cases ha with
      | cons h2 ha => cases ha with
      | cons h3 ha =>
        cases ha
        rename_i va vb vc
        have sd : (shortD a && (shortD b && (shortD c && true))) = true := sd
        rw [Bool.and_eq_true, Bool.and_eq_true, Bool.and_eq_true] at sd
        obtain ⟨sa, sb, sc, _⟩ := sd
        refine iteF ⟨_, rfl, p, _, rfl, SqT.of hp, rfl, _, _, rfl, _, _, rfl, _, _, rfl, rfl, ?_⟩
        refine ⟨_, rfl, _, rfl, (by show 2 ≤ sizeLine; decide), fun t nt => ⟨t, rfl, ⟨_, SqT.of upd_same⟩, ?_⟩⟩
        have s1 := same_upd (o := .tup [va, vb]) nt
        have ht : (upd H t (.tup [va, vb])) t = some (.tup [va, vb]) := upd_same
        generalize upd H t (.tup [va, vb]) = H1 at *
        have h1 := h1.sm s1
        have h2 := h2.sm s1
        have h3 := h3.sm s1
        refine for_tup (K := K) (a := t) (xs := [va, vb]) (fun i σ H' => H' = H1 ∧ (0 < i → sideD a = true) ∧ (1 < i → sideD b = true) ∧ ∃ x4, σ = [some (.ref p), some va, some vb, some vc, x4])
          ⟨rfl, fun z => absurd z (by omega), fun z => absurd z (by omega), none, rfl⟩ (fun i σ H' _ z => by rw [z.1]; exact SqT.of ht) ?_ ?_
        · rintro i x σ H' hx ⟨rfl, ka, kb, x4, rfl⟩
          obtain ⟨dx, hd, sx, bad, good⟩ : ∃ dx, Da D H' x dx ∧ shortD dx = true ∧ (sideD dx = false → rowD (.tuple [a, b, c]) = false) ∧ (sideD dx = true → (0 < i + 1 → sideD a = true) ∧ (1 < i + 1 → sideD b = true)) := by
            match i, hx with
            | 0, hx =>
              obtain rfl : va = x := Option.some.inj hx
              exact ⟨a, h1, sa, fun z => by show (sideD a && sideD b && !sideEq a b && isNum c) = false; rw [z]; rfl, fun z => ⟨fun _ => z, fun y => absurd y (by omega)⟩⟩
            | 1, hx =>
              obtain rfl : vb = x := Option.some.inj hx
              exact ⟨b, h2, sb, fun z => by show (sideD a && sideD b && !sideEq a b && isNum c) = false; rw [z, Bool.and_false]; rfl, fun z => ⟨fun _ => ka (by omega), fun _ => z⟩⟩
            | n + 2, hx => simp at hx
          refine ⟨_, rfl, rfl, _, rfl, ?_⟩
          by_cases xn : x = .non
          · subst xn
            cases hd
            rw [decide_eq_true rfl]
            exact iteF (iteF ⟨rfl, (good rfl).1, (good rfl).2, _, rfl⟩)
          · rw [decide_eq_false xn]
            refine iteT ⟨_, rfl, D, x, dx, rfl, hd, sx, _, rfl, ?_⟩
            have es : sideD dx = rowNameD dx := by cases hd <;> first | rfl | exact absurd rfl xn
            cases er : rowNameD dx with
            | true => exact iteF ⟨rfl, (good (es.trans er)).1, (good (es.trans er)).2, _, rfl⟩
            | false =>
              have q := q H' s1
              rw [bad (es.trans er)] at q
              exact iteT q
        · rintro σ H' ⟨rfl, ka, kb, x4, rfl⟩
          have ka := ka (Nat.zero_lt_succ 1)
          have kb := kb (Nat.lt_succ_self 1)
          obtain ⟨z1, z2⟩ := side_eq h1 h2 ka kb
          have q := q H' s1
          have er : rowD (.tuple [a, b, c]) = (!sideEq a b && isNum c) := by
            show (sideD a && sideD b && !sideEq a b && isNum c) = _
            rw [ka, kb]
            rfl
          rw [er] at q
          refine ⟨_, rfl, _, rfl, z1, _, rfl, ?_⟩
          rw [z2]
          refine ite2 (fun z => ⟨_, rfl, D, vc, c, rfl, h3, ?_⟩) (fun z => ?_)
          · rw [z, Bool.true_and] at q
            exact q
          · rw [Bool.not_eq_true] at z
            rw [z, Bool.false_and] at q
            exact q
    · rw [decide_eq_false e]
      have z : rowD d = false := by
        cases d with
        | tuple ds =>
          match ds, e with
          | [], _ => rfl
          | [_], _ => rfl
          | [_, _], _ => rfl
          | [_, _, _], e => exact absurd rfl e
          | _ :: _ :: _ :: _ :: _, _ => rfl
        | _ => rfl
      have q := q H (fun _ _ z => z)
      rw [z] at q
      exact iteT q
end
theorem row_three {r : List PyData} (h : rowD (.tuple r) = true) : ∃ a b c, r = [a, b, c] ∧ sideD a = true ∧ sideD b = true := by
  match r, h with
  | [a, b, c], h =>
    have h : (sideD a && sideD b && !sideEq a b && isNum c) = true := h
    rw [Bool.and_eq_true, Bool.and_eq_true, Bool.and_eq_true] at h
    exact ⟨a, b, c, rfl, h.1.1.1, h.1.1.2⟩
  | [], h => cases h
  | [_], h => cases h
  | [_, _], h => cases h
  | _ :: _ :: _ :: _ :: _, h => cases h
theorem short_get : ∀ {ds : List PyData}, shortAll ds = true → ∀ d ∈ ds, shortD d = true
  | [], _, _, h => nomatch h
  | e :: r, s, d, h => by
    have s : (shortD e && shortAll r) = true := s
    rw [Bool.and_eq_true] at s
    rcases List.mem_cons.mp h with rfl | h
    · exact s.1
    · exact short_get s.2 d h
theorem none_of {H H' : Hp} {p : Addr} (s : Same H H') (n : H' p = none) : H p = none := by
  cases e : H p with
  | none => rfl
  | some o => rw [s _ _ e] at n; cases n
theorem cr_allK {X : Cx} (K : PySem.W.Frag) (hc : X.calm = true) (hK : X.K = K := by rfl) : CallR X (.builtin "all") (rAll K) := hK ▸ cr_all hc
def isLst : PyData → Bool
  | .list _ => true
  | _ => false
theorem kit_list (K : PySem.W.Frag) : ∀ d : PyData, PySem.W.kitOne K (.type (kindOf d)) (.type "list") = some (isLst d)
  | .none => kit_ty (show kitB "NoneType" "list" = some false by decide +kernel)
  | .bool _ => kit_ty (show kitB "bool" "list" = some false by decide +kernel)
  | .int _ => kit_ty (show kitB "int" "list" = some false by decide +kernel)
  | .str _ => kit_ty (show kitB "str" "list" = some false by decide +kernel)
  | .list _ => kit_ty (show kitB "list" "list" = some true by decide +kernel)
  | .tuple _ => kit_ty (show kitB "tuple" "list" = some false by decide +kernel)
  | .dict _ => kit_ty (show kitB "dict" "list" = some false by decide +kernel)
theorem kit_listing (K : PySem.W.Frag) (d : PyData) : PySem.W.kitAny K (.type (kindOf d)) [.type "list", .type "tuple"] = some (isLst d || isTup d) := by
  unfold PySem.W.kitAny
  rw [kit_list K d]
  cases h : isLst d with
  | true => rfl
  | false =>
    show PySem.W.kitAny K (.type (kindOf d)) [.type "tuple"] = some (isTup d)
    unfold PySem.W.kitAny
    rw [kit_tup K d]
    cases isTup d <;> rfl
section
variable {P : Program} {w : World} {K : PySem.W.Frag} {mg : Str → Option Value} {base : Heap}
abbrev sListing : Stmt := topS 7
theorem scListing : FnScope ["thing"] ["thing"] (defScope sListing) := ⟨rfl, rfl, rfl, by decide +kernel, rfl, by decide +kernel, by decide +kernel⟩
def spListing : Sp := fun vs H Q _ => ∃ (D : DrA) (v : V) (d : PyData), vs = [v] ∧ Da D H v d ∧ ∀ H', Same H H' → Q (.bl (isLst d || isTup d)) H'
theorem ok_listing {f : Addr} {fd : FuncData} (F : Fun K "is_listing" "is_listing" sListing f fd) (N : Bl mg) : FnOk P w K mg base CX0 1 f fd ["thing"] spListing := by
  refine F.ok scListing (fun vs H Q E h => ?_) (fun cdv A outer s H vs Q E hr h => ?_)
  · obtain ⟨D, v, d, rfl, _⟩ := h
    rfl
  · obtain ⟨D, v, d, rfl, h, q⟩ := h
    refine ⟨_, pss_one (ps_ret (pe_callB call_isiT (by rfl) N.bisi (by decide +kernel) (pa_cons (pv 0) (pa_cons (pe_tup (pa_cons (pe_bltn (v := .ty "list") (by rfl) N.blist (by decide +kernel) rfl)
      (pa_cons (pe_bltn (v := .ty "tuple") (by rfl) N.btup (by decide +kernel) rfl) pa_nil))) pa_nil)))), ?_⟩
    refine ⟨v, rfl, (by show 2 ≤ sizeLine; decide), fun p np => ?_⟩
    exact ⟨v, p, _, _, [.type "list", .type "tuple"], _, rfl, upd_same, .cons (.ty "list") (.cons (.ty "tuple") .nil), (h.sm (same_upd np)).ty, kit_listing K d, q _ (same_upd np)⟩
def rowsD : PyData → Option (List PyData)
  | .list ds => some ds
  | .tuple ds => some ds
  | _ => none
def sysD (d : PyData) : Bool :=
  match rowsD d with
  | some ds => decide (ds.length ≤ 400) && ds.all rowD
  | none => false
theorem rows_kind (d : PyData) : (isLst d || isTup d) = (rowsD d).isSome := by cases d <;> rfl
theorem Da.rows {D : DrA} {H : Hp} {v : V} {d : PyData} {ds : List PyData} (h : Da D H v d) (e : rowsD d = some ds) : ∃ p xs, v = .ref p ∧ DaAll D H xs ds ∧ p ≠ D.d ∧ p ≠ D.w ∧ (H p = some (.lst xs) ∨ H p = some (.tup xs)) := by
  cases h with
  | lst h n1 n2 ha => cases e; exact ⟨_, _, rfl, ha, n1, n2, .inl h⟩
  | tup h n1 n2 ha => cases e; exact ⟨_, _, rfl, ha, n1, n2, .inr h⟩
  | _ => cases e
theorem short_rows {d : PyData} {ds : List PyData} (h : shortD d = true) (e : rowsD d = some ds) : shortAll ds = true := by
  cases d <;> cases e <;> exact h
abbrev sSys : Stmt := topS 25
def nSys : List Str := ["thing", "row"]
theorem scSys : FnScope nSys ["thing"] (defScope sSys) := ⟨rfl, rfl, rfl, by decide +kernel, rfl, by decide +kernel, by decide +kernel⟩
def iOr (a b : TI) : TI := fun σ H R => a σ H R ∨ b σ H R
theorem pi_or {X : Cx} {tg e : Expr} {a b : TI} (h1 : PI X tg e a) (h2 : PI X tg e b) : PI X tg e (iOr a b) := ⟨fun pins s σ H R I h => h.elim (h1.run pins s σ H R I) (h2.run pins s σ H R I)⟩
theorem ok_sys {f : Addr} {fd : FuncData} {tm : Tok} (F : Fun K "is_system" "is_system" sSys f fd) (N : Bl mg) (MR : mg "MOST_ROWS" = some (.int 400 tm)) (GL : Has P w K mg base CX0 1 "is_listing" ["thing"] spListing) (GR : Has P w K mg base CX0 2 "is_row" ["thing"] (spS rowD)) : FnOk P w K mg base CX0 3 f fd ["thing"] (spS sysD) := by
  refine F.ok scSys (fun vs H Q E h => ?_) (fun cdv A outer s H vs Q E hr h => ?_)
  · obtain ⟨D, v, d, rfl, _⟩ := h
    rfl
  · obtain ⟨D, v, d, rfl, hd, sd, q⟩ := h
    refine ⟨_, pss_cons (ps_if (pw_or (pt_not (pt_val (pe_h GL hr (by decide) (by rfl) pass0 (pa_cons (pv 0) pa_nil))))
          (pw_or1 (pt_cmpR op_gt (pe_callB call_len_seq (by rfl) N.blen PySem.boot_len (pa_cons (pv 0) pa_nil)) (pe_glob (v := .int 400) (by rfl) MR ⟨tm, rfl⟩) (nomark _)))).pt (pss_one (ps_ret pe_bl)) pss_nil)
      (pss_one (ps_ret (pe_callB (cr_allK K rfl) (by rfl) N.ball (by decide +kernel) (pa_cons
          (pe_lc (own := [("row", 1)]) (g := gName 1) (tt := tYes) rfl scSys.nd (pi_or (pi_listK K (pv 0)) (pi_tupK K (pv 0))) (blkOk_by (own := [("row", 1)]) (N := nSys) (sc := defScope sSys) (by decide +kernel)) (fun _ _ _ _ _ => pg_name (i := 1) scSys.nd rfl (Or.inl rfl))
            (fun _ _ _ _ _ => pts_nil) (fun _ _ _ _ _ => pe_h GR hr (by decide) (by rfl) pass0 (pa_cons (pv 1) pa_nil))) pa_nil)))), ?_⟩
    refine ⟨_, rfl, D, v, d, rfl, hd, fun H1 s1 => ⟨_, rfl, ?_⟩⟩
    rw [rows_kind]
    cases er : rowsD d with
    | none =>
      have q := q H1 s1
      have z : sysD d = false := by unfold sysD; rw [er]
      rw [z] at q
      exact iteT q
    | some ds =>
      obtain ⟨p, xs, rfl, ha, n1, n2, hp⟩ := hd.rows er
      have hl := ha.length
      have sall := short_rows sd er
      have en : sysD d = (decide (ds.length ≤ 400) && ds.all rowD) := by unfold sysD; rw [er]
      have hq : SqL K H1 p xs ∨ SqT K H1 p xs := by
        rcases hp with hp | hp
        · exact .inl (SqL.of (s1 _ _ hp))
        · exact .inr (SqT.of (s1 _ _ hp))
      refine iteF ⟨_, rfl, p, xs, rfl, hq, _, _, rfl, rfl, _, rfl, ?_⟩
      by_cases l4 : ds.length ≤ 400
      · have : ¬ (400 : Int) < (xs.length : Nat) := by omega
        rw [decide_eq_false this]
        rw [decide_eq_true l4, Bool.true_and] at en
        have body : ∀ (R : Addr) (nR : H1 R = none) (j : Nat) (y : V) (H' : Hp), xs[j]? = some y → (Same H1 H' ∧ H' R = some (.lst (((ds.take j).map rowD).map V.bl))) →
            ∃ dy, ds[j]? = some dy ∧ Da D H' y dy ∧ shortD dy = true := fun R nR j y H' hy ⟨s2, hR⟩ => by
          obtain ⟨dy, hdy, gy⟩ := ha.get hy
          exact ⟨dy, hdy, (gy.sm s1).sm s2, short_get sall dy (List.mem_of_getElem? hdy)⟩
        refine iteF ?_
        rcases hp with hp | hp
        · refine .inl ⟨_, rfl, p, rfl, ⟨_, SqL.of (s1 _ _ hp)⟩, fun R nR => lc_list (K := K) (a := p) (xs := xs) (fun j H' => Same H1 H' ∧ H' R = some (.lst (((ds.take j).map rowD).map V.bl))) ⟨same_upd nR, upd_same⟩ (fun j H' _ h => SqL.of (h.1 _ _ (s1 _ _ hp))) ?_ ?_⟩
          · rintro j y H' hy h
            obtain ⟨dy, hdy, gy, sy⟩ := body R nR j y H' hy h
            refine ⟨rfl, _, rfl, D, y, dy, rfl, gy, sy, fun H'' s3 => ⟨_, s3 _ _ h.2, ?_, same_put (fun b o e => s3 b o (h.1 b o e)) nR, ?_⟩⟩
            · rw [List.length_map, List.length_map, List.length_take]
              exact small1000 (by omega)
            · rw [List.take_add_one, hdy, List.map_append, List.map_append]
              exact upd_same
          · rintro H' ⟨s2, hR⟩
            rw [hl, List.take_length] at hR
            have q := q H' fun b o e => s2 b o (s1 b o e)
            rw [en] at q
            refine ⟨R, _, rfl, SqL.of hR, ?_⟩
            rw [List.all_map]
            exact q
        · refine .inr ⟨_, rfl, p, rfl, ⟨_, SqT.of (s1 _ _ hp)⟩, fun R nR => lc_tup (K := K) (a := p) (xs := xs) (fun j H' => Same H1 H' ∧ H' R = some (.lst (((ds.take j).map rowD).map V.bl))) ⟨same_upd nR, upd_same⟩ (fun j H' _ h => SqT.of (h.1 _ _ (s1 _ _ hp))) ?_ ?_⟩
          · rintro j y H' hy h
            obtain ⟨dy, hdy, gy, sy⟩ := body R nR j y H' hy h
            refine ⟨rfl, _, rfl, D, y, dy, rfl, gy, sy, fun H'' s3 => ⟨_, s3 _ _ h.2, ?_, same_put (fun b o e => s3 b o (h.1 b o e)) nR, ?_⟩⟩
            · rw [List.length_map, List.length_map, List.length_take]
              exact small1000 (by omega)
            · rw [List.take_add_one, hdy, List.map_append, List.map_append]
              exact upd_same
          · rintro H' ⟨s2, hR⟩
            rw [hl, List.take_length] at hR
            have q := q H' fun b o e => s2 b o (s1 b o e)
            rw [en] at q
            refine ⟨R, _, rfl, SqL.of hR, ?_⟩
            rw [List.all_map]
            exact q
      · have : (400 : Int) < (xs.length : Nat) := by omega
        rw [decide_eq_true this]
        have q := q H1 s1
        rw [en, decide_eq_false l4] at q
        exact iteT q
end
def oV : Option Str → V
  | none => .non
  | some x => .str x
def oD : Option Str → PyData
  | none => .none
  | some x => .str x
def unO : PyData → Option Str
  | .str x => some x
  | _ => none
def unI : PyData → Int
  | .int c => c
  | _ => 0
theorem row_z {a b c : PyData} (h : rowD (.tuple [a, b, c]) = true) : (sideD a = true ∧ sideD b = true) ∧ sideEq a b = false ∧ ∃ z, c = .int z := by
  have h : (sideD a && sideD b && !sideEq a b && isNum c) = true := h
  rw [Bool.and_eq_true, Bool.and_eq_true, Bool.and_eq_true, Bool.not_eq_true'] at h
  refine ⟨h.1.1, h.1.2, ?_⟩
  cases c <;> first | exact ⟨_, rfl⟩ | cases h.2
theorem side_o {D : DrA} {H : Hp} {v : V} {d : PyData} (h : Da D H v d) (e : sideD d = true) : v = oV (unO d) ∧ d = oD (unO d) := by
  rcases side_cases h e with ⟨rfl, rfl⟩ | ⟨x, rfl, rfl⟩ <;> exact ⟨rfl, rfl⟩
theorem side_un {d : PyData} (e : sideD d = true) : d = oD (unO d) := by
  cases d <;> first | rfl | cases e
theorem side_ne {a b : PyData} (ha : sideD a = true) (hb : sideD b = true) (h : sideEq a b = false) : unO a ≠ unO b := by
  intro e
  have ea := side_un ha
  have eb := side_un hb
  rw [ea, eb, e] at h
  cases hx : unO b with
  | none => rw [hx] at h; cases h
  | some x =>
    rw [hx] at h
    have : decide (x = x) = false := h
    simp at this
end Lm
/-! set(a list of texts), and sorted of it. -/
namespace Lm
open PySem PySem.Spec PyProof.Rows L2
def tkOf (e : Int × Value) : Str := match e.2 with
  | .str k _ => k
  | _ => Str.empty
def TxE (w : World) (e : Int × Value) : Prop := ∃ (k : Str) (tk : Tok), e.2 = Value.str k tk ∧ e.1 = hashStr w k
/-- the set at a holds just the texts of S -/
def TxS (w : World) (h : Heap) (a : Addr) (S : List Str) : Prop :=
  ∃ (o : Obj) (es : Array (Int × Value)) (ep : Nat) (t : SetTable), h.get? a = some o ∧ (o.ExactSet ∧ o.data = .set es ep t) ∧ (∀ e ∈ es.toList, TxE w e) ∧ (es.toList.map tkOf).Nodup ∧ (∀ k, k ∈ S ↔ k ∈ es.toList.map tkOf) ∧
    (es.size < scanBound ∧ t.fits es.size = true ∧ es.size ≤ S.length) ∧ Ris t.place.toList ∧ (w.params.followText "set-order" = true ∨ t.led = true)
section
variable {P : Program} {w : World} {h h' : Heap} {a : Addr} {S : List Str}
theorem TxS.stay (x : TxS w h a S) (k : ∀ o, h.get? a = some o → h'.get? a = some o) : TxS w h' a S :=
  let ⟨o, es, ep, t, ho, more⟩ := x
  ⟨o, es, ep, t, k o ho, more⟩
theorem tx_elems {l : List (Int × Value)} (g : ∀ e ∈ l, TxE w e) : ElemsOf (PySem.strKind P w) l := fun e he => by
  obtain ⟨k, tk, h1, h2⟩ := g e he
  refine ⟨⟨k, ?_, h2⟩, ?_⟩
  · rw [h1]
    exact strKind_is P w k tk
  · rw [h1]
    rfl
theorem tx_is {e : Int × Value} (g : TxE w e) (k : Str) : (PySem.strKind P w).is k e.2 = true ↔ tkOf e = k := by
  obtain ⟨k0, tk, h1, _⟩ := g
  unfold tkOf
  rw [h1]
  constructor
  · intro q
    exact (PySem.strKind P w).inj _ _ _ (strKind_is P w k0 tk) q
  · rintro rfl
    exact strKind_is P w _ tk
theorem tx_mem {l : List (Int × Value)} (g : ∀ e ∈ l, TxE w e) (k : Str) : k ∈ l.map tkOf ↔ ∃ e ∈ l, (PySem.strKind P w).is k e.2 = true := by
  rw [List.mem_map]
  exact ⟨fun ⟨e, he, q⟩ => ⟨e, he, (tx_is (g e he) k).2 q⟩, fun ⟨e, he, q⟩ => ⟨e, he, (tx_is (g e he) k).1 q⟩⟩
theorem tx_fresh (ho : h.get? a = some { cls := .type "set", dict := none, data := .set #[] 0 (.fresh 0 0 (!w.params.followText "set-order")) }) : TxS w h a [] := by
  refine ⟨_, #[], 0, _, ho, ⟨⟨rfl, rfl, rfl⟩, rfl⟩, fun e he => by simp at he, .nil, fun k => by simp, ⟨by decide, rfl, Nat.le_refl _⟩, List.Pairwise.nil, ?_⟩
  show _ ∨ (!w.params.followText "set-order") = true
  cases w.params.followText "set-order"
  · exact .inr rfl
  · exact .inl rfl
end
section
variable {P : Program} {w : World} {A : Around} {E : Value → Shared → Prop} {s : Shared} {a : Addr} {S : List Str}
/-- what is behind the table's write -/
theorem tx_put {g : Bool → Sem Unit} (hg : ∀ (b : Bool) (s₁ : Shared) (Q' : Unit → Shared → Prop), Q' () s₁ → wpAny (model P w) A (g b) Q' E s₁)
    {o : Obj} {es es1 : Array (Int × Value)} {ep : Nat} {t t2 : SetTable} {S' : List Str} {R : Option Bool → Shared → Prop} {wasDummy : Bool} (ho : s.heap.get? a = some o) (hx : o.ExactSet) (hd : o.data = .set es ep t)
    (g1 : ∀ e ∈ es1.toList, TxE w e) (nd : (es1.toList.map tkOf).Nodup) (m1 : ∀ k, k ∈ S' ↔ k ∈ es1.toList.map tkOf) (b1 : es1.size < scanBound) (f1 : t2.fits es1.size = true) (l1 : es1.size ≤ S'.length) (r1 : Ris t2.place.toList) (d1 : w.params.followText "set-order" = true ∨ t2.led = true)
    (hR : ∀ h', Heap.SameBut a s.heap h' → TxS w h' a S' → R (some true) { s with heap := h' }) :
    wpAny (model P w) A (storeSet a es1 t2 >>= fun _ => if (!wasDummy && t2.tooFull) = true then (g (relayAll t2 es1 (SetTable.grown es1.size)).2.2 >>= fun _ =>
      storeSet a (relayAll t2 es1 (SetTable.grown es1.size)).1 (relayAll t2 es1 (SetTable.grown es1.size)).2.1 >>= fun _ => pure (some true)) else pure (some true)) R E s := by
  refine wpAny_bind (wpAny_storeSet_of ho hd ?_ (fits_of_scanBound b1))
  have o1 := store_at (es' := es1) (t' := t2) ho hd
  have sb := Heap.SameBut.update s.heap a (Obj.putSet es1 t2)
  by_cases c : (!wasDummy && t2.tooFull) = true
  · rw [if_pos c]
    have pm : (relayAll t2 es1 (SetTable.grown es1.size)).1.toList.Perm es1.toList := relayAll_perm t2 es1 _
    have f3 : (relayAll t2 es1 (SetTable.grown es1.size)).2.1.fits (relayAll t2 es1 (SetTable.grown es1.size)).1.size = true := relayAll_fits t2 es1 _
    have r3 : Ris (relayAll t2 es1 (SetTable.grown es1.size)).2.1.place.toList := relayAll_ris t2 es1 _
    have d3 : (relayAll t2 es1 (SetTable.grown es1.size)).2.1.led = t2.led := relayAll_led t2 es1 _
    generalize (relayAll t2 es1 (SetTable.grown es1.size)) = Z at pm f3 r3 d3 ⊢
    have zl : Z.1.size = es1.size := by
      have q := pm.length_eq
      rw [Array.length_toList, Array.length_toList] at q
      exact q
    refine wpAny_bind (hg _ _ _ (wpAny_bind (wpAny_storeSet_of o1 rfl ?_ (fits_of_scanBound (by rw [zl]; exact b1)))))
    have o2 := store_at (es' := Z.1) (t' := Z.2.1) o1 rfl
    refine wpAny_pure (hR _ (sb.trans (Heap.SameBut.update _ a _)) ⟨_, Z.1, _, Z.2.1, o2, ⟨hx, rfl⟩, fun e he => g1 e (pm.mem_iff.mp he), (pm.map tkOf).nodup_iff.mpr nd, fun k => (m1 k).trans (pm.map tkOf).mem_iff.symm, ⟨by rw [zl]; exact b1, f3, by rw [zl]; exact l1⟩, r3, d1.imp id fun z => d3.trans z⟩)
  · rw [if_neg c]
    exact wpAny_pure (hR _ sb ⟨_, es1, _, t2, o1, ⟨hx, rfl⟩, g1, nd, m1, ⟨b1, f1, l1⟩, r1, d1⟩)
theorem tx_add {k : Str} {tk : Tok} {Q : Bool → Shared → Prop} (x : TxS w s.heap a S) (room : S.length + 1 < scanBound)
    (hQ : ∀ h' b, Heap.SameBut a s.heap h' → TxS w h' a (S ++ [k]) → Q b { s with heap := h' }) :
    wpAny (model P w) A (setAddHashed a (.str k tk) ((PySem.strKind P w).hash k)) Q E s := by
  obtain ⟨o, es, ep, t, ho, ⟨hx, hd⟩, g, nd, hm, ⟨hb, hf, hl⟩, hr, hd2⟩ := x
  have is0 : (PySem.strKind P w).is k (.str k tk) = true := strKind_is P w k tk
  have sc : (Value.str k tk).scannable = true := rfl
  have el : ElemsOf (PySem.strKind P w) es.toList := tx_elems g
  unfold setAddHashed
  unfold setAddHashedIn
  refine wpAny_holding (wpAny_bind (wpAny_setState_of ho hd hf ?_))
  dsimp only
  rw [byScan_of sc hb el, if_pos rfl]
  unfold setAddByScan
  refine wpAny_bind (wpAny_bind (wpAny_rule (wpAny_bind (wpAny_setScan_of is0 ho hd hf el ?_))))
  cases hfi : List.findIdx? (fun e => (PySem.strKind P w).is k e.2) es.toList with
  | some j =>
    dsimp only
    obtain ⟨hj, pj, _⟩ := List.findIdx?_eq_some_iff_getElem.mp hfi
    have mk : k ∈ S := (hm k).2 ((tx_mem (P := P) (w := w) g k).2 ⟨es.toList[j], List.getElem_mem hj, pj⟩)
    refine wpAny_pure (wpAny_pure (hQ s.heap _ (Heap.SameBut.refl a s.heap) ⟨o, es, ep, t, ho, ⟨hx, hd⟩, g, nd, fun i => ?_, ⟨hb, hf, by rw [List.length_append]; omega⟩, hr, hd2⟩))
    rw [List.mem_append, ← hm i, List.mem_singleton]
    exact ⟨fun z => z.elim id fun e => by rw [e]; exact mk, .inl⟩
  | none =>
    dsimp only
    have nk : k ∉ es.toList.map tkOf := fun z => by
      obtain ⟨e, he, q⟩ := (tx_mem (P := P) (w := w) g k).1 z
      have c := List.findIdx?_eq_none_iff.mp hfi e he
      rw [q] at c
      cases c
    have gw : ∀ (b : Bool) {s₁ : Shared} {Q' : Unit → Shared → Prop}, Q' () s₁ → wpAny (model P w) A (match b with | true => rule "set.scan.the-table-gave-way" | false => pure ()) Q' E s₁ :=
      fun b s₁ Q' q => by cases b <;> first | exact wpAny_pure q | exact wpAny_rule q
    have pm := layNew_perm t es ((PySem.strKind P w).hash k) (.str k tk)
    have lf := layNew_fits t es ((PySem.strKind P w).hash k) (.str k tk)
    have lr := layNew_ris t es ((PySem.strKind P w).hash k) (.str k tk) hr
    have ll := layNew_led t es ((PySem.strKind P w).hash k) (.str k tk)
    generalize layNew t es ((PySem.strKind P w).hash k) (.str k tk) = Z at pm lf lr ll ⊢
    obtain ⟨es1, t1, wasDummy, gave⟩ := Z
    dsimp only at pm lf lr ll ⊢
    rw [Array.toList_push] at pm
    have pc : es1.toList.Perm (((PySem.strKind P w).hash k, Value.str k tk) :: es.toList) := pm.trans (List.perm_append_singleton _ _)
    have pk : (es1.toList.map tkOf).Perm (k :: es.toList.map tkOf) := pc.map tkOf
    have g1 : ∀ e ∈ es1.toList, TxE w e := fun e he => by
      rcases List.mem_cons.mp (pc.mem_iff.mp he) with z | z
      · rw [z]; exact ⟨k, tk, rfl, rfl⟩
      · exact g e z
    have nd1 : (es1.toList.map tkOf).Nodup := pk.nodup_iff.mpr (List.nodup_cons.mpr ⟨nk, nd⟩)
    have m1 : ∀ i, i ∈ S ++ [k] ↔ i ∈ es1.toList.map tkOf := fun i => by
      rw [pk.mem_iff, List.mem_cons, ← hm i, List.mem_append, List.mem_singleton]
      exact Or.comm
    have sz : es1.size = es.size + 1 := by
      have q := pc.length_eq
      rw [Array.length_toList, List.length_cons, Array.length_toList] at q
      exact q
    have b1 : es1.size < scanBound := by omega
    have l1 : es1.size ≤ (S ++ [k]).length := by
      rw [List.length_append]
      show es1.size ≤ S.length + 1
      omega
    have d1 : w.params.followText "set-order" = true ∨ t1.led = true := hd2.imp id fun z => ll.trans z
    refine wpAny_bind (gw _ ?_)
    by_cases c : t1.plain = true
    · rw [if_pos c]
      refine wpAny_bind ?_
      rw [hashByValue_scannable 8 sc]
      refine wpAny_pure (tx_put ?_ ho hx hd g1 nd1 m1 b1 ?_ l1 ?_ ?_ fun h' sb r => wpAny_pure (hQ h' _ sb r))
      · intro b s₁ Q' q
        cases b <;> first | exact wpAny_pure q | exact wpAny_rule q
      · split <;> first | exact lf | exact SetTable.fits_plain_off lf
      · split <;> exact lr
      · split <;> exact d1
    · rw [if_neg c]
      refine wpAny_bind (wpAny_pure ?_)
      rw [if_pos rfl]
      refine tx_put ?_ ho hx hd g1 nd1 m1 b1 lf l1 lr d1 fun h' sb r => wpAny_pure (hQ h' _ sb r)
      intro b s₁ Q' q
      cases b <;> first | exact wpAny_pure q | exact wpAny_rule q
end
end Lm
/-! Dicts with None among their keys: stored to, walked, asked for their class; None looked up in a dict of texts. -/
namespace Lm
open PySem PySem.Spec PyProof.Rows L2
theorem mix_n {P : Program} {w : World} {h : Heap} {a : Addr} {vs : List (Key × Value)} (d : h.DictOf (mixKind P w) a vs) : h.DictOf (noneKind P w) a (vs.map fun p => (some p.1, p.2)) := by
  obtain ⟨o, es, ep, h1, h2, h3, h4, h5, h6⟩ := d
  have key : ∀ {l : List DictEntry} {m : List (Key × Value)}, Pairs (mixKind P w) l m → Pairs (noneKind P w) l (m.map fun p => (some p.1, p.2)) := by
    intro l m q
    induction q with
    | nil => exact .nil
    | @cons e kv l' m' k1 k2 _ ih => exact .cons (show nkIs (some kv.1) e.key = true from k1) k2 ih
  refine ⟨o, es, ep, h1, h2, h3, fun e he => ?_, key h5, ?_⟩
  · obtain ⟨k, hk, hh⟩ := h4 e he
    exact ⟨some k, hk, hh⟩
  · rw [List.map_map]
    have e : ((fun p : Option Key × Value => p.1) ∘ fun p : Key × Value => (some p.1, p.2)) = (fun k : Key => some k) ∘ fun p : Key × Value => p.1 := rfl
    rw [e, ← List.map_map]
    exact List.Pairwise.map _ (fun x y hxy z => hxy (Option.some.inj z)) h6
/-- the dict at a -/
def NX (P : Program) (w : World) (a : Addr) (kvs : List (Option Key × V)) : HO := .ext fun h => kvs.length ≤ sizeLine ∧ (a == sysModules) = false ∧ ∃ vs, KV kvs vs ∧ h.DictOf (noneKind P w) a vs
def kN : Option Key → V
  | none => .non
  | some k => kV k
theorem relV_n {k : Option Key} {u : Value} (h : nkIs k u = true) : RelV (kN k) u := by
  cases k with
  | none => exact nk_none h
  | some k => exact relV_key h
theorem kN_is {P : Program} {w : World} {k : Option Key} {u : Value} (r : RelV (kN k) u) : (noneKind P w).is k u = true := by
  cases k with
  | none =>
    obtain rfl : u = Value.none := r
    rfl
  | some k => exact kV_is (P := P) (w := w) r
theorem nx_ok {P : Program} {w : World} {H : Hp} {h : Heap} {a : Addr} {kvs : List (Option Key × V)} {vs : List (Option Key × Value)} (z : kvs.length ≤ sizeLine) (hd : (a == sysModules) = false) (rel : KV kvs vs) (dd : h.DictOf (noneKind P w) a vs) : ObjOk P w H h a (NX P w a kvs) := by
  refine ⟨⟨z, hd, vs, rel, dd⟩, let ⟨o, _, _, e, _⟩ := dd; ⟨o, e⟩, ?_⟩
  rintro h1 h2 ⟨z, hd, vs, rel, o, es, ep, e, r⟩ k
  exact ⟨z, hd, vs, rel, o, es, ep, k o e, r⟩
theorem kv_some {kvs : List (Key × V)} {vs : List (Key × Value)} (h : KV kvs vs) : KV (kvs.map fun p => ((some p.1 : Option Key), p.2)) (vs.map fun p => ((some p.1 : Option Key), p.2)) := by
  unfold KV at h ⊢
  induction h with
  | nil => exact .nil
  | cons r t ih => exact .cons ⟨congrArg some r.1, r.2⟩ ih
/-- a dict of ints and texts, or of None as well -/
def DicO (P : Program) (w : World) (H : Hp) (a : Addr) (kvs : List (Option Key × V)) : Prop := (∃ ks, H a = some (.dK ks) ∧ kvs = ks.map fun p => (some p.1, p.2)) ∨ H a = some (NX P w a kvs)
section
variable {X : Cx} {pins : List (Addr × Obj)} {σ : L2.St} {H : Hp} {s : Shared} {d : Addr} {o : Obj}
theorem nx_of {kvs : List (Option Key × V)} (I : Inv X pins σ H s) (h : H d = some (NX X.prog X.w d kvs)) : kvs.length ≤ sizeLine ∧ (d == sysModules) = false ∧ ∃ vs, KV kvs vs ∧ s.heap.DictOf (noneKind X.prog X.w) d vs := (I.hok d _ h).1
theorem dicO_of {kvs : List (Option Key × V)} (I : Inv X pins σ H s) (h : DicO X.prog X.w H d kvs) : kvs.length ≤ sizeLine ∧ (d == sysModules) = false ∧ (∃ vs, KV kvs vs ∧ s.heap.DictOf (noneKind X.prog X.w) d vs) ∧ Mut (H d) := by
  rcases h with ⟨ks, h, rfl⟩ | h
  · obtain ⟨z, hd, vs, rel, dd⟩ := dk_of I.hok h
    exact ⟨by rw [List.length_map]; exact z, hd, ⟨_, kv_some rel, mix_n dd⟩, by rw [h]; exact True.intro⟩
  · obtain ⟨z, hd, q⟩ := nx_of I h
    exact ⟨z, hd, q, by rw [h]; exact True.intro⟩
theorem frzN {kvs : List (Option Key × V)} (I : Inv X pins σ H s) (h : H d = some (.frz o (NX X.prog X.w d kvs))) :
    (d == sysModules) = false ∧ s.heap.get? d = some o ∧ o.ExactDict ∧ ∃ (es : Array DictEntry) (ep : Nat) (vs : List (Option Key × Value)), o.data = .dict es ep ∧ es.size = kvs.length ∧ KV kvs vs ∧ s.heap.DictAt (noneKind X.prog X.w) d vs ep := by
  obtain ⟨hd, ⟨z, hs, vs, kv, o', es, ep, ho, hx, hdt, r⟩, _⟩ := I.hok d _ h
  rw [hd] at ho
  cases ho
  refine ⟨hs, hd, hx, es, ep, vs, hdt, ?_, kv, o, es, hd, hx, hdt, r⟩
  have l1 := r.2.1.length
  have l2 : kvs.length = vs.length := Paired.length kv
  rw [Array.length_toList] at l1
  omega
end
/-- the keys of such a locked dict -/
def Itn (P : Program) (w : World) (d : Addr) (o : Obj) (kvs : List (Option Key × V)) : It :=
  ⟨fun i H => H d = some (.frz o (NX P w d kvs)) ∧ i < kvs.length, fun i H x H' => H' = H ∧ ∃ k v, kvs[i]? = some (k, v) ∧ x = kN k, fun i H => H d = some (.frz o (NX P w d kvs)) ∧ kvs.length ≤ i⟩
theorem walk_nx {P : Program} {w : World} {d : Addr} {o : Obj} {kvs : List (Option Key × V)} : Walk (Itn P w d o kvs) kvs.length (fun H => H d = some (.frz o (NX P w d kvs))) (fun i H x H' => H' = H ∧ ∃ k v, kvs[i]? = some (k, v) ∧ x = kN k) :=
  ⟨fun _ _ hi q => ⟨q, hi⟩, fun _ q => ⟨q, Nat.le_refl _⟩, fun _ _ _ _ _ _ y => y⟩
section
variable {P : Program} {w : World} {K : PySem.W.Frag} {tg : Expr} {d : Addr} {o : Obj} {es : Array DictEntry} {ep : Nat}
theorem turn_nx {kvs : List (Option Key × V)} (it : Addr) (hod : o.data = .dict es ep) : Turn P w K tg (Itn P w d o kvs) [it] it (fun i h => h.IsKeyIter it d i kvs.length ep) where
  mem := by simp
  obj := fun i h st b hb => by
    have e : b = it := by simpa using hb
    subst e
    obtain ⟨oi, e, c, dd⟩ := st
    exact ⟨oi, e, fun v z => by rw [dd] at z; cases z⟩
  keep := fun i h h' st k => st.at fun oi e => k it (by simp) oi e
  item := by
    intro X hP hw hK hc i pins s σ H E I hf st hg
    subst hP hw hK
    obtain ⟨hd, hi⟩ := hg
    obtain ⟨f0, f1, f2, f3, f4, f5⟩ := hf it (by simp)
    obtain ⟨hs, hgd, hx, es', ep', vs, hdt, hsz, kv, hm⟩ := frzN I hd
    obtain ⟨rfl, rfl⟩ := dict_ep hod hdt
    obtain ⟨⟨k, v⟩, hkv⟩ : ∃ p, kvs[i]? = some p := ⟨kvs[i], List.getElem?_eq_getElem hi⟩
    obtain ⟨u, hu, ru⟩ := kv_get kv hkv
    have hl : kvs.length = vs.length := Paired.length kv
    rw [hl] at st
    refine wpAny_pyNext_dict_item st hm hu fun key h' hkey st' sb => ?_
    have I1 : Inv X pins σ H { s with heap := h' } := I.turned (t' := s.toks) (fun b ob hb e => (sb.2 b hb).trans e) f0 f1 f3 f4 f5
    obtain ⟨oi, e, c, dd⟩ := id st'
    refine ⟨key, rfl, go_of (s := { s with heap := h' }) e c dd (by decide) ⟨kN k, H, I1, relV_n (show nkIs k key = true from hkey), ⟨rfl, k, v, hkv, rfl⟩, ?_, fun b hb => (hf b hb).1⟩⟩
    show h'.IsKeyIter it d (i + 1) kvs.length _
    rw [hl]
    exact st'
  done := by
    intro X hP hw hK hc i pins s σ H E I hf st hg
    subst hP hw hK
    obtain ⟨hd, hi⟩ := hg
    obtain ⟨f0, f1, f2, f3, f4, f5⟩ := hf it (by simp)
    obtain ⟨hs, hgd, hx, es', ep', vs, hdt, hsz, kv, hm⟩ := frzN I hd
    obtain ⟨rfl, rfl⟩ := dict_ep hod hdt
    exact next_key_end (I.ok.hd hc) st hgd hdt hsz hi fun h' eb => ⟨rfl, I.turned (t' := s.toks) (fun b ob hb e => eb b ob hb e) f0 f1 f3 f4 f5⟩
  self := fun A i s Q E st h => wpAny_pyIter_keyiter st h
end
/-- for k in d: the dict is locked, and of either kind -/
def iKeysN (P : Program) (w : World) (td : TE) : TI := fun σ H R => td σ H fun x H1 => ∃ d o, x = .ref d ∧ ((∃ kvs, H1 d = some (.frz o (.dK kvs)) ∧ R (Itk d o kvs) H1) ∨ ∃ kvs, H1 d = some (.frz o (NX P w d kvs)) ∧ R (Itn P w d o kvs) H1)
section
variable {X : Cx} {tg e : Expr} {td : TE} {P : Program} {w : World}
theorem pi_keysN (he : PE X e td) (hP : X.prog = P := by rfl) (hw : X.w = w := by rfl) : PI X tg e (iKeysN P w td) := by
  subst hP hw
  refine ⟨fun pins s σ H R I h => ?_⟩
  refine thn (he.run pins s σ H _ I h) fun u s1 ⟨x, H1, I1, rx, d, o, ex, q⟩ => ?_
  subst ex
  obtain rfl : u = Value.ref d := rx
  rcases q with ⟨kvs, hd, q⟩ | ⟨kvs, hd, q⟩
  · obtain ⟨hs, hgd, hx, es, ep, vs, hdt, hsz, kv, hm⟩ := I1.frzK hd
    refine iter_keys hs hgd hx hdt (pi_one (tk := s1.toks) I1 _ (turn_keys _ hdt) ⟨_, Heap.get?_push_size _ rfl, rfl, ?_⟩ q)
    rw [hsz] <;> rfl
  · obtain ⟨hs, hgd, hx, es, ep, vs, hdt, hsz, kv, hm⟩ := frzN I1 hd
    refine iter_keys hs hgd hx hdt (pi_one (tk := s1.toks) I1 _ (turn_nx _ hdt) ⟨_, Heap.get?_push_size _ rfl, rfl, ?_⟩ q)
    rw [hsz] <;> rfl
end
/-! ### d[k] = v -/
def sDPutN (P : Program) (w : World) (td ty tv : TE) : TS := fun D σ H => tv σ H fun v H1 => td σ H1 fun x H2 => ty σ H2 fun y H3 => ∃ a kvs k, x = .ref a ∧ DicO P w H3 a kvs ∧ y = kN k ∧ kvs.length < sizeLine ∧ D.nx σ (upd H3 a (NX P w a (putK kvs k v)))
section
variable {X : Cx} {o i value : Expr} {td ty tv : TE} {pos pos' : Pos}
theorem ps_dputN (ho : PE X o td) (hi : PE X i ty) (hv : PE X value tv) (hs : swapsWith value (some (.Subscript o i pos')) pos.line X.env = pure false) :
    PS X (.Assign [.Subscript o i pos'] value pos) (sDPutN X.prog X.w td ty tv) := by
  refine ⟨fun pins s σ H D I h => ?_⟩
  refine wpAny_Assign_Subscript (thn (hv.run pins s σ H _ I h) fun r s1 ⟨v, H1, I1, rv, q1⟩ => thn (ho.run pins s1 σ H1 _ I1 q1) fun u s2 ⟨x, H2, I2, rx, q2⟩ => thn (hi.run pins s2 σ H2 _ I2 q2) fun iv s3 ⟨y, H3, I3, ry, a, kvs, k, ex, g, ey, hl, q3⟩ => ?_) hs
  subst ex ey
  obtain rfl : u = Value.ref a := rx
  obtain ⟨z, hd, ⟨vs, rel, dd⟩, mu⟩ := dicO_of I3 g
  have hz : vs.length ≤ sizeLine := by rw [← rel.length]; exact z
  refine wpAny_setItem_pairs (knd := noneKind X.prog X.w) (hsz := hz) (kN_is ry) dd fun h' dd' hs' => ⟨σ, _, ?_, q3⟩
  have he : ∃ q, h'.get? a = some q := let ⟨q, _, _, hq, _⟩ := dd'; ⟨q, hq⟩
  refine d_write (t' := s3.toks + 1) I3 mu hs' he (nx_ok ?_ hd (rel.put k rv) dd')
  have := length_putK kvs k v
  omega
end
/-! ### {None: v} -/
def disQ (P : Program) (w : World) (p : Addr) (Q : VK) : List (V × V) → Hp → Prop
  | [(x, y)], H2 => x = .non ∧ H2 p = some (.dK []) ∧ Q (.ref p) (upd H2 p (NX P w p [(none, y)]))
  | _, _ => False
def tDisN (P : Program) (w : World) (tk tv : TE) : TE := fun σ H Q => ∀ p, H p = none → tk σ (upd H p (.dK [])) fun x H1 => tv σ H1 fun y H2 => x = .non ∧ H2 p = some (.dK []) ∧ Q (.ref p) (upd H2 p (NX P w p [(none, y)]))
theorem pe_disN {X : Cx} {k v : Expr} {pos : Pos} {tk tv : TE} (hk : PE X k tk) (hv : PE X v tv) : PE X (.Dict [some k] [v] pos) (tDisN X.prog X.w tk tv) := by
  refine ⟨fun pins s σ H Q I q => ?_⟩
  have I1 := I.laid (a := s.heap.objs.size) (o := .dK []) (h' := s.heap.push { cls := .type "dict", data := .dict #[] }) (t' := s.toks) (fun _ _ q => Heap.get?_push_of_some _ q) (Nat.le_refl _) (dk_empty s.heap I.big)
  refine wpAny_Dict_walk (knd := noneKind X.prog X.w) rfl rfl (fun z => nomatch z) (by show 1 ≤ 15; decide) (thn ((pps_cons (pos := pos) hk hv pps_nil).run pins _ σ _ (disQ X.prog X.w s.heap.objs.size Q) I1 (q _ (I.hok.fresh (Nat.le_refl s.heap.objs.size)))) fun ws s2 ⟨ps, H2, I2, rel, qq⟩ => ?_)
  cases rel with
  | nil => exact qq.elim
  | @cons p b ps bs r t =>
    cases t with
    | cons _ _ => exact qq.elim
    | nil =>
      obtain ⟨x, u⟩ := p
      obtain ⟨b1, b2⟩ := b
      obtain ⟨r1, r2⟩ := r
      obtain ⟨ex, e, q2⟩ := qq
      have ex : x = V.non := ex
      subst ex
      obtain rfl : b1 = Value.none := r1
      obtain ⟨z, hd, vs0, r0, dd⟩ := dk_of I2.hok e
      cases r0
      refine ⟨[(none, b2)], ⟨rfl, rfl, trivial⟩, mix_n dd, fun h' dd' hs => ⟨.ref s.heap.objs.size, _, ?_, rfl, q2⟩⟩
      have he : ∃ q, h'.get? s.heap.objs.size = some q := let ⟨q, _, _, hq, _⟩ := dd'; ⟨q, hq⟩
      exact d_write I2 (by rw [e]; exact True.intro) hs he (nx_ok (by show 1 ≤ sizeLine; decide) hd (.cons ⟨rfl, r2⟩ .nil) dd')
/-! ### isinstance of such a dict -/
def TyN (P : Program) (w : World) (K : PySem.W.Frag) (H : Hp) (x : V) (t : Value) : Prop := TyX K H x t ∨ ∃ a kvs, x = .ref a ∧ H a = some (NX P w a kvs) ∧ t = .type "dict"
theorem kit_ofN {X : Cx} {pins : List (Addr × Obj)} {σ : L2.St} {H : Hp} {s : Shared} {x : V} {u t : Value} (I : Inv X pins σ H s) (rx : RelV x u) (ty : TyN X.prog X.w X.K H x t) : ∃ P : Heap → Prop, PySem.W.KitX X.K u t P ∧ P s.heap ∧ u ≠ .builtin "__main__.__loader__#opaque" := by
  rcases ty with ty | ⟨a, kvs, rfl, ha, rfl⟩
  · exact kit_of I rx ty
  · cases (show u = Value.ref a from rx)
    obtain ⟨z, hs, vs, kv, o, es, ep, h1, h2, _⟩ := nx_of I ha
    exact ⟨_, PySem.W.kitx_dict, ⟨o, h1, h2.1⟩, fun z => nomatch z⟩
def rIsiN (P : Program) (w : World) (K : PySem.W.Frag) : List V → Hp → VK → Prop := fun xs H Q => ∃ (x c : V) (t u : Value) (b : Bool), xs = [x, c] ∧ ClsV c u ∧ TyN P w K H x t ∧ PySem.W.kitOne K t u = some b ∧ Q (.bl b) H
theorem call_isiN {X : Cx} {P : Program} {w : World} {K : PySem.W.Frag} (hP : X.prog = P := by rfl) (hw : X.w = w := by rfl) (hK : X.K = K := by rfl) : CallR X (.builtin "isinstance") (rIsiN P w K) := by
  subst hP hw hK
  intro pins s σ H xs us Q I r h
  obtain ⟨x, c, t, u, b, rfl, k, ty, e, q⟩ := h
  obtain ⟨u1, u2, rfl, r1, r2⟩ := vals2 r
  have e2 := k.eq r2
  subst e2
  obtain ⟨P, Z, p, hx⟩ := kit_ofN I r1 ty
  exact PySem.W.kia_one Z I.kIn p e hx fun tk => ⟨.bl b, H, I.tok tk, rfl, q⟩
/-! ### d.get(k, v), k a key or None -/
def tDGet2N (td ty tx : TE) : TE := fun σ H Q => td σ H fun x H1 => ∃ a, x = .ref a ∧ IsD H1 a ∧ ty σ H1 fun y H2 => tx σ H2 fun z H3 => (∃ o, DGet H3 a y o ∧ Q (o.getD z) H3) ∨ ∃ kvs, y = .non ∧ Rd H3 a (.dK kvs) ∧ Q z H3
theorem pe_dget2N {X : Cx} {o e f : Expr} {apos cpos : Pos} {td ty tx : TE} (hu : X.A.units + 1 < cLine) (ho : PE X o td) (he : PE X e ty) (hf : PE X f tx) (m : M2 X o "get" apos e f cpos) : PE X (.Call (.Attribute o "get" apos) [e, f] [] cpos) (tDGet2N td ty tx) := by
  refine ⟨fun pins s σ H Q I h => ?_⟩
  refine wpAny_Call_method m.base m.few m.line PySem.F.plainAttrs_dict PySem.F.slot_dict_get PySem.F.type_dict_get (thn (ho.run pins s σ H _ I h) fun u s1 hh => ?_)
  obtain ⟨x, H1, I1, rx, a, ex, d, q1⟩ := hh
  subst ex
  obtain rfl : u = Value.ref a := rx
  obtain ⟨t1, t2, _⟩ := isD_at I1 d
  refine ⟨t1, t2, ?_⟩
  rw [m.trees]
  refine Calls.callWith_builtin rfl (Calls.evalArgs_plain (Calls.spliced_cons (thn (he.run pins s1 σ H1 _ I1 q1) fun iv s2 h2 => ?_)))
  obtain ⟨y, H2, I2, ry, q2⟩ := h2
  refine Calls.spliced_cons (thn (hf.run pins s2 σ H2 _ I2 q2) fun fv s3 h3 => Calls.spliced_nil ?_)
  obtain ⟨z, H3, I3, rz, q3⟩ := h3
  rcases q3 with ⟨ov, g, q3⟩ | ⟨kvs, ey, g, q3⟩
  · exact d_get2 hu I3 g ry rz fun w' s4 I4 rw' => ⟨_, H3, I4, rw', q3⟩
  · subst ey
    obtain rfl : iv = Value.none := ry
    obtain ⟨_, hd, vs, _, dd⟩ := dk_rd I3.hok g
    obtain ⟨fm, hm, hf0⟩ := none_map dd
    refine call_meetsIn PySem.F.slot_dict_get dd.typeIs PySem.F.entry_dict_get (PySem.F.args_dict_get_3 _ _ _) (meets_dict_get_default (noneKind X.prog X.w) a (key := Value.none) (k := none) rfl hd fv) ⟨_, hm, ?_⟩
    rw [hf0]
    exact ⟨z, H3, I3.tok _, rz, q3⟩
end Lm
/-! set(a list of texts): the call; sorted of it. -/
namespace Lm
open PySem PySem.Spec PyProof.Rows L2
def newSet (w : World) : Obj := { cls := .type "set", dict := none, data := .set #[] 0 (.fresh 0 0 (!w.params.followText "set-order")) }
section
variable {P : Program} {w : World} {A : Around} {E : Value → Shared → Prop} {s : Shared}
theorem tx_loop {I : Addr} {fp wr : List Addr} {G : Array GenState → Array GenState → Prop} {n : Nat} {Pv : Nat → Value → Prop} {St : Nat → Shared → Prop} {R : Result → Shared → Prop}
    (W : WalksS P w A.in1 I fp wr G n Pv St) (S : Addr) (off : S ∉ fp) (ss : List Str) (hn : n = ss.length) (hb : ss.length + 1 < scanBound) (hval : ∀ i v, Pv i v → ∃ k t, ss[i]? = some k ∧ v = .str k t) :
    ∀ (k i : Nat) (s : Shared), n - i = k → i ≤ n → St i s → TxS w s.heap S (ss.take i) →
      (∀ s', Moved (S :: wr) G s s' → TxS w s'.heap S ss → R (.ok (.ret .none)) s') →
      codeAny (model P w) A (.builtin "set.update.loop" ⟨[.ref S, .ref I], []⟩) R s := by
  have sw : S ∉ wr := fun z => off (W.sub _ z)
  have more : ∀ b ∈ wr, b ∈ S :: wr := fun _ z => List.mem_cons_of_mem _ z
  intro k
  induction k with
  | zero =>
    intro i s hk hi st x fin
    obtain rfl : i = n := by omega
    refine codeAny_builtin F.entry_set_update_loop ?_
    rw [Around.under_plainId F.plain_set_update_loop _]
    show wpAny _ A.in1 (pyNext (.ref I) >>= _) _ _ s
    refine wpAny_bind (W.done s _ _ st fun s1 mv => ?_)
    rw [List.take_of_length_le (by omega)] at x
    exact wpAny_pure (fin s1 (mv.mono more) (x.stay fun o e => mv.heap S o sw e))
  | succ k ih =>
    intro i s hk hi st x fin
    have lt : i < n := by omega
    refine codeAny_builtin F.entry_set_update_loop ?_
    rw [Around.under_plainId F.plain_set_update_loop _]
    show wpAny _ A.in1 (pyNext (.ref I) >>= _) _ _ s
    refine wpAny_bind (W.item i s _ _ lt st fun v s1 pv st1 mv => ?_)
    obtain ⟨z, t, hz, rfl⟩ := hval i v pv
    have x1 : TxS w s1.heap S (ss.take i) := x.stay fun o e => mv.heap S o sw e
    show wpAny _ A.in1 (holding [Value.str z t] (setAdd S (.str z t)) >>= _) _ _ s1
    refine wpAny_bind (wpAny_holding ?_)
    unfold setAdd
    refine wpAny_holding (wpAny_bind ((PySem.strKind P w).pyHash (k := z) (strKind_is _ _ _ _) ?_))
    refine tx_add (s := { s1 with toks := s1.toks + 1 }) x1 (by rw [List.length_take]; omega) fun h2 b sb x2 => ?_
    have e2 : ss.take i ++ [z] = ss.take (i + 1) := by rw [List.take_add_one, hz]; rfl
    rw [e2] at x2
    refine wpAny_pure ⟨plainId_quiet F.plain_set_update_loop _, ih (i + 1) _ (by omega) lt (W.frame _ s1 _ _ st1 (Nat.le_succ _) fun b hb o e => ?_) x2 fun s3 mv3 x3 => ?_⟩
    · exact (sb.2 b fun z => off (z ▸ hb)).trans e
    · exact fin s3 (Moved.trans W.gtrans ((mv.mono more).then_heap (Nat.le_succ _) fun b o hb e => (sb.2 b fun z => hb (by rw [z]; exact List.mem_cons_self ..)).trans e) mv3) x3
theorem tx_call {l : Addr} {items : Array Value} (ss : List Str) {Q : Value → Shared → Prop} (calm : A.handled = none) (il : s.heap.IsList l items) (hit : StrsAre items.toList ss) (hb : ss.length + 1 < scanBound)
    (fin : ∀ (h' : Heap) (tk : Nat), TxS w h' s.heap.objs.size ss → (∀ b o, s.heap.get? b = some o → h'.get? b = some o) → Q (.ref s.heap.objs.size) { s with heap := h', toks := tk }) :
    wpAny (model P w) A (call (.type "set") [.ref l]) Q E s := by
  have sz : items.size = ss.length := by rw [← Array.length_toList]; exact StrsAre.len_eq hit
  obtain ⟨c, tl, mro⟩ := F.called_set.mro
  have made := F.called_set.made
  have sub := F.called_set.sub
  have nt := F.called_set.notType
  have cc := F.called_set.canCreate
  have ct := F.typeCall_set_1 (.ref l)
  refine wpAny_call (codeAny_of_tree ?_)
  show wpAny _ _ (callAny (.type "set") _) _ _ _
  refine wpAny_pure ⟨Code.quiet_builtin _ (by decide +kernel), codeAny_builtin F.entry_type_call ?_⟩
  rw [Around.under_plain (weight_type_call_type "set" [.ref l] []) rfl]
  repeat (any_goals (first | assumption | wp_step))
  refine codeAny_mono (code_set_led1 (.ref l) (E := E) (Q₁ := fun obj s1 => obj = .ref s.heap.objs.size ∧ s1 = { s with heap := s.heap.push (newSet w) }) ⟨rfl, rfl⟩) fun r s1 hr => ?_
  cases r with
  | error e => exact hr
  | ok fl =>
    cases fl with
    | ret obj =>
      obtain ⟨rfl, rfl⟩ := hr
      have at0 : (s.heap.push (newSet w)).get? s.heap.objs.size = some (newSet w) := Heap.get?_push_size _ rfl
      have ty0 : Shared.TypeIs { s with heap := s.heap.push (newSet w) } (.ref s.heap.objs.size) "set" := ⟨_, at0, rfl⟩
      have li := F.called_set.init.lookup
      have bi := F.called_set.init.bind (.ref s.heap.objs.size)
      repeat (any_goals (first | assumption | wp_step))
      refine codeAny_mono (codeAny_call_builtin (R := wants (fun r s2 => r = .none ∧ ∃ h' tk, s2 = { s with heap := h', toks := tk } ∧ TxS w h' s.heap.objs.size ss ∧ ∀ b o, s.heap.get? b = some o → h'.get? b = some o) E) F.called_set.init.plain F.entry_set_init (check_set_init_1 ty0 ?_)) fun r2 s2 hr2 => ?_
      · obtain ⟨⟨cls, dict, data, slots⟩, ol, c1, nl, d1⟩ := il
        dsimp only at c1 d1
        subst c1 d1
        have ol' : (s.heap.push (newSet w)).get? l = some { cls := .type "list", dict := dict, data := .seq items nl, slots := slots } := Heap.get?_push_of_some _ ol
        have s1 := F.sub_list_set
        have s2 := F.sub_list_frozenset
        have ne : (Value.type "list" == Value.type "dict") = false := by decide
        have l1 : (s.heap.push (newSet w)).IsList l items := ⟨_, ol', rfl, nl, rfl⟩
        unfold Builtin.«set.__init__» noKeywords Builtin.Frozenset.updateFrom
        generalize hpi : pyIter = pi0
        wp_walk
        subst hpi
        refine wpAny_pyIter_list l1 (wpAny_bind (wpAny_runValue ?_))
        have lS : l < s.heap.objs.size := Heap.lt_size ol
        have z1 : (s.heap.push (newSet w)).objs.size = s.heap.objs.size + 1 := Heap.size_push ..
        have calm3 : A.in1.in1.in1.handled = none := calm
        have nI : l ≠ (s.heap.push (newSet w)).objs.size := by rw [z1]; exact Nat.ne_of_lt (Nat.lt_succ_of_lt lS)
        have off : s.heap.objs.size ∉ [(s.heap.push (newSet w)).objs.size, l] := by
          rw [z1]
          intro z
          rcases List.mem_cons.mp z with z | z
          · exact absurd z (Nat.ne_of_lt (Nat.lt_succ_self _))
          · rw [List.mem_singleton.mp z] at lS
            exact absurd lS (Nat.lt_irrefl _)
        have val : ∀ (i : Nat) (v : Value), items[i]? = some v → ∃ k t, ss[i]? = some k ∧ v = .str k t := fun i v hv => by
          have hi : i < ss.length := by rw [← sz]; exact (Array.getElem?_eq_some_iff.mp hv).1
          obtain ⟨t, e⟩ := SS.strs_at hit i v (by rw [Array.getElem?_toList]; exact hv)
          refine ⟨ss[i], t, List.getElem?_eq_getElem hi, ?_⟩
          rw [e, List.getD_eq_getElem?_getD, List.getElem?_eq_getElem hi]
          rfl
        refine tx_loop ((Walks.list calm3 _ l nI items).toS) s.heap.objs.size off ss sz hb val (items.size - 0) 0 _ (by omega) (Nat.zero_le _) ⟨⟨_, Heap.get?_push_size _ rfl, rfl, rfl⟩, (l1.push _)⟩ ?hS0 ?hR
        case hS0 => exact tx_fresh (Heap.get?_push_of_some _ at0)
        case hR =>
          intro s3 mv x3
          obtain ⟨h3, g3, d3, t3, os3⟩ := s3
          obtain rfl : g3 = s.gens := mv.gens
          obtain rfl : d3 = s.drawn := mv.drawn
          obtain rfl : os3 = s.os := mv.os
          show wpAny _ _ _ _ _ _
          refine wpAny_pure ?_
          show wpAny _ _ (ret Value.none) _ _ _
          refine wpAny_pure ⟨rfl, h3, t3, rfl, x3, fun b o e => ?_⟩
          have b0 : b < s.heap.objs.size := Heap.lt_size e
          refine mv.heap b o (fun z => ?_) (Heap.get?_push_of_some _ (Heap.get?_push_of_some _ e))
          rcases List.mem_cons.mp z with z | z
          · rw [z] at b0
            exact absurd b0 (Nat.lt_irrefl _)
          · rw [List.mem_singleton.mp z, z1] at b0
            exact absurd b0 (Nat.not_lt_of_lt (Nat.lt_succ_self _))
      · cases r2 with
        | error e => exact hr2
        | ok fl2 =>
          cases fl2 with
          | ret r =>
            obtain ⟨rfl, h', tk, rfl, x, k⟩ := hr2
            repeat (any_goals (first | assumption | wp_step))
            exact fin _ _ x k
          | _ => exact hr2.elim
    | _ => exact hr.elim
/-! ### sorted -/
theorem strs_map : ∀ (l : List Value), (∀ v ∈ l, ∃ k tk, v = Value.str k tk) → StrsAre l (l.map fun v => tkOf (0, v))
  | [], _ => .nil
  | v :: l, h => by
    obtain ⟨k, tk, rfl⟩ := h v (List.mem_cons_self ..)
    exact .cons k tk (strs_map l fun u hu => h u (List.mem_cons_of_mem _ hu))
theorem tx_sorted {a : Addr} {S : List Str} {Q : Value → Shared → Prop} (x : TxS w s.heap a S) (calm : A.handled = none) (few : S.length < 64)
    (fin : ∀ s' p (out : Array Value) (c : Nat) (ys : List Str), (∀ b o, s.heap.get? b = some o → s'.heap.get? b = some o) → s'.gens = s.gens → s'.os = s.os → s.heap.objs.size ≤ p →
      s'.heap.get? p = some (seqObj "list" out c) → StrsAre out.toList ys → sortedS ys = true → ys.Nodup → (∀ k, k ∈ ys ↔ k ∈ S) → Q (.ref p) s') :
    wpAny (model P w) A (call (.builtin "sorted") [.ref a]) Q E s := by
  obtain ⟨o, es, ep, t, ho, ⟨hx, hd⟩, g, nd, hm, ⟨hb, hf, hl⟩, hr, hd2⟩ := x
  refine Calls.call_function_entry kind_sorted plain_sorted entry_sorted (args_sorted1 _) ?_
  unfold Builtin.«sorted»
  refine wpAny_bind (m := checkCount "sorted" 1 1 _) (wpAny_pure (wpAny_bind (collect_set (A := A.in1) calm ⟨o, ho, hx.1, hd⟩ hf hb hr hd2 fun s1 vs k1 z1 g1 o1 pm => ?_)))
  have lv : vs.length = es.size := by rw [pm.length_eq, List.length_map, Array.length_toList]
  have sv : StrsAre vs (vs.map fun v => tkOf (0, v)) := strs_map vs fun v hv => by
    obtain ⟨e, he, q⟩ := List.mem_map.mp (pm.mem_iff.mp hv)
    obtain ⟨k, tk, h1, _⟩ := g e he
    exact ⟨k, tk, by rw [← q]; exact h1⟩
  have pk : (vs.map fun v => tkOf (0, v)).Perm (es.toList.map tkOf) := by
    have q := pm.map fun v => tkOf (0, v)
    rw [List.map_map] at q
    exact q
  refine wpAny_bind (wpAny_newList ?_ (small64 (by omega)))
  have oL : (s1.heap.push (seqObj "list" vs.toArray 0)).get? s1.heap.objs.size = some (seqObj "list" vs.toArray 0) := Heap.get?_push_size _ rfl
  refine wpAny_bind (wpAny_holding (wpAny_call_entry slot_list_sort ⟨_, oL, rfl⟩ entry_list_sort
    (list_sort_treeK strKind_oneLt (s := { s1 with heap := s1.heap.push (seqObj "list" vs.toArray 0) }) oL sv.keysOf (fun v₁ v₂ rest e => keyKind_strs (by rw [← e]; exact sv)) (by omega) fun st' hp hs => ⟨_, rfl, ?_⟩) (args_list_sort _)))
  obtain ⟨ys, q1, q2, q3⟩ := sorted_out_str sv hp hs
  obtain ⟨c, hc⟩ := sortedHeap_at (vs := vs) (out := (arrOf st').map (·.2)) oL
  have pn : ys.Perm (es.toList.map tkOf) := q2.trans pk
  refine wpAny_pure ⟨_, rfl, fin _ s1.heap.objs.size _ c ys (fun b u e => ?_) g1 o1 z1 hc q1 q3 (pn.nodup_iff.mpr nd) fun k => by rw [pn.mem_iff, ← hm k]⟩
  have q := k1 b u e
  have lt := Heap.lt_size q
  show (sortedHeap _ s1.heap.objs.size vs _).get? b = some u
  rw [sortedHeap_old (Nat.ne_of_lt lt) (by rw [Heap.size_push]; exact Nat.lt_succ_of_lt lt)]
  exact Heap.get?_push_of_some _ q
end
end Lm
/-! A sorted list without doubles is one by its members. -/
namespace Lm
open PySem PySem.Spec PyProof.Rows L2
/-- the set's object -/
def TxO (w : World) (a : Addr) (S : List Str) : HO := .ext fun h => TxS w h a S
theorem txO_ok {w : World} {P : Program} {H : Hp} {h : Heap} {a : Addr} {S : List Str} (x : TxS w h a S) : ObjOk P w H h a (TxO w a S) := by
  refine ⟨x, ?_, fun h1 h2 p k => TxS.stay p k⟩
  obtain ⟨o, _, _, _, ho, _⟩ := x
  exact ⟨o, ho⟩
section
variable {X : Cx}
def rSetTx (K : PySem.W.Frag) (w : World) : List V → Hp → VK → Prop := fun vs H Q => ∃ (l : Addr) (ss : List Str), vs = [V.ref l] ∧ SqL K H l (ss.map V.str) ∧ ss.length < 64 ∧ ∀ a, H a = none → Q (.ref a) (upd H a (TxO w a ss))
theorem cr_setTx (hc : X.calm = true) : CallR X (.type "set") (rSetTx X.K X.w) := by
  intro pins s σ H xs us Q I r h
  obtain ⟨l, ss, rfl, hl, h6, q⟩ := h
  obtain rfl := Vals.ref1 r
  obtain ⟨its, rv, ht, _⟩ := I.list hl
  refine tx_call ss (I.ok.hd hc) ht.isList (by simpa using rv.strs) (by unfold scanBound; omega) fun h' tk x kp => ?_
  exact ⟨.ref _, _, I.laid (t' := tk) kp (Nat.le_refl _) (txO_ok x), rfl, q _ (I.hok.fresh (Nat.le_refl _))⟩
def rSortTx (w : World) : List V → Hp → VK → Prop := fun vs H Q => ∃ (a : Addr) (ss : List Str), vs = [V.ref a] ∧ H a = some (TxO w a ss) ∧ ss.length < 64 ∧
  ∀ (ys : List Str) (p : Addr), sortedS ys = true → ys.Nodup → (∀ k, k ∈ ys ↔ k ∈ ss) → H p = none → Q (.ref p) (upd H p (.lst (ys.map V.str)))
theorem nodup_sub : ∀ {ys ss : List Str}, ys.Nodup → (∀ k, k ∈ ys → k ∈ ss) → ys.length ≤ ss.length
  | [], _, _, _ => Nat.zero_le _
  | y :: r, ss, nd, h => by
    obtain ⟨n1, n2⟩ := List.nodup_cons.mp nd
    have my := h y (List.mem_cons_self ..)
    have := nodup_sub (ss := ss.erase y) n2 fun k hk => (List.mem_erase_of_ne fun e => n1 (by rw [← e]; exact hk)).mpr (h k (List.mem_cons_of_mem _ hk))
    have l := List.length_erase_of_mem my
    have p := List.length_pos_of_mem my
    rw [List.length_cons]
    omega
theorem nodup_le {ys ss : List Str} (nd : ys.Nodup) (h : ∀ k, k ∈ ys ↔ k ∈ ss) : ys.length ≤ ss.length := nodup_sub nd fun k hk => (h k).mp hk
theorem cr_sortTx (hc : X.calm = true) : CallR X (.builtin "sorted") (rSortTx X.w) := by
  intro pins s σ H vs us Q I r h
  obtain ⟨a, ss, rfl, ha, few, q⟩ := h
  have x : TxS X.w s.heap a ss := (I.hok a _ ha).1
  rw [Vals.ref1 r]
  refine tx_sorted x (I.ok.hd hc) few fun s' p out c ys k g o hp hg hi hs nd hm => ?_
  have len : (ys.map V.str).length ≤ sizeLine := by
    rw [List.length_map]
    exact small64 (Nat.lt_of_le_of_lt (nodup_le nd hm) few)
  have nn : H p = none := I.hok.fresh hp
  have J : Inv X pins σ (upd H p (.lst (ys.map V.str))) { s with heap := s'.heap, gens := s'.gens, drawn := s'.drawn, toks := s'.toks } :=
    I.call (ch := []) (Un.laid k hp nn) (I.hok.laid k hp ⟨len, out.toList, c, vals_of_strs hi, by rw [Array.toArray_toList]; exact hg⟩) (by rw [g]; exact I.bare) (fun _ z => nomatch z)
  have e : s' = { s with heap := s'.heap, gens := s'.gens, drawn := s'.drawn, toks := s'.toks } := by
    cases s'
    cases s
    cases o
    rfl
  rw [e]
  exact ⟨.ref p, _, J, rfl, q ys p hs nd hm nn⟩
end
theorem cps_tr : ∀ a b c : List Nat, ltCps b a = false → ltCps c b = false → ltCps c a = false
  | a, b, [], h1, h2 => by
    cases b with
    | nil => exact h1
    | cons y u => cases h2
  | [], _, z :: r, _, _ => rfl
  | x :: t, [], z :: r, h1, _ => by cases h1
  | x :: t, y :: u, z :: r, h1, h2 => by
    have ih := cps_tr t u r
    simp only [ltCps, Bool.or_eq_false_iff, decide_eq_false_iff_not, Bool.and_eq_false_iff, beq_eq_false_iff_ne] at h1 h2 ⊢
    refine ⟨by omega, ?_⟩
    by_cases e : z = x
    · have e1 : y = x := by omega
      have e2 : z = y := by omega
      right
      exact ih (h1.2.resolve_left fun k => k e1) (h2.2.resolve_left fun k => k e2)
    · exact .inl e
theorem cps_anti : ∀ a b : List Nat, ltCps b a = false → ltCps a b = false → a = b
  | [], [], _, _ => rfl
  | [], y :: u, _, h2 => by cases h2
  | x :: t, [], h1, _ => by cases h1
  | x :: t, y :: u, h1, h2 => by
    have ih := cps_anti t u
    simp only [ltCps, Bool.or_eq_false_iff, decide_eq_false_iff_not, Bool.and_eq_false_iff, beq_eq_false_iff_ne] at h1 h2
    have e : x = y := by omega
    subst e
    rw [ih (h1.2.resolve_left fun k => k rfl) (h2.2.resolve_left fun k => k rfl)]
theorem str_anti {a b : Str} (h1 : ltCps b.cps.toList a.cps.toList = false) (h2 : ltCps a.cps.toList b.cps.toList = false) : a = b := by
  have e := cps_anti _ _ h1 h2
  obtain ⟨⟨a⟩⟩ := a
  obtain ⟨⟨b⟩⟩ := b
  have e : a = b := e
  rw [e]
def leS (a b : Str) : Prop := ltCps b.cps.toList a.cps.toList = false
theorem pw_rise : ∀ (l : List Str) (p : Str), risingS p l = true → (p :: l).Pairwise leS
  | [], p, _ => List.pairwise_singleton _ _
  | x :: r, p, h => by
    have h : (!ltCps x.cps.toList p.cps.toList && risingS x r) = true := h
    rw [Bool.and_eq_true, Bool.not_eq_true'] at h
    have ih := pw_rise r x h.2
    refine List.pairwise_cons.mpr ⟨fun y hy => ?_, ih⟩
    rcases List.mem_cons.mp hy with rfl | hy
    · exact h.1
    · exact cps_tr _ _ _ h.1 ((List.pairwise_cons.mp ih).1 y hy)
theorem pw_sorted : ∀ {l : List Str}, sortedS l = true → l.Pairwise leS
  | [], _ => .nil
  | x :: r, h => pw_rise r x h
theorem sorted_uniq : ∀ {ys zs : List Str}, ys.Pairwise leS → zs.Pairwise leS → ys.Perm zs → ys = zs
  | [], zs, _, _, p => (List.nil_perm.mp p).symm
  | y :: r, [], _, _, p => absurd p.length_eq (fun z => nomatch z)
  | y :: r, z :: t, h1, h2, p => by
    have my : y ∈ z :: t := p.mem_iff.mp (List.mem_cons_self ..)
    have mz : z ∈ y :: r := p.mem_iff.mpr (List.mem_cons_self ..)
    have e : y = z := by
      rcases List.mem_cons.mp my with e | my
      · exact e
      · rcases List.mem_cons.mp mz with e | mz
        · exact e.symm
        · exact str_anti ((List.pairwise_cons.mp h1).1 z mz) ((List.pairwise_cons.mp h2).1 y my)
    subst e
    rw [sorted_uniq (List.pairwise_cons.mp h1).2 (List.pairwise_cons.mp h2).2 (List.Perm.cons_inv p)]
/-- the ascending list of what l holds -/
def AscOf (l ys : List Str) : Prop := sortedS ys = true ∧ ys.Nodup ∧ ∀ k, k ∈ ys ↔ k ∈ l
theorem AscOf.uniq {l m ys zs : List Str} (h1 : AscOf l ys) (h2 : AscOf m zs) (e : ∀ k, k ∈ l ↔ k ∈ m) : ys = zs :=
  sorted_uniq (pw_sorted h1.1) (pw_sorted h2.1) ((List.perm_ext_iff_of_nodup h1.2.1 h2.2.1).mpr fun k => (h1.2.2 k).trans ((e k).trans (h2.2.2 k).symm))
theorem AscOf.len {l ys : List Str} (h : AscOf l ys) : ys.length ≤ l.length := nodup_le h.2.1 h.2.2
end Lm
/-! names_of (from P06r), _law_in_any_order (from L06f). -/
namespace Lm
open PySem PySem.Spec PyProof.Rows L2
def oK : Option Str → Option Key := Option.map Sum.inr
theorem kN_oK {o : Option Str} : kN (oK o) = oV o := by cases o <;> rfl
def keyS : Option Key → Option Str
  | some (.inr x) => some x
  | _ => none
theorem keyS_oK {o : Option Str} : keyS (oK o) = o := by cases o <;> rfl
theorem oK_inj {a b : Option Str} (h : oK a = oK b) : a = b := by rw [← keyS_oK (o := a), h, keyS_oK]
/-- the two sides of a row -/
def sidesD : PyData → List (Option Str)
  | .tuple [a, b, _] => [unO a, unO b]
  | _ => []
theorem row_shape {d : PyData} (h : rowD d = true) : ∃ a b c, d = .tuple [a, b, c] := by
  cases d with
  | tuple ds =>
    obtain ⟨a, b, c, rfl, _⟩ := row_three h
    exact ⟨a, b, c, rfl⟩
  | _ => cases h
theorem putK_keys {κ : Type} [DecidableEq κ] (kvs : List (κ × V)) (k : κ) (v : V) : (putK kvs k v).map (·.1) = if k ∈ kvs.map (·.1) then kvs.map (·.1) else kvs.map (·.1) ++ [k] := by
  unfold putK
  have e : (kvs.any fun kv => decide (kv.1 = k)) = decide (k ∈ kvs.map (·.1)) := by
    rw [Bool.eq_iff_iff, List.any_eq_true, decide_eq_true_iff, List.mem_map]
    constructor
    · rintro ⟨p, hp, h⟩
      exact ⟨p, hp, of_decide_eq_true h⟩
    · rintro ⟨p, hp, h⟩
      exact ⟨p, hp, decide_eq_true h⟩
  rw [e]
  by_cases h : k ∈ kvs.map (·.1)
  · rw [decide_eq_true h, if_pos rfl, if_pos h, List.map_map]
    congr 1
    funext p
    show (if p.1 = k then (p.1, v) else p).1 = p.1
    split <;> rfl
  · rw [decide_eq_false h, if_neg (by decide), if_neg h, List.map_append]
    rfl
/-- the keys are just these sides -/
def Kinv (kvs : List (Option Key × V)) (ns : List (Option Str)) : Prop := (kvs.map (·.1)).Nodup ∧ ∀ k, k ∈ kvs.map (·.1) ↔ k ∈ ns.map oK
theorem Kinv.nil : Kinv [] [] := ⟨.nil, fun _ => Iff.rfl⟩
theorem Kinv.put {kvs : List (Option Key × V)} {ns : List (Option Str)} (h : Kinv kvs ns) (o : Option Str) (v : V) : Kinv (putK kvs (oK o) v) (ns ++ [o]) := by
  unfold Kinv
  rw [putK_keys]
  by_cases m : oK o ∈ kvs.map (·.1)
  · rw [if_pos m]
    refine ⟨h.1, fun k => ?_⟩
    rw [h.2 k, List.map_append, List.mem_append]
    refine ⟨.inl, fun z => z.elim id fun z => ?_⟩
    rw [List.mem_singleton.mp z]
    exact (h.2 _).mp m
  · rw [if_neg m]
    refine ⟨List.nodup_append.mpr ⟨h.1, by simp, fun a ha b hb e => m ?_⟩, fun k => ?_⟩
    · rw [List.mem_singleton] at hb
      rw [← hb, ← e]
      exact ha
    · rw [List.mem_append, h.2 k, List.map_append, List.mem_append]
      rfl
theorem Kinv.mem {kvs : List (Option Key × V)} {ns : List (Option Str)} (h : Kinv kvs ns) (x : Str) : x ∈ (kvs.map (·.1)).filterMap keyS ↔ x ∈ ns.filterMap id := by
  rw [List.mem_filterMap, List.mem_filterMap]
  constructor
  · rintro ⟨k, hk, e⟩
    obtain ⟨o, ho, rfl⟩ := List.mem_map.mp ((h.2 k).mp hk)
    rw [keyS_oK] at e
    exact ⟨o, ho, e⟩
  · rintro ⟨o, ho, e⟩
    exact ⟨oK o, (h.2 _).mpr (List.mem_map.mpr ⟨o, ho, rfl⟩), by rw [keyS_oK]; exact e⟩
theorem nodup_keys : ∀ {l : List (Option Key)}, l.Nodup → (l.filterMap keyS).Nodup
  | [], _ => .nil
  | k :: r, h => by
    obtain ⟨n1, n2⟩ := List.nodup_cons.mp h
    have ih := nodup_keys n2
    match k, n1 with
    | none, _ => exact ih
    | some (.inl _), _ => exact ih
    | some (.inr x), n1 =>
      show (x :: r.filterMap keyS).Nodup
      refine List.nodup_cons.mpr ⟨fun z => ?_, ih⟩
      obtain ⟨k, hk, e⟩ := List.mem_filterMap.mp z
      match k, hk, e with
      | some (.inr y), hk, e =>
        obtain rfl : y = x := Option.some.inj e
        exact n1 hk
section
variable {P : Program} {w : World} {K : PySem.W.Frag} {mg : Str → Option Value} {base : Heap}
abbrev sNO : Stmt := topS 12
def nNO : List Str := ["rows", "found", "a", "b", "_", "name"]
theorem scNO : FnScope nNO ["rows"] (defScope sNO) := ⟨rfl, rfl, rfl, by decide +kernel, rfl, by decide +kernel, by decide +kernel⟩
theorem cr_sortedSK {X : Cx} (K : PySem.W.Frag) (hK : X.K = K := by rfl) : CallR X (.builtin "sorted") (rSortedS K) := hK ▸ cr_sortedS
def spNO : Sp := fun vs H Q _ => ∃ (D : DrA) (m : Nat) (v : V) (d : PyData) (ds : List PyData), vs = [v] ∧ DrawAt D m H ∧ Da D H v d ∧ rowsD d = some ds ∧ ds.all rowD = true ∧ ds.length ≤ 30 ∧
  ∀ (H' : Hp) (R : Addr) (ys : List Str), AscOf ((ds.flatMap sidesD).filterMap id) ys → H R = none → H' R = some (.lst (ys.map V.str)) → Same H H' → Q (.ref R) H'
theorem ok_no {f : Addr} {fd : FuncData} (F : Fun K "names_of" "names_of" sNO f fd) (N : Bl mg) : FnOk P w K mg base CX0 1 f fd ["rows"] spNO := by
  refine F.ok scNO (fun vs H Q E h => ?_) (fun cdv A outer s H vs Q E hr h => ?_)
  · obtain ⟨D, m, v, d, ds, rfl, _⟩ := h
    rfl
  · obtain ⟨D, m, v, d, ds, rfl, dr, hd, er, rows, l30, q⟩ := h
    refine ⟨_, pss_cons (ps_set (i := 1) scNO.nd rfl (.inl rfl) pe_dnewK)
      (pss_cons (ps_for PassesOwn.never rfl (pi_or (pi_listK K (pv 0)) (pi_tupK K (pv 0))) (pg_tup rfl (pgs_cons (pg_name (i := 2) scNO.nd rfl (.inl rfl)) (pgs_cons (pg_name (i := 3) scNO.nd rfl (.inl rfl)) (pgs_cons (pg_name (i := 4) scNO.nd rfl (.inl rfl)) pgs_nil))))
        (pss_cons (ps_dputN (pv 1) (pv 2) pe_bl rfl) (pss_one (ps_dputN (pv 1) (pv 3) pe_bl rfl))))
      (pss_one (ps_ret (pe_callB (cr_sortedSK K) (by rfl) N.bsrt (by decide +kernel) (pa_cons (pe_lock
        (pe_lc (own := [("name", 5)]) (g := gName 5) rfl scNO.nd (pi_keysN (P := P) (w := w) (pv 1)) (blkOk_by (own := [("name", 5)]) (N := nNO) (sc := defScope sNO) (by decide +kernel)) (fun _ _ _ _ _ => pg_name (i := 5) scNO.nd rfl (Or.inl rfl))
          (fun _ _ _ _ _ => pts_one (pt_cmpR op_notN1 (pv 5) pe_non (nomark _))) (fun _ _ _ _ _ => pv 5))) pa_nil))))), ?_⟩
    obtain ⟨s0, xs, rfl, ha, n1, n2, hp⟩ := hd.rows er
    have hl := ha.length
    refine fun p np => ?_
    have s1 : Same H (upd H p (.dK [])) := same_upd np
    have hp1 : (upd H p (.dK [])) p = some (.dK []) := upd_same
    generalize upd H p (.dK []) = H1 at *
    rcases hp with hp | hp
    · refine .inl ⟨_, rfl, s0, rfl, ⟨_, SqL.of (s1 _ _ hp)⟩, for_list (K := K) (a := s0) (xs := xs) (fun i σ H' => Same H H' ∧ ∃ kvs x2 x3 x4 x5, σ = [some (.ref s0), some (.ref p), x2, x3, x4, x5] ∧ ((kvs = [] ∧ H' p = some (.dK [])) ∨ H' p = some (NX P w p kvs)) ∧ Kinv kvs ((ds.take i).flatMap sidesD) ∧ kvs.length ≤ 2 * i) ⟨s1, [], none, none, none, none, rfl, .inl ⟨rfl, hp1⟩, Kinv.nil, Nat.le_refl _⟩ (fun i σ H' _ z => SqL.of (z.1 _ _ hp)) ?_ ?_⟩
      · rintro i y σ H' hy ⟨sH, kvs, x2, x3, x4, x5, rfl, hdic, kin, kl⟩
        obtain ⟨dy, hdy, gy⟩ := ha.get hy
        have ry := List.all_eq_true.mp rows dy (List.mem_of_getElem? hdy)
        obtain ⟨a, b, c, rfl⟩ := row_shape ry
        obtain ⟨⟨ka, kb⟩, kne, z, rfl⟩ := row_z ry
        obtain ⟨r, vs, _, rfl, ed, hr1, _, _, hvs⟩ := gy.tupOf rfl
        injection ed with ed
        subst ed
        cases hvs with
        | @cons va _ _ _ g1 hvs => cases hvs with
        | @cons vb _ _ _ g2 hvs => cases hvs with
        | @cons vc _ _ _ g3 hvs =>
          cases hvs
          obtain ⟨rfl, ea⟩ := side_o g1 ka
          obtain ⟨rfl, eb⟩ := side_o g2 kb
          have li : i < ds.length := (List.getElem?_eq_some_iff.mp hdy).1
          have st : (ds.take (i + 1)).flatMap sidesD = (ds.take i).flatMap sidesD ++ [unO a] ++ [unO b] := by
            rw [List.take_add_one, hdy, List.flatMap_append, List.append_assoc]
            rfl
          refine ⟨r, _, rfl, SqT.of (sH _ _ hr1), rfl, _, _, rfl, _, _, rfl, _, _, rfl, rfl, ?_⟩
          have k1 := kin.put (unO a) (.bl true)
          have k2 := k1.put (unO b) (.bl true)
          refine ⟨_, rfl, _, rfl, p, kvs, oK (unO a), rfl, hdic.imp (fun h => ⟨[], h.2, h.1⟩) id, kN_oK.symm, small1000 (by omega), ?_⟩
          have h2 : (upd H' p (NX P w p (putK kvs (oK (unO a)) (.bl true)))) p = some (NX P w p (putK kvs (oK (unO a)) (.bl true))) := upd_same
          have l1 := length_putK kvs (oK (unO a)) (.bl true)
          have l2 := length_putK (putK kvs (oK (unO a)) (.bl true)) (oK (unO b)) (.bl true)
          refine ⟨_, rfl, _, rfl, p, _, oK (unO b), rfl, .inr h2, kN_oK.symm, small1000 (by omega), ?_⟩
          refine ⟨same_put (same_put sH np) np, _, _, _, _, _, rfl, .inr upd_same, by rw [st]; exact k2, by omega⟩
      · rintro σ H' ⟨sH, kvs, x2, x3, x4, x5, rfl, hdic, kin, kl⟩
        rw [hl, List.take_length] at kin
        have fin : ∀ (zs : List Str), zs = (kvs.map (·.1)).filterMap keyS → zs.length < 64 ∧ zs.Nodup ∧ ∀ k, k ∈ zs ↔ k ∈ (ds.flatMap sidesD).filterMap id := fun zs e => by
          subst e
          have len : ((kvs.map (·.1)).filterMap keyS).length ≤ (kvs.map (·.1)).length := List.length_filterMap_le _ _
          rw [List.length_map] at len
          exact ⟨by omega, nodup_keys kin.1, kin.mem⟩
        have done : ∀ (H3 : Hp) (L : Addr), Same H H3 → H3 L = some (.lst ((((kvs.map (·.1)).filterMap keyS)).map V.str)) → (rSortedS K) [.ref L] H3 Q := fun H3 L s3 hL => by
          obtain ⟨f1, f2, f3⟩ := fin _ rfl
          refine ⟨L, _, rfl, SqL.of hL, f1, fun ys q' pm so nq => ?_⟩
          refine q _ q' ys ⟨so, pm.nodup_iff.mpr f2, fun k => ?_⟩ (none_of s3 nq) upd_same fun b o e => same_upd nq _ _ (s3 b o e)
          rw [pm.mem_iff, f3 k]
        rcases hdic with ⟨e0, hd0⟩ | hd0
        · have e0 : kvs = [] := e0
          subst e0
          refine ⟨p, _, hd0, trivial, fun od => ?_⟩
          have ups : ∀ H4, H4 p = some (.frz od (.dK [])) → Same (upd H' p (.frz od (.dK []))) H4 → Same H' (upd H4 p (.dK [])) := fun H4 h4 s4 b o e => by
            by_cases eb : b = p
            · rw [eb, upd_same]
              rw [eb, hd0] at e
              exact e
            · rw [upd_ne eb]
              exact s4 b o (by rw [upd_ne eb]; exact e)
          refine ⟨_, rfl, p, od, rfl, .inl ⟨[], upd_same, fun R nR => lc_it walk_keys (fun i H4 => H4 = upd (upd H' p (.frz od (.dK []))) R (.lst []) ∧ R ≠ p) ⟨rfl, fun z => by rw [z, upd_same] at nR; cases nR⟩ (fun i H4 _ h => by rw [h.1, upd_ne h.2.symm]; exact upd_same) ?_ ?_⟩⟩
          · rintro i x H4 H5 hi
            exact absurd hi (Nat.not_lt_zero _)
          · rintro H4 ⟨rfl, nRp⟩
            have h4 : (upd (upd H' p (.frz od (.dK []))) R (.lst [])) p = some (.frz od (.dK [])) := by rw [upd_ne nRp.symm]; exact upd_same
            refine ⟨h4, done _ R (fun b o e => ups _ h4 (same_upd nR) b o (sH b o e)) ?_⟩
            rw [upd_ne nRp, upd_same]
            rfl
        · refine ⟨p, _, hd0, trivial, fun od => ?_⟩
          have ups : ∀ H4, H4 p = some (.frz od (NX P w p kvs)) → Same (upd H' p (.frz od (NX P w p kvs))) H4 → Same H' (upd H4 p (NX P w p kvs)) := fun H4 h4 s4 b o e => by
            by_cases eb : b = p
            · rw [eb, upd_same]
              rw [eb, hd0] at e
              exact e
            · rw [upd_ne eb]
              exact s4 b o (by rw [upd_ne eb]; exact e)
          refine ⟨_, rfl, p, od, rfl, .inr ⟨kvs, upd_same, fun R nR => lc_it walk_nx (fun i H4 => Same (upd H' p (.frz od (NX P w p kvs))) H4 ∧ H4 R = some (.lst ((((kvs.map (·.1)).take i).filterMap keyS).map V.str)) ∧ R ≠ p) ⟨same_upd nR, upd_same, fun z => by rw [z, upd_same] at nR; cases nR⟩ (fun i H4 _ h => h.1 _ _ upd_same) ?_ ?_⟩⟩
          · rintro i x H4 H5 hi ⟨s4, hR, nRp⟩ ⟨rfl, k, v, hkv, rfl⟩
            have hki : (kvs.map (·.1))[i]? = some k := by rw [List.getElem?_map, hkv]; rfl
            have mk := kin.2 k |>.mp (List.mem_of_getElem? hki)
            obtain ⟨o, _, rfl⟩ := List.mem_map.mp mk
            have st : (((kvs.map (·.1)).take (i + 1)).filterMap keyS) = ((kvs.map (·.1)).take i).filterMap keyS ++ [oK o].filterMap keyS := by
              rw [List.take_add_one, hki, List.filterMap_append]
              rfl
            have ln : (((kvs.map (·.1)).take i).filterMap keyS).length ≤ 500 := Nat.le_trans (List.length_filterMap_le _ _) (by rw [List.length_take, List.length_map]; omega)
            refine ⟨rfl, _, rfl, rfl, _, rfl, ?_⟩
            cases o with
            | none =>
              refine iteF ⟨s4, ?_, nRp⟩
              rw [st]
              show H5 R = some (.lst ((_ ++ []).map V.str))
              rw [List.append_nil]
              exact hR
            | some x =>
              refine iteT ⟨_, rfl, _, hR, small1000 (by rw [List.length_map]; omega), same_put s4 nR, ?_, nRp⟩
              rw [st, List.map_append]
              exact upd_same
          · rintro H4 ⟨s4, hR, nRp⟩
            rw [List.take_of_length_le (by rw [List.length_map]; exact Nat.le_refl _)] at hR
            have h4 := s4 _ _ (show (upd H' p (.frz od (NX P w p kvs))) p = _ from upd_same)
            refine ⟨h4, done _ R (fun b o e => ups _ h4 s4 b o (sH b o e)) ?_⟩
            rw [upd_ne nRp]
            exact hR
    · refine .inr ⟨_, rfl, s0, rfl, ⟨_, SqT.of (s1 _ _ hp)⟩, for_tup (K := K) (a := s0) (xs := xs) (fun i σ H' => Same H H' ∧ ∃ kvs x2 x3 x4 x5, σ = [some (.ref s0), some (.ref p), x2, x3, x4, x5] ∧ ((kvs = [] ∧ H' p = some (.dK [])) ∨ H' p = some (NX P w p kvs)) ∧ Kinv kvs ((ds.take i).flatMap sidesD) ∧ kvs.length ≤ 2 * i) ⟨s1, [], none, none, none, none, rfl, .inl ⟨rfl, hp1⟩, Kinv.nil, Nat.le_refl _⟩ (fun i σ H' _ z => SqT.of (z.1 _ _ hp)) ?_ ?_⟩
      · rintro i y σ H' hy ⟨sH, kvs, x2, x3, x4, x5, rfl, hdic, kin, kl⟩
        obtain ⟨dy, hdy, gy⟩ := ha.get hy
        have ry := List.all_eq_true.mp rows dy (List.mem_of_getElem? hdy)
        obtain ⟨a, b, c, rfl⟩ := row_shape ry
        obtain ⟨⟨ka, kb⟩, kne, z, rfl⟩ := row_z ry
        obtain ⟨r, vs, _, rfl, ed, hr1, _, _, hvs⟩ := gy.tupOf rfl
        injection ed with ed
        subst ed
        cases hvs with
        | @cons va _ _ _ g1 hvs => cases hvs with
        | @cons vb _ _ _ g2 hvs => cases hvs with
        | @cons vc _ _ _ g3 hvs =>
          cases hvs
          obtain ⟨rfl, ea⟩ := side_o g1 ka
          obtain ⟨rfl, eb⟩ := side_o g2 kb
          have li : i < ds.length := (List.getElem?_eq_some_iff.mp hdy).1
          have st : (ds.take (i + 1)).flatMap sidesD = (ds.take i).flatMap sidesD ++ [unO a] ++ [unO b] := by
            rw [List.take_add_one, hdy, List.flatMap_append, List.append_assoc]
            rfl
          refine ⟨r, _, rfl, SqT.of (sH _ _ hr1), rfl, _, _, rfl, _, _, rfl, _, _, rfl, rfl, ?_⟩
          have k1 := kin.put (unO a) (.bl true)
          have k2 := k1.put (unO b) (.bl true)
          refine ⟨_, rfl, _, rfl, p, kvs, oK (unO a), rfl, hdic.imp (fun h => ⟨[], h.2, h.1⟩) id, kN_oK.symm, small1000 (by omega), ?_⟩
          have h2 : (upd H' p (NX P w p (putK kvs (oK (unO a)) (.bl true)))) p = some (NX P w p (putK kvs (oK (unO a)) (.bl true))) := upd_same
          have l1 := length_putK kvs (oK (unO a)) (.bl true)
          have l2 := length_putK (putK kvs (oK (unO a)) (.bl true)) (oK (unO b)) (.bl true)
          refine ⟨_, rfl, _, rfl, p, _, oK (unO b), rfl, .inr h2, kN_oK.symm, small1000 (by omega), ?_⟩
          refine ⟨same_put (same_put sH np) np, _, _, _, _, _, rfl, .inr upd_same, by rw [st]; exact k2, by omega⟩
      · rintro σ H' ⟨sH, kvs, x2, x3, x4, x5, rfl, hdic, kin, kl⟩
        rw [hl, List.take_length] at kin
        have fin : ∀ (zs : List Str), zs = (kvs.map (·.1)).filterMap keyS → zs.length < 64 ∧ zs.Nodup ∧ ∀ k, k ∈ zs ↔ k ∈ (ds.flatMap sidesD).filterMap id := fun zs e => by
          subst e
          have len : ((kvs.map (·.1)).filterMap keyS).length ≤ (kvs.map (·.1)).length := List.length_filterMap_le _ _
          rw [List.length_map] at len
          exact ⟨by omega, nodup_keys kin.1, kin.mem⟩
        have done : ∀ (H3 : Hp) (L : Addr), Same H H3 → H3 L = some (.lst ((((kvs.map (·.1)).filterMap keyS)).map V.str)) → (rSortedS K) [.ref L] H3 Q := fun H3 L s3 hL => by
          obtain ⟨f1, f2, f3⟩ := fin _ rfl
          refine ⟨L, _, rfl, SqL.of hL, f1, fun ys q' pm so nq => ?_⟩
          refine q _ q' ys ⟨so, pm.nodup_iff.mpr f2, fun k => ?_⟩ (none_of s3 nq) upd_same fun b o e => same_upd nq _ _ (s3 b o e)
          rw [pm.mem_iff, f3 k]
        rcases hdic with ⟨e0, hd0⟩ | hd0
        · have e0 : kvs = [] := e0
          subst e0
          refine ⟨p, _, hd0, trivial, fun od => ?_⟩
          have ups : ∀ H4, H4 p = some (.frz od (.dK [])) → Same (upd H' p (.frz od (.dK []))) H4 → Same H' (upd H4 p (.dK [])) := fun H4 h4 s4 b o e => by
            by_cases eb : b = p
            · rw [eb, upd_same]
              rw [eb, hd0] at e
              exact e
            · rw [upd_ne eb]
              exact s4 b o (by rw [upd_ne eb]; exact e)
          refine ⟨_, rfl, p, od, rfl, .inl ⟨[], upd_same, fun R nR => lc_it walk_keys (fun i H4 => H4 = upd (upd H' p (.frz od (.dK []))) R (.lst []) ∧ R ≠ p) ⟨rfl, fun z => by rw [z, upd_same] at nR; cases nR⟩ (fun i H4 _ h => by rw [h.1, upd_ne h.2.symm]; exact upd_same) ?_ ?_⟩⟩
          · rintro i x H4 H5 hi
            exact absurd hi (Nat.not_lt_zero _)
          · rintro H4 ⟨rfl, nRp⟩
            have h4 : (upd (upd H' p (.frz od (.dK []))) R (.lst [])) p = some (.frz od (.dK [])) := by rw [upd_ne nRp.symm]; exact upd_same
            refine ⟨h4, done _ R (fun b o e => ups _ h4 (same_upd nR) b o (sH b o e)) ?_⟩
            rw [upd_ne nRp, upd_same]
            rfl
        · refine ⟨p, _, hd0, trivial, fun od => ?_⟩
          have ups : ∀ H4, H4 p = some (.frz od (NX P w p kvs)) → Same (upd H' p (.frz od (NX P w p kvs))) H4 → Same H' (upd H4 p (NX P w p kvs)) := fun H4 h4 s4 b o e => by
            by_cases eb : b = p
            · rw [eb, upd_same]
              rw [eb, hd0] at e
              exact e
            · rw [upd_ne eb]
              exact s4 b o (by rw [upd_ne eb]; exact e)
          refine ⟨_, rfl, p, od, rfl, .inr ⟨kvs, upd_same, fun R nR => lc_it walk_nx (fun i H4 => Same (upd H' p (.frz od (NX P w p kvs))) H4 ∧ H4 R = some (.lst ((((kvs.map (·.1)).take i).filterMap keyS).map V.str)) ∧ R ≠ p) ⟨same_upd nR, upd_same, fun z => by rw [z, upd_same] at nR; cases nR⟩ (fun i H4 _ h => h.1 _ _ upd_same) ?_ ?_⟩⟩
          · rintro i x H4 H5 hi ⟨s4, hR, nRp⟩ ⟨rfl, k, v, hkv, rfl⟩
            have hki : (kvs.map (·.1))[i]? = some k := by rw [List.getElem?_map, hkv]; rfl
            have mk := kin.2 k |>.mp (List.mem_of_getElem? hki)
            obtain ⟨o, _, rfl⟩ := List.mem_map.mp mk
            have st : (((kvs.map (·.1)).take (i + 1)).filterMap keyS) = ((kvs.map (·.1)).take i).filterMap keyS ++ [oK o].filterMap keyS := by
              rw [List.take_add_one, hki, List.filterMap_append]
              rfl
            have ln : (((kvs.map (·.1)).take i).filterMap keyS).length ≤ 500 := Nat.le_trans (List.length_filterMap_le _ _) (by rw [List.length_take, List.length_map]; omega)
            refine ⟨rfl, _, rfl, rfl, _, rfl, ?_⟩
            cases o with
            | none =>
              refine iteF ⟨s4, ?_, nRp⟩
              rw [st]
              show H5 R = some (.lst ((_ ++ []).map V.str))
              rw [List.append_nil]
              exact hR
            | some x =>
              refine iteT ⟨_, rfl, _, hR, small1000 (by rw [List.length_map]; omega), same_put s4 nR, ?_, nRp⟩
              rw [st, List.map_append]
              exact upd_same
          · rintro H4 ⟨s4, hR, nRp⟩
            rw [List.take_of_length_le (by rw [List.length_map]; exact Nat.le_refl _)] at hR
            have h4 := s4 _ _ (show (upd H' p (.frz od (NX P w p kvs))) p = _ from upd_same)
            refine ⟨h4, done _ R (fun b o e => ups _ h4 s4 b o (sH b o e)) ?_⟩
            rw [upd_ne nRp]
            exact hR
end
theorem map_erase {α β : Type} (f : α → β) : ∀ (l : List α) (k : Nat), (l.map f).eraseIdx k = (l.eraseIdx k).map f
  | [], _ => rfl
  | _ :: _, 0 => rfl
  | a :: r, k + 1 => congrArg (f a :: ·) (map_erase f r k)
theorem erase_perm {α : Type} : ∀ (l : List α) (k : Nat) (h : k < l.length), (l[k] :: l.eraseIdx k).Perm l
  | a :: r, 0, _ => List.Perm.refl _
  | a :: r, k + 1, h => (List.Perm.swap a (r[k]'(by simpa using h)) (r.eraseIdx k)).trans ((erase_perm r k (by simpa using h)).cons a)
theorem draw_put {D : DrA} {n m : Nat} {H H' : Hp} {f : Addr} {o : HO} (d0 : DrawAt D n H) (nf : H f = none) (dr : DrawAt D m H') : DrawAt D m (upd H' f o) := by
  obtain ⟨_, _, _, _, k1, k2, k3, _⟩ := d0
  obtain ⟨ws, cs, r, t, h1, h2, h3, h4, h5, h6⟩ := dr
  exact ⟨ws, cs, r, t, by rw [upd_ne (ne_of_none k1 nf)]; exact h1, by rw [upd_ne (ne_of_none k2 nf)]; exact h2, by rw [upd_ne (ne_of_none k3 nf)]; exact h3, h4, h5, h6⟩
theorem fr_put {D : DrA} {H H' : Hp} {f : Addr} {o : HO} (fr : Fr D H H') (nf : H f = none) : Fr D H (upd H' f o) := fun b x e n1 n2 => by
  rw [upd_ne (ne_of_none e nf)]
  exact fr b x e n1 n2
/-! ### _law_in_any_order -/
mutual
def nd0 : PyData → Bool
  | .dict _ => false
  | .list ds => nd0All ds
  | .tuple ds => nd0All ds
  | _ => true
def nd0All : List PyData → Bool
  | [] => true
  | d :: ds => nd0 d && nd0All ds
end
mutual
theorem Da.dp {K : PySem.W.Frag} {D : DrA} {H : Hp} : ∀ {d : PyData} {v : V}, Da D H v d → nd0 d = true → Dp K H v d
  | _, _, .non, _ => .non
  | _, _, .bl b, _ => .bl b
  | _, _, .int i, _ => .int i
  | _, _, .str x, _ => .str x
  | _, _, .lst h _ _ ha, n => .lst (SqL.of h) (DaAll.dp ha (by simpa [nd0] using n))
  | _, _, .tup h _ _ ha, n => .tup (SqT.of h) (DaAll.dp ha (by simpa [nd0] using n))
  | _, _, .emp _ _ _, n => by simp [nd0] at n
theorem DaAll.dp {K : PySem.W.Frag} {D : DrA} {H : Hp} : ∀ {ds : List PyData} {vs : List V}, DaAll D H vs ds → nd0All ds = true → DpAll K H vs ds
  | _, _, .nil, _ => .nil
  | _, _, .cons h ha, n => by
    have n : (nd0 _ && nd0All _) = true := n
    rw [Bool.and_eq_true] at n
    exact .cons (Da.dp h n.1) (DaAll.dp ha n.2)
end
/-- data that can be laid out -/
def Lay (D : DrA) (H : Hp) (u : V) : Prop := ∃ d : PyData, Da D H u d ∧ d.canLay0 = true ∧ d.depth ≤ 50 ∧ nd0 d = true
theorem Lay.fr {D : DrA} {H H' : Hp} {u : V} (h : Lay D H u) (f : FrT D H H') : Lay D H' u := let ⟨d, a, b⟩ := h; ⟨d, a.fr f, b⟩
theorem Lay.sm {D : DrA} {H H' : Hp} {u : V} (h : Lay D H u) (s : Same H H') : Lay D H' u := h.fr (Fr.t (.of s))
theorem lay_all {D : DrA} {H : Hp} : ∀ {us : List V}, (∀ u ∈ us, Lay D H u) → ∃ ds, DaAll D H us ds ∧ PyData.canLayAll0 ds = true ∧ PyData.depthAll ds ≤ 50 ∧ nd0All ds = true
  | [], _ => ⟨[], .nil, by simp [PyData.canLayAll0], by simp [PyData.depthAll], rfl⟩
  | u :: us, h => by
    obtain ⟨d, h1, h2, h3, h4⟩ := h u (List.mem_cons_self ..)
    obtain ⟨ds, k1, k2, k3, k4⟩ := lay_all (us := us) fun x hx => h x (List.mem_cons_of_mem _ hx)
    exact ⟨d :: ds, .cons h1 k1, by simp [PyData.canLayAll0, h2, k2], by simp [PyData.depthAll]; omega, by simp [nd0All, h4, k4]⟩
theorem shaped_lay {ds : List PyData} (h : PyData.canLayAll0 ds = true) (k : PyData.depthAll ds ≤ 50) : SeqAt.shaped (.list ds) = true := by
  unfold SeqAt.shaped
  simp [PyData.canLay0, PyData.depth, h]
  omega
theorem eqv_nil (ds : List PyData) : PyData.eqv (.list ds) (.list []) = ds.isEmpty := by
  cases ds <;> simp [PyData.eqv, PyData.eqvAll]
section
variable {P : Program} {w : World} {K : PySem.W.Frag} {mg : Str → Option Value} {base : Heap}
abbrev sShuf : Stmt := topS 40
def nShuf : List Str := ["state", "several", "found", "left"]
theorem scShuf : FnScope nShuf ["state", "several"] (defScope sShuf) := ⟨rfl, rfl, rfl, by decide +kernel, rfl, by decide +kernel, by decide +kernel⟩
def spShuf : Sp := fun vs H Q _ => ∃ (D : DrA) (n : Nat) (l : Addr) (zs : List V), vs = [.ref D.d, .ref l] ∧ DrawAt D n H ∧ n + zs.length ≤ B ∧ H l = some (.lst zs) ∧ zs.length ≤ 100 ∧ (∀ u ∈ zs, Lay D H u) ∧
  ∀ (H' : Hp) (p : Addr) (ys : List V), H p = none → H' p = some (.lst ys) → ys.Perm zs → DrawAt D (n + zs.length) H' → Fr D H H' → Q (.ref p) H'
theorem ok_shuf {f : Addr} {fd : FuncData} (F : Fun K "_law_in_any_order" "_law_in_any_order" sShuf f fd) (N : Bl mg) (GT : Has P w K mg base CX0 2 "_law_draw" ["state", "size_here"] spTake) : FnOk P w K mg base CX0 3 f fd ["state", "several"] spShuf := by
  refine F.ok scShuf (fun vs H Q E h => ?_) (fun cdv A outer s H vs Q E hr h => ?_)
  · obtain ⟨D, n, l, zs, rfl, _⟩ := h
    rfl
  · obtain ⟨D, n, l, zs, rfl, dr, hn, hl, hlen, ok, q⟩ := h
    have hu64 : (A.deeper (envOfC "_law_in_any_order" (defScope sShuf) s.heap.objs.size f cdv)).units + 64 < cLine := by
      have := hr.un
      omega
    refine ⟨_, pss_cons (ps_par (i := 2) (j := 3) rfl scShuf.nd rfl rfl (by decide) rfl rfl (pa_cons (pe_lst pa_nil) (pa_cons (pe_callTy call_list_of (by rfl) N.blist (by decide +kernel) (pa_cons (pv 1) pa_nil)) pa_nil)) rfl)
      (pss_cons (ps_while PassesOwn.never (pt_cmpR (op_neD hu64) (pv 3) (pe_lst pa_nil) (nomark _))
        (pss_one (ps_expr (pe_bm PySem.F.plainAttrs_list PySem.F.slot_list_append PySem.F.type_list_append mt_append (pv 2) (pa_cons
          (pe_bm PySem.F.plainAttrs_list PySem.F.slot_list_pop PySem.F.type_list_pop mt_popAt (pv 3) (pa_cons (pe_h GT hr (by decide) (by rfl) pass0 (pa_cons (pv 0) (pa_cons (pe_callB call_len_seq (by rfl) N.blen PySem.boot_len (pa_cons (pv 3) pa_nil)) pa_nil))) pa_nil)) pa_nil)))))
      (pss_one (ps_ret (pv 2)))), ?_⟩
    refine ⟨Nat.zero_le _, fun p np => ?_⟩
    have s1 : Same H (upd H p (.lst [])) := same_upd np
    have hp1 : (upd H p (.lst [])) p = some (.lst []) := upd_same
    have d1 := dr.sm s1
    have npH := np
    generalize upd H p (.lst []) = H1 at s1 hp1 d1 ⊢
    refine ⟨_, rfl, l, _, rfl, .inl (SqL.of (s1 _ _ hl)), fun b nb => ⟨_, _, rfl, ?_⟩⟩
    have s2 : Same H1 (upd H1 b (.lst zs)) := same_upd nb
    have nbH := none_of s1 nb
    have hpb : p ≠ b := fun z => by rw [z] at hp1; rw [hp1] at nb; cases nb
    refine while_by (fun σ H' => ∃ (ys us : List V) (m : Nat), σ = [some (.ref D.d), some (.ref l), some (.ref p), some (.ref b)] ∧ H' p = some (.lst ys) ∧ H' b = some (.lst us) ∧ (ys ++ us).Perm zs ∧ DrawAt D m H' ∧ m + us.length = n + zs.length ∧ Fr D H H')
      (fun σ H' => match H' b with | some (.lst xs) => xs.length | _ => 0) ⟨[], zs, n, rfl, s2 _ _ hp1, upd_same, List.Perm.refl _, d1.sm s2, rfl, (Fr.of s1).trans (.of s2)⟩ ?_ ?_
    · rintro σ H' ⟨ys, us, m, rfl, hp, hb, pm, dr', hm, fr⟩
      refine ⟨_, rfl, Nat.zero_le _, fun Z nZ => ?_⟩
      have s3 : Same H' (upd H' Z (.lst [])) := same_upd nZ
      obtain ⟨ds, da, dl, dd, dn⟩ := lay_all (us := us) (D := D) (H := upd H' Z (.lst [])) fun u hu => ((ok u (pm.subset (List.mem_append_right _ hu))).fr fr.t).sm s3
      refine ⟨.list ds, .list [], .lst (SqL.of (s3 _ _ hb)) (da.dp dn), .lst (SqL.of upd_same) .nil, shaped_lay dl dd, by decide +kernel, _, rfl, ?_⟩
      rw [eqv_nil]
      have lds := da.length
      have hp3 := s3 _ _ hp
      have hb3 := s3 _ _ hb
      have d3 := dr'.sm s3
      have fr3 := fr.trans (.of s3)
      generalize upd H' Z (.lst []) = H3 at hp3 hb3 d3 fr3 ⊢
      have ln : us.length ≤ 100 := by
        have := pm.length_eq
        rw [List.length_append] at this
        omega
      have lny : ys.length ≤ 100 := by
        have := pm.length_eq
        rw [List.length_append] at this
        omega
      cases us with
      | nil =>
        have e : ds = [] := List.length_eq_zero_iff.mp lds.symm
        subst e
        refine iteF ⟨_, rfl, ?_⟩
        rw [List.append_nil] at pm
        exact q H3 p ys npH hp3 pm (by rw [show n + zs.length = m from by simpa using hm.symm]; exact d3) fr3
      | cons u0 ur =>
        have e : ds.isEmpty = false := by
          cases ds with
          | nil => cases lds
          | cons _ _ => rfl
        rw [e]
        refine iteT ⟨_, rfl, .inl ⟨rfl, _, SqL.of hp3⟩, _, rfl, .inl ⟨rfl, _, SqL.of hb3⟩, _, rfl, _, rfl, b, _, rfl, .inl (SqL.of hb3), D, m, _, rfl, d3, ?_, ?_, ?_, fun H4 v d4 f4 v0 v1 => ?_⟩
        · rw [List.length_cons] at hm
          omega
        · rw [List.length_cons]
          omega
        · omega
        · obtain ⟨k, rfl⟩ : ∃ k : Nat, v = (k : Int) := ⟨v.toNat, by omega⟩
          have hk : k < (u0 :: ur).length := by omega
          have opd : p ≠ D.d ∧ p ≠ D.w := dr.off npH
          have obd : b ≠ D.d ∧ b ≠ D.w := dr.off nbH
          have hp4 := f4 _ _ hp3 opd.1 opd.2
          have hb4 := f4 _ _ hb3 obd.1 obd.2
          refine ⟨b, _, _, k, (u0 :: ur)[k], rfl, rfl, hb4, by omega, by omega, ?_, ?_, ?_⟩
          · exact seqIndex_of (by omega) (by omega)
          · rw [List.getElem?_eq_getElem hk]
          · have hp5 : (upd H4 b (.lst ((u0 :: ur).eraseIdx k))) p = some (.lst ys) := by rw [upd_ne hpb]; exact hp4
            refine ⟨p, _, _, rfl, rfl, hp5, small1000 (by omega), ?_⟩
            have hb6 : (upd (upd H4 b (.lst ((u0 :: ur).eraseIdx k))) p (.lst (ys ++ [(u0 :: ur)[k]]))) b = some (.lst ((u0 :: ur).eraseIdx k)) := by
              rw [upd_ne hpb.symm, upd_same]
            have le : ((u0 :: ur).eraseIdx k).length + 1 = (u0 :: ur).length := by
              rw [List.length_eraseIdx_of_lt hk]
              have : 0 < (u0 :: ur).length := Nat.succ_pos _
              omega
            refine ⟨⟨ys ++ [(u0 :: ur)[k]], (u0 :: ur).eraseIdx k, m + 1, rfl, upd_same, hb6, ?_, draw_put dr npH (draw_put dr nbH d4), by omega, fr_put (fr_put (fr3.trans f4) nbH) npH⟩, ?_⟩
            · have p1 : ((u0 :: ur)[k] :: (u0 :: ur).eraseIdx k).Perm (u0 :: ur) := erase_perm _ k hk
              rw [List.append_assoc]
              exact (List.Perm.append_left ys p1).trans pm
            · rw [hb6, hb]
              show ((u0 :: ur).eraseIdx k).length < (u0 :: ur).length
              omega
    · rintro σ H' Q1 Q2 mono ⟨x, e, h0, h⟩
      exact ⟨x, e, h0, fun p np => by
        obtain ⟨d, e', a1, a2, a3, a4, k, ek, c⟩ := h p np
        exact ⟨d, e', a1, a2, a3, a4, k, ek, mono _ _ c⟩⟩
end
end Lm
/-! Dicts whose keys are None or texts: all that the ways ask of them. -/
namespace Lm
open PySem PySem.Spec PyProof.Rows L2
theorem pe_mono {X : Cx} {e : Expr} {t t' : TE} (h : PE X e t) (m : ∀ σ H Q, t' σ H Q → t σ H Q) : PE X e t' := ⟨fun pins s σ H Q I k => h.run pins s σ H Q I (m _ _ _ k)⟩
theorem ps_mono {X : Cx} {e : Stmt} {t t' : TS} (h : PS X e t) (m : ∀ D σ H, t' D σ H → t D σ H) : PS X e t' := ⟨fun pins s σ H D I k => h.run pins s σ H D I (m _ _ _ k)⟩
theorem pi_mono {X : Cx} {tg e : Expr} {t t' : TI} (h : PI X tg e t) (m : ∀ σ H R, t' σ H R → t σ H R) : PI X tg e t' := ⟨fun pins s σ H R I k => h.run pins s σ H R I (m _ _ _ k)⟩
abbrev Spot := Option Str
abbrev SK := List (Spot × V)
def upK (ks : SK) : List (Option Key × V) := ks.map fun p => (oK p.1, p.2)
/-- a dict with such keys -/
def NS (P : Program) (w : World) (a : Addr) (ks : SK) : HO := NX P w a (upK ks)
theorem upK_len (ks : SK) : (upK ks).length = ks.length := List.length_map ..
theorem valV_up (o : Spot) : ∀ ks : SK, valV (upK ks) (oK o) = valV ks o
  | [] => rfl
  | p :: r => by
    by_cases h : p.1 = o
    · rw [show upK (p :: r) = (oK p.1, p.2) :: upK r from rfl, valV_pos (show (oK p.1, p.2).1 = oK o by rw [h]), valV_pos h]
    · rw [show upK (p :: r) = (oK p.1, p.2) :: upK r from rfl, valV_neg (show ¬ (oK p.1, p.2).1 = oK o from fun z => h (oK_inj z)), valV_neg h, valV_up o r]
theorem putK_up (ks : SK) (o : Spot) (v : V) : putK (upK ks) (oK o) v = upK (putK ks o v) := by
  unfold putK
  have e : ((upK ks).any fun kv => decide (kv.1 = oK o)) = ks.any fun kv => decide (kv.1 = o) := by
    rw [valV_any, valV_any, valV_up]
  rw [e]
  cases ks.any fun kv => decide (kv.1 = o) with
  | true =>
    show (upK ks).map _ = upK (ks.map _)
    unfold upK
    rw [List.map_map, List.map_map]
    refine List.map_congr_left fun p _ => ?_
    by_cases h : p.1 = o
    · show (if oK p.1 = oK o then (oK p.1, v) else (oK p.1, p.2)) = (oK (if p.1 = o then (p.1, v) else p).1, (if p.1 = o then (p.1, v) else p).2)
      rw [if_pos h, if_pos (by rw [h])]
    · show (if oK p.1 = oK o then (oK p.1, v) else (oK p.1, p.2)) = (oK (if p.1 = o then (p.1, v) else p).1, (if p.1 = o then (p.1, v) else p).2)
      rw [if_neg h, if_neg fun z => h (oK_inj z)]
  | false =>
    show upK ks ++ [(oK o, v)] = upK (ks ++ [(o, v)])
    unfold upK
    rw [List.map_append]
    rfl
section
variable {X : Cx} {pins : List (Addr × Obj)} {σ : L2.St} {H : Hp} {s : Shared} {a : Addr}
theorem ns_rd {ks : SK} (I : Inv X pins σ H s) (h : Rd H a (NS X.prog X.w a ks)) : ks.length ≤ sizeLine ∧ (a == sysModules) = false ∧ ∃ vs, KV (upK ks) vs ∧ s.heap.DictOf (noneKind X.prog X.w) a vs := by
  obtain ⟨l, z, q⟩ := (rd_of I.hok h).1
  exact ⟨by rw [upK_len] at l; exact l, z, q⟩
def IsS (P : Program) (w : World) (H : Hp) (a : Addr) : Prop := ∃ ks, Rd H a (NS P w a ks)
theorem isS_at (I : Inv X pins σ H s) (h : IsS X.prog X.w H a) : s.TypeIs (.ref a) "dict" ∧ (∀ b, Value.ref a = .ref b → ∃ ob, s.heap.get? b = some ob ∧ ob.dict = none) ∧ (a == sysModules) = false := by
  obtain ⟨ks, h⟩ := h
  obtain ⟨_, hd, vs, _, dd⟩ := ns_rd I h
  refine ⟨dd.typeIs, fun b q => ?_, hd⟩
  cases q
  obtain ⟨ob, _, _, h1, h2, _⟩ := dd
  exact ⟨ob, h1, h2.2.1⟩
end
/-! ### {} and {k: v} -/
def tDNewS (P : Program) (w : World) : TE := fun _ H Q => ∀ p, H p = none → Q (.ref p) (upd H p (NS P w p []))
theorem ns_empty {P : Program} {w : World} {H : Hp} (h : Heap) (hb : sysModules < h.objs.size) : ObjOk P w H (h.push { cls := .type "dict", data := .dict #[] }) h.objs.size (NS P w h.objs.size []) :=
  nx_ok (vs := []) (Nat.zero_le _) (beq_eq_false_iff_ne.mpr fun z => Nat.lt_irrefl _ (z ▸ hb)) .nil (Heap.DictOf.new h)
theorem pe_dnewS {X : Cx} {pos : Pos} : PE X (.Dict [] [] pos) (tDNewS X.prog X.w) := by
  constructor
  intro pins s σ H Q I h
  refine wpAny_Dict_empty ⟨.ref s.heap.objs.size, _, ?_, rfl, h _ (I.hok.fresh (Nat.le_refl _))⟩
  exact I.laid (t' := s.toks) (fun _ _ q => Heap.get?_push_of_some _ q) (Nat.le_refl _) (ns_empty s.heap I.big)
def disR (P : Program) (w : World) (p : Addr) (Q : VK) : List (V × V) → Hp → Prop
  | [(x, y)], H2 => ∃ o, x = oV o ∧ H2 p = some (.dK []) ∧ Q (.ref p) (upd H2 p (NS P w p [(o, y)]))
  | _, _ => False
def tDisS (P : Program) (w : World) (tk tv : TE) : TE := fun σ H Q => ∀ p, H p = none → tk σ (upd H p (.dK [])) fun x H1 => tv σ H1 fun y H2 => ∃ o, x = oV o ∧ H2 p = some (.dK []) ∧ Q (.ref p) (upd H2 p (NS P w p [(o, y)]))
theorem pe_disS {X : Cx} {k v : Expr} {pos : Pos} {tk tv : TE} (hk : PE X k tk) (hv : PE X v tv) : PE X (.Dict [some k] [v] pos) (tDisS X.prog X.w tk tv) := by
  refine ⟨fun pins s σ H Q I q => ?_⟩
  have I1 := I.laid (a := s.heap.objs.size) (o := .dK []) (h' := s.heap.push { cls := .type "dict", data := .dict #[] }) (t' := s.toks) (fun _ _ q => Heap.get?_push_of_some _ q) (Nat.le_refl _) (dk_empty s.heap I.big)
  refine wpAny_Dict_walk (knd := noneKind X.prog X.w) rfl rfl (fun z => nomatch z) (by show 1 ≤ 15; decide) (thn ((pps_cons (pos := pos) hk hv pps_nil).run pins _ σ _ (disR X.prog X.w s.heap.objs.size Q) I1 (q _ (I.hok.fresh (Nat.le_refl s.heap.objs.size)))) fun ws s2 ⟨ps, H2, I2, rel, qq⟩ => ?_)
  cases rel with
  | nil => exact qq.elim
  | @cons p b ps bs r t =>
    cases t with
    | cons _ _ => exact qq.elim
    | nil =>
      obtain ⟨x, u⟩ := p
      obtain ⟨b1, b2⟩ := b
      obtain ⟨r1, r2⟩ := r
      obtain ⟨o, ex, e, q2⟩ := qq
      have ex : x = oV o := ex
      subst ex
      obtain ⟨z, hd, vs0, r0, dd⟩ := dk_of I2.hok e
      cases r0
      refine ⟨[(oK o, b2)], ⟨kN_is (by rw [kN_oK]; exact r1), rfl, trivial⟩, mix_n dd, fun h' dd' hs => ⟨.ref s.heap.objs.size, _, ?_, rfl, q2⟩⟩
      have he : ∃ q, h'.get? s.heap.objs.size = some q := let ⟨q, _, _, hq, _⟩ := dd'; ⟨q, hq⟩
      exact d_write I2 (by rw [e]; exact True.intro) hs he (nx_ok (by show 1 ≤ sizeLine; decide) hd (.cons ⟨rfl, r2⟩ .nil) dd')
/-! ### d[k] = v, d[k], k in d, d.get, d.setdefault -/
def sDPutS (P : Program) (w : World) (td ty tv : TE) : TS := fun D σ H => tv σ H fun v H1 => td σ H1 fun x H2 => ty σ H2 fun y H3 => ∃ a ks o, x = .ref a ∧ H3 a = some (NS P w a ks) ∧ y = oV o ∧ ks.length < sizeLine ∧ D.nx σ (upd H3 a (NS P w a (putK ks o v)))
section
variable {X : Cx} {o i value : Expr} {td ty tv : TE} {pos pos' : Pos}
theorem ps_dputS (ho : PE X o td) (hi : PE X i ty) (hv : PE X value tv) (hs : swapsWith value (some (.Subscript o i pos')) pos.line X.env = pure false) :
    PS X (.Assign [.Subscript o i pos'] value pos) (sDPutS X.prog X.w td ty tv) := by
  refine ⟨fun pins s σ H D I h => ?_⟩
  refine wpAny_Assign_Subscript (thn (hv.run pins s σ H _ I h) fun r s1 ⟨v, H1, I1, rv, q1⟩ => thn (ho.run pins s1 σ H1 _ I1 q1) fun u s2 ⟨x, H2, I2, rx, q2⟩ => thn (hi.run pins s2 σ H2 _ I2 q2) fun iv s3 ⟨y, H3, I3, ry, a, ks, k, ex, g, ey, hl, q3⟩ => ?_) hs
  subst ex ey
  obtain rfl : u = Value.ref a := rx
  obtain ⟨z, hd, vs, rel, dd⟩ := ns_rd I3 (.inl g)
  have hz : vs.length ≤ sizeLine := by rw [← rel.length, upK_len]; exact z
  refine wpAny_setItem_pairs (knd := noneKind X.prog X.w) (hsz := hz) (kN_is (k := oK k) (by rw [kN_oK]; exact ry)) dd fun h' dd' hs' => ⟨σ, _, ?_, q3⟩
  have he : ∃ q, h'.get? a = some q := let ⟨q, _, _, hq, _⟩ := dd'; ⟨q, hq⟩
  have rel' := rel.put (oK k) rv
  rw [putK_up] at rel'
  refine d_write (t' := s3.toks + 1) I3 (by rw [g]; exact True.intro) hs' he (nx_ok ?_ hd rel' dd')
  have := length_putK ks k v
  rw [upK_len]
  omega
def tDGetS (P : Program) (w : World) (td ty : TE) : TE := fun σ H Q => td σ H fun x H1 => ty σ H1 fun y H2 => ∃ a ks o v, x = .ref a ∧ Rd H2 a (NS P w a ks) ∧ y = oV o ∧ valV ks o = some v ∧ Q v H2
theorem pe_dgetS (ho : PE X o td) (hi : PE X i ty) (hs : NoSl i) : PE X (.Subscript o i pos) (tDGetS X.prog X.w td ty) := by
  refine ⟨fun pins s σ H Q I h => ?_⟩
  refine subD_of PySem.F.slot_dict_getitem.lookup hs (thn (ho.run pins s σ H _ I h) fun u s1 ⟨x, H1, I1, rx, q1⟩ => thn (hi.run pins s1 σ H1 _ I1 q1) fun iv s2 ⟨y, H2, I2, ry, a, ks, k, v, ex, g, ey, l, q2⟩ => ?_)
  subst ex ey
  obtain rfl : u = Value.ref a := rx
  obtain ⟨z, hd, vs, rel, dd⟩ := ns_rd I2 g
  obtain ⟨w', hw, rw'⟩ := RelO.some_of (v := v) (o := valueAt vs (oK k)) (by rw [← l, ← valV_up]; exact rel.val (oK k))
  exact ⟨dd.typeIs, wpAny_getItem_of (kN_is (k := oK k) (by rw [kN_oK]; exact ry)) dd.mapOf hw ⟨v, H2, I2.tok _, rw', q2⟩⟩
def tDInS (P : Program) (w : World) (ty td : TE) : TE := fun σ H Q => ty σ H fun y H1 => td σ H1 fun x H2 => ∃ a ks o, x = .ref a ∧ Rd H2 a (NS P w a ks) ∧ y = oV o ∧ Q (.bl (valV ks o).isSome) H2
def tDNotInS (P : Program) (w : World) (ty td : TE) : TE := fun σ H Q => ty σ H fun y H1 => td σ H1 fun x H2 => ∃ a ks o, x = .ref a ∧ Rd H2 a (NS P w a ks) ∧ y = oV o ∧ Q (.bl (!(valV ks o).isSome)) H2
theorem pc_dinS (hi : PE X i ty) (ho : PE X o td) : PC X .In i o (tDInS X.prog X.w ty td) := by
  refine ⟨fun pins s σ H Q I h => ?_⟩
  refine thn (hi.run pins s σ H _ I h) fun iv s1 ⟨y, H1, I1, ry, q1⟩ => thn (ho.run pins s1 σ H1 _ I1 q1) fun u s2 ⟨x, H2, I2, rx, a, ks, k, ex, g, ey, q2⟩ => ?_
  subst ex ey
  obtain rfl : u = Value.ref a := rx
  obtain ⟨z, hd, vs, rel, dd⟩ := ns_rd I2 g
  have e := (rel.val (oK k)).isSome_eq
  rw [valV_up] at e
  exact wpAny_in_of (kN_is (k := oK k) (by rw [kN_oK]; exact ry)) hd dd.mapOf ⟨.bl (valV ks k).isSome, H2, I2.tok _, (congrArg Value.bool e.symm : _ = Value.bool (valV ks k).isSome), q2⟩
theorem pc_dnotinS (hi : PE X i ty) (ho : PE X o td) : PC X .NotIn i o (tDNotInS X.prog X.w ty td) := by
  refine ⟨fun pins s σ H Q I h => ?_⟩
  refine thn (hi.run pins s σ H _ I h) fun iv s1 ⟨y, H1, I1, ry, q1⟩ => thn (ho.run pins s1 σ H1 _ I1 q1) fun u s2 ⟨x, H2, I2, rx, a, ks, k, ex, g, ey, q2⟩ => ?_
  subst ex ey
  obtain rfl : u = Value.ref a := rx
  obtain ⟨z, hd, vs, rel, dd⟩ := ns_rd I2 g
  have e := (rel.val (oK k)).isSome_eq
  rw [valV_up] at e
  exact wpAny_notIn_of (kN_is (k := oK k) (by rw [kN_oK]; exact ry)) hd dd.mapOf ⟨.bl (!(valV ks k).isSome), H2, I2.tok _, (congrArg (fun b => Value.bool (!b)) e.symm : _ = Value.bool (!(valV ks k).isSome)), q2⟩
end
def tDGet2S (P : Program) (w : World) (td ty tx : TE) : TE := fun σ H Q => td σ H fun x H1 => ∃ a, x = .ref a ∧ IsS P w H1 a ∧ ty σ H1 fun y H2 => tx σ H2 fun z H3 => ∃ ks k, Rd H3 a (NS P w a ks) ∧ y = oV k ∧ Q ((valV ks k).getD z) H3
def tDGet1S (P : Program) (w : World) (td ty : TE) : TE := fun σ H Q => td σ H fun x H1 => ∃ a, x = .ref a ∧ IsS P w H1 a ∧ ty σ H1 fun y H2 => ∃ ks k, Rd H2 a (NS P w a ks) ∧ y = oV k ∧ Q ((valV ks k).getD .non) H2
def tDSetdS (P : Program) (w : World) (td ty tx : TE) : TE := fun σ H Q => td σ H fun x H1 => ∃ a, x = .ref a ∧ IsS P w H1 a ∧ ty σ H1 fun y H2 => tx σ H2 fun z H3 => ∃ ks k, H3 a = some (NS P w a ks) ∧ y = oV k ∧ ks.length < sizeLine ∧
  (∀ v, valV ks k = some v → Q v H3) ∧ (valV ks k = none → Q z (upd H3 a (NS P w a (putK ks k z))))
section
variable {X : Cx} {o e f : Expr} {apos cpos : Pos} {td ty tx : TE}
theorem pe_dget2S (ho : PE X o td) (he : PE X e ty) (hf : PE X f tx) (m : M2 X o "get" apos e f cpos) : PE X (.Call (.Attribute o "get" apos) [e, f] [] cpos) (tDGet2S X.prog X.w td ty tx) := by
  refine ⟨fun pins s σ H Q I h => ?_⟩
  refine wpAny_Call_method m.base m.few m.line PySem.F.plainAttrs_dict PySem.F.slot_dict_get PySem.F.type_dict_get (thn (ho.run pins s σ H _ I h) fun u s1 ⟨x, H1, I1, rx, a, ex, d, q1⟩ => ?_)
  subst ex
  obtain rfl : u = Value.ref a := rx
  obtain ⟨t1, t2, _⟩ := isS_at I1 d
  refine ⟨t1, t2, ?_⟩
  rw [m.trees]
  refine Calls.callWith_builtin rfl (Calls.evalArgs_plain (Calls.spliced_cons (thn (he.run pins s1 σ H1 _ I1 q1) fun iv s2 ⟨y, H2, I2, ry, q2⟩ =>
    Calls.spliced_cons (thn (hf.run pins s2 σ H2 _ I2 q2) fun fv s3 ⟨z, H3, I3, rz, ks, k, g, ey, q3⟩ => Calls.spliced_nil ?_))))
  subst ey
  obtain ⟨_, hd, vs, rel, dd⟩ := ns_rd I3 g
  have rr := (rel.val (oK k)).getD rz
  rw [valV_up] at rr
  exact call_meetsIn PySem.F.slot_dict_get dd.typeIs PySem.F.entry_dict_get (PySem.F.args_dict_get_3 _ _ _) (meets_dict_get_default (noneKind X.prog X.w) a (kN_is (k := oK k) (by rw [kN_oK]; exact ry)) hd fv) ⟨_, dd.mapOf, _, H3, I3.tok _, rr, q3⟩
theorem pe_dget1S (ho : PE X o td) (he : PE X e ty) (m : M1 X o "get" apos e cpos) : PE X (.Call (.Attribute o "get" apos) [e] [] cpos) (tDGet1S X.prog X.w td ty) := by
  refine ⟨fun pins s σ H Q I h => ?_⟩
  refine wpAny_Call_method m.base m.few m.line PySem.F.plainAttrs_dict PySem.F.slot_dict_get PySem.F.type_dict_get (thn (ho.run pins s σ H _ I h) fun u s1 ⟨x, H1, I1, rx, a, ex, d, q1⟩ => ?_)
  subst ex
  obtain rfl : u = Value.ref a := rx
  obtain ⟨t1, t2, _⟩ := isS_at I1 d
  refine ⟨t1, t2, ?_⟩
  rw [m.trees]
  refine Calls.callWith_builtin rfl (Calls.evalArgs_plain (Calls.spliced_cons (thn (he.run pins s1 σ H1 _ I1 q1) fun iv s2 ⟨y, H2, I2, ry, ks, k, g, ey, q2⟩ => Calls.spliced_nil ?_)))
  subst ey
  obtain ⟨_, hd, vs, rel, dd⟩ := ns_rd I2 g
  have rr := (rel.val (oK k)).getD (show RelV .non Value.none from rfl)
  rw [valV_up] at rr
  exact call_meetsIn PySem.F.slot_dict_get dd.typeIs PySem.F.entry_dict_get (PySem.F.args_dict_get_2 _ _) (meets_dict_get (noneKind X.prog X.w) a (kN_is (k := oK k) (by rw [kN_oK]; exact ry)) hd) ⟨_, dd.mapOf, _, H2, I2.tok _, rr, q2⟩
theorem pe_dsetdS (ho : PE X o td) (he : PE X e ty) (hf : PE X f tx) (m : M2 X o "setdefault" apos e f cpos) : PE X (.Call (.Attribute o "setdefault" apos) [e, f] [] cpos) (tDSetdS X.prog X.w td ty tx) := by
  refine ⟨fun pins s σ H Q I h => ?_⟩
  refine wpAny_Call_method m.base m.few m.line PySem.F.plainAttrs_dict PySem.F.slot_dict_setdefault PySem.F.type_dict_setdefault (thn (ho.run pins s σ H _ I h) fun u s1 ⟨x, H1, I1, rx, a, ex, d, q1⟩ => ?_)
  subst ex
  obtain rfl : u = Value.ref a := rx
  obtain ⟨t1, t2, _⟩ := isS_at I1 d
  refine ⟨t1, t2, ?_⟩
  rw [m.trees]
  refine Calls.callWith_builtin rfl (Calls.evalArgs_plain (Calls.spliced_cons (thn (he.run pins s1 σ H1 _ I1 q1) fun iv s2 ⟨y, H2, I2, ry, q2⟩ =>
    Calls.spliced_cons (thn (hf.run pins s2 σ H2 _ I2 q2) fun fv s3 ⟨z, H3, I3, rz, ks, k, g, ey, hl, q3, q4⟩ => Calls.spliced_nil ?_))))
  subst ey
  obtain ⟨z0, hd, vs, rel, dd⟩ := ns_rd I3 (.inl g)
  have hz : vs.length ≤ sizeLine := by rw [← rel.length, upK_len]; exact z0
  have rv := rel.val (oK k)
  rw [valV_up] at rv
  refine call_meetsIn PySem.F.slot_dict_setdefault dd.typeIs PySem.F.entry_dict_setdefault (PySem.F.args_dict_setdefault_3 _ _ _) (kt_meets_setdefault (noneKind X.prog X.w) a (kN_is (k := oK k) (by rw [kN_oK]; exact ry)) hd fv) ⟨vs, dd, hz, fun v hv => ?_, fun hn h' dd' hs => ?_⟩
  · rw [hv] at rv
    cases q0 : valV ks k with
    | none => rw [q0] at rv; exact (show False from rv).elim
    | some v0 =>
      rw [q0] at rv
      exact ⟨v0, H3, I3.tok _, rv, q3 v0 q0⟩
  · rw [hn] at rv
    cases q0 : valV ks k with
    | some v0 => rw [q0] at rv; exact (show False from rv).elim
    | none =>
      have he : ∃ q, h'.get? a = some q := let ⟨q, _, _, hq, _⟩ := dd'; ⟨q, hq⟩
      have rel' := rel.put (oK k) rz
      rw [putK_up] at rel'
      refine ⟨z, _, d_write (t' := s3.toks + 1) I3 (by rw [g]; exact True.intro) hs he (nx_ok ?_ hd rel' dd'), rz, q4 q0⟩
      have := length_putK ks k z
      rw [upK_len]
      omega
end
/-! ### len(d) -/
def rLenS (P : Program) (w : World) : List V → Hp → VK → Prop := fun vs H Q => ∃ a ks, vs = [.ref a] ∧ Rd H a (NS P w a ks) ∧ Q (.int (ks.length : Nat)) H
theorem call_lenS {X : Cx} : CallR X (.builtin "len") (rLenS X.prog X.w) := by
  intro pins s σ H xs us Q I r h
  obtain ⟨a, ks, rfl, g, q⟩ := h
  obtain rfl := Vals.ref1 r
  obtain ⟨z, hd, vs, rel, dd⟩ := ns_rd I g
  have l2 := rel.length
  rw [upK_len] at l2
  refine call_len_dict hd dd (by rw [← l2]; rw [sizeLine_eq] at z; omega) ?_
  rw [← l2]
  exact ⟨.int (ks.length : Nat), H, I.tok _, ⟨_, rfl⟩, q⟩
end Lm
/-! Walks over such dicts. -/
namespace Lm
open PySem PySem.Spec PyProof.Rows L2
/-! ### for k in d -/
def iKeysS (P : Program) (w : World) (td : TE) : TI := fun σ H R => td σ H fun x H1 => ∃ d o ks, x = .ref d ∧ H1 d = some (.frz o (NS P w d ks)) ∧ R (Itn P w d o (upK ks)) H1
theorem pi_keysS {X : Cx} {tg e : Expr} {td : TE} {P : Program} {w : World} (he : PE X e td) (hP : X.prog = P := by rfl) (hw : X.w = w := by rfl) : PI X tg e (iKeysS P w td) :=
  ⟨fun pins s σ H R I h => by
    subst hP hw
    refine thn (he.run pins s σ H _ I h) fun u s1 ⟨x, H1, I1, rx, d, o, ks, ex, hd, q⟩ => ?_
    subst ex
    obtain rfl : u = Value.ref d := rx
    obtain ⟨hs, hgd, hx, es, ep, vs, hdt, hsz, kv, hm⟩ := frzN I1 hd
    refine iter_keys hs hgd hx hdt (pi_one (tk := s1.toks) I1 _ (turn_nx _ hdt) ⟨_, Heap.get?_push_size _ rfl, rfl, ?_⟩ q)
    rw [hsz] <;> rfl⟩
theorem up_get {ks : SK} {i : Nat} {k : Option Key} {v : V} (h : (upK ks)[i]? = some (k, v)) : ∃ o, ks[i]? = some (o, v) ∧ k = oK o := by
  unfold upK at h
  rw [List.getElem?_map] at h
  cases e : ks[i]? with
  | none => rw [e] at h; cases h
  | some p =>
    rw [e] at h
    cases h
    exact ⟨p.1, rfl, rfl⟩
theorem walk_keysS {P : Program} {w : World} {d : Addr} {o : Obj} {ks : SK} : Walk (Itn P w d o (upK ks)) ks.length (fun H => H d = some (.frz o (NS P w d ks))) (fun i H x H' => H' = H ∧ ∃ k v, ks[i]? = some (k, v) ∧ x = oV k) :=
  ⟨fun i H hi q => ⟨q, by rw [upK_len]; exact hi⟩, fun _ q => ⟨q, by rw [upK_len]; exact Nat.le_refl _⟩, fun i H x H' hi _ ⟨e, k, v, hk, ex⟩ => by
    obtain ⟨s, h1, rfl⟩ := up_get hk
    exact ⟨e, s, v, h1, by rw [ex, kN_oK]⟩⟩
/-! ### for k, v in d.items() -/
def ItnI (P : Program) (w : World) (d : Addr) (o : Obj) (kvs : List (Option Key × V)) : It :=
  ⟨fun i H => H d = some (.frz o (NX P w d kvs)) ∧ i < kvs.length, fun i H x H' => ∃ T k v, kvs[i]? = some (k, v) ∧ x = .ref T ∧ H T = none ∧ H' = upd H T (.tup [kN k, v]), fun i H => H d = some (.frz o (NX P w d kvs)) ∧ kvs.length ≤ i⟩
section
variable {P : Program} {w : World} {K : PySem.W.Frag} {d : Addr} {o : Obj} {es : Array DictEntry} {ep : Nat}
theorem turn_nxI {kvs : List (Option Key × V)} {elts : List Expr} {kk : Nat} {tpos : Pos} (it : Addr) (hod : o.data = .dict es ep) :
    Turn P w K (.Tuple elts kk tpos) (ItnI P w d o kvs) [it] it (fun i h => ∃ ok ov, IsItemIter h it d i kvs.length ep ok ov) where
  mem := by simp
  obj := fun i h st b hb => by
    obtain rfl : b = it := by simpa using hb
    obtain ⟨ok, ov, e⟩ := st
    exact ⟨_, e, fun v z => nomatch z⟩
  keep := fun i h h' st k => let ⟨ok, ov, e⟩ := st; ⟨ok, ov, k it (by simp) _ e⟩
  item := by
    intro X hP hw hK hc i pins s σ H E I hf st hg
    subst hP hw hK
    obtain ⟨hd, hi⟩ := hg
    obtain ⟨hs, hgd, hx, es', ep', vs, hdt, hsz, kv, hm⟩ := frzN I hd
    obtain ⟨rfl, rfl⟩ := dict_ep hod hdt
    obtain ⟨⟨k, v⟩, hkv⟩ : ∃ p, kvs[i]? = some p := ⟨kvs[i], List.getElem?_eq_getElem hi⟩
    obtain ⟨u, hu, ru⟩ := kv_get kv hkv
    have ln : kvs.length = vs.length := Paired.length kv
    obtain ⟨ok, ov, he⟩ := st
    rw [ln] at he
    have hlt : it < s.heap.objs.size := Heap.lt_size he
    refine wpAny_pyNext_items_item he hm hu fun key h' hkey ho hT hz hk => ?_
    refine ⟨_, rfl, wpAny_letOwnedTupleGo_items (s := { s with heap := h' }) ho fun h'' he' sb => ?_⟩
    have gT : h''.get? s.heap.objs.size = some { cls := .type "tuple", data := .seq #[key, u] } := (sb.2 _ (Nat.ne_of_gt hlt)).trans hT
    have mk : ObjOk X.prog X.w (upd H s.heap.objs.size (.tup [kN k, v])) h'' s.heap.objs.size (.tup [kN k, v]) :=
      ⟨by show 2 ≤ sizeLine; decide, [key, u], .cons (relV_n (show nkIs k key = true from hkey)) (.cons ru .nil), ⟨_, gT, rfl, _, rfl⟩⟩
    have J : Inv X pins σ (upd H s.heap.objs.size (.tup [kN k, v])) { s with heap := h'' } :=
      I.turnedNew (t' := s.toks) (ch := [it]) (fun b ob hb e => (sb.2 b (by simpa using hb)).trans (hk b ob (by simpa using hb) e)) hf (Nat.le_refl _) mk
    refine ⟨.ref s.heap.objs.size, _, J, rfl, ⟨_, k, v, hkv, rfl, I.hok.fresh (Nat.le_refl _), rfl⟩, ⟨key, u, ?_⟩, fun b hb => ?_⟩
    · rw [ln]; exact he'
    · obtain rfl : b = it := by simpa using hb
      rw [upd_ne (Nat.ne_of_lt hlt)]
      exact (hf b (by simp)).1
  done := by
    intro X hP hw hK hc i pins s σ H E I hf st hg
    subst hP hw hK
    obtain ⟨hd, hi⟩ := hg
    obtain ⟨f0, f1, f2, f3, f4, f5⟩ := hf it (by simp)
    obtain ⟨hs, hgd, hx, es', ep', vs, hdt, hsz, kv, hm⟩ := frzN I hd
    obtain ⟨rfl, rfl⟩ := dict_ep hod hdt
    have ln : kvs.length = vs.length := Paired.length kv
    obtain ⟨ok, ov, he⟩ := st
    rw [ln] at he
    exact wpAny_pyNext_items_end (I.ok.hd hc) he hm (List.getElem?_eq_none (by omega)) fun h' eb => ⟨rfl, I.turned (t' := s.toks) (fun b ob hb e => eb b ob hb e) f0 f1 f3 f4 f5⟩
  self := fun A i s Q E st h => let ⟨_, _, e⟩ := st; PySem.W.kcp_self e h
end
def iItemsS (P : Program) (w : World) (td : TE) : TI := fun σ H R => td σ H fun x H1 => ∃ d o ks, x = .ref d ∧ H1 d = some (.frz o (NS P w d ks)) ∧ R (ItnI P w d o (upK ks)) H1
theorem pi_itemsS {X : Cx} {e : Expr} {td : TE} {P : Program} {w : World} {apos cpos tpos : Pos} {elts : List Expr} {kk : Nat} (he : PE X e td) (hP : X.prog = P := by rfl) (hw : X.w = w := by rfl)
    (hbase : attributeBase e "items" X.env (eval e X.env) = eval e X.env := by rfl) (hline : (apos.endLine == cpos.line) = true := by rfl) :
    PI X (.Tuple elts kk tpos) (.Call (.Attribute e "items" apos) [] [] cpos) (iItemsS P w td) := by
  subst hP hw
  refine ⟨fun pins s σ H R I h => ?_⟩
  refine wpAny_Call_method (T := "dict") (id := "dict.items") hbase rfl hline F.plainAttrs_dict F.slot_dict_items F.type_dict_items (thn (he.run pins s σ H _ I h) fun u s1 ⟨x, H1, I1, rx, d, o, ks, ex, hd, q⟩ => ?_)
  subst ex
  obtain rfl : u = Value.ref d := rx
  obtain ⟨hs, hgd, hx, es, ep, vs, hdt, hsz, kv, hm⟩ := frzN I1 hd
  have ln : (upK ks).length = vs.length := Paired.length kv
  refine ⟨hm.dictOf.typeIs, hm.dictOf.mapOf.noDict, ?_⟩
  have I2 : Inv X pins σ H1 { s1 with heap := s1.heap.push { cls := .type "dict_items", data := .fields #[.ref d] } } := I1.kept (t' := s1.toks) fun b ob q => Heap.get?_push_of_some _ q
  have go : wpAny (model X.prog X.w) X.A (pyIter (.ref s1.heap.objs.size)) (PIE X pins σ (.Tuple elts kk tpos) R) X.xe { s1 with heap := s1.heap.push { cls := .type "dict_items", data := .fields #[.ref d] } } := by
    refine wpAny_pyIter_items (d := d) (knd := noneKind X.prog X.w) ⟨_, Heap.get?_push_size _ rfl, rfl, rfl⟩ (hm.push _) (pi_one (tk := s1.toks) I2 _ (turn_nxI _ hdt) ⟨.none, .none, ?_⟩ q)
    rw [ln]
    exact Heap.get?_push_size _ rfl
  show wpAny _ _ (callWith cpos (.builtin "dict.items") [.ref d] [] []) _ X.xe s1
  exact method_meetsIn F.slot_dict_items F.entry_dict_items rfl (PySem.evalArgs_none ⟨rfl, hm.dictOf.typeIs, F.args_dict_items_1 _, _, meets_dict_items (noneKind X.prog X.w) d hs, ⟨vs, hm.dictOf⟩, go⟩)
theorem walk_itemsS {P : Program} {w : World} {d : Addr} {o : Obj} {ks : SK} : Walk (ItnI P w d o (upK ks)) ks.length (fun H => H d = some (.frz o (NS P w d ks))) (fun i H x H' => ∃ T k v, ks[i]? = some (k, v) ∧ x = .ref T ∧ H T = none ∧ H' = upd H T (.tup [oV k, v])) :=
  ⟨fun i H hi q => ⟨q, by rw [upK_len]; exact hi⟩, fun _ q => ⟨q, by rw [upK_len]; exact Nat.le_refl _⟩, fun i H x H' hi _ ⟨T, k, v, hk, ex, hT, e⟩ => by
    obtain ⟨s, h1, rfl⟩ := up_get hk
    exact ⟨T, s, v, h1, ex, hT, by rw [e, kN_oK]⟩⟩
end Lm
/-! Dict comprehensions whose keys are None or texts. -/
namespace Lm
open PySem PySem.Spec PyProof.Rows L2
theorem ns_dictSet {X : Cx} {pins : List (Addr × Obj)} {σ : L2.St} {H : Hp} {s : Shared} {E : Value → Shared → Prop} {D : Addr} {ks : SK} {k : Spot} {v : V} {u r : Value} {Q : Unit → Shared → Prop} (I : Inv X pins σ H s) (hD : H D = some (NS X.prog X.w D ks)) (hz : ks.length < sizeLine)
    (ry : RelV (oV k) u) (rv : RelV v r) (h : ∀ s', Inv X pins σ (upd H D (NS X.prog X.w D (putK ks k v))) s' → Q () s') : wpAny (model X.prog X.w) X.A (dictSet D u r) Q E s := by
  obtain ⟨z, hd, vs, rel, dd⟩ := ns_rd I (.inl hD)
  have hzv : vs.length ≤ sizeLine := by rw [← rel.length, upK_len]; exact z
  have rel' := rel.put (oK k) rv
  rw [putK_up] at rel'
  refine wpAny_dictSet_pairs (knd := noneKind X.prog X.w) (hsz := hzv) (kN_is (k := oK k) (by rw [kN_oK]; exact ry)) dd fun h' dd' hs => h _ ?_
  have he : ∃ q, h'.get? D = some q := let ⟨q, _, _, hq, _⟩ := dd'; ⟨q, hq⟩
  refine d_write I (by rw [hD]; exact True.intro) hs he (nx_ok ?_ hd rel' dd')
  have := length_putK ks k v
  rw [upK_len]
  omega
section
variable {X : Cx}
/-- {k: v for .. in ..}, the keys None or texts: D the new dict -/
def tDcS (P : Program) (w : World) (wI : TI) (g : TG) (tt : TT) (tk tv : TE) (vs : List Nat) : TE := fun σ H Q => wI σ H fun J H1 => ∀ D, H1 D = none → ∃ W : Nat → Nat → Hp → Prop, (∃ m, W 0 m (upd H1 D (NS P w D []))) ∧ ∀ i m H, W i m H →
  (J.stop i H ∧ Q (.ref D) H) ∨ (J.go i H ∧ ∃ Nx : Hp → Prop, (∀ H', Nx H' → ∃ m', m' < m ∧ W (i + 1) m' H') ∧ ∀ x H', J.yld i H x H' → g x (wipe σ vs) H' fun σ2 H2 => wipe σ2 vs = wipe σ vs ∧ tt σ2 H2 fun b H3 =>
    if b = true then tk σ2 H3 fun y H4 => tv σ2 H4 fun z H5 => ∃ ks k, y = oV k ∧ H5 D = some (NS P w D ks) ∧ ks.length < sizeLine ∧ Nx (upd H5 D (NS P w D (putK ks k z))) else Nx H3)
theorem dcS_core {pn : List (Addr × Obj)} {s : Shared} {σ : L2.St} {H : Hp} {Q : VK} {kx vx tg itr : Expr} {cnd : List Expr} {scp : Scope} {ow : List (Str × Nat)} {ps0 ps1 : Pos} {wI : TI} {g : TG} {tt : TT} {tk tv : TE} {use : Option (Value → Sem Unit)} {Qf : Value → Shared → Prop}
    (hc : X.calm = true) (hN : X.N.Nodup) (I : Inv X pn σ H s) (hi : PI X tg itr wI) (ok : BlkOk X.N X.env.scope scp ow)
    (hg : ∀ (s : Shared) (H : Hp) (C : Addr) (cl : List (Str × Addr)) (fp : List Addr), PG (X.blk s H scp (compEnvC scp cl C X.env) fp) tg g) (ht : ∀ (s : Shared) (H : Hp) (C : Addr) (cl : List (Str × Addr)) (fp : List Addr), PTs (X.blk s H scp (compEnvC scp cl C X.env) fp) cnd tt)
    (hk : ∀ (s : Shared) (H : Hp) (C : Addr) (cl : List (Str × Addr)) (fp : List Addr), PE (X.blk s H scp (compEnvC scp cl C X.env) fp) kx tk)
    (he : ∀ (s : Shared) (H : Hp) (C : Addr) (cl : List (Str × Addr)) (fp : List Addr), PE (X.blk s H scp (compEnvC scp cl C X.env) fp) vx tv) (hs : ∀ x, foldedSetIterable itr X.env x = pure x)
    (h : tDcS X.prog X.w wI g tt tk tv (ow.map (·.2)) σ H Q)
    (hend : ∀ D C s' m H', Inv X pn σ H' s' → Q (.ref D) H' → s'.heap.Ns C m → FpOk X pn H' C → compPost (model X.prog X.w) X.A X.xe use Qf (.ref D) C (.ok .next) s') :
    wpAny (model X.prog X.w) X.A (comprehension (.DictComp kx vx [⟨tg, itr, cnd, 0⟩] scp ps0) scp X.env ps1 newDict false (eval itr X.env) use) Qf X.xe s := by
  have fr_of : ∀ y ∈ scp.names, y.2 = .free → ∃ c, X.env.cells.lookup y.1 = some c := fun y hy e => by
    rcases ok.free y hy e with k | k
    · exact I.ok.has _ (.inl k)
    · exact I.ok.has _ (.inr k)
  refine wpAny_comprehension_free (use := use) rfl hs (closure_ok fr_of) ok.kind (fun y hy e => by rw [ok.uniq y hy, e])
    (thn (hi.run pn s σ H _ I h) fun vx1 s1 hx => thn hx fun vit s2 h2 => ?_)
  obtain ⟨it, fp, tn, J, H2, e, J2, T, t2, qf2, q⟩ := h2
  subst e
  refine wpAny_newObj_type (newEnv_comp ?_)
  generalize hD : s2.heap.objs.size = D
  have nD : H2 D = none := J2.hok.fresh (Nat.le_of_eq hD)
  obtain ⟨W, ⟨m0, wst⟩, tr⟩ := q D nD
  -- the new list
  generalize hs3 : ({ s2 with heap := s2.heap.push { cls := .type "dict", data := .dict #[] } } : Shared) = s3
  have J3 : Inv X pn σ (upd H2 D (NS X.prog X.w D [])) s3 := by
    rw [← hs3]
    refine J2.laid (t' := s2.toks) (fun b o e => Heap.get?_push_of_some _ e) (Nat.le_of_eq hD) ?_
    rw [← hD]
    exact ns_empty s2.heap J2.big
  have h3 : s3.heap = s2.heap.push { cls := .type "dict", data := .dict #[] } := by rw [← hs3]
  have szs : ∀ b ∈ fp, b < s2.heap.objs.size := fun b hb => by
    obtain ⟨o, e, _⟩ := T.obj _ _ t2 b hb
    exact Heap.lt_size e
  have q3 : ∀ b ∈ fp, FpOk X pn (upd H2 D (NS X.prog X.w D [])) b ∧ b < s3.heap.objs.size := fun b hb => by
    have hlt := szs b hb
    refine ⟨⟨?_, (qf2 b hb).2⟩, by rw [h3, Heap.size_push]; exact Nat.lt_succ_of_lt hlt⟩
    rw [upd_ne (by rw [← hD]; exact Nat.ne_of_lt hlt)]
    exact (qf2 b hb).1
  have t3 : tn 0 s3.heap := T.keep _ _ _ t2 fun b _ o e => by rw [h3]; exact Heap.get?_push_of_some _ e
  have J4 := block_start J3 ok hN q3
  have pg := hg s3 (upd H2 D (NS X.prog X.w D [])) s3.heap.objs.size (cellsFrom (s3.heap.objs.size + 1) scp.names (cloFrom X.env.cells scp.names [])) fp
  have pt := ht s3 (upd H2 D (NS X.prog X.w D [])) s3.heap.objs.size (cellsFrom (s3.heap.objs.size + 1) scp.names (cloFrom X.env.cells scp.names [])) fp
  have pk := hk s3 (upd H2 D (NS X.prog X.w D [])) s3.heap.objs.size (cellsFrom (s3.heap.objs.size + 1) scp.names (cloFrom X.env.cells scp.names [])) fp
  have pe := he s3 (upd H2 D (NS X.prog X.w D [])) s3.heap.objs.size (cellsFrom (s3.heap.objs.size + 1) scp.names (cloFrom X.env.cells scp.names [])) fp
  show codeAny _ _ (.compStart (.DictComp kx vx [⟨tg, itr, cnd, 0⟩] scp ps0) 0 (.ref it) (.ref D) (compEnvC scp (cellsFrom (s3.heap.objs.size + 1) scp.names (cloFrom X.env.cells scp.names [])) s3.heap.objs.size X.env)) (compPost (model X.prog X.w) X.A X.xe use Qf (.ref D) s3.heap.objs.size) { s3 with heap := pushCells (s3.heap.push { cls := .type "dict", data := .dict #[] }) scp.names }
  have nfq : ∀ b ∈ fp, (upd H2 D (NS X.prog X.w D [])) b = none := fun b hb => (q3 b hb).1.1
  generalize hcE : compEnvC scp (cellsFrom (s3.heap.objs.size + 1) scp.names (cloFrom X.env.cells scp.names [])) s3.heap.objs.size X.env = ce at J4 pg pt pk pe ⊢
  have ecl : ce.locals = s3.heap.objs.size := by subst hcE; rfl
  generalize hH3 : upd H2 D (NS X.prog X.w D []) = H3 at J3 J4 pg pt pk pe wst nfq q3
  generalize hs4 : ({ s3 with heap := pushCells (s3.heap.push { cls := .type "dict", data := .dict #[] }) scp.names } : Shared) = s4 at J4 ⊢
  have t4 : tn 0 s4.heap := T.keep _ _ _ t3 fun b _ o e => by rw [← hs4]; exact pushCells_keeps _ _ _ _ (Heap.get?_push_of_some _ e)
  have fpS : ∀ {σ' : L2.St} {H' : Hp} {s' : Shared}, Inv (X.blk s3 H3 scp ce fp) [] σ' H' s' → (∀ b ∈ fp, H' b = none) → ∀ b ∈ fp, FpOk (X.blk s3 H3 scp ce fp) [] H' b := fun {σ' H' s'} I' hn b hb =>
    ⟨hn b hb, (I'.ok.exf b hb).1, I'.ok.exfs b hb, .inl hb, fun x c e => (I'.ok.exf b hb).2 x c e, fun p hp => absurd (show p ∈ ([] : List (Addr × Obj)) ++ [] from hp) (by simp)⟩
  have lp : codeAny (model X.prog X.w) X.A (.compLoop (.DictComp kx vx [⟨tg, itr, cnd, 0⟩] scp ps0) 0 (.ref it) (.ref D) ce) (compPost (model X.prog X.w) X.A X.xe use Qf (.ref D) s3.heap.objs.size) s4 := by
    refine compLoop_anyD (fun n s' => ∃ i H', Inv (X.blk s3 H3 scp ce fp) [] (wipe σ (ow.map (·.2))) H' s' ∧ tn i s'.heap ∧ (∀ b ∈ fp, H' b = none) ∧ W i n H') ?_ m0 ⟨0, H3, J4, t4, nfq, wst⟩
    rintro n s5 ⟨i, H5, J5, st5, n5, wn5⟩
    rcases tr i n H5 wn5 with ⟨stop, qq⟩ | ⟨go, Nx, hNx, step⟩
    · have td := T.done (X.blk s3 H3 scp ce fp) rfl rfl rfl hc i [] s5 _ H5 (fun _ _ => False) J5 (fpS J5 n5) st5 stop
      refine thnF td fun r s6 ⟨hr, J6⟩ => ?_
      subst hr
      -- back in the def's context
      have J7 : Inv X pn σ H5 s6 := J3.call' (ch := fp) J6.os J6.base J6.hok J6.bare fun b hb => ⟨(q3 b hb).1.2.2.2.1, (q3 b hb).1.2.1, (q3 b hb).1.2.2.2.2.1, (q3 b hb).1.2.2.2.2.2⟩
      have nC : H5 s3.heap.objs.size = none := by
        have z : H5 ce.locals = none := J6.free
        rw [ecl] at z
        exact z
      obtain ⟨m, hn, _⟩ := J6.loc
      have hn : s6.heap.Ns ce.locals m := hn
      rw [ecl] at hn
      exact hend D s3.heap.objs.size s6 m H5 J7 qq hn (J3.fpOk (Nat.le_refl _) nC)
    · have ti := T.item (X.blk s3 H3 scp ce fp) rfl rfl rfl hc i [] s5 _ H5 (fun _ _ => False) J5 (fpS J5 n5) st5 go
      refine thnF ti fun r s6 ⟨u, hr, h6⟩ => ?_
      subst hr
      refine thnF h6 fun _ s7 ⟨x, H7, J7, r7, y7, st7, n7⟩ => ?_
      have I7' := J7.pinned (fpS J7 n7) (T.obj _ _ st7)
      refine thnF (pg.run _ s7 _ H7 x u _ I7' r7 (step x H7 y7)) fun _ s8 ⟨σ8, H8, I8, hw8, q8⟩ => ?_
      refine thnF (pt.run _ s8 σ8 H8 _ I8 q8) fun b s9 ⟨H9, I9, q9⟩ => ?_
      -- the turn's end
      have tl : ∀ {s' : Shared} {H' : Hp}, Inv (X.blk s3 H3 scp ce fp) ([] ++ pinsAt fp s7.heap) σ8 H' s' → Nx H' → ∃ m, m < n ∧ ∃ i H', Inv (X.blk s3 H3 scp ce fp) [] (wipe σ (ow.map (·.2))) H' s' ∧ tn i s'.heap ∧ (∀ b ∈ fp, H' b = none) ∧ W i m H' := fun {s' H'} I' nx => by
        obtain ⟨m', hm, w'⟩ := hNx H' nx
        have pin' : ∀ b ∈ fp, ∀ o, s7.heap.get? b = some o → s'.heap.get? b = some o ∧ H' b = none := fun b hb o e =>
          let z := I'.pin (b, o) (List.mem_append_right _ (List.mem_append_right _ (mem_pinsAt hb e)))
          ⟨z.1, z.2.1⟩
        have hl : (wipe σ (ow.map (·.2))).length = σ8.length := by rw [← hw8, wipe_length]
        refine ⟨m', hm, i + 1, H', (I'.unpinned (pins := [])).weak hl (fun j v e => ?_), T.keep _ _ _ st7 fun b hb o e => (pin' b hb o e).1, fun b hb => ?_, w'⟩
        · rw [← hw8] at e
          exact (wipe_some e).1
        · obtain ⟨o, e, _⟩ := T.obj _ _ st7 b hb
          exact (pin' b hb o e).2
      cases b with
      | false =>
        simp only [Bool.false_eq_true, if_false] at q9 ⊢
        exact tl I9 q9
      | true =>
        simp only [if_true] at q9 ⊢
        refine thnF (pk.run _ s9 σ8 H9 _ I9 q9) fun z s10 ⟨yk, H10, I10, r10, q10⟩ => ?_
        refine thnF (pe.run _ s10 σ8 H10 _ I10 q10) fun z2 s11 ⟨yv, H11, I11, r11, ks, k, ek, hD11, hz11, nx⟩ => ?_
        subst ek
        exact ns_dictSet (X := X.blk s3 H3 scp ce fp) I11 hD11 hz11 r10 r11 fun s12 I12 => tl I12 nx
  exact codeAny_compStart_dict lp (T.self X.A 0 _ _ _ t4 lp)
/-- as a value -/
theorem pe_dcS {kx vx tg itr : Expr} {cnd : List Expr} {scp : Scope} {ow : List (Str × Nat)} {ps0 : Pos} {wI : TI} {g : TG} {tt : TT} {tk tv : TE} (hc : X.calm = true) (hN : X.N.Nodup) (hi : PI X tg itr wI) (ok : BlkOk X.N X.env.scope scp ow)
    (hg : ∀ (s : Shared) (H : Hp) (C : Addr) (cl : List (Str × Addr)) (fp : List Addr), PG (X.blk s H scp (compEnvC scp cl C X.env) fp) tg g) (ht : ∀ (s : Shared) (H : Hp) (C : Addr) (cl : List (Str × Addr)) (fp : List Addr), PTs (X.blk s H scp (compEnvC scp cl C X.env) fp) cnd tt)
    (hk : ∀ (s : Shared) (H : Hp) (C : Addr) (cl : List (Str × Addr)) (fp : List Addr), PE (X.blk s H scp (compEnvC scp cl C X.env) fp) kx tk)
    (he : ∀ (s : Shared) (H : Hp) (C : Addr) (cl : List (Str × Addr)) (fp : List Addr), PE (X.blk s H scp (compEnvC scp cl C X.env) fp) vx tv) (hs : ∀ x, foldedSetIterable itr X.env x = pure x := by intro _; rfl) :
    PE X (.DictComp kx vx [⟨tg, itr, cnd, 0⟩] scp ps0) (tDcS X.prog X.w wI g tt tk tv (ow.map (·.2))) := by
  refine ⟨fun pn s σ H Q I h => ?_⟩
  rw [arm_eval_DictComp]
  refine dcS_core hc hN I hi ok hg ht hk he hs h fun D C s' m H' I' q hn f => ⟨m, hn, fun h'' sb => ?_⟩
  obtain ⟨f0, f1, qf2, q3, f4, f5⟩ := f
  exact ⟨.ref D, H', I'.turned (t' := s'.toks) (fun b o hb e => (sb.2 b hb).trans e) f0 f1 q3 f4 f5, rfl, q⟩
/-- over anything that is walked -/
theorem dc_itS {P : Program} {w : World} {J : It} {n : Nat} {G : Hp → Prop} {Y : Nat → Hp → V → Hp → Prop} (wk : Walk J n G Y) {g : TG} {tt : TT} {tk tv : TE} {vs : List Nat} {σ : L2.St} {H1 : Hp} {D : Addr} {Qd : Hp → Prop} (Pv : Nat → Hp → Prop) (h0 : Pv 0 (upd H1 D (NS P w D []))) (hG : ∀ i H, i ≤ n → Pv i H → G H)
    (hs : ∀ i x H H', i < n → Pv i H → Y i H x H' → g x (wipe σ vs) H' fun σ2 H2 => wipe σ2 vs = wipe σ vs ∧ tt σ2 H2 fun b H3 =>
      if b = true then tk σ2 H3 fun y H4 => tv σ2 H4 fun z H5 => ∃ ks k, y = oV k ∧ H5 D = some (NS P w D ks) ∧ ks.length < sizeLine ∧ Pv (i + 1) (upd H5 D (NS P w D (putK ks k z))) else Pv (i + 1) H3) (hd : ∀ H, Pv n H → Qd H) :
    ∃ W : Nat → Nat → Hp → Prop, (∃ m, W 0 m (upd H1 D (NS P w D []))) ∧ ∀ i m H, W i m H →
      (J.stop i H ∧ Qd H) ∨ (J.go i H ∧ ∃ Nx : Hp → Prop, (∀ H', Nx H' → ∃ m', m' < m ∧ W (i + 1) m' H') ∧ ∀ x H', J.yld i H x H' → g x (wipe σ vs) H' fun σ2 H2 => wipe σ2 vs = wipe σ vs ∧ tt σ2 H2 fun b H3 =>
        if b = true then tk σ2 H3 fun y H4 => tv σ2 H4 fun z H5 => ∃ ks k, y = oV k ∧ H5 D = some (NS P w D ks) ∧ ks.length < sizeLine ∧ Nx (upd H5 D (NS P w D (putK ks k z))) else Nx H3) := by
  refine ⟨fun i m H => m = n - i ∧ i ≤ n ∧ Pv i H, ⟨n, by simp, Nat.zero_le _, h0⟩, ?_⟩
  rintro i m H ⟨rfl, hi, p⟩
  have q := hG i H hi p
  by_cases lt : i < n
  · exact .inr ⟨wk.goes i H lt q, Pv (i + 1), fun H' p' => ⟨n - (i + 1), by omega, rfl, lt, p'⟩, fun x H' y => hs i x H H' lt p (wk.yields i H x H' lt q y)⟩
  · obtain rfl : i = n := by omega
    exact .inl ⟨wk.stops H q, hd H p⟩
end
end Lm
/-! Dicts whose keys are pairs of None or texts. -/
namespace Lm
open PySem PySem.Spec PyProof.Rows L2
abbrev PK := Spot × Spot
/-- the entries: key, where its tuple stands, value -/
abbrev PX := List (PK × Addr × V)
def nkO : Spot → NestedKey
  | none => .none
  | some x => .text x
def nkP (k : PK) : NestedKey := .tup [nkO k.1, nkO k.2]
theorem nkO_inj {a b : Spot} (h : nkO a = nkO b) : a = b := by
  cases a <;> cases b <;> first | rfl | cases h
  rfl
theorem nkP_inj {a b : PK} (h : nkP a = nkP b) : a = b := by
  unfold nkP at h
  injection h with h
  injection h with h1 h2
  injection h2 with h2
  exact Prod.ext (nkO_inj h1) (nkO_inj h2)
theorem nkP_depth (k : PK) : (nkP k).depth ≤ 8 := by
  obtain ⟨a, b⟩ := k
  cases a <;> cases b <;> simp [nkP, nkO, NestedKey.depth, NestedKey.depthAll]
def PR (e : PK × Addr × V) (x : NestedKey × Addr × Value) : Prop := x.1 = nkP e.1 ∧ x.2.1 = e.2.1 ∧ RelV e.2.2 x.2.2
def DPX (P : Program) (w : World) (a : Addr) (kvs : PX) : HO := .ext fun h => kvs.length ≤ sizeLine ∧ (a == sysModules) = false ∧ ∃ xs : List (NestedKey × Addr × Value), Paired PR kvs xs ∧ ∃ o es ep, h.get? a = some o ∧ o.ExactDict ∧ o.data = .dict es ep ∧ es.toList = xs.map (entryOfKey (nestedKind P w))
def KA (H : Hp) (kvs : PX) : Prop := ∀ e ∈ kvs, H e.2.1 = some (.tup [oV e.1.1, oV e.1.2])
def plainX (kvs : PX) : List (PK × V) := kvs.map fun e => (e.1, e.2.2)
def putX (kvs : PX) (k : PK) (b : Addr) (v : V) : PX := if (kvs.any fun e => decide (e.1 = k)) then kvs.map fun e => if e.1 = k then (e.1, e.2.1, v) else e else kvs ++ [(k, b, v)]
theorem plain_put (kvs : PX) (k : PK) (b : Addr) (v : V) : plainX (putX kvs k b v) = putK (plainX kvs) k v := by
  unfold putX putK
  have e : ((plainX kvs).any fun kv => decide (kv.1 = k)) = kvs.any fun e => decide (e.1 = k) := by
    unfold plainX
    rw [List.any_map]
    rfl
  rw [e]
  cases kvs.any fun e => decide (e.1 = k) with
  | true =>
    show plainX (kvs.map _) = (plainX kvs).map _
    unfold plainX
    rw [List.map_map, List.map_map]
    refine List.map_congr_left fun p _ => ?_
    show ((if p.1 = k then (p.1, p.2.1, v) else p).1, (if p.1 = k then (p.1, p.2.1, v) else p).2.2) = if p.1 = k then (p.1, v) else (p.1, p.2.2)
    split <;> rfl
  | false =>
    show plainX (kvs ++ _) = plainX kvs ++ _
    unfold plainX
    rw [List.map_append]
    rfl
theorem putX_keys (kvs : PX) (k : PK) (b : Addr) (v : V) : ∀ e ∈ putX kvs k b v, (∃ e' ∈ kvs, e'.1 = e.1 ∧ e'.2.1 = e.2.1) ∨ (e.1 = k ∧ e.2.1 = b) := by
  intro e he
  unfold putX at he
  split at he
  · obtain ⟨e', h1, rfl⟩ := List.mem_map.mp he
    refine .inl ⟨e', h1, ?_⟩
    split <;> exact ⟨rfl, rfl⟩
  · rcases List.mem_append.mp he with h | h
    · exact .inl ⟨e, h, rfl, rfl⟩
    · rw [List.mem_singleton] at h
      subst h
      exact .inr ⟨rfl, rfl⟩
theorem putX_nodup {kvs : PX} (nd : (kvs.map (·.1)).Nodup) (k : PK) (b : Addr) (v : V) : ((putX kvs k b v).map (·.1)).Nodup := by
  unfold putX
  split
  · rw [List.map_map]
    have : ((fun e : PK × Addr × V => e.1) ∘ fun e => if e.1 = k then (e.1, e.2.1, v) else e) = fun e => e.1 := by
      funext e
      show (if e.1 = k then (e.1, e.2.1, v) else e).1 = e.1
      split <;> rfl
    rw [this]
    exact nd
  · rename_i h
    rw [List.map_append]
    refine List.nodup_append.mpr ⟨nd, by simp, fun a ha c hc e => h ?_⟩
    rw [List.map_singleton, List.mem_singleton] at hc
    obtain ⟨x, hx, rfl⟩ := List.mem_map.mp ha
    exact List.any_eq_true.mpr ⟨x, hx, decide_eq_true (e.trans hc)⟩
theorem putX_len (kvs : PX) (k : PK) (b : Addr) (v : V) : (putX kvs k b v).length ≤ kvs.length + 1 := by
  unfold putX
  split
  · rw [List.length_map]
    omega
  · rw [List.length_append]
    exact Nat.le_refl _
theorem pr_at {kvs : PX} {xs : List (NestedKey × Addr × Value)} (r : Paired PR kvs xs) (k : PK) : RelO (valV (plainX kvs) k) ((atKey xs (nkP k)).map (·.2)) := by
  induction r with
  | nil => exact True.intro
  | @cons e x es xs' h _ ih =>
    obtain ⟨h1, h2, h3⟩ := h
    by_cases q : e.1 = k
    · rw [show plainX (e :: es) = (e.1, e.2.2) :: plainX es from rfl, valV_pos (show (e.1, e.2.2).1 = k from q)]
      have : atKey (x :: xs') (nkP k) = some x.2 := by
        unfold atKey
        rw [List.find?_cons, decide_eq_true (show x.1 = nkP k by rw [h1, q])]
        rfl
      rw [this]
      exact h3
    · rw [show plainX (e :: es) = (e.1, e.2.2) :: plainX es from rfl, valV_neg (show ¬ (e.1, e.2.2).1 = k from q)]
      have : atKey (x :: xs') (nkP k) = atKey xs' (nkP k) := by
        unfold atKey
        rw [List.find?_cons, decide_eq_false (show ¬ x.1 = nkP k by rw [h1]; exact fun z => q (nkP_inj z))]
      rw [this]
      exact ih
theorem pr_any {kvs : PX} {xs : List (NestedKey × Addr × Value)} (r : Paired PR kvs xs) (k : PK) : (kvs.any fun e => decide (e.1 = k)) = (atKey xs (nkP k)).isSome := by
  have h := (pr_at r k).isSome_eq
  rw [Option.isSome_map] at h
  rw [← h, ← valV_any]
  unfold plainX
  rw [List.any_map]
  rfl
theorem pr_put {kvs : PX} {xs : List (NestedKey × Addr × Value)} (r : Paired PR kvs xs) (k : PK) (b : Addr) {v : V} {u : Value} (rv : RelV v u) : Paired PR (putX kvs k b v) (storedH xs (nkP k) b u) := by
  unfold putX storedH
  rw [pr_any r k]
  cases (atKey xs (nkP k)).isSome with
  | true =>
    show Paired PR (kvs.map _) (xs.map _)
    clear b
    induction r with
    | nil => exact .nil
    | @cons e x es xs' h _ ih =>
      refine .cons ?_ ih
      obtain ⟨h1, h2, h3⟩ := h
      unfold putAt
      show PR (if e.1 = k then (e.1, e.2.1, v) else e) _
      by_cases q : e.1 = k
      · rw [if_pos q, if_pos (show x.1 = nkP k by rw [h1, q])]
        exact ⟨h1, h2, rv⟩
      · rw [if_neg q, if_neg (show ¬ x.1 = nkP k by rw [h1]; exact fun z => q (nkP_inj z))]
        exact ⟨h1, h2, h3⟩
  | false =>
    show Paired PR (kvs ++ _) (xs ++ _)
    induction r with
    | nil => exact .cons ⟨rfl, rfl, rv⟩ .nil
    | cons h _ ih => exact .cons h ih
section
variable {X : Cx} {pins : List (Addr × Obj)} {σ : L2.St} {H : Hp} {s : Shared} {a : Addr}
theorem nk_val {o : Spot} {u : Value} (h : Heap) (r : RelV (oV o) u) : NestedIs h (nkO o) u := by
  cases o with
  | none => cases r; exact .none
  | some x =>
    obtain ⟨t, rfl⟩ := r
    exact .text _ _
theorem pk_is (I : Inv X pins σ H s) {b : Addr} {k : PK} (hb : H b = some (.tup [oV k.1, oV k.2])) : (nestedKind X.prog X.w).is s.heap (nkP k) b := by
  obtain ⟨its, rv, ⟨o, ho, hcl, n, hd⟩, _⟩ := I.tuple (SqT.of hb)
  refine ⟨.tup ho hcl hd ?_, nkP_depth k⟩
  cases rv with
  | cons e1 rv => cases rv with
    | cons e2 rv =>
      cases rv
      exact .cons (nk_val _ e1) (.cons (nk_val _ e2) .nil)
theorem dpx_of (I : Inv X pins σ H s) {kvs : PX} (h : H a = some (DPX X.prog X.w a kvs)) (k : KA H kvs) (nd : (kvs.map (·.1)).Nodup) :
    kvs.length ≤ sizeLine ∧ (a == sysModules) = false ∧ ∃ xs : List (NestedKey × Addr × Value), Paired PR kvs xs ∧ s.heap.DictOfH (nestedKind X.prog X.w) a xs := by
  obtain ⟨⟨l, ne, xs, pr, o, es, ep, ho, he, hd, hes⟩, _, _⟩ := I.hok a _ h
  have K1 : ∀ {kvs : PX} {xs : List (NestedKey × Addr × Value)}, Paired PR kvs xs → KA H kvs → ∀ x ∈ xs, (nestedKind X.prog X.w).is s.heap x.1 x.2.1 := by
    intro kvs xs pr
    induction pr with
    | nil => exact fun _ _ z => absurd z (by simp)
    | @cons e x es' xs' r _ ih =>
      intro k y hy
      rcases List.mem_cons.mp hy with rfl | hy
      · rw [r.1, r.2.1]
        exact pk_is I (k e (List.mem_cons_self ..))
      · exact ih (fun f hf => k f (List.mem_cons_of_mem _ hf)) y hy
  have K2 : ∀ {kvs : PX} {xs : List (NestedKey × Addr × Value)}, Paired PR kvs xs → xs.map (·.1) = (kvs.map (·.1)).map nkP := by
    intro kvs xs pr
    induction pr with
    | nil => rfl
    | cons r _ ih => rw [List.map_cons, List.map_cons, List.map_cons, ih, r.1]
  refine ⟨l, ne, xs, pr, o, es, ep, ho, he, hd, hes, K1 pr k, ?_⟩
  rw [K2 pr]
  exact List.Pairwise.map _ (fun _ _ hab e => hab (nkP_inj e)) nd
theorem dpx_ok {h : Heap} {kvs : PX} {xs : List (NestedKey × Addr × Value)} (l : kvs.length ≤ sizeLine) (ne : (a == sysModules) = false) (pr : Paired PR kvs xs) (dd : h.DictOfH (nestedKind X.prog X.w) a xs) : ObjOk X.prog X.w H h a (DPX X.prog X.w a kvs) := by
  obtain ⟨o, es, ep, ho, he, hd, hes, _⟩ := dd
  exact ⟨⟨l, ne, xs, pr, o, es, ep, ho, he, hd, hes⟩, ⟨o, ho⟩, fun _ _ ⟨l, ne, xs, pr, o, es, ep, ho, r⟩ k => ⟨l, ne, xs, pr, o, es, ep, k _ ho, r⟩⟩
end
/-- at a stands a dict of these pairs -/
def PDat (P : Program) (w : World) (H : Hp) (a : Addr) (ks : List (PK × V)) : Prop := ∃ kvs : PX, H a = some (DPX P w a kvs) ∧ KA H kvs ∧ (kvs.map (·.1)).Nodup ∧ ks = plainX kvs
theorem PDat.fr {P : Program} {w : World} {H H' : Hp} {a : Addr} {ks : List (PK × V)} (h : PDat P w H a ks) (ha : ∀ o, H a = some o → H' a = some o) (ht : ∀ b ys, H b = some (.tup ys) → H' b = some (.tup ys)) : PDat P w H' a ks := by
  obtain ⟨kvs, h1, h2, h3, h4⟩ := h
  exact ⟨kvs, ha _ h1, fun e he => ht _ _ (h2 e he), h3, h4⟩
theorem PDat.sm {P : Program} {w : World} {H H' : Hp} {a : Addr} {ks : List (PK × V)} (h : PDat P w H a ks) (s : Same H H') : PDat P w H' a ks := h.fr (fun o e => s _ _ e) fun b ys e => s _ _ e
theorem PDat.nodup {P : Program} {w : World} {H : Hp} {a : Addr} {ks : List (PK × V)} (h : PDat P w H a ks) : (ks.map (·.1)).Nodup := by
  obtain ⟨kvs, _, _, nd, rfl⟩ := h
  unfold plainX
  rw [List.map_map]
  exact nd
section
variable {X : Cx} {pins : List (Addr × Obj)} {σ : L2.St} {H : Hp} {s : Shared} {a : Addr} {ks : List (PK × V)}
theorem pd_rd (I : Inv X pins σ H s) (h : PDat X.prog X.w H a ks) : (a == sysModules) = false ∧ ∃ kvs xs, kvs.length ≤ sizeLine ∧ Paired PR kvs xs ∧ s.heap.DictOfH (nestedKind X.prog X.w) a xs ∧ ks = plainX kvs := by
  obtain ⟨kvs, h1, h2, h3, h4⟩ := h
  obtain ⟨l, ne, xs, pr, dd⟩ := dpx_of I h1 h2 h3
  exact ⟨ne, kvs, xs, l, pr, dd, h4⟩
theorem pd_at (I : Inv X pins σ H s) (h : PDat X.prog X.w H a ks) : s.TypeIs (.ref a) "dict" ∧ (∀ b, Value.ref a = .ref b → ∃ ob, s.heap.get? b = some ob ∧ ob.dict = none) := by
  obtain ⟨_, kvs, xs, _, _, dd, _⟩ := pd_rd I h
  refine ⟨dd.typeIs, fun b q => ?_⟩
  cases q
  obtain ⟨ob, _, _, h1, h2, _⟩ := dd
  exact ⟨ob, h1, h2.2.1⟩
end
/-! ### {} -/
def tDNewX (P : Program) (w : World) : TE := fun _ H Q => ∀ p o, H p = none → PDat P w (upd H p o) p [] → Mut (some o) → Q (.ref p) (upd H p o)
theorem pe_dnewX {X : Cx} {pos : Pos} : PE X (.Dict [] [] pos) (tDNewX X.prog X.w) := by
  constructor
  intro pins s σ H Q I h
  have np := I.hok.fresh (Nat.le_refl s.heap.objs.size)
  have dd := Heap.DictOfH.new (knd := nestedKind X.prog X.w) s.heap
  have ok : ObjOk X.prog X.w H (s.heap.push { cls := .type "dict", data := .dict #[] }) s.heap.objs.size (DPX X.prog X.w s.heap.objs.size []) :=
    dpx_ok (xs := []) (Nat.zero_le _) (beq_eq_false_iff_ne.mpr fun z => Nat.lt_irrefl _ (z ▸ I.big)) .nil dd
  refine wpAny_Dict_empty ⟨.ref s.heap.objs.size, _, ?_, rfl, h _ (DPX X.prog X.w s.heap.objs.size []) np ⟨[], upd_same, fun e he => absurd he (by simp), by simp, rfl⟩ True.intro⟩
  exact I.laid (t' := s.toks) (fun _ _ q => Heap.get?_push_of_some _ q) (Nat.le_refl _) ok
/-! ### d[k] = v, d[k], k in d, d.get -/
def sDPutX (P : Program) (w : World) (td ty tv : TE) : TS := fun D σ H => tv σ H fun v H1 => td σ H1 fun x H2 => ty σ H2 fun y H3 => ∃ a ks k b, x = .ref a ∧ PDat P w H3 a ks ∧ y = .ref b ∧ H3 b = some (.tup [oV k.1, oV k.2]) ∧ ks.length < sizeLine ∧
  ∀ o, PDat P w (upd H3 a o) a (putK ks k v) → Mut (some o) → D.nx σ (upd H3 a o)
section
variable {X : Cx} {o i value : Expr} {td ty tv : TE} {pos pos' : Pos}
theorem room8 {A : Around} (hu : A.units + 64 < cLine) {P : Program} {w : World} : (nestedKind P w).room A.in1 := by
  show A.in1.units + 8 < cLine
  rw [Around.in1_units]
  omega
theorem ps_dputX (hu : X.A.units + 64 < cLine) (ho : PE X o td) (hi : PE X i ty) (hv : PE X value tv) (hs : swapsWith value (some (.Subscript o i pos')) pos.line X.env = pure false) :
    PS X (.Assign [.Subscript o i pos'] value pos) (sDPutX X.prog X.w td ty tv) := by
  refine ⟨fun pins s σ H D I h => ?_⟩
  refine wpAny_Assign_Subscript (thn (hv.run pins s σ H _ I h) fun r s1 ⟨v, H1, I1, rv, q1⟩ => thn (ho.run pins s1 σ H1 _ I1 q1) fun u s2 ⟨x, H2, I2, rx, q2⟩ => thn (hi.run pins s2 σ H2 _ I2 q2) fun iv s3 ⟨y, H3, I3, ry, a, ks, k, b, ex, g, ey, hb, hl, q3⟩ => ?_) hs
  subst ex ey
  obtain rfl : u = Value.ref a := rx
  obtain rfl : iv = Value.ref b := ry
  obtain ⟨kvs, g1, g2, g3, rfl⟩ := g
  obtain ⟨l, ne, xs, pr, dd⟩ := dpx_of I3 g1 g2 g3
  have hz : xs.length ≤ sizeLine := by rw [← pr.length]; exact l
  have ltk : kvs.length < sizeLine := by
    unfold plainX at hl
    rw [List.length_map] at hl
    exact hl
  refine wpAny_setItem_heap (knd := nestedKind X.prog X.w) (hsz := hz) (room8 hu) (pk_is I3 hb) dd fun h' dd' hs' => ?_
  have he : ∃ q, h'.get? a = some q := let ⟨q, _, _, hq, _⟩ := dd'; ⟨q, hq⟩
  have mu : Mut (H3 a) := by rw [g1]; exact True.intro
  have len := putX_len kvs k b v
  refine ⟨σ, _, d_write (ob := DPX X.prog X.w a (putX kvs k b v)) I3 mu hs' he (dpx_ok (by omega) ne (pr_put pr k b rv) dd'), q3 _ ⟨_, upd_same, fun e hm => ?_, putX_nodup g3 k b v, (plain_put kvs k b v).symm⟩ True.intro⟩
  have nt : ∀ c ys, H3 c = some (.tup ys) → c ≠ a := fun c ys hc z => by rw [z, g1] at hc; cases hc
  rcases putX_keys kvs k b v e hm with ⟨e', h1, h2, h3⟩ | ⟨h1, h2⟩
  · have := g2 e' h1
    rw [h2, h3] at this
    rw [upd_ne (nt _ _ this)]
    exact this
  · rw [h1, h2, upd_ne (nt _ _ hb)]
    exact hb
def tDGetX (P : Program) (w : World) (td ty : TE) : TE := fun σ H Q => td σ H fun x H1 => ty σ H1 fun y H2 => ∃ a ks k b v, x = .ref a ∧ PDat P w H2 a ks ∧ y = .ref b ∧ H2 b = some (.tup [oV k.1, oV k.2]) ∧ valV ks k = some v ∧ Q v H2
theorem pe_dgetX (hu : X.A.units + 64 < cLine) (ho : PE X o td) (hi : PE X i ty) (hs : NoSl i) : PE X (.Subscript o i pos) (tDGetX X.prog X.w td ty) := by
  refine ⟨fun pins s σ H Q I h => ?_⟩
  refine subD_of PySem.F.slot_dict_getitem.lookup hs (thn (ho.run pins s σ H _ I h) fun u s1 ⟨x, H1, I1, rx, q1⟩ => thn (hi.run pins s1 σ H1 _ I1 q1) fun iv s2 ⟨y, H2, I2, ry, a, ks, k, b, v, ex, g, ey, hb, l, q2⟩ => ?_)
  subst ex ey
  obtain rfl : u = Value.ref a := rx
  obtain rfl : iv = Value.ref b := ry
  obtain ⟨ne, kvs, xs, _, pr, dd, rfl⟩ := pd_rd I2 g
  have r := pr_at pr k
  rw [l] at r
  cases e : atKey xs (nkP k) with
  | none => rw [e] at r; exact (show False from r).elim
  | some p =>
    rw [e] at r
    exact ⟨dd.typeIs, wpAny_getItem_heap (room8 hu) (pk_is I2 hb) dd e ⟨v, H2, I2.tok _, r, q2⟩⟩
def tDInX (P : Program) (w : World) (ty td : TE) : TE := fun σ H Q => ty σ H fun y H1 => td σ H1 fun x H2 => ∃ a ks k b, x = .ref a ∧ PDat P w H2 a ks ∧ y = .ref b ∧ H2 b = some (.tup [oV k.1, oV k.2]) ∧ Q (.bl (valV ks k).isSome) H2
def tDNotInX (P : Program) (w : World) (ty td : TE) : TE := fun σ H Q => ty σ H fun y H1 => td σ H1 fun x H2 => ∃ a ks k b, x = .ref a ∧ PDat P w H2 a ks ∧ y = .ref b ∧ H2 b = some (.tup [oV k.1, oV k.2]) ∧ Q (.bl (!(valV ks k).isSome)) H2
theorem pc_dinX (hu : X.A.units + 64 < cLine) (hi : PE X i ty) (ho : PE X o td) : PC X .In i o (tDInX X.prog X.w ty td) := by
  refine ⟨fun pins s σ H Q I h => ?_⟩
  refine thn (hi.run pins s σ H _ I h) fun iv s1 ⟨y, H1, I1, ry, q1⟩ => thn (ho.run pins s1 σ H1 _ I1 q1) fun u s2 ⟨x, H2, I2, rx, a, ks, k, b, ex, g, ey, hb, q2⟩ => ?_
  subst ex ey
  obtain rfl : u = Value.ref a := rx
  obtain rfl : iv = Value.ref b := ry
  obtain ⟨ne, kvs, xs, _, pr, dd, rfl⟩ := pd_rd I2 g
  have r := (pr_at pr k).isSome_eq
  rw [Option.isSome_map] at r
  exact wpAny_in_heap (room8 hu) (pk_is I2 hb) ne dd ⟨.bl (valV (plainX kvs) k).isSome, H2, I2.tok _, (congrArg Value.bool r.symm : _ = Value.bool _), q2⟩
theorem pc_dnotinX (hu : X.A.units + 64 < cLine) (hi : PE X i ty) (ho : PE X o td) : PC X .NotIn i o (tDNotInX X.prog X.w ty td) := by
  refine ⟨fun pins s σ H Q I h => ?_⟩
  refine thn (hi.run pins s σ H _ I h) fun iv s1 ⟨y, H1, I1, ry, q1⟩ => thn (ho.run pins s1 σ H1 _ I1 q1) fun u s2 ⟨x, H2, I2, rx, a, ks, k, b, ex, g, ey, hb, q2⟩ => ?_
  subst ex ey
  obtain rfl : u = Value.ref a := rx
  obtain rfl : iv = Value.ref b := ry
  obtain ⟨ne, kvs, xs, _, pr, dd, rfl⟩ := pd_rd I2 g
  have r := (pr_at pr k).isSome_eq
  rw [Option.isSome_map] at r
  refine notIn_keyed (knd := nestedKind X.prog X.w) (room8 hu) (pk_is I2 hb) ne ⟨xs, dd, rfl⟩ ?_
  rw [valueAt_pairsH, Option.isSome_map]
  exact ⟨.bl (!(valV (plainX kvs) k).isSome), H2, I2.tok _, (congrArg (fun b => Value.bool (!b)) r.symm : _ = Value.bool _), q2⟩
end
def tDGet2X (P : Program) (w : World) (td ty tx : TE) : TE := fun σ H Q => td σ H fun x H1 => ∃ a, x = .ref a ∧ (∃ ks, PDat P w H1 a ks) ∧ ty σ H1 fun y H2 => tx σ H2 fun z H3 => ∃ ks k b, PDat P w H3 a ks ∧ y = .ref b ∧ H3 b = some (.tup [oV k.1, oV k.2]) ∧ Q ((valV ks k).getD z) H3
section
variable {X : Cx} {o e f : Expr} {apos cpos : Pos} {td ty tx : TE}
theorem pe_dget2X (hu : X.A.units + 64 < cLine) (ho : PE X o td) (he : PE X e ty) (hf : PE X f tx) (m : M2 X o "get" apos e f cpos) : PE X (.Call (.Attribute o "get" apos) [e, f] [] cpos) (tDGet2X X.prog X.w td ty tx) := by
  refine ⟨fun pins s σ H Q I h => ?_⟩
  refine wpAny_Call_method m.base m.few m.line PySem.F.plainAttrs_dict PySem.F.slot_dict_get PySem.F.type_dict_get (thn (ho.run pins s σ H _ I h) fun u s1 ⟨x, H1, I1, rx, a, ex, ⟨ks0, d⟩, q1⟩ => ?_)
  subst ex
  obtain rfl : u = Value.ref a := rx
  obtain ⟨t1, t2⟩ := pd_at I1 d
  refine ⟨t1, t2, ?_⟩
  rw [m.trees]
  refine Calls.callWith_builtin rfl (Calls.evalArgs_plain (Calls.spliced_cons (thn (he.run pins s1 σ H1 _ I1 q1) fun iv s2 ⟨y, H2, I2, ry, q2⟩ =>
    Calls.spliced_cons (thn (hf.run pins s2 σ H2 _ I2 q2) fun fv s3 ⟨z, H3, I3, rz, ks, k, b, g, ey, hb, q3⟩ => Calls.spliced_nil ?_))))
  subst ey
  obtain rfl : iv = Value.ref b := ry
  obtain ⟨ne, kvs, xs, _, pr, dd, rfl⟩ := pd_rd I3 g
  refine getOr_keyed (knd := nestedKind X.prog X.w) (room8 hu) (pk_is I3 hb) ne ⟨xs, dd, rfl⟩ ?_
  rw [valueAt_pairsH]
  exact ⟨_, H3, I3.tok _, (pr_at pr k).getD rz, q3⟩
end
/-! ### d.clear() -/
def rClearX (P : Program) (w : World) (K : PySem.W.Frag) : V → List V → Hp → VK → Prop := fun x xs H Q => ∃ a ks, x = .ref a ∧ xs = [] ∧ PDat P w H a ks ∧ ∀ o, PDat P w (upd H a o) a [] → Mut (some o) → Q .non (upd H a o)
/-! ### dict(l) of a list of pairs -/
/-- the pairs one behind the other -/
def mergeP (ks more : List (PK × V)) : List (PK × V) := more.foldl (fun acc kv => putK acc kv.1 kv.2) ks
def mergeX (kvs more : PX) : PX := more.foldl (fun acc e => putX acc e.1 e.2.1 e.2.2) kvs
theorem plain_merge : ∀ (more kvs : PX), plainX (mergeX kvs more) = mergeP (plainX kvs) (plainX more)
  | [], _ => rfl
  | e :: more, kvs => by
    show plainX (mergeX (putX kvs e.1 e.2.1 e.2.2) more) = mergeP (putK (plainX kvs) e.1 e.2.2) (plainX more)
    rw [plain_merge more, plain_put]
theorem mergeX_nodup : ∀ (more : PX) {kvs : PX}, (kvs.map (·.1)).Nodup → ((mergeX kvs more).map (·.1)).Nodup
  | [], _, h => h
  | e :: more, kvs, h => mergeX_nodup more (putX_nodup h e.1 e.2.1 e.2.2)
theorem mergeX_len : ∀ (more kvs : PX), (mergeX kvs more).length ≤ kvs.length + more.length
  | [], _ => Nat.le_refl _
  | e :: more, kvs => by
    have h1 := mergeX_len more (putX kvs e.1 e.2.1 e.2.2)
    have h2 := putX_len kvs e.1 e.2.1 e.2.2
    show (mergeX (putX kvs e.1 e.2.1 e.2.2) more).length ≤ kvs.length + (more.length + 1)
    omega
theorem mergeX_ka {H : Hp} : ∀ {more kvs : PX}, KA H kvs → KA H more → KA H (mergeX kvs more)
  | [], _, h, _ => h
  | e :: more, kvs, h, k => by
    refine mergeX_ka (more := more) (fun f hf => ?_) fun f hf => k f (List.mem_cons_of_mem _ hf)
    rcases putX_keys kvs e.1 e.2.1 e.2.2 f hf with ⟨e', h1, h2, h3⟩ | ⟨h1, h2⟩
    · have := h e' h1
      rw [h2, h3] at this
      exact this
    · have := k e (List.mem_cons_self ..)
      rw [← h1, ← h2] at this
      exact this
theorem pr_merge {more : PX} {ps : List (NestedKey × Addr × Value)} (r : Paired PR more ps) : ∀ {kvs : PX} {xs : List (NestedKey × Addr × Value)}, Paired PR kvs xs → Paired PR (mergeX kvs more) (storedAllH xs ps) := by
  induction r with
  | nil => exact fun h => h
  | @cons e p more ps r _ ih =>
    intro kvs xs h
    obtain ⟨r1, r2, r3⟩ := r
    have h2 := pr_put h e.1 e.2.1 r3
    rw [← r1] at h2
    refine ih ?_
    show Paired PR (putX kvs e.1 e.2.1 e.2.2) (storedH xs p.1 p.2.1 p.2.2)
    rw [r2]
    exact h2
theorem call_dictX {X : Cx} (P : Program) (w : World) (K : PySem.W.Frag) (hc : X.calm = true) (hu : X.A.units + 64 < cLine) (hP : X.prog = P := by rfl) (hw : X.w = w := by rfl) (hK : X.K = K := by rfl) : CallR X (.type "dict") (fun xs H Q => ∃ (l : Addr) (ts : List Addr) (es : PX), xs = [.ref l] ∧ SqL K H l (ts.map V.ref) ∧ H l ≠ none ∧
    Paired (fun t e => H t = some (.tup [.ref e.2.1, e.2.2])) ts es ∧ KA H es ∧ ∀ p o, H p = none → PDat P w (upd H p o) p (mergeP [] (plainX es)) → Mut (some o) → Q (.ref p) (upd H p o)) := by
  subst hP hw hK
  intro pins s σ H xs us Q I r q
  obtain ⟨l, ts, es, rfl, hq, hl0, hp, ka, q⟩ := q
  obtain rfl := Vals.ref1 r
  obtain ⟨its, rv, pl, hz⟩ := I.list hq
  have ei := refs_at rv
  subst ei
  rw [List.length_map] at hz
  obtain ⟨o, n, ho, hcl, hd, hdat⟩ := pl
  have lts : ts.length = es.length := Paired.length hp
  -- the values of the pairs
  have val : ∀ {ts : List Addr} {es : PX}, Paired (fun t e => H t = some (.tup [.ref e.2.1, e.2.2])) ts es → KA H es → ∃ ps : List (NestedKey × Addr × Value), Paired PR es ps ∧ ∀ (j : Nat) (k : Value) (v : Value), (ps.map fun p => (Value.ref p.2.1, p.2.2))[j]? = some (k, v) → ∃ t : Addr, ts[j]? = some t ∧ PairAt s.heap t k v := by
    intro ts es hp
    induction hp with
    | nil => exact fun _ => ⟨[], .nil, fun j k v e => by simp at e⟩
    | @cons t e ts es h _ ih =>
      intro ka
      obtain ⟨ps, h1, h2⟩ := ih fun f hf => ka f (List.mem_cons_of_mem _ hf)
      obtain ⟨its, rv, ht, _⟩ := I.tuple (SqT.of h)
      obtain ⟨u, y, rfl, ru, ry⟩ := vals2 rv
      obtain rfl : u = Value.ref e.2.1 := ru
      refine ⟨(nkP e.1, e.2.1, y) :: ps, .cons ⟨rfl, rfl, ry⟩ h1, fun j k v e' => ?_⟩
      cases j with
      | zero =>
        have e' : (Value.ref e.2.1, y) = (k, v) := Option.some.inj e'
        cases e'
        exact ⟨t, rfl, .inl ht⟩
      | succ j =>
        obtain ⟨t', g1, g2⟩ := h2 j k v (by simpa using e')
        exact ⟨t', by simpa using g1, g2⟩
  obtain ⟨ps, pr, hps⟩ := val hp ka
  have lps : ps.length = ts.length := by rw [← Paired.length pr, lts]
  have arg := PairArg.list (prog := X.prog) (w := X.w) l (ts.map Value.ref).toArray (fun j => ts.getD j 0) (ps.map fun p => (Value.ref p.2.1, p.2.2))
  have ok : PlainSeq "list" s.heap l (ts.map Value.ref).toArray ∧ PairItems s.heap (ts.map Value.ref).toArray (fun j => ts.getD j 0) (ps.map fun p => (Value.ref p.2.1, p.2.2)) := by
    refine ⟨⟨o, n, ho, hcl, hd, hdat⟩, by simp [lps], fun j k v e => ?_⟩
    obtain ⟨t, g1, g2⟩ := hps j k v e
    have : ts.getD j 0 = t := by rw [List.getD_eq_getElem?_getD, g1]; rfl
    refine ⟨?_, by show PairAt s.heap (ts.getD j 0) k v; rw [this]; exact g2⟩
    show (ts.map Value.ref).toArray[j]? = some (Value.ref (ts.getD j 0))
    rw [this]
    simp [g1]
  refine call_dict_pairsH (knd := nestedKind X.prog X.w) (ps := ps) arg (I.ok.hd hc) ?_ ok ⟨by simp, fun i key v hrel => ?_⟩ (fun h' hk x hx => ?_) (by simp [lps]; exact hz) fun h' tk dd' hk => ?_
  · show X.A.in1.in1.units + 8 < cLine
    rw [Around.in1_units, Around.in1_units]
    omega
  · have hrel : (ps.map fun p => (Value.ref p.2.1, p.2.2))[i]? = some (key, v) := hrel
    rw [List.getElem?_map] at hrel
    cases e : ps[i]? with
    | none => rw [e] at hrel; cases hrel
    | some p =>
      rw [e] at hrel
      cases hrel
      exact ⟨p.1, p.2.1, rfl, rfl⟩
  · have all : ∀ {es : PX} {ps : List (NestedKey × Addr × Value)}, Paired PR es ps → KA H es → ∀ x ∈ ps, (nestedKind X.prog X.w).is h' x.1 x.2.1 := by
      intro es ps pr
      induction pr with
      | nil => exact fun _ _ z => absurd z (by simp)
      | @cons e x es' xs' r _ ih =>
        intro k y hy
        rcases List.mem_cons.mp hy with rfl | hy
        · rw [r.1, r.2.1]
          have is0 := pk_is I (k e (List.mem_cons_self ..))
          refine ⟨NestedIs.at (fun b ob vs n hb _ => hk b ob (fun z => ?_) (by simp) hb) _ _ is0.1, is0.2⟩
          rw [z] at hb
          exact Nat.lt_irrefl _ (Heap.lt_size hb)
        · exact ih (fun f hf => k f (List.mem_cons_of_mem _ hf)) y hy
    exact all pr ka x hx
  · have hm : (s.heap.objs.size == sysModules) = false := beq_eq_false_iff_ne.mpr (Nat.ne_of_gt I.big)
    have np := I.hok.fresh (Nat.le_refl s.heap.objs.size)
    have len : (mergeX [] es).length ≤ sizeLine := by
      have := mergeX_len es []
      rw [List.length_nil, Nat.zero_add] at this
      omega
    have kk : ∀ b ob, s.heap.get? b = some ob → h'.get? b = some ob := fun b ob e => hk b ob (by simp) e
    refine ⟨.ref s.heap.objs.size, upd H s.heap.objs.size (DPX X.prog X.w s.heap.objs.size (mergeX [] es)), I.laid (t' := tk) kk (Nat.le_refl _) (dpx_ok len hm (pr_merge pr .nil) dd'), rfl, q _ _ np ⟨mergeX [] es, upd_same, fun e he => ?_, mergeX_nodup es (by simp), (plain_merge es []).symm⟩ True.intro⟩
    have := mergeX_ka (H := H) (more := es) (kvs := []) (fun _ z => absurd z (by simp)) ka e he
    rw [upd_ne (ne_of_none this np)]
    exact this
end Lm
/-! for i, x in enumerate(t), t a tuple. -/
namespace Lm
open PySem PySem.Spec PyProof.Rows L2
theorem enum_one {v : Value} {o : Obj} {G : Heap → Prop} (bg : Begins v o G) :
    Meets (Builtin.«enumerate.__new__» ⟨[.type "enumerate", v], []⟩) (fun _ R s => G s.heap ∧
      R (.ok (.ret (.ref (s.heap.push o).objs.size))) { s with heap := (s.heap.push o).push { cls := .type "enumerate", data := .fields #[.none, .bool false, .ref s.heap.objs.size, rawInt 0, .none, .none] } }) :=
  .of_wp fun prog w A R s hh => by
    obtain ⟨hp, g, d, tk, os⟩ := s
    obtain ⟨h1, hq⟩ := hh
    have hsub := sub_enumerate
    have go : ∀ {A' : Around} {E : Value → Shared → Prop} {Q : Value → Shared → Prop}, Q (.ref hp.objs.size) ⟨hp.push o, g, d, tk, os⟩ → wpAny (model prog w) A' (pyIter v) Q E ⟨hp, g, d, tk, os⟩ :=
      fun z => bg.iter prog w _ _ ⟨hp, g, d, tk, os⟩ _ h1 z
    wp_walk
    refine wpAny_stack_any fun st => wpAny_pure ?_
    split
    · rename_i c _ _ _ _ _
      cases (c == Value.type "enumerate")
      · wp_walk using go
        exact ⟨_, rfl, hq⟩
      · wp_walk using go
        exact ⟨_, rfl, hq⟩
    · wp_walk using go
      exact ⟨_, rfl, hq⟩
theorem call_enum_one {prog : Program} {w : World} {A : Around} {E : Value → Shared → Prop} {s : Shared} {v : Value} {o : Obj} {G : Heap → Prop} {Q : Value → Shared → Prop} (bg : Begins v o G) (h1 : G s.heap)
    (hq : ∀ h', IsEnum h' (s.heap.objs.size + 1) s.heap.objs.size 0 .none → h'.get? s.heap.objs.size = some o → (∀ b x, s.heap.get? b = some x → h'.get? b = some x) → Q (.ref (s.heap.objs.size + 1)) { s with heap := h' }) :
    wpAny (model prog w) A (call (.type "enumerate") [v]) Q E s := by
  refine callType_new F.called_enumerate (by decide) (F.typeCall_enumerate_1 _) (F.newCall_enumerate_1 _) (fun obj => F.args_object_init_2 obj _) F.entry_enumerate_new (enum_one bg) ⟨h1, ?_⟩
  have hz : (s.heap.push o).objs.size = s.heap.objs.size + 1 := Heap.size_push ..
  have at0 := Heap.get?_push_size (s.heap.push o) (o := { cls := .type "enumerate", data := .fields #[.none, .bool false, .ref s.heap.objs.size, rawInt 0, .none, .none] }) rfl
  show _ ∧ _
  rw [hz] at at0 ⊢
  exact ⟨⟨_, at0, rfl⟩, hq _ at0 (Heap.get?_push_of_some _ (Heap.get?_push_size _ bg.free)) fun b x e => Heap.get?_push_of_some _ (Heap.get?_push_of_some _ e)⟩
/-- the tuple at a as it stands at each turn, each item in a new pair -/
def ItT (K : PySem.W.Frag) (a : Addr) : It :=
  ⟨fun i H => ∃ (xs : List V) (x : V), SqT K H a xs ∧ xs[i]? = some x, fun i H v H' => ∃ T x, v = .ref T ∧ H T = none ∧ H' = upd H T (.tup [.int (i : Nat), x]) ∧ ∀ xs, SqT K H a xs → xs[i]? = some x, fun i H => ∃ xs : List V, SqT K H a xs ∧ xs.length = i⟩
theorem turn_enumT {P : Program} {w : World} {K : PySem.W.Frag} {elts : List Expr} {kk : Nat} {tpos : Pos} (a e it : Addr) :
    Turn P w K (.Tuple elts kk tpos) (ItT K a) [e, it] e (fun i h => (∃ old, IsEnum h e it ((i : Nat) : Int) old) ∧ h.IsTupleIter it a i ∧ e ≠ it) where
  mem := List.mem_cons_self ..
  obj := fun i h st b hb => by
    obtain ⟨⟨old, he⟩, ⟨o, ho, hc, hd⟩, _⟩ := st
    rcases List.mem_cons.mp hb with z | z
    · rw [z]
      exact ⟨_, he, fun v q => nomatch q⟩
    · rw [List.mem_singleton.mp z]
      exact ⟨o, ho, fun v q => by rw [hd] at q; cases q⟩
  keep := fun i h h' st k => by
    obtain ⟨⟨old, he⟩, hi, hne⟩ := st
    exact ⟨⟨old, k e (List.mem_cons_self ..) _ he⟩, hi.at fun o q => k it (List.mem_cons_of_mem _ (List.mem_cons_self ..)) o q, hne⟩
  item := by
    intro X hP hw hK hc i pins s σ H E I hf st hg
    subst hP hw hK
    obtain ⟨⟨old, he⟩, hit, hne⟩ := st
    obtain ⟨xs, x, hq, hx⟩ := hg
    obtain ⟨its, rv, p, _⟩ := I.tuple hq
    obtain ⟨u, hu, ru⟩ := rv.get hx
    have hel : e < s.heap.objs.size := Heap.lt_size he
    have hil : it < s.heap.objs.size := by
      obtain ⟨_, q, _⟩ := hit
      exact Heap.lt_size q
    have hT : s.heap.IsTuple a its.toArray := p
    obtain ⟨f0, f1, f2, f3, f4, f5⟩ := hf it (List.mem_cons_of_mem _ (List.mem_cons_self ..))
    have ait : a ≠ it := fun z => by
      obtain ⟨o1, e1, c1, _⟩ := hT
      obtain ⟨o2, e2, c2, _⟩ := hit
      rw [z, e2] at e1
      cases e1
      rw [c2] at c1
      exact absurd c1 (by decide)
    have hil2 : i < its.toArray.size := by
      have := (List.getElem?_eq_some_iff.mp hu).1
      simpa using this
    by_cases ea : e = a
    · exfalso
      obtain ⟨o1, e1, c1, _⟩ := hT
      rw [← ea, he] at e1
      cases e1
      have c1 : Value.type "enumerate" = Value.type "tuple" := c1
      exact absurd c1 (by decide)
    refine wpAny_pyNext_enum_itemC (Draws.tuple (A := X.A.in1) (I.ok.hd hc) it a ait its.toArray) he ⟨hit, hT⟩ hil2 hne (by simp [hne, ea]) fun v h' tk hP ho hst hT2 hsz hk => ?_
    have ev : v = u := by
      have hP : its.toArray[i]? = some v := hP
      rw [List.getElem?_toArray, hu] at hP
      exact (Option.some.inj hP).symm
    subst ev
    refine ⟨_, rfl, wpAny_letOwnedTupleGo_enum (s := { s with heap := h', toks := tk + 1 }) ho fun h'' he' sb => ?_⟩
    have hT3 : h''.get? s.heap.objs.size = some { cls := .type "tuple", data := .seq #[.int i tk, v] } := (sb.2 _ (Nat.ne_of_gt hel)).trans hT2
    have new : ObjOk X.prog X.w (upd H s.heap.objs.size (.tup [.int (i : Nat), x])) h'' s.heap.objs.size (.tup [.int (i : Nat), x]) :=
      ⟨by show 2 ≤ sizeLine; decide, [.int i tk, v], .cons ⟨_, rfl⟩ (.cons ru .nil), ⟨_, hT3, rfl, _, rfl⟩⟩
    have I1 : Inv X pins σ (upd H s.heap.objs.size (.tup [.int (i : Nat), x])) { s with heap := h'', toks := tk + 1 } :=
      I.turnedNew (ch := [e, it]) (fun b ob hb q => (sb.2 b (fun z => hb (by simp [z]))).trans (hk b ob (fun z => hb (by simp [z])) (fun z => hb (by simp [z])) q)) hf (Nat.le_refl _) new
    refine ⟨.ref s.heap.objs.size, _, I1, rfl, ⟨_, x, rfl, I.hok.fresh (Nat.le_refl _), rfl, fun ys hy => by rw [I.tuple_inj hy hq]; exact hx⟩, ⟨⟨v, ?_⟩, hst.1.at fun o q => (sb.2 it (Ne.symm hne)).trans q, hne⟩, fun b hb => ?_⟩
    · have e1 : ((i + 1 : Nat) : Int) = (i : Int) + 1 := by omega
      rw [e1]
      exact he'
    · have hb' : b < s.heap.objs.size := by
        rcases List.mem_cons.mp hb with z | z
        · rw [z]
          exact hel
        · rw [List.mem_singleton.mp z]
          exact hil
      rw [upd_ne (Nat.ne_of_lt hb')]
      exact (hf b hb).1
  done := by
    intro X hP hw hK hc i pins s σ H E I hf st hg
    subst hP hw hK
    obtain ⟨⟨old, he⟩, hit, hne⟩ := st
    obtain ⟨xs, hq, hx⟩ := hg
    obtain ⟨its, rv, p, _⟩ := I.tuple hq
    obtain ⟨f0, f1, f2, f3, f4, f5⟩ := hf it (List.mem_cons_of_mem _ (List.mem_cons_self ..))
    have hT : s.heap.IsTuple a its.toArray := p
    have hl := rv.length
    have ait : a ≠ it := fun z => by
      obtain ⟨o1, e1, c1, _⟩ := hT
      obtain ⟨o2, e2, c2, _⟩ := hit
      rw [z, e2] at e1
      cases e1
      rw [c2] at c1
      exact absurd c1 (by decide)
    have hn : its.toArray.size = i := by
      rw [List.size_toArray]
      omega
    subst hn
    exact wpAny_pyNext_enum_endD (Draws.tuple (A := X.A.in1) (I.ok.hd hc) it a ait its.toArray) he ⟨hit, hT⟩ fun h' eb => ⟨rfl, I.turned (t' := s.toks) (fun b o hb q => eb b o hb q) f0 f1 f3 f4 f5⟩
  self := fun A i s Q E st h => by
    obtain ⟨⟨_, he⟩, _⟩ := st
    exact wpAny_pyIter_enum he h
def iEnumT (K : PySem.W.Frag) (ta : TA) : TI := fun σ H R => ta σ H fun vs H1 => ∃ a xs, vs = [.ref a] ∧ SqT K H1 a xs ∧ R (ItT K a) H1
theorem pi_enumT {X : Cx} {e : Expr} {ta : TA} {p pos tpos : Pos} {elts : List Expr} {kk : Nat} (hg : Gl X "enumerate") (hm : X.mg "enumerate" = none) (ha : PA X [e] ta) (hs : starEach [e] X.env = [(false, eval e X.env)] := by rfl) :
    PI X (.Tuple elts kk tpos) (.Call (.Name "enumerate" p) [e] [] pos) (iEnumT X.K ta) := by
  refine ⟨fun pins s σ H R I h => ?_⟩
  have iter : ∀ (us : List Value) (s1 : Shared) (vs : List V) (H1 : Hp), Inv X pins σ H1 s1 → Vals vs us → (∃ a xs, vs = [V.ref a] ∧ SqT X.K H1 a xs ∧ R (ItT X.K a) H1) →
      wpAny (model X.prog X.w) X.A (call (.type "enumerate") us) (fun v s1 => wpAny (model X.prog X.w) X.A (pyIter v) (PIE X pins σ (.Tuple elts kk tpos) R) X.xe s1) X.xe s1 := by
    rintro us s1 vs H1 I1 r1 ⟨a, xs, rfl, hq, q⟩
    obtain ⟨u, rfl, r⟩ := vals1 r1
    obtain rfl : u = Value.ref a := r
    obtain ⟨its, rv, p', hz⟩ := I1.tuple hq
    refine call_enum_one (begins_tuple a its.toArray) p' fun h' he hit hk => wpAny_pyIter_enum he ?_
    have I2 : Inv X pins σ H1 { s1 with heap := h' } := I1.kept (t' := s1.toks) hk
    have hit0 : h'.IsTupleIter s1.heap.objs.size a 0 := ⟨_, hit, rfl, rfl⟩
    refine ⟨s1.heap.objs.size + 1, [s1.heap.objs.size + 1, s1.heap.objs.size], _, _, H1, rfl, I2, turn_enumT a (s1.heap.objs.size + 1) s1.heap.objs.size, ⟨⟨.none, he⟩, hit0, Nat.succ_ne_self _⟩, fun b hb => ?_, q⟩
    have hle : s1.heap.objs.size ≤ b := by
      rcases List.mem_cons.mp hb with z | z
      · rw [z]
        exact Nat.le_add_right _ _
      · rw [List.mem_singleton.mp z]
        exact Nat.le_refl _
    exact I1.fpOk hle (I1.hok.fresh hle)
  refine Call_ (ld_blt I hg hm boot_enumerate ?_)
  refine PyProof.Rows.callWith_type1 ?_ hs rfl
  refine thn (ha.run pos pins s σ H (fun vs H1 => ∃ a xs, vs = [V.ref a] ∧ SqT X.K H1 a xs ∧ R (ItT X.K a) H1) I h) fun us s1 hh => ?_
  obtain ⟨vs, H1, I1, r1, q1⟩ := hh
  exact iter us s1 vs H1 I1 r1 q1
theorem walk_enumT {K : PySem.W.Frag} {a : Addr} {xs : List V} : Walk (ItT K a) xs.length (fun H => SqT K H a xs) (fun i H v H' => ∃ T x, v = .ref T ∧ H T = none ∧ H' = upd H T (.tup [.int (i : Nat), x]) ∧ xs[i]? = some x) :=
  ⟨fun i H hi g => ⟨xs, xs[i], g, List.getElem?_eq_getElem hi⟩, fun H g => ⟨xs, g, rfl⟩, fun i H v H' hi g y => by
    obtain ⟨T, x, e1, e2, e3, e4⟩ := y
    exact ⟨T, x, e1, e2, e3, e4 xs g⟩⟩
theorem walk_enumL {K : PySem.W.Frag} {a : Addr} {xs : List V} : Walk (Ite K a) xs.length (fun H => SqL K H a xs) (fun i H v H' => ∃ T x, v = .ref T ∧ H T = none ∧ H' = upd H T (.tup [.int (i : Nat), x]) ∧ xs[i]? = some x) :=
  ⟨fun i H hi g => ⟨xs, xs[i], g, List.getElem?_eq_getElem hi⟩, fun H g => ⟨xs, g, Nat.le_refl _⟩, fun i H v H' hi g y => by
    obtain ⟨T, x, e1, e2, e3, e4⟩ := y
    exact ⟨T, x, e1, e2, e3, e4 xs g⟩⟩
end Lm
/-! A tuple turned about. -/
namespace Lm
open PySem PySem.Spec PyProof.Rows L2
theorem turned_places (n : Nat) : Builtin.Slice.slicePlaces ((n : Int) - 1) (-1) (-1) = n := by
  unfold Builtin.Slice.slicePlaces
  rw [if_neg (by decide)]
  by_cases c : (n : Int) - 1 > -1
  · rw [if_pos c, show -(-1 : Int) = 1 from rfl, Int.ediv_one]
    omega
  · rw [if_neg c]
    omega
theorem turned_items (l : List Value) : (List.range l.length).filterMap (fun (k : Nat) => l.toArray[(((l.length : Nat) : Int) - 1 + (k : Int) * (-1)).toNat]?) = l.reverse := by
  have key : ∀ m, m ≤ l.length → (List.range m).filterMap (fun (k : Nat) => l.toArray[(((l.length : Nat) : Int) - 1 + (k : Int) * (-1)).toNat]?) = l.reverse.take m := by
    intro m
    induction m with
    | zero => intro _; rfl
    | succ m ih =>
      intro hm
      rw [List.range_succ, List.filterMap_append, ih (by omega), List.take_add_one]
      congr 1
      have e : (((l.length : Nat) : Int) - 1 + (m : Int) * (-1)).toNat = l.length - 1 - m := by omega
      rw [List.getElem?_reverse (by omega)]
      simp only [List.filterMap_cons, List.filterMap_nil, List.getElem?_toArray]
      rw [e]
      cases l[l.length - 1 - m]? <;> rfl
  have := key l.length (Nat.le_refl _)
  rw [this, List.take_of_length_le (by rw [List.length_reverse]; exact Nat.le_refl _)]
section
variable {prog : Program} {w : World} {A : Around} {E : Value → Shared → Prop} {s : Shared}
theorem turned_parts {b : Addr} {x y z : Value} {n : Nat} {Q : Int × Int × Nat → Shared → Prop} (hs : s.heap.IsSliceOf b x y z) (px : IsPart x none) (py : IsPart y none) (pz : IsPart z (some (-1))) (h : Q ((n : Int) - 1, -1, n) s) :
    wpAny (model prog w) A (Builtin.Slice.sliceApplied (.ref b) (pure (n : Int))) Q E s := by
  obtain ⟨o, ho, ho1, hf⟩ := id hs
  unfold Builtin.Slice.sliceApplied Builtin.Slice.sliceFields
  refine wpAny_bind (wpAny_bind (wpAny_field ho hf (x := x) rfl (wpAny_bind (wpAny_field ho hf (x := y) rfl (wpAny_bind (wpAny_field ho hf (x := z) rfl (wpAny_pure ?_)))))))
  refine wpAny_bind (HT.slicePart_ pz ?_)
  show wpAny _ _ (if ((-1 : Int) == 0) = true then _ else _) _ _ s
  rw [if_neg (show ¬ ((-1 : Int) == 0) = true by decide)]
  refine wpAny_bind (HT.slicePart_ px (wpAny_bind (HT.slicePart_ py (wpAny_bind (wpAny_pure ?_)))))
  show wpAny _ _ (pure (((n : Int) - 1), (-1 : Int), Builtin.Slice.slicePlaces ((n : Int) - 1) (-1) (-1))) _ _ s
  rw [turned_places]
  exact wpAny_pure h
theorem turned_get {t b : Addr} {l : List Value} {x y z : Value} {Q : Value → Shared → Prop} (ht : IsTup s.heap t l.toArray) (hs : s.heap.IsSliceOf b x y z) (px : IsPart x none) (py : IsPart y none) (pz : IsPart z (some (-1))) (hz : l.length ≤ sizeLine)
    (h : Q (.ref s.heap.objs.size) { s with heap := s.heap.push { cls := .type "tuple", data := .seq l.reverse.toArray } }) : wpAny (model prog w) A (getItem (.ref t) (.ref b)) Q E s := by
  have fits : sizeOk (.seq l.reverse.toArray) := by
    show l.reverse.toArray.size ≤ sizeLine
    rw [List.size_toArray, List.length_reverse]
    exact hz
  obtain ⟨o, ho, ho1, hf⟩ := id hs
  have kind : s.TypeIs (.ref b) "slice" := ⟨o, ho, ho1⟩
  unfold getItem
  try with_reducible refine wpAny_holding ?_
  first | refine wpAny_bind (wpAny_pure ?_) | skip
  refine wpAny_bind (wpAny_sequenceKey ht.typeIs (by decide) (wpAny_bind (wpAny_callSpecial?_slot (name := Str.ofString "__getitem__") ht.typeIs slot_tuple_getitem (wpAny_call_entry slot_tuple_getitem ht.typeIs entry_tuple_getitem ?_ (args_tuple_getitem _ _)))))
  show wpAny _ _ (Builtin.Tuple.tupleItemsOf (.ref t) >>= _) _ _ s
  refine wpAny_bind (tupleItemsOf_ ht (wpAny_bind (wpAny_typeOf kind ?_)))
  rw [if_pos (by decide)]
  refine wpAny_bind (turned_parts (n := l.toArray.size) hs px py pz ?_)
  have other : ¬ ((((l.toArray.size : Int) - 1) == 0 && (-1 : Int) == 1 && l.toArray.size == l.toArray.size) = true) := by
    rw [show ((-1 : Int) == 1) = false from rfl, Bool.and_false, Bool.false_and]
    exact Bool.false_ne_true
  show wpAny _ _ (if (((l.toArray.size : Int) - 1) == 0 && (-1 : Int) == 1 && l.toArray.size == l.toArray.size) = true then _ else _) _ _ s
  rw [if_neg other, List.size_toArray, turned_items]
  first
    | exact wpAny_bind (m := Builtin.Tuple.tupleExact _) (wpAny_newObj_type (wpAny_pure ⟨_, rfl, wpAny_pure h⟩) fits)
    | exact wpAny_bind (wpAny_bind (m := Builtin.Tuple.tupleExact _) (wpAny_newObj_type (wpAny_pure (wpAny_pure ⟨_, rfl, wpAny_pure h⟩)) fits))
    | exact wpAny_bind (m := Builtin.Tuple.tupleExact _) (wpAny_newObj_type (wpAny_bind (wpAny_pure (wpAny_pure ⟨_, rfl, wpAny_pure h⟩))) fits)
end
def tRevT (K : PySem.W.Frag) (te : TE) : TE := fun σ H Q => te σ H fun x H1 => ∃ a xs, x = .ref a ∧ SqT K H1 a xs ∧ ∀ p, H1 p = none → Q (.ref p) (upd H1 p (.tup xs.reverse))
section
variable {X : Cx}
/-- t[::-1] of a tuple -/
theorem pe_revT {e : Expr} {te : TE} {j : Nat} {q1 q2 q3 pos : Pos} (he : PE X e te) : PE X (.Subscript e (.Slice none none (some (.UnaryOp .USub (.Constant (.int 1) j q1) q2)) q3) pos) (tRevT X.K te) := by
  constructor
  intro pins s σ H Q I h
  refine Subscript_ (thn (he.run pins s σ H _ I h) ?_)
  rintro v s1 ⟨_, H1, I1, r1, a, xs, rfl, hx, q⟩
  cases r1
  have minus : PO X (some (.UnaryOp .USub (.Constant (.int 1) j q1) q2)) (tPart (tUn (rU fun i => .int (-i)) (tC (.int 1)))) := po_some (pe_un un_neg pe_int)
  have left : ∀ {t : Shared}, Inv X pins σ H1 t → wpAny (model X.prog X.w) X.A (evalPart none X.env) (fun u s' => ∃ o H', Inv X pins σ H' s' ∧ IsPart u o ∧ o = none ∧ H' = H1) X.xe t :=
    fun J => po_none.run pins _ σ H1 (fun o H' => o = none ∧ H' = H1) J ⟨rfl, rfl⟩
  refine wpAny_Slice (thn (left I1) ?_)
  rintro ux s2 ⟨_, K2, I2, px, rfl, k2⟩
  rw [k2] at I2
  refine thn (left I2) ?_
  rintro uy s3 ⟨_, K3, I3, py, rfl, k3⟩
  rw [k3] at I3
  refine thn (minus.run pins s3 σ H1 (fun o H' => o = some (-1) ∧ H' = H1) I3 ⟨1, rfl, -1, rfl, rfl, rfl⟩) ?_
  rintro uz s4 ⟨_, K4, I4, pz, rfl, k4⟩
  rw [k4] at I4
  obtain ⟨s5, e5⟩ : ∃ s5 : Shared, s5 = { s4 with heap := s4.heap.push { cls := .type "slice", data := .fields #[ux, uy, uz] } } := ⟨_, rfl⟩
  have I5 : Inv X pins σ H1 s5 := e5 ▸ I4.kept (t' := s4.toks) fun _ _ k => Heap.get?_push_of_some _ k
  have sl5 : s5.heap.IsSliceOf s4.heap.objs.size ux uy uz := e5 ▸ Heap.IsSliceOf.new _ ux uy uz
  obtain ⟨its, rv, ht, hz⟩ := I5.tuple hx
  have hl := rv.length
  have fin : wpAny (model X.prog X.w) X.A (getItem (.ref a) (.ref s4.heap.objs.size)) (EP X pins σ Q) X.xe s5 := by
    refine turned_get ht sl5 px py pz (by omega) ⟨.ref _, _, I5.laid (t' := s5.toks) (o := .tup xs.reverse) (fun _ _ k => Heap.get?_push_of_some _ k) (Nat.le_refl _) ?_, rfl, q _ (I5.hok.fresh (Nat.le_refl _))⟩
    exact ⟨by rw [List.length_reverse]; exact hz, _, rv.reverse, _, Heap.get?_push_size _ rfl, rfl, _, rfl⟩
  rw [← e5]
  exact tail_any (ops := [.ref a, .ref s4.heap.objs.size]) ht.typeIs slot_tuple_getitem.lookup fin (by with_unfolding_all rfl)
end
end Lm
/-! Ways along rows: the mathematics of k00 to k03, part 1. -/
namespace Wy
/-- of lists of one length: which lies ahead -/
def lx : List Nat → List Nat → Prop
  | a :: as, b :: bs => a < b ∨ (a = b ∧ lx as bs)
  | _, _ => False
theorem lx_irr : ∀ w : List Nat, ¬ lx w w
  | [] => id
  | a :: as => fun h => by
    rcases h with h | h
    · exact Nat.lt_irrefl _ h
    · exact lx_irr as h.2
theorem lx_tri : ∀ {w v : List Nat}, w.length = v.length → lx w v ∨ w = v ∨ lx v w
  | [], [], _ => .inr (.inl rfl)
  | [], _ :: _, h => by simp at h
  | _ :: _, [], h => by simp at h
  | a :: as, b :: bs, h => by
    rcases Nat.lt_trichotomy a b with k | k | k
    · exact .inl (.inl k)
    · subst k
      rcases lx_tri (w := as) (v := bs) (by simpa using h) with k | k | k
      · exact .inl (.inr ⟨rfl, k⟩)
      · exact .inr (.inl (by rw [k]))
      · exact .inr (.inr (.inr ⟨rfl, k⟩))
    · exact .inr (.inr (.inl k))
theorem lx_trans : ∀ {u v w : List Nat}, lx u v → lx v w → lx u w
  | [], _, _, h, _ => h.elim
  | _ :: _, [], _, h, _ => h.elim
  | _ :: _, _ :: _, [], _, h => h.elim
  | a :: as, b :: bs, c :: cs, h, k => by
    rcases h with h | ⟨e, h⟩
    · rcases k with k | ⟨e, _⟩
      · exact .inl (Nat.lt_trans h k)
      · exact .inl (e ▸ h)
    · subst e
      rcases k with k | ⟨e, k⟩
      · exact .inl k
      · exact .inr ⟨e, lx_trans h k⟩
theorem lx_len : ∀ {u v : List Nat}, u.length = v.length → ∀ {x y : List Nat}, lx u v → lx (u ++ x) (v ++ y)
  | [], _, _, _, _, h => h.elim
  | _ :: _, [], _, _, _, h => h.elim
  | a :: as, b :: bs, l, x, y, h => by
    rcases h with h | ⟨e, h⟩
    · exact .inl h
    · exact .inr ⟨e, lx_len (by simpa using l) h⟩
theorem lx_pre : ∀ (u : List Nat) {x y : List Nat}, lx x y → lx (u ++ x) (u ++ y)
  | [], _, _, h => h
  | _ :: u, _, _, h => .inr ⟨rfl, lx_pre u h⟩
theorem lx_one {i j : Nat} (h : i < j) : lx [i] [j] := .inl h
/-- what comes ahead: the shorter one, of one length the lesser one -/
def ahead (w v : List Nat) : Prop := w.length < v.length ∨ (w.length = v.length ∧ lx w v)
theorem ahead_irr (w : List Nat) : ¬ ahead w w := fun h => by
  rcases h with h | h
  · omega
  · exact lx_irr _ h.2
theorem ahead_tri (w v : List Nat) : ahead w v ∨ w = v ∨ ahead v w := by
  rcases Nat.lt_trichotomy w.length v.length with h | h | h
  · exact .inl (.inl h)
  · rcases lx_tri h with k | k | k
    · exact .inl (.inr ⟨h, k⟩)
    · exact .inr (.inl k)
    · exact .inr (.inr (.inr ⟨h.symm, k⟩))
  · exact .inr (.inr (.inl h))
theorem ahead_trans {u v w : List Nat} (h : ahead u v) (k : ahead v w) : ahead u w := by
  rcases h with h | ⟨e, h⟩
  · rcases k with k | ⟨e, _⟩
    · exact .inl (Nat.lt_trans h k)
    · exact .inl (by omega)
  · rcases k with k | ⟨e', k⟩
    · exact .inl (by omega)
    · exact .inr ⟨e.trans e', lx_trans h k⟩
abbrev Rw (α : Type) := α × α × Int
section
variable {α : Type} [DecidableEq α]
/-- w leads from a to b, at the sum z -/
inductive Way (R : List (Rw α)) : α → List Nat → α → Int → Prop
  | nil (a : α) : Way R a [] a 0
  | cons {a m b : α} {i : Nat} {c z : Int} {w : List Nat} : R[i]? = some (a, m, c) → Way R m w b z → Way R a (i :: w) b (c + z)
theorem Way.one {R : List (Rw α)} {a b : α} {i : Nat} {c : Int} (h : R[i]? = some (a, b, c)) : Way R a [i] b c := by
  have := Way.cons h (Way.nil (R := R) b)
  rwa [Int.add_zero] at this
theorem Way.app {R : List (Rw α)} {a b : α} {w : List Nat} {z : Int} (h : Way R a w b z) : ∀ {e : α} {v : List Nat} {y : Int}, Way R b v e y → Way R a (w ++ v) e (z + y) := by
  induction h with
  | nil a => intro e v y k; rw [Int.zero_add]; exact k
  | cons r _ ih =>
    intro e v y k
    rw [Int.add_assoc]
    exact .cons r (ih k)
theorem Way.snoc {R : List (Rw α)} {a b e : α} {w : List Nat} {i : Nat} {z c : Int} (h : Way R a w b z) (r : R[i]? = some (b, e, c)) : Way R a (w ++ [i]) e (z + c) := h.app (.one r)
theorem Way.nil_inv {R : List (Rw α)} {a b : α} {z : Int} (h : Way R a [] b z) : a = b ∧ z = 0 := by cases h; exact ⟨rfl, rfl⟩
theorem Way.cons_inv {R : List (Rw α)} {a b : α} {i : Nat} {w : List Nat} {z : Int} (h : Way R a (i :: w) b z) : ∃ m c y, R[i]? = some (a, m, c) ∧ Way R m w b y ∧ z = c + y := by
  cases h with
  | cons r k => exact ⟨_, _, _, r, k, rfl⟩
/-- the first row, the last row -/
theorem Way.app_inv {R : List (Rw α)} : ∀ {w : List Nat} {a b : α} {v : List Nat} {z : Int}, Way R a (w ++ v) b z → ∃ m x y, Way R a w m x ∧ Way R m v b y ∧ z = x + y
  | [], a, b, v, z, h => ⟨a, 0, z, .nil a, h, by rw [Int.zero_add]⟩
  | i :: w, a, b, v, z, h => by
    obtain ⟨m, c, y, r, k, rfl⟩ := Way.cons_inv (w := w ++ v) h
    obtain ⟨m', x', y', k1, k2, rfl⟩ := Way.app_inv k
    exact ⟨m', _, _, .cons r k1, k2, by rw [Int.add_assoc]⟩
theorem Way.snoc_inv {R : List (Rw α)} {w : List Nat} {a b : α} {i : Nat} {z : Int} (h : Way R a (w ++ [i]) b z) : ∃ m x c, Way R a w m x ∧ R[i]? = some (m, b, c) ∧ z = x + c := by
  obtain ⟨m, x, y, h1, h2, rfl⟩ := h.app_inv
  obtain ⟨m', c, y', r, k, rfl⟩ := h2.cons_inv
  obtain ⟨rfl, rfl⟩ := k.nil_inv
  exact ⟨m, x, c, h1, r, by rw [Int.add_zero]⟩
theorem Way.uniq {R : List (Rw α)} {a b : α} {w : List Nat} {z : Int} (h : Way R a w b z) : ∀ {e : α} {y : Int}, Way R a w e y → b = e ∧ z = y := by
  induction h with
  | nil a => intro e y k; obtain ⟨h1, h2⟩ := k.nil_inv; exact ⟨h1, h2.symm⟩
  | cons r _ ih =>
    intro e y k
    obtain ⟨m, c, y', r', k', rfl⟩ := k.cons_inv
    rw [r] at r'
    cases r'
    obtain ⟨h1, h2⟩ := ih k'
    exact ⟨h1, by rw [h2]⟩
theorem Way.start {R : List (Rw α)} {a a' b b' : α} {i : Nat} {w : List Nat} {z z' : Int} (h : Way R a (i :: w) b z) (h' : Way R a' (i :: w) b' z') : a = a' := by
  obtain ⟨m, c, y, r, _⟩ := h.cons_inv
  obtain ⟨m', c', y', r', _⟩ := h'.cons_inv
  rw [r] at r'
  cases r'
  rfl
/-- more rows behind change nothing -/
theorem Way.more {R S : List (Rw α)} {a b : α} {w : List Nat} {z : Int} (h : Way R a w b z) : Way (R ++ S) a w b z := by
  induction h with
  | nil a => exact .nil a
  | cons r _ ih =>
    refine .cons ?_ ih
    rw [List.getElem?_append_left]
    · exact r
    · exact (List.getElem?_eq_some_iff.mp r).1
/-- numbers that keep all rows -/
def Pot (R : List (Rw α)) (p : α → Int) : Prop := ∀ r ∈ R, p r.1 - p r.2.1 ≤ r.2.2
theorem Pot.le {R : List (Rw α)} {p : α → Int} (h : Pot R p) {a b : α} {w : List Nat} {z : Int} (k : Way R a w b z) : p a - p b ≤ z := by
  induction k with
  | nil a => omega
  | cons r _ ih =>
    have := h _ (List.mem_of_getElem? r)
    have : p _ - p _ ≤ _ := this
    simp only at this
    omega
/-- a ring -/
def Ring (R : List (Rw α)) (w : List Nat) : Prop := ∃ a z, Way R a w a z ∧ z < 0
theorem Ring.ne {R : List (Rw α)} {w : List Nat} (h : Ring R w) : w ≠ [] := by
  rintro rfl
  obtain ⟨a, z, h, hz⟩ := h
  have := h.nil_inv.2
  omega
theorem Pot.noRing {R : List (Rw α)} {p : α → Int} (h : Pot R p) (w : List Nat) : ¬ Ring R w := fun ⟨a, z, k, hz⟩ => by
  have := h.le k
  omega
/-! ### all ways, as the law lists them -/
def ext1 (R : List (Rw α)) (x : List Nat × α) : List (List Nat × α) := (R.zipIdx.filter fun r => decide (r.1.1 = x.2)).map fun r => (x.1 ++ [r.2], r.1.2.1)
def line (R : List (Rw α)) (b : α) : Nat → List (List Nat × α)
  | 0 => [([], b)]
  | k + 1 => (line R b k).flatMap (ext1 R)
theorem mem_line {R : List (Rw α)} {b : α} : ∀ {k : Nat} {w : List Nat} {h : α}, (w, h) ∈ line R b k ↔ w.length = k ∧ ∃ z, Way R b w h z
  | 0, w, h => by
    simp only [line, List.mem_singleton, Prod.mk.injEq]
    refine ⟨?_, ?_⟩
    · rintro ⟨rfl, rfl⟩
      exact ⟨rfl, 0, .nil _⟩
    · rintro ⟨h1, z, h2⟩
      have := List.length_eq_zero_iff.mp h1
      subst this
      exact ⟨rfl, h2.nil_inv.1.symm⟩
  | k + 1, w, h => by
    simp only [line, List.mem_flatMap, ext1, List.mem_map, List.mem_filter, decide_eq_true_eq]
    refine ⟨?_, ?_⟩
    · rintro ⟨⟨v, m⟩, hv, ⟨⟨a, e, c⟩, i⟩, ⟨hr, ha⟩, hw⟩
      have ha : a = m := ha
      subst ha
      have hw : (v ++ [i], e) = (w, h) := hw
      cases hw
      obtain ⟨l, z, q⟩ := mem_line.mp hv
      have := List.mem_zipIdx_iff_getElem?.mp hr
      exact ⟨by rw [List.length_append, l]; rfl, _, q.snoc this⟩
    · rintro ⟨l, z, q⟩
      have hne : w ≠ [] := by rintro rfl; cases l
      obtain ⟨v, i, rfl⟩ : ∃ v i, w = v ++ [i] := ⟨w.dropLast, w.getLast hne, (List.dropLast_concat_getLast hne).symm⟩
      obtain ⟨m, x, c, h1, r, rfl⟩ := q.snoc_inv
      refine ⟨(v, m), mem_line.mpr ⟨by simpa using l, _, h1⟩, ((m, h, c), i), ⟨List.mem_zipIdx_iff_getElem?.mpr r, rfl⟩, rfl⟩
theorem ext1_asc (R : List (Rw α)) (x : List Nat × α) : (ext1 R x).Pairwise fun p q => lx p.1 q.1 := by
  unfold ext1
  refine List.pairwise_map.mpr (List.Pairwise.filter _ ?_)
  refine List.pairwise_iff_getElem.mpr fun i j hi hj h => ?_
  rw [List.getElem_zipIdx, List.getElem_zipIdx]
  refine lx_pre _ (lx_one ?_)
  show 0 + i < 0 + j
  omega
theorem line_asc (R : List (Rw α)) (b : α) : ∀ k, (line R b k).Pairwise fun p q => lx p.1 q.1
  | 0 => by simp [line]
  | k + 1 => by
    unfold line
    rw [List.pairwise_flatMap]
    refine ⟨fun x _ => ext1_asc R x, ?_⟩
    refine (List.Pairwise.and_mem.mp (line_asc R b k)).imp ?_
    rintro x y ⟨hx, hy, h⟩ p hp q hq
    have lx1 : x.1.length = y.1.length := by
      obtain ⟨x1, x2⟩ := x
      obtain ⟨y1, y2⟩ := y
      exact (mem_line.mp hx).1.trans (mem_line.mp hy).1.symm
    unfold ext1 at hp hq
    obtain ⟨r, _, rfl⟩ := List.mem_map.mp hp
    obtain ⟨r', _, rfl⟩ := List.mem_map.mp hq
    exact lx_len lx1 h
def waysTo (R : List (Rw α)) (b e : α) : Nat → List (List Nat)
  | 0 => ((line R b 0).filter fun x => decide (x.2 = e)).map (·.1)
  | k + 1 => waysTo R b e k ++ ((line R b (k + 1)).filter fun x => decide (x.2 = e)).map (·.1)
theorem mem_at {R : List (Rw α)} {b e : α} {k : Nat} {w : List Nat} : w ∈ ((line R b k).filter fun x => decide (x.2 = e)).map (·.1) ↔ w.length = k ∧ ∃ z, Way R b w e z := by
  rw [List.mem_map]
  refine ⟨?_, ?_⟩
  · rintro ⟨⟨v, h⟩, hm, rfl⟩
    obtain ⟨h1, h2⟩ := List.mem_filter.mp hm
    have h2 : h = e := of_decide_eq_true h2
    subst h2
    exact mem_line.mp h1
  · intro h
    exact ⟨(w, e), List.mem_filter.mpr ⟨mem_line.mpr h, decide_eq_true rfl⟩, rfl⟩
theorem mem_ways {R : List (Rw α)} {b e : α} : ∀ {n : Nat} {w : List Nat}, w ∈ waysTo R b e n ↔ w.length ≤ n ∧ ∃ z, Way R b w e z
  | 0, w => by
    show w ∈ ((line R b 0).filter fun x => decide (x.2 = e)).map (·.1) ↔ _
    rw [mem_at]
    have : w.length = 0 ↔ w.length ≤ 0 := by omega
    rw [this]
  | n + 1, w => by
    show w ∈ waysTo R b e n ++ _ ↔ _
    rw [List.mem_append, mem_ways, mem_at]
    refine ⟨?_, ?_⟩
    · rintro (⟨h, q⟩ | ⟨h, q⟩)
      · exact ⟨by omega, q⟩
      · exact ⟨by omega, q⟩
    · rintro ⟨h, q⟩
      rcases Nat.lt_or_ge n w.length with k | k
      · exact .inr ⟨by omega, q⟩
      · exact .inl ⟨k, q⟩
theorem ways_asc (R : List (Rw α)) (b e : α) (n : Nat) : (waysTo R b e n).Pairwise ahead := by
  have at_ : ∀ k, (((line R b k).filter fun x => decide (x.2 = e)).map (·.1)).Pairwise ahead := fun k => by
    refine (List.Pairwise.and_mem.mp (List.pairwise_map.mpr (List.Pairwise.filter _ (line_asc R b k)))).imp ?_
    rintro x y ⟨hx, hy, h⟩
    exact .inr ⟨(mem_at.mp hx).1.trans (mem_at.mp hy).1.symm, h⟩
  induction n with
  | zero => exact at_ 0
  | succ n ih =>
    show (waysTo R b e n ++ _).Pairwise ahead
    rw [List.pairwise_append]
    refine ⟨ih, at_ (n + 1), fun x hx y hy => .inl ?_⟩
    have := (mem_ways.mp hx).1
    have := (mem_at.mp hy).1
    omega
/-- of the ways from b to e with a sum of at most m the first one -/
def IsFirst (R : List (Rw α)) (b e : α) (m : Int) (w : List Nat) : Prop := (∃ z, Way R b w e z ∧ z ≤ m) ∧ ∀ v z, Way R b v e z → z ≤ m → ¬ ahead v w
theorem IsFirst.uniq {R : List (Rw α)} {b e : α} {m : Int} {w v : List Nat} (h : IsFirst R b e m w) (k : IsFirst R b e m v) : w = v := by
  obtain ⟨⟨z, h1, h2⟩, h3⟩ := h
  obtain ⟨⟨y, k1, k2⟩, k3⟩ := k
  rcases ahead_tri w v with q | q | q
  · exact absurd q (k3 _ _ h1 h2)
  · exact q
  · exact absurd q (h3 _ _ k1 k2)
theorem head_first {β : Type} {r : β → β → Prop} : ∀ {l : List β} {x : β}, l.Pairwise r → l.head? = some x → ∀ y ∈ l, y = x ∨ r x y
  | [], _, _, h, _, _ => by cases h
  | a :: l, x, p, h, y, hy => by
    cases h
    rcases List.mem_cons.mp hy with rfl | hy
    · exact .inl rfl
    · exact .inr ((List.pairwise_cons.mp p).1 y hy)
/-- what the law picks -/
theorem first_of {R : List (Rw α)} {b e : α} {m : Int} {n : Nat} {w : List Nat} {f : List Nat → Bool} (hf : ∀ v z, Way R b v e z → (f v = true ↔ z ≤ m)) (h : IsFirst R b e m w) (hn : w.length ≤ n) : ((waysTo R b e n).filter f).head? = some w := by
  obtain ⟨⟨z, h1, h2⟩, h3⟩ := h
  have hw : w ∈ (waysTo R b e n).filter f := List.mem_filter.mpr ⟨mem_ways.mpr ⟨hn, z, h1⟩, (hf _ _ h1).mpr h2⟩
  cases hh : ((waysTo R b e n).filter f).head? with
  | none =>
    rw [List.head?_eq_none_iff] at hh
    rw [hh] at hw
    cases hw
  | some x =>
    have hx : x ∈ (waysTo R b e n).filter f := List.mem_of_mem_head? hh
    obtain ⟨q1, q2⟩ := List.mem_filter.mp hx
    obtain ⟨_, y, q3⟩ := mem_ways.mp q1
    rcases head_first ((ways_asc R b e n).filter f) hh w hw with k | k
    · rw [k]
    · exact absurd k (h3 _ _ q3 ((hf _ _ q3).mp q2))
end
end Wy
/-! Ways, part 2: numbers raised row by row (weighed), and where one comes going back. -/
namespace Wy
section
variable {α : Type} [DecidableEq α]
theorem pig : ∀ {l S : List α}, l.Nodup → (∀ x ∈ l, x ∈ S) → l.length ≤ S.length
  | [], _, _, _ => Nat.zero_le _
  | a :: l, S, nd, h => by
    have ha := h a (List.mem_cons_self ..)
    obtain ⟨n1, n2⟩ := List.nodup_cons.mp nd
    have := pig (l := l) (S := S.erase a) n2 fun x hx => by
      refine (List.mem_erase_of_ne ?_).mpr (h x (List.mem_cons_of_mem _ hx))
      rintro rfl
      exact n1 hx
    rw [List.length_erase_of_mem ha] at this
    have hp : 0 < S.length := List.length_pos_of_mem ha
    rw [List.length_cons]
    omega
/-- of more items than there are two are the same -/
theorem pig_two {f : Nat → α} {S : List α} {n : Nat} (h : ∀ i, i ≤ n → f i ∈ S) (l : S.length ≤ n) : ∃ i j, i < j ∧ j ≤ n ∧ f i = f j := by
  by_cases nd : ((List.range (n + 1)).map f).Nodup
  · have := pig nd (S := S) fun x hx => by
      obtain ⟨i, hi, rfl⟩ := List.mem_map.mp hx
      have := List.mem_range.mp hi
      exact h i (by omega)
    rw [List.length_map, List.length_range] at this
    omega
  · by_cases k : ∃ i j, i < j ∧ j ≤ n ∧ f i = f j
    · exact k
    · refine absurd ?_ nd
      refine List.pairwise_iff_getElem.mpr fun i j hi hj hij e => k ⟨i, j, hij, ?_, ?_⟩
      · rw [List.length_map, List.length_range] at hj
        omega
      · simpa using e
def upf {β : Type} (f : α → β) (x : α) (y : β) : α → β := fun z => if z = x then y else f z
theorem upf_self {β : Type} (f : α → β) (x : α) (y : β) : upf f x y x = y := if_pos rfl
theorem upf_ne {β : Type} (f : α → β) {x z : α} (y : β) (h : z ≠ x) : upf f x y z = f z := if_neg h
/-- r: the round, i: the row that comes next; v: the numbers; cm: by which row a number was raised last; t: when; mr: in which round -/
structure WI (R : List (Rw α)) (r i : Nat) (v : α → Int) (cm : α → Option Nat) (t mr : α → Nat) (now : Nat) : Prop where
  par : ∀ x k, cm x = some k → ∃ a c, R[k]? = some (a, x, c) ∧ v x ≤ v a - c ∧ (t x < t a → v x < v a - c) ∧ mr x ≤ mr a + 1
  non : ∀ x, cm x = none → mr x = 0 ∧ t x = 0
  som : ∀ x k, cm x = some k → 1 ≤ mr x ∧ 1 ≤ t x
  tim : ∀ x, t x ≤ now ∧ mr x ≤ r
  inj : ∀ x y, cm x ≠ none → x ≠ y → t x ≠ t y
  one : 1 ≤ r
  old : ∀ k a b c, R[k]? = some (a, b, c) → k < i → v a - c ≤ v b ∨ mr a = r
  new : ∀ k a b c, R[k]? = some (a, b, c) → i ≤ k → r = 1 ∨ v a - c ≤ v b ∨ r ≤ mr a + 1
theorem WI.first {R : List (Rw α)} {v : α → Int} : WI R 1 0 v (fun _ => none) (fun _ => 0) (fun _ => 0) 0 where
  par := fun _ _ h => nomatch h
  non := fun _ _ => ⟨rfl, rfl⟩
  som := fun _ _ h => nomatch h
  tim := fun _ => ⟨Nat.le_refl _, Nat.zero_le _⟩
  inj := fun _ _ h => absurd rfl h
  one := Nat.le_refl _
  old := fun k _ _ _ _ h => absurd h (Nat.not_lt_zero k)
  new := fun _ _ _ _ _ _ => .inl rfl
section
variable {R : List (Rw α)} {r i now : Nat} {v : α → Int} {cm : α → Option Nat} {t mr : α → Nat} {a b : α} {c : Int}
theorem WI.stay (W : WI R r i v cm t mr now) (h : R[i]? = some (a, b, c)) (k : v a - c ≤ v b) : WI R r (i + 1) v cm t mr now where
  par := W.par
  non := W.non
  som := W.som
  tim := W.tim
  inj := W.inj
  one := W.one
  old := fun j a' b' c' hj hl => by
    by_cases e : j = i
    · subst e
      rw [h] at hj
      cases hj
      exact .inl k
    · exact W.old j a' b' c' hj (by omega)
  new := fun j a' b' c' hj hl => W.new j a' b' c' hj (by omega)
theorem WI.move (W : WI R r i v cm t mr now) (h : R[i]? = some (a, b, c)) (ab : a ≠ b) (k : v b < v a - c) : WI R r (i + 1) (upf v b (v a - c)) (upf cm b (some i)) (upf t b (now + 1)) (upf mr b r) (now + 1) where
  par := fun x j hx => by
    by_cases e : x = b
    · subst e
      rw [upf_self] at hx
      cases hx
      refine ⟨a, c, h, ?_, ?_, ?_⟩
      · rw [upf_self, upf_ne _ _ ab]
        exact Int.le_refl _
      · rw [upf_self, upf_ne _ _ ab]
        have := (W.tim a).1
        omega
      · rw [upf_self, upf_ne _ _ ab]
        rcases W.new i a x c h (Nat.le_refl _) with q | q | q
        · omega
        · omega
        · exact q
    · rw [upf_ne _ _ e] at hx
      obtain ⟨a', c', h1, h2, h3, h4⟩ := W.par x j hx
      refine ⟨a', c', h1, ?_, ?_, ?_⟩
      · by_cases e' : a' = b
        · subst e'
          rw [upf_self, upf_ne _ _ e]
          omega
        · rw [upf_ne _ _ e, upf_ne _ _ e']
          exact h2
      · by_cases e' : a' = b
        · subst e'
          rw [upf_self, upf_ne _ _ e, upf_self, upf_ne _ _ e]
          omega
        · rw [upf_ne _ _ e, upf_ne _ _ e', upf_ne _ _ e, upf_ne _ _ e']
          exact h3
      · have := (W.tim a').2
        by_cases e' : a' = b
        · subst e'
          rw [upf_self, upf_ne _ _ e]
          omega
        · rw [upf_ne _ _ e, upf_ne _ _ e']
          exact h4
  non := fun x hx => by
    by_cases e : x = b
    · subst e
      rw [upf_self] at hx
      cases hx
    · rw [upf_ne _ _ e] at hx ⊢
      rw [upf_ne _ _ e]
      exact W.non x hx
  som := fun x j hx => by
    by_cases e : x = b
    · subst e
      rw [upf_self, upf_self]
      exact ⟨W.one, Nat.le_add_left _ _⟩
    · rw [upf_ne _ _ e] at hx ⊢
      rw [upf_ne _ _ e]
      exact W.som x j hx
  tim := fun x => by
    by_cases e : x = b
    · subst e
      rw [upf_self, upf_self]
      exact ⟨Nat.le_refl _, Nat.le_refl _⟩
    · rw [upf_ne _ _ e, upf_ne _ _ e]
      have := W.tim x
      exact ⟨by omega, this.2⟩
  inj := fun x y hx hxy => by
    have tx := (W.tim x).1
    have ty := (W.tim y).1
    by_cases e : x = b
    · subst e
      rw [upf_self, upf_ne _ _ (Ne.symm hxy)]
      omega
    · rw [upf_ne _ _ e] at hx ⊢
      by_cases e' : y = b
      · subst e'
        rw [upf_self]
        omega
      · rw [upf_ne _ _ e']
        exact W.inj x y hx hxy
  one := W.one
  old := fun j a' b' c' hj hl => by
    by_cases e : a' = b
    · subst e
      exact .inr (upf_self ..)
    · rw [upf_ne _ _ e, upf_ne _ _ e]
      by_cases ej : j = i
      · subst ej
        rw [h] at hj
        cases hj
        rw [upf_self]
        exact .inl (Int.le_refl _)
      · rcases W.old j a' b' c' hj (by omega) with q | q
        · by_cases e' : b' = b
          · subst e'
            rw [upf_self]
            exact .inl (by omega)
          · rw [upf_ne _ _ e']
            exact .inl q
        · exact .inr q
  new := fun j a' b' c' hj hl => by
    by_cases e : a' = b
    · subst e
      rw [upf_self, upf_self]
      exact .inr (.inr (by omega))
    · rw [upf_ne _ _ e, upf_ne _ _ e]
      rcases W.new j a' b' c' hj (by omega) with q | q | q
      · exact .inl q
      · by_cases e' : b' = b
        · subst e'
          rw [upf_self]
          exact .inr (.inl (by omega))
        · rw [upf_ne _ _ e']
          exact .inr (.inl q)
      · exact .inr (.inr q)
theorem WI.next (W : WI R r R.length v cm t mr now) : WI R (r + 1) 0 v cm t mr now where
  par := W.par
  non := W.non
  som := W.som
  tim := fun x => ⟨(W.tim x).1, Nat.le_succ_of_le (W.tim x).2⟩
  inj := W.inj
  one := Nat.le_succ_of_le W.one
  old := fun k _ _ _ _ h => absurd h (Nat.not_lt_zero k)
  new := fun k a b c hk _ => by
    rcases W.old k a b c hk (List.getElem?_eq_some_iff.mp hk).1 with q | q
    · exact .inr (.inl q)
    · exact .inr (.inr (by omega))
theorem WI.pot (W : WI R r R.length v cm t mr now) (h : ∀ x, mr x ≠ r) : Pot R v := by
  rintro ⟨a, b, c⟩ hr
  obtain ⟨k, hk⟩ := List.mem_iff_getElem?.mp hr
  rcases W.old k a b c hk (List.getElem?_eq_some_iff.mp hk).1 with q | q
  · show v a - v b ≤ c
    omega
  · exact absurd q (h a)
/-- one step back -/
def bk (R : List (Rw α)) (cm : α → Option Nat) (x : α) : α := match (cm x).bind (R[·]?) with | some r => r.1 | none => x
def bkn (R : List (Rw α)) (cm : α → Option Nat) (x : α) : Nat → α
  | 0 => x
  | j + 1 => bk R cm (bkn R cm x j)
theorem bk_of {k : Nat} {x a b : α} {c : Int} (h : cm x = some k) (hr : R[k]? = some (a, b, c)) : bk R cm x = a := by
  unfold bk
  rw [h]
  show (match R[k]? with | some r => r.1 | none => x) = a
  rw [hr]
theorem bkn_add (x : α) (i : Nat) : ∀ j, bkn R cm x (i + j) = bkn R cm (bkn R cm x i) j
  | 0 => rfl
  | j + 1 => by
    show bk R cm (bkn R cm x (i + j)) = bk R cm _
    rw [bkn_add x i j]
theorem WI.bkn_mr (W : WI R r i v cm t mr now) {x : α} {n : Nat} (hx : mr x = n) : ∀ j, j ≤ n → n ≤ mr (bkn R cm x j) + j
  | 0, _ => by
    show n ≤ mr x + 0
    omega
  | j + 1, hj => by
    have ih := W.bkn_mr hx j (by omega)
    show n ≤ mr (bk R cm (bkn R cm x j)) + (j + 1)
    cases e : cm (bkn R cm x j) with
    | none =>
      have := (W.non _ e).1
      omega
    | some k =>
      obtain ⟨a, c, h1, _, _, h4⟩ := W.par _ k e
      rw [bk_of e h1]
      omega
/-- a way forth from where one comes going back -/
theorem WI.way (W : WI R r i v cm t mr now) (ne : ∀ a b c, (a, b, c) ∈ R → a ≠ b) (x : α) : ∀ L, (∀ j, j < L → cm (bkn R cm x j) ≠ none) → ∃ w z, Way R (bkn R cm x L) w x z ∧ w.length = L ∧ v x ≤ v (bkn R cm x L) - z ∧ (v x < v (bkn R cm x L) - z ∨ (L = 0 ∨ t (bkn R cm x L) < t x))
  | 0, _ => ⟨[], 0, .nil _, rfl, by show v x ≤ v x - 0; omega, .inr (.inl rfl)⟩
  | L + 1, h => by
    obtain ⟨w, z, h1, h2, h3, h4⟩ := W.way ne x L fun j hj => h j (by omega)
    cases e : cm (bkn R cm x L) with
    | none => exact absurd e (h L (by omega))
    | some k =>
      obtain ⟨a, c, p1, p2, p3, _⟩ := W.par _ k e
      have eb : bkn R cm x (L + 1) = a := bk_of e p1
      rw [eb]
      have hab := ne _ _ _ (List.mem_of_getElem? p1)
      have hin := W.inj (bkn R cm x L) a (by rw [e]; exact fun q => nomatch q) (Ne.symm hab)
      refine ⟨k :: w, c + z, .cons p1 h1, by rw [List.length_cons, h2], by omega, ?_⟩
      rcases Nat.lt_or_ge (t (bkn R cm x L)) (t a) with q | q
      · have := p3 q
        exact .inl (by omega)
      · rcases h4 with h4 | h4 | h4
        · exact .inl (by omega)
        · subst h4
          have e0 : bkn R cm x 0 = x := rfl
          rw [e0] at q hin
          exact .inr (.inr (by omega))
        · exact .inr (.inr (by omega))
/-- all rounds moved something: there is a ring, and going back one comes to it -/
theorem WI.ring (W : WI R r i v cm t mr now) (ne : ∀ a b c, (a, b, c) ∈ R → a ≠ b) {S : List α} (hS : ∀ a b c, (a, b, c) ∈ R → a ∈ S ∧ b ∈ S) {x : α} (hx : mr x = S.length) (h0 : 0 < S.length) :
    (∀ j, cm (bkn R cm x j) ≠ none) ∧ (∃ L, 1 ≤ L ∧ L ≤ S.length ∧ bkn R cm (bkn R cm x S.length) L = bkn R cm x S.length) ∧ ∃ w, Ring R w ∧ w.length ≤ S.length := by
  have up : ∀ j, j < S.length → cm (bkn R cm x j) ≠ none := fun j hj e => by
    have h1 := W.bkn_mr hx j (by omega)
    have h2 := (W.non _ e).1
    omega
  have inS : ∀ j, j ≤ S.length → bkn R cm x j ∈ S := fun j hj => by
    cases j with
    | zero =>
      cases e : cm x with
      | none => exact absurd e (up 0 h0)
      | some k =>
        obtain ⟨a, c, p1, _⟩ := W.par _ k e
        exact (hS _ _ _ (List.mem_of_getElem? p1)).2
    | succ j =>
      cases e : cm (bkn R cm x j) with
      | none => exact absurd e (up j (by omega))
      | some k =>
        obtain ⟨a, c, p1, _⟩ := W.par _ k e
        show bk R cm (bkn R cm x j) ∈ S
        rw [bk_of e p1]
        exact (hS _ _ _ (List.mem_of_getElem? p1)).1
  obtain ⟨p, q, pq, qn, e⟩ := pig_two (f := bkn R cm x) inS (Nat.le_refl _)
  have per : ∀ m, bkn R cm x (p + (q - p) + m) = bkn R cm x (p + m) := fun m => by
    rw [bkn_add, bkn_add x p m]
    have : p + (q - p) = q := by omega
    rw [this, ← e]
  have all : ∀ j, cm (bkn R cm x j) ≠ none := by
    intro j
    induction j using Nat.strongRecOn with
    | ind j ih =>
      rcases Nat.lt_or_ge j q with h | h
      · exact up j (by omega)
      · have := per (j - q)
        have e1 : p + (q - p) + (j - q) = j := by omega
        rw [e1] at this
        rw [this]
        exact ih _ (by omega)
  refine ⟨all, ⟨q - p, by omega, by omega, ?_⟩, ?_⟩
  · rw [← bkn_add]
    have := per (S.length - p)
    have e1 : p + (q - p) + (S.length - p) = S.length + (q - p) := by omega
    have e2 : p + (S.length - p) = S.length := by omega
    rw [e1, e2] at this
    exact this
  · obtain ⟨w, z, h1, h2, h3, h4⟩ := W.way ne (bkn R cm x p) (q - p) fun j _ => by
      rw [← bkn_add]
      exact all _
    have ec : bkn R cm (bkn R cm x p) (q - p) = bkn R cm x p := by
      rw [← bkn_add]
      have : p + (q - p) = q := by omega
      rw [this, ← e]
    rw [ec] at h1 h3 h4
    refine ⟨w, ⟨_, z, h1, ?_⟩, by omega⟩
    rcases h4 with h4 | h4 | h4
    · omega
    · omega
    · omega
end
end
end Wy
/-! Ways, part 3: least sums from one spot, lowered row by row. -/
namespace Wy
section
variable {α : Type} [DecidableEq α]
def lo (o : Option Int) (z : Int) : Prop := ∃ y, o = some y ∧ y ≤ z
theorem lo.mono {o : Option Int} {z y : Int} (h : lo o z) (k : z ≤ y) : lo o y := let ⟨x, e, l⟩ := h; ⟨x, e, Int.le_trans l k⟩
def spread (R : List (Rw α)) : Nat := (R.map fun r => r.2.2.natAbs).sum
theorem spread_ge {R : List (Rw α)} : ∀ {r : Rw α}, r ∈ R → r.2.2.natAbs ≤ spread R := by
  induction R with
  | nil => intro r h; cases h
  | cons x R ih =>
    intro r h
    show _ ≤ ((x :: R).map _).sum
    rw [List.map_cons, List.sum_cons]
    rcases List.mem_cons.mp h with rfl | h
    · exact Nat.le_add_right _ _
    · exact Nat.le_trans (ih h) (Nat.le_add_left _ _)
def cnt (S : List α) (s : α → Option Int) : Nat := (S.filter fun b => (s b).isSome).length
theorem cnt_le (S : List α) (s : α → Option Int) : cnt S s ≤ S.length := List.length_filter_le _ _
theorem sum_upf {f g : α → Nat} {S : List α} (h : ∀ x ∈ S, f x ≤ g x) : (S.map f).sum ≤ (S.map g).sum := by
  induction S with
  | nil => exact Nat.le_refl _
  | cons a S ih =>
    rw [List.map_cons, List.map_cons, List.sum_cons, List.sum_cons]
    have := h a (List.mem_cons_self ..)
    have := ih fun x hx => h x (List.mem_cons_of_mem _ hx)
    omega
theorem sum_lt {f g : α → Nat} {S : List α} {b : α} (hb : b ∈ S) (h : ∀ x ∈ S, f x ≤ g x) (k : f b < g b) : (S.map f).sum < (S.map g).sum := by
  induction S with
  | nil => cases hb
  | cons a S ih =>
    rw [List.map_cons, List.map_cons, List.sum_cons, List.sum_cons]
    have h1 := h a (List.mem_cons_self ..)
    have h2 : ∀ x ∈ S, f x ≤ g x := fun x hx => h x (List.mem_cons_of_mem _ hx)
    have h3 := sum_upf h2
    rcases List.mem_cons.mp hb with rfl | hb
    · omega
    · have := ih hb h2
      omega
/-- what is kept of the sums from a start; p: numbers that keep all rows -/
structure LS (R : List (Rw α)) (S : List α) (st : α) (s : α → Option Int) : Prop where
  zero : s st = some 0
  real : ∀ b z, s b = some z → b ∈ S ∧ ∃ w, Way R st w b z
  most : ∀ b z, s b = some z → z ≤ (cnt S s : Int) * (spread R : Int)
def firstS (st : α) : α → Option Int := fun b => if b = st then some 0 else none
theorem LS.first {R : List (Rw α)} {S : List α} {st : α} (h : st ∈ S) : LS R S st (firstS st) where
  zero := if_pos rfl
  real := fun b z e => by
    unfold firstS at e
    split at e
    · rename_i q
      cases e
      subst q
      exact ⟨h, [], .nil _⟩
    · cases e
  most := fun b z e => by
    unfold firstS at e
    split at e
    · cases e
      exact Int.mul_nonneg (by omega) (by omega)
    · cases e
/-- how far the sums can still be lowered -/
def room (R : List (Rw α)) (S : List α) (p : α → Int) (st : α) (s : α → Option Int) : Nat :=
  (S.map fun b => match s b with | some z => (z - (p st - p b)).toNat | none => ((S.length : Int) * (spread R : Int) - (p st - p b)).toNat + 1).sum
section
variable {R : List (Rw α)} {S : List α} {st a b : α} {c x : Int} {s : α → Option Int} {p : α → Int}
theorem LS.le (L : LS R S st s) {z : Int} (h : s b = some z) : z ≤ (S.length : Int) * (spread R : Int) := by
  refine Int.le_trans (L.most b z h) (Int.mul_le_mul_of_nonneg_right ?_ (by omega))
  have := cnt_le S s
  omega
/-- a row lowers a sum -/
theorem LS.low (L : LS R S st s) (P : Pot R p) (hr : (a, b, c) ∈ R) (hb : b ∈ S) (hx : s a = some x) (h : ∀ y, s b = some y → x + c < y) :
    LS R S st (upf s b (some (x + c))) ∧ room R S p st (upf s b (some (x + c))) < room R S p st s := by
  obtain ⟨k, hk⟩ := List.mem_iff_getElem?.mp hr
  obtain ⟨ha, w, hw⟩ := L.real a x hx
  have wb : Way R st (w ++ [k]) b (x + c) := hw.snoc hk
  have nst : b ≠ st := by
    rintro rfl
    have h1 := h 0 L.zero
    have := P.le wb
    omega
  have sp : c ≤ (spread R : Int) := by
    have := spread_ge hr
    have this : c.natAbs ≤ spread R := this
    omega
  have sp0 : (0 : Int) ≤ (spread R : Int) := by omega
  have cge : cnt S s ≤ cnt S (upf s b (some (x + c))) := by
    unfold cnt
    induction S with
    | nil => exact Nat.le_refl _
    | cons y S ih => 
      clear ih
      rw [← List.countP_eq_length_filter, ← List.countP_eq_length_filter]
      refine List.countP_mono_left fun z _ hz => ?_
      unfold upf
      split
      · rfl
      · exact hz
  have new : x + c ≤ (cnt S (upf s b (some (x + c))) : Int) * (spread R : Int) := by
    cases e : s b with
    | some y =>
      have h1 := h y e
      have h2 := L.most b y e
      have h3 : (cnt S s : Int) * (spread R : Int) ≤ (cnt S (upf s b (some (x + c))) : Int) * (spread R : Int) := Int.mul_le_mul_of_nonneg_right (by omega) sp0
      omega
    | none =>
      have h2 := L.most a x hx
      have h3 : cnt S s + 1 ≤ cnt S (upf s b (some (x + c))) := by
        unfold cnt
        have hb' := hb
        clear h2 cge L P hw wb ha
        induction S with
        | nil => cases hb
        | cons y S ih =>
          rw [List.filter_cons, List.filter_cons]
          by_cases q : y = b
          · subst q
            rw [upf_self, e]
            have : (S.filter fun b => (s b).isSome).length ≤ (S.filter fun b => (upf s y (some (x + c)) b).isSome).length := by
              rw [← List.countP_eq_length_filter, ← List.countP_eq_length_filter]
              refine List.countP_mono_left fun z _ hz => ?_
              unfold upf
              split
              · rfl
              · exact hz
            simp
            omega
          · have := ih (by rcases List.mem_cons.mp hb with z | z; exact absurd z.symm q; exact z) (by rcases List.mem_cons.mp hb with z | z; exact absurd z.symm q; exact z)
            rw [upf_ne _ _ q]
            split
            · rw [List.length_cons, List.length_cons]
              omega
            · exact this
      have h4 : ((cnt S s : Int) + 1) * (spread R : Int) ≤ (cnt S (upf s b (some (x + c))) : Int) * (spread R : Int) := Int.mul_le_mul_of_nonneg_right (by omega) sp0
      rw [Int.add_mul, Int.one_mul] at h4
      omega
  refine ⟨⟨?_, ?_, ?_⟩, ?_⟩
  · rw [upf_ne _ _ (Ne.symm nst)]
    exact L.zero
  · intro b' z e
    by_cases q : b' = b
    · subst q
      rw [upf_self] at e
      cases e
      exact ⟨hb, _, wb⟩
    · rw [upf_ne _ _ q] at e
      exact L.real b' z e
  · intro b' z e
    by_cases q : b' = b
    · subst q
      rw [upf_self] at e
      cases e
      exact new
    · rw [upf_ne _ _ q] at e
      refine Int.le_trans (L.most b' z e) (Int.mul_le_mul_of_nonneg_right (by omega) sp0)
  · unfold room
    have low : p st - p b ≤ x + c := P.le wb
    have key : (match upf s b (some (x + c)) b with | some z => (z - (p st - p b)).toNat | none => ((S.length : Int) * (spread R : Int) - (p st - p b)).toNat + 1) < (match s b with | some z => (z - (p st - p b)).toNat | none => ((S.length : Int) * (spread R : Int) - (p st - p b)).toNat + 1) := by
      rw [upf_self]
      cases e : s b with
      | some y =>
        have := h y e
        show (x + c - (p st - p b)).toNat < (y - (p st - p b)).toNat
        omega
      | none =>
        have h1 : (cnt S (upf s b (some (x + c))) : Int) * (spread R : Int) ≤ (S.length : Int) * (spread R : Int) := by
          refine Int.mul_le_mul_of_nonneg_right ?_ sp0
          have := cnt_le S (upf s b (some (x + c)))
          omega
        show (x + c - (p st - p b)).toNat < ((S.length : Int) * (spread R : Int) - (p st - p b)).toNat + 1
        omega
    refine sum_lt hb (fun z _ => ?_) key
    by_cases q : z = b
    · subst q
      exact Nat.le_of_lt key
    · rw [upf_ne _ _ q]
      exact Nat.le_refl _
/-- nothing is lowered any more: the sums are the least ones -/
theorem LS.least (L : LS R S st s) (h : ∀ r ∈ R, ∀ x, s r.1 = some x → lo (s r.2.1) (x + r.2.2)) {w : List Nat} {z : Int} (hw : Way R st w b z) : lo (s b) z := by
  have gen : ∀ {a : α} {w : List Nat} {b : α} {z : Int}, Way R a w b z → ∀ x, s a = some x → lo (s b) (x + z) := by
    intro a w b z k
    induction k with
    | nil a => intro x hx; exact ⟨x, hx, by omega⟩
    | @cons a m b i c z w r _ ih =>
      intro x hx
      obtain ⟨y, h1, h2⟩ := h _ (List.mem_of_getElem? r) x hx
      have h2 : y ≤ x + c := h2
      exact (ih y h1).mono (by omega)
  have := gen hw 0 L.zero
  rwa [Int.zero_add] at this
end
end
end Wy
/-! Ways, part 4: the sums between all spots, as the law makes them. -/
namespace Wy
section
variable {α : Type} [DecidableEq α]
abbrev Tb (α : Type) := α → α → Option Int
def up2 (D : Tb α) (i j : α) (z : Int) : Tb α := fun a b => if a = i ∧ b = j then some z else D a b
theorem up2_self (D : Tb α) (i j : α) (z : Int) : up2 D i j z i j = some z := if_pos ⟨rfl, rfl⟩
theorem up2_ne (D : Tb α) {i j a b : α} (z : Int) (h : ¬ (a = i ∧ b = j)) : up2 D i j z a b = D a b := if_neg h
/-- the lesser of what is there and z -/
def minO (o : Option Int) (z : Int) : Int := match o with | some y => if z < y then z else y | none => z
theorem minO_le (o : Option Int) (z : Int) : minO o z ≤ z := by
  unfold minO
  split
  · split <;> omega
  · exact Int.le_refl _
theorem minO_lo {o : Option Int} {z x : Int} (h : lo o x) : minO o z ≤ x := by
  obtain ⟨y, rfl, l⟩ := h
  unfold minO
  show (if z < y then z else y) ≤ x
  split <;> omega
theorem minO_is (o : Option Int) (z : Int) : minO o z = z ∨ o = some (minO o z) := by
  unfold minO
  split
  · split
    · exact .inl rfl
    · exact .inr rfl
  · exact .inl rfl
def Real (R : List (Rw α)) (D : Tb α) : Prop := ∀ a b z, D a b = some z → ∃ w, Way R a w b z
/-- D' has what D has, or less -/
def Und (D' D : Tb α) : Prop := ∀ a b z, lo (D a b) z → lo (D' a b) z
theorem Und.refl (D : Tb α) : Und D D := fun _ _ _ h => h
theorem Und.trans {A B C : Tb α} (h : Und A B) (k : Und B C) : Und A C := fun a b z l => h a b z (k a b z l)
theorem und_up {D : Tb α} {i j : α} {z : Int} : Und (up2 D i j (minO (D i j) z)) D := fun a b x h => by
  by_cases q : a = i ∧ b = j
  · obtain ⟨rfl, rfl⟩ := q
    exact ⟨_, up2_self .., minO_lo h⟩
  · rw [up2_ne _ _ q]
    exact h
theorem real_up {R : List (Rw α)} {D : Tb α} (h : Real R D) {i j : α} {z : Int} (k : ∃ w, Way R i w j z) : Real R (up2 D i j (minO (D i j) z)) := fun a b x e => by
  by_cases q : a = i ∧ b = j
  · obtain ⟨rfl, rfl⟩ := q
    rw [up2_self] at e
    cases e
    rcases minO_is (D a b) z with q | q
    · rw [q]
      exact k
    · exact h _ _ _ q
  · rw [up2_ne _ _ q] at e
    exact h _ _ _ e
def diagT (S : List α) : Tb α := fun a b => if a = b ∧ a ∈ S then some 0 else none
/-- the table once the rows ahead of i are put in -/
structure FwR (R : List (Rw α)) (S : List α) (i : Nat) (D : Tb α) : Prop where
  real : Real R D
  dia : ∀ a ∈ S, D a a = some 0
  row : ∀ k a b c, k < i → R[k]? = some (a, b, c) → lo (D a b) c
  inS : ∀ a b z, D a b = some z → a ∈ S ∧ b ∈ S
theorem FwR.first (R : List (Rw α)) (S : List α) : FwR R S 0 (diagT S) where
  real := fun a b z e => by
    unfold diagT at e
    split at e
    · rename_i q
      cases e
      obtain ⟨rfl, _⟩ := q
      exact ⟨[], .nil _⟩
    · cases e
  dia := fun a ha => if_pos ⟨rfl, ha⟩
  row := fun k _ _ _ h => absurd h (Nat.not_lt_zero k)
  inS := fun a b z e => by
    unfold diagT at e
    split at e
    · rename_i q
      obtain ⟨rfl, h⟩ := q
      exact ⟨h, h⟩
    · cases e
theorem FwR.step {R : List (Rw α)} {S : List α} {i : Nat} {D : Tb α} {a b : α} {c : Int} (F : FwR R S i D) (h : R[i]? = some (a, b, c)) (ab : a ≠ b) (hS : a ∈ S ∧ b ∈ S) : FwR R S (i + 1) (up2 D a b (minO (D a b) c)) where
  real := real_up F.real ⟨[i], .one h⟩
  dia := fun x hx => by
    rw [up2_ne _ _ (fun q => ab (q.1.symm.trans q.2))]
    exact F.dia x hx
  row := fun k a' b' c' hk hr => by
    by_cases e : k = i
    · subst e
      rw [h] at hr
      cases hr
      exact ⟨_, up2_self .., minO_le _ _⟩
    · exact und_up _ _ _ (F.row k a' b' c' (by omega) hr)
  inS := fun x y z e => by
    by_cases q : x = a ∧ y = b
    · obtain ⟨rfl, rfl⟩ := q
      exact hS
    · rw [up2_ne _ _ q] at e
      exact F.inS _ _ _ e
/-- ways by way of m are told -/
def Via (D : Tb α) (m : α) : Prop := ∀ a b x y, D a m = some x → D m b = some y → lo (D a b) (x + y)
/-- all is in order as long as no spot comes to itself below 0 -/
structure Good (R : List (Rw α)) (S M : List α) (D : Tb α) : Prop where
  dia : ∀ a ∈ S, D a a = some 0
  row : ∀ r ∈ R, lo (D r.1 r.2.1) r.2.2
  via : ∀ m ∈ M, Via D m
def Neg (S : List α) (D : Tb α) : Prop := ∃ a ∈ S, ∃ z, D a a = some z ∧ z < 0
theorem FwR.good {R : List (Rw α)} {S : List α} {D : Tb α} (F : FwR R S R.length D) : Good R S [] D where
  dia := F.dia
  row := fun r hr => by
    obtain ⟨k, hk⟩ := List.mem_iff_getElem?.mp hr
    exact F.row k _ _ _ (List.getElem?_eq_some_iff.mp hk).1 hk
  via := fun _ h => nomatch h
/-- within the turn of the spot m; done: the pairs that are gone through -/
structure FwM (R : List (Rw α)) (S M : List α) (m : α) (D0 : Tb α) (done : α → α → Prop) (D : Tb α) : Prop where
  real : Real R D
  und : Und D D0
  inS : ∀ a b z, D a b = some z → a ∈ S ∧ b ∈ S
  put : Good R S M D0 → ∀ a b x y, done a b → D0 a m = some x → D0 m b = some y → lo (D a b) (x + y)
  frm : Good R S M D0 → ∀ a b z, D a b = some z → D0 a b = some z ∨ ∃ x y, D0 a m = some x ∧ D0 m b = some y ∧ z = x + y
section
variable {R : List (Rw α)} {S M : List α} {m : α} {D0 D : Tb α} {done : α → α → Prop}
theorem FwM.first (r : Real R D0) (i : ∀ a b z, D0 a b = some z → a ∈ S ∧ b ∈ S) : FwM R S M m D0 (fun _ _ => False) D0 where
  real := r
  und := .refl _
  inS := i
  put := fun _ _ _ _ _ h => h.elim
  frm := fun _ _ _ _ h => .inl h
theorem FwM.col (F : FwM R S M m D0 done D) (hm : m ∈ S) (G : Good R S M D0) (a : α) : D a m = D0 a m := by
  cases e : D a m with
  | some z =>
    rcases F.frm G a m z e with h | ⟨x, y, h1, h2, rfl⟩
    · exact h.symm
    · rw [G.dia m hm] at h2
      cases h2
      rw [h1, Int.add_zero]
  | none =>
    cases e' : D0 a m with
    | none => rfl
    | some z =>
      obtain ⟨y, h, _⟩ := F.und a m z ⟨z, e', Int.le_refl _⟩
      rw [e] at h
      cases h
theorem FwM.rw (F : FwM R S M m D0 done D) (hm : m ∈ S) (G : Good R S M D0) (b : α) : D m b = D0 m b := by
  cases e : D m b with
  | some z =>
    rcases F.frm G m b z e with h | ⟨x, y, h1, h2, rfl⟩
    · exact h.symm
    · rw [G.dia m hm] at h1
      cases h1
      rw [h2, Int.zero_add]
  | none =>
    cases e' : D0 m b with
    | none => rfl
    | some z =>
      obtain ⟨y, h, _⟩ := F.und m b z ⟨z, e', Int.le_refl _⟩
      rw [e] at h
      cases h
/-- a pair with both parts there -/
theorem FwM.step {i j : α} {x y : Int} (F : FwM R S M m D0 done D) (hm : m ∈ S) (hx : D i m = some x) (hy : D m j = some y) : FwM R S M m D0 (fun a b => done a b ∨ (a = i ∧ b = j)) (up2 D i j (minO (D i j) (x + y))) where
  real := real_up F.real (by
    obtain ⟨w, h1⟩ := F.real _ _ _ hx
    obtain ⟨v, h2⟩ := F.real _ _ _ hy
    exact ⟨_, h1.app h2⟩)
  und := und_up.trans F.und
  inS := fun a b z e => by
    by_cases q : a = i ∧ b = j
    · obtain ⟨rfl, rfl⟩ := q
      exact ⟨(F.inS _ _ _ hx).1, (F.inS _ _ _ hy).2⟩
    · rw [up2_ne _ _ q] at e
      exact F.inS _ _ _ e
  put := fun G a b x' y' d h1 h2 => by
    by_cases q : a = i ∧ b = j
    · obtain ⟨rfl, rfl⟩ := q
      rw [F.col hm G, h1] at hx
      rw [F.rw hm G, h2] at hy
      cases hx
      cases hy
      exact ⟨_, up2_self .., minO_le _ _⟩
    · rw [up2_ne _ _ q]
      exact F.put G a b x' y' (d.resolve_right q) h1 h2
  frm := fun G a b z e => by
    by_cases q : a = i ∧ b = j
    · obtain ⟨rfl, rfl⟩ := q
      rw [up2_self] at e
      cases e
      rw [F.col hm G] at hx
      rw [F.rw hm G] at hy
      rcases minO_is (D a b) (x + y) with q | q
      · rw [q]
        exact .inr ⟨x, y, hx, hy, rfl⟩
      · exact F.frm G _ _ _ q
    · rw [up2_ne _ _ q] at e
      exact F.frm G _ _ _ e
theorem FwM.pass {i j : α} (F : FwM R S M m D0 done D) (hm : m ∈ S) (h : D i m = none ∨ D m j = none) : FwM R S M m D0 (fun a b => done a b ∨ (a = i ∧ b = j)) D where
  real := F.real
  und := F.und
  inS := F.inS
  put := fun G a b x' y' d h1 h2 => by
    rcases d with d | ⟨rfl, rfl⟩
    · exact F.put G a b x' y' d h1 h2
    · rcases h with h | h
      · rw [F.col hm G, h1] at h
        cases h
      · rw [F.rw hm G, h2] at h
        cases h
  frm := F.frm
theorem FwM.weak {done' : α → α → Prop} (F : FwM R S M m D0 done D) (h : ∀ a b, done' a b → done a b) : FwM R S M m D0 done' D where
  real := F.real
  und := F.und
  inS := F.inS
  put := fun G a b x y d => F.put G a b x y (h a b d)
  frm := F.frm
theorem neg_und {D D' : Tb α} (h : Neg S D) (u : Und D' D) : Neg S D' := by
  obtain ⟨a, ha, z, e, l⟩ := h
  obtain ⟨y, h1, h2⟩ := u a a z ⟨z, e, Int.le_refl _⟩
  exact ⟨a, ha, y, h1, by omega⟩
theorem FwM.last (F : FwM R S M m D0 (fun a b => a ∈ S ∧ b ∈ S) D) (hm : m ∈ S) (h : Neg S D0 ∨ Good R S M D0) : Neg S D ∨ Good R S (m :: M) D := by
  rcases h with h | G
  · exact .inl (neg_und h F.und)
  · by_cases n : ∃ a ∈ S, D a a ≠ some 0
    · obtain ⟨a, ha, ne⟩ := n
      obtain ⟨y, h1, h2⟩ := F.und a a 0 ⟨0, G.dia a ha, Int.le_refl _⟩
      refine .inl ⟨a, ha, y, h1, ?_⟩
      by_cases q : y = 0
      · subst q
        exact absurd h1 ne
      · omega
    · have dia : ∀ a ∈ S, D a a = some 0 := fun a ha => Classical.byContradiction fun q => n ⟨a, ha, q⟩
      refine .inr ⟨dia, fun r hr => F.und _ _ _ (G.row r hr), fun m' hm' => ?_⟩
      rcases List.mem_cons.mp hm' with rfl | hm'
      · intro a b x y h1 h2
        have ha := (F.inS _ _ _ h1).1
        have hb := (F.inS _ _ _ h2).2
        rw [F.col hm G] at h1
        rw [F.rw hm G] at h2
        exact F.put G a b x y ⟨ha, hb⟩ h1 h2
      · intro a b x y h1 h2
        have ha := (F.inS _ _ _ h1).1
        have hb := (F.inS _ _ _ h2).2
        have hk := (F.inS _ _ _ h1).2
        have V := G.via m' hm'
        rcases F.frm G a m' x h1 with p | ⟨x1, x2, p1, p2, rfl⟩
        · rcases F.frm G m' b y h2 with q | ⟨y1, y2, q1, q2, rfl⟩
          · exact F.und _ _ _ (V a b x y p q)
          · obtain ⟨u, r1, r2⟩ := V a m x y1 p q1
            exact (F.put G a b u y2 ⟨ha, hb⟩ r1 q2).mono (by omega)
        · rcases F.frm G m' b y h2 with q | ⟨y1, y2, q1, q2, rfl⟩
          · obtain ⟨u, r1, r2⟩ := V m b x2 y p2 q
            exact (F.put G a b x1 u ⟨ha, hb⟩ p1 r1).mono (by omega)
          · -- from m by way of m' back to m: not below 0
            obtain ⟨u, r1, r2⟩ := V m m x2 y1 p2 q1
            rw [G.dia m hm] at r1
            cases r1
            exact (F.put G a b x1 y2 ⟨ha, hb⟩ p1 q2).mono (by omega)
/-- the table when all spots had their turn -/
theorem Good.lo {R : List (Rw α)} {S : List α} {D : Tb α} (G : Good R S S D) (hS : ∀ a b c, (a, b, c) ∈ R → a ∈ S ∧ b ∈ S) {a b : α} {w : List Nat} {z : Int} (h : Way R a w b z) (ha : a ∈ S) : lo (D a b) z := by
  induction h with
  | nil a => exact ⟨0, G.dia a ha, Int.le_refl _⟩
  | @cons a m b i c z w r _ ih =>
    have hr := List.mem_of_getElem? r
    obtain ⟨x, h1, h2⟩ := G.row _ hr
    obtain ⟨y, k1, k2⟩ := ih (hS _ _ _ hr).2
    have h2 : x ≤ c := h2
    exact (G.via m (hS _ _ _ hr).2 a b x y h1 k1).mono (by omega)
theorem Good.noRing {R : List (Rw α)} {S : List α} {D : Tb α} (G : Good R S S D) (hS : ∀ a b c, (a, b, c) ∈ R → a ∈ S ∧ b ∈ S) (w : List Nat) : ¬ Ring R w := by
  rintro ⟨a, z, h, hz⟩
  have ha : a ∈ S := by
    cases h with
    | nil => omega
    | cons r _ => exact (hS _ _ _ (List.mem_of_getElem? r)).1
  obtain ⟨y, h1, h2⟩ := G.lo hS h ha
  rw [G.dia a ha] at h1
  cases h1
  omega
theorem Neg.ring {R : List (Rw α)} {S : List α} {D : Tb α} (r : Real R D) (h : Neg S D) : ∃ w, Ring R w := by
  obtain ⟨a, _, z, e, l⟩ := h
  obtain ⟨w, hw⟩ := r _ _ _ e
  exact ⟨w, a, z, hw, l⟩
/-- numbers that lift a difference to its greatest -/
theorem lift_pot {R : List (Rw α)} {S : List α} {D : Tb α} (G : Good R S S D) (hS : ∀ a b c, (a, b, c) ∈ R → a ∈ S ∧ b ∈ S) (r : Real R D) {p : α → Int} (P : Pot R p) {b e : α} {x : Int} (he : e ∈ S) (hb : D b e = some x) : ∃ q, Pot (R ++ [(e, b, 0 - x)]) q := by
  -- the lesser of the way to e and of p lifted
  obtain ⟨B, hB⟩ : ∃ B : Int, B = ((p b).natAbs : Int) + ((p e).natAbs : Int) + (x.natAbs : Int) := ⟨_, rfl⟩
  let f : α → Int := fun v => match D v e with | some y => if y < p v + B then y else p v + B | none => p v + B
  have fle : ∀ v, f v ≤ p v + B := fun v => by
    show (match D v e with | some y => if y < p v + B then y else p v + B | none => p v + B) ≤ _
    generalize p v + B = t
    split
    · split <;> omega
    · exact Int.le_refl _
  have fly : ∀ v y, D v e = some y → f v ≤ y := fun v y h => by
    show (match D v e with | some y => if y < p v + B then y else p v + B | none => p v + B) ≤ _
    rw [h]
    show (if y < p v + B then y else p v + B) ≤ y
    generalize p v + B = t
    split <;> omega
  have fis : ∀ v, f v = p v + B ∨ D v e = some (f v) := fun v => by
    show (match D v e with | some y => if y < p v + B then y else p v + B | none => p v + B) = _ ∨ D v e = some (match D v e with | some y => if y < p v + B then y else p v + B | none => p v + B)
    cases h : D v e with
    | none => exact .inl rfl
    | some y =>
      show (if y < p v + B then y else p v + B) = _ ∨ some y = some (if y < p v + B then y else p v + B)
      split
      · exact .inr rfl
      · exact .inl rfl
  have fe : f e = 0 := by
    have h := G.dia e he
    show (match D e e with | some y => if y < p e + B then y else p e + B | none => p e + B) = 0
    rw [h]
    show (if 0 < p e + B then (0 : Int) else p e + B) = 0
    have : (0 : Int) ≤ p e + B := by omega
    split <;> omega
  have fb : f b = x := by
    show (match D b e with | some y => if y < p b + B then y else p b + B | none => p b + B) = x
    rw [hb]
    show (if x < p b + B then x else p b + B) = x
    have : x ≤ p b + B := by omega
    split <;> omega
  refine ⟨f, ?_⟩
  intro rr hr
  rcases List.mem_append.mp hr with hr | hr
  · obtain ⟨u, v, c⟩ := rr
    show f u - f v ≤ c
    rcases fis v with q | q
    · have h1 := P _ hr
      have h1 : p u - p v ≤ c := h1
      have := fle u
      omega
    · obtain ⟨y, h1, h2⟩ := G.row _ hr
      have h2 : y ≤ c := h2
      have hv := (hS _ _ _ hr).2
      obtain ⟨t, h3, h4⟩ := G.via v hv u e y (f v) h1 q
      have := fly u t h3
      omega
  · rw [List.mem_singleton] at hr
    subst hr
    show f e - f b ≤ 0 - x
    omega
end
end
end Wy
/-! Ways, part 5: the least sums of ways with so many rows, and the first of all rings. -/
namespace Wy
section
variable {α : Type} [DecidableEq α]
/-- a table: the least sums of ways with k rows -/
structure Tab (R : List (Rw α)) (S : List α) (k : Nat) (F : Tb α) : Prop where
  real : ∀ a e z, F a e = some z → ∃ w, w.length = k ∧ Way R a w e z
  low : ∀ a e w z, a ∈ S → w.length = k → Way R a w e z → lo (F a e) z
  inS : ∀ a e z, F a e = some z → a ∈ S ∧ e ∈ S
theorem Tab.zero (R : List (Rw α)) (S : List α) : Tab R S 0 (diagT S) where
  real := fun a e z h => by
    unfold diagT at h
    split at h
    · rename_i q
      cases h
      obtain ⟨rfl, _⟩ := q
      exact ⟨[], rfl, .nil _⟩
    · cases h
  low := fun a e w z ha l h => by
    have := List.length_eq_zero_iff.mp l
    subst this
    obtain ⟨rfl, rfl⟩ := h.nil_inv
    exact ⟨0, if_pos ⟨rfl, ha⟩, Int.le_refl _⟩
  inS := fun a e z h => by
    unfold diagT at h
    split at h
    · rename_i q
      obtain ⟨rfl, h⟩ := q
      exact ⟨h, h⟩
    · cases h
/-- the table with one row more, once the rows ahead of i are gone through -/
structure TabI (R : List (Rw α)) (S : List α) (F : Tb α) (i : Nat) (G : Tb α) : Prop where
  real : ∀ a e z, G a e = some z → ∃ j b c y, j < i ∧ R[j]? = some (a, b, c) ∧ F b e = some y ∧ z = c + y
  low : ∀ j a b c e y, j < i → R[j]? = some (a, b, c) → F b e = some y → lo (G a e) (c + y)
theorem TabI.first (R : List (Rw α)) (S : List α) (F : Tb α) : TabI R S F 0 (fun _ _ => none) where
  real := fun _ _ _ h => nomatch h
  low := fun j _ _ _ _ _ h => absurd h (Nat.not_lt_zero j)
/-- within the turn of row i: the ends that are gone through -/
structure TabJ (R : List (Rw α)) (S : List α) (F : Tb α) (i : Nat) (done : α → Prop) (G : Tb α) : Prop where
  real : ∀ a e z, G a e = some z → ∃ j b c y, j < i + 1 ∧ R[j]? = some (a, b, c) ∧ F b e = some y ∧ z = c + y
  low : ∀ j a b c e y, j < i → R[j]? = some (a, b, c) → F b e = some y → lo (G a e) (c + y)
  own : ∀ a b c e y, R[i]? = some (a, b, c) → done e → F b e = some y → lo (G a e) (c + y)
section
variable {R : List (Rw α)} {S : List α} {F G : Tb α} {i : Nat} {a b e : α} {c y : Int} {done : α → Prop}
theorem TabI.begin (T : TabI R S F i G) : TabJ R S F i (fun _ => False) G where
  real := fun a e z h => by
    obtain ⟨j, b, c, y, h1, h2⟩ := T.real a e z h
    exact ⟨j, b, c, y, by omega, h2⟩
  low := T.low
  own := fun _ _ _ _ _ _ h => h.elim
theorem TabJ.put (T : TabJ R S F i done G) (h : R[i]? = some (a, b, c)) (hy : F b e = some y) : TabJ R S F i (fun x => done x ∨ x = e) (up2 G a e (minO (G a e) (c + y))) where
  real := fun a' e' z hz => by
    by_cases q : a' = a ∧ e' = e
    · obtain ⟨rfl, rfl⟩ := q
      rw [up2_self] at hz
      cases hz
      rcases minO_is (G a' e') (c + y) with q | q
      · rw [q]
        exact ⟨i, b, c, y, by omega, h, hy, rfl⟩
      · exact T.real _ _ _ q
    · rw [up2_ne _ _ q] at hz
      exact T.real _ _ _ hz
  low := fun j a' b' c' e' y' hj hr hF => und_up _ _ _ (T.low j a' b' c' e' y' hj hr hF)
  own := fun a' b' c' e' y' hr d hF => by
    rw [h] at hr
    cases hr
    rcases d with d | rfl
    · exact und_up _ _ _ (T.own _ _ _ e' y' h d hF)
    · rw [hy] at hF
      cases hF
      exact ⟨_, up2_self .., minO_le _ _⟩
theorem TabJ.skip (T : TabJ R S F i done G) (h : R[i]? = some (a, b, c)) (hy : F b e = none) : TabJ R S F i (fun x => done x ∨ x = e) G where
  real := T.real
  low := T.low
  own := fun a' b' c' e' y' hr d hF => by
    rcases d with d | rfl
    · exact T.own _ _ _ e' y' hr d hF
    · rw [h] at hr
      cases hr
      rw [hy] at hF
      cases hF
theorem TabJ.weak {done' : α → Prop} (T : TabJ R S F i done G) (h : ∀ x, done' x → done x) : TabJ R S F i done' G where
  real := T.real
  low := T.low
  own := fun a b c e y hr d => T.own a b c e y hr (h e d)
theorem TabJ.last (T : TabJ R S F i (fun x => x ∈ S) G) (fS : ∀ a e z, F a e = some z → a ∈ S ∧ e ∈ S) : TabI R S F (i + 1) G where
  real := T.real
  low := fun j a b c e y hj hr hF => by
    rcases Nat.lt_or_ge j i with q | q
    · exact T.low j a b c e y q hr hF
    · have : j = i := by omega
      subst this
      exact T.own a b c e y hr (fS _ _ _ hF).2 hF
theorem Tab.succ {k : Nat} (T : Tab R S k F) (hS : ∀ a b c, (a, b, c) ∈ R → a ∈ S ∧ b ∈ S) (J : TabI R S F R.length G) : Tab R S (k + 1) G where
  real := fun a e z h => by
    obtain ⟨j, b, c, y, _, h2, h3, rfl⟩ := J.real a e z h
    obtain ⟨w, l, hw⟩ := T.real _ _ _ h3
    exact ⟨j :: w, by rw [List.length_cons, l], .cons h2 hw⟩
  low := fun a e w z ha l h => by
    cases w with
    | nil => cases l
    | cons j w =>
      obtain ⟨m, c, y, r, k', rfl⟩ := h.cons_inv
      have hm := (hS _ _ _ (List.mem_of_getElem? r)).2
      obtain ⟨x, h1, h2⟩ := T.low m e w y hm (by simpa using l) k'
      exact (J.low j a m c e x (List.getElem?_eq_some_iff.mp r).1 r h1).mono (by omega)
  inS := fun a e z h => by
    obtain ⟨j, b, c, y, _, h2, h3, _⟩ := J.real a e z h
    exact ⟨(hS _ _ _ (List.mem_of_getElem? h2)).1, (T.inS _ _ _ h3).2⟩
/-- the tables as far as they are made: none but the last one has a ring -/
theorem Tab.neg {k : Nat} (T : Tab R S k F) (hS : ∀ a b c, (a, b, c) ∈ R → a ∈ S ∧ b ∈ S) : Neg S F ↔ ∃ w, Ring R w ∧ w.length = k := by
  refine ⟨?_, ?_⟩
  · rintro ⟨a, _, z, e, l⟩
    obtain ⟨w, hl, hw⟩ := T.real _ _ _ e
    exact ⟨w, ⟨a, z, hw, l⟩, hl⟩
  · rintro ⟨w, ⟨a, z, hw, hz⟩, hl⟩
    have ha : a ∈ S := by
      cases hw with
      | nil => omega
      | cons r _ => exact (hS _ _ _ (List.mem_of_getElem? r)).1
    obtain ⟨y, h1, h2⟩ := T.low a a w z ha hl hw
    exact ⟨a, ha, y, h1, by omega⟩
/-- the first of all rings -/
def FirstRing (R : List (Rw α)) (w : List Nat) : Prop := Ring R w ∧ ∀ v, Ring R v → ¬ ahead v w
theorem FirstRing.uniq {w v : List Nat} (h : FirstRing R w) (k : FirstRing R v) : w = v := by
  rcases ahead_tri w v with q | q | q
  · exact absurd q (k.2 _ h.1)
  · exact q
  · exact absurd q (h.2 _ k.1)
theorem lx_take : ∀ {v w : List Nat} (n : Nat), v.length = w.length → lx v w → lx (v.take n) (w.take n) ∨ v.take n = w.take n
  | [], _, _, _, h => h.elim
  | _ :: _, [], _, _, h => h.elim
  | a :: v, b :: w, 0, _, _ => .inr rfl
  | a :: v, b :: w, n + 1, l, h => by
    rw [List.take_succ_cons, List.take_succ_cons]
    rcases h with h | ⟨rfl, h⟩
    · exact .inl (.inl h)
    · rcases lx_take n (by simpa using l) h with q | q
      · exact .inl (.inr ⟨rfl, q⟩)
      · exact .inr (by rw [q])
theorem take_one : ∀ (u v : List Nat) (i : Nat), (u ++ i :: v).take (u.length + 1) = u ++ [i]
  | [], _, _ => by simp
  | a :: u, v, i => by
    show (a :: (u ++ i :: v)).take (u.length + 1 + 1) = _
    rw [List.take_succ_cons, take_one u v i]
    rfl
/-- what holds while the first ring of T rows is put together: so many rows are left -/
structure Gr (R : List (Rw α)) (T left : Nat) (found : List Nat) (total : Int) (st here : α) : Prop where
  len : found.length + left = T
  way : found ≠ [] → Way R st found here total
  zer : found = [] → total = 0
  goes : ∃ w, Ring R w ∧ w.length = T ∧ w.take found.length = found
  best : ∀ w, Ring R w → w.length = T → ¬ lx (w.take found.length) found
theorem Gr.first {T : Nat} (h : ∃ w, Ring R w ∧ w.length = T) {st here : α} : Gr R T T [] 0 st here where
  len := Nat.zero_add _
  way := fun h => absurd rfl h
  zer := fun _ => rfl
  goes := let ⟨w, h1, h2⟩ := h; ⟨w, h1, h2, rfl⟩
  best := fun w _ _ => by
    show ¬ lx (w.take 0) []
    rw [List.take_zero]
    exact id
/-- a row that can come next -/
def Fits (F : Tb α) (found : List Nat) (total : Int) (st here : α) (r : Rw α) : Prop := (found ≠ [] → r.1 = here) ∧ ∃ y, F r.2.1 (if found = [] then r.1 else st) = some y ∧ total + r.2.2 + y < 0
theorem Gr.fits {T left : Nat} {found : List Nat} {total : Int} {st here : α} (g : Gr R T (left + 1) found total st here) (A : Tab R S left F) (hS : ∀ a b c, (a, b, c) ∈ R → a ∈ S ∧ b ∈ S)
    {w : List Nat} (hw : Ring R w) (lw : w.length = T) (ht : w.take found.length = found) : ∃ i r, w.take (found.length + 1) = found ++ [i] ∧ R[i]? = some r ∧ Fits F found total st here r := by
  obtain ⟨a, z, h, hz⟩ := hw
  have hl := g.len
  have hd : w = found ++ w.drop found.length := by
    conv => lhs; rw [← List.take_append_drop found.length w, ht]
  cases e : w.drop found.length with
  | nil =>
    have := congrArg List.length e
    rw [List.length_drop] at this
    simp at this
    omega
  | cons i v =>
    rw [e] at hd
    have tk : w.take (found.length + 1) = found ++ [i] := by
      rw [hd]
      exact take_one found v i
    rw [hd] at h
    obtain ⟨m, x, y, h1, h2, rfl⟩ := h.app_inv
    obtain ⟨b, c, y', r, h3, rfl⟩ := h2.cons_inv
    have lv : v.length = left := by
      have := congrArg List.length hd
      rw [List.length_append, List.length_cons] at this
      omega
    have hb := (hS _ _ _ (List.mem_of_getElem? r)).2
    obtain ⟨y2, h4, h5⟩ := A.low b a v y' hb lv h3
    refine ⟨i, (m, b, c), tk, r, ?_, ?_⟩
    · intro ne
      have := (g.way ne)
      cases hf : found with
      | nil => exact absurd hf ne
      | cons j u =>
        rw [hf] at this h1
        have es := this.start h1
        subst es
        exact (h1.uniq this).1
    · by_cases ne : found = []
      · subst ne
        obtain ⟨rfl, rfl⟩ := h1.nil_inv
        rw [if_pos rfl, g.zer rfl]
        exact ⟨y2, h4, by show 0 + c + y2 < 0; omega⟩
      · have hw2 := g.way ne
        cases hf : found with
        | nil => exact absurd hf ne
        | cons j u =>
          rw [hf] at hw2 h1
          have es := hw2.start h1
          subst es
          obtain ⟨_, ex⟩ := h1.uniq hw2
          rw [if_neg (by simp)]
          exact ⟨y2, h4, by show total + c + y2 < 0; omega⟩
theorem Gr.any {T left : Nat} {found : List Nat} {total : Int} {st here : α} (g : Gr R T (left + 1) found total st here) (A : Tab R S left F) (hS : ∀ a b c, (a, b, c) ∈ R → a ∈ S ∧ b ∈ S) : ∃ (i : Nat) (r : Rw α), R[i]? = some r ∧ Fits F found total st here r := by
  obtain ⟨w, h1, h2, h3⟩ := g.goes
  obtain ⟨i, r, _, h4, h5⟩ := g.fits A hS h1 h2 h3
  exact ⟨i, r, h4, h5⟩
theorem Gr.step {T left : Nat} {found : List Nat} {total : Int} {st here : α} (g : Gr R T (left + 1) found total st here) (A : Tab R S left F) (hS : ∀ a b c, (a, b, c) ∈ R → a ∈ S ∧ b ∈ S)
    (h : R[i]? = some (a, b, c)) (hf : Fits F found total st here (a, b, c)) (hno : ∀ (j : Nat) (r : Rw α), j < i → R[j]? = some r → ¬ Fits F found total st here r) : Gr R T left (found ++ [i]) (total + c) (if found = [] then a else st) b where
  len := by
    rw [List.length_append]
    have := g.len
    show found.length + 1 + left = T
    omega
  way := fun _ => by
    by_cases ne : found = []
    · subst ne
      rw [if_pos rfl, g.zer rfl, Int.zero_add]
      exact .one h
    · rw [if_neg ne]
      have e := hf.1 ne
      have e : a = here := e
      subst e
      exact (g.way ne).snoc h
  zer := fun q => absurd q (by simp)
  goes := by
    obtain ⟨y, h1, h2⟩ := hf.2
    obtain ⟨v, lv, hv⟩ := A.real _ _ _ h1
    have h2 : total + c + y < 0 := h2
    have hv : Way R b v (if found = [] then a else st) y := hv
    have hl := g.len
    refine ⟨found ++ [i] ++ v, ?_, ?_, by rw [List.append_assoc, List.length_append]; exact take_one found v i⟩
    · by_cases ne : found = []
      · subst ne
        rw [if_pos rfl] at hv
        refine ⟨a, c + y, .cons h hv, ?_⟩
        have := g.zer rfl
        omega
      · rw [if_neg ne] at hv
        have e := hf.1 ne
        have e : a = here := e
        subst e
        exact ⟨st, total + c + y, ((g.way ne).snoc h).app hv, h2⟩
    · rw [List.length_append, List.length_append, lv]
      show found.length + 1 + left = T
      omega
  best := fun w hw lw hx => by
    have hl := g.len
    have l1 : (found ++ [i]).length = found.length + 1 := by simp
    rw [l1] at hx
    have e1 : (w.take (found.length + 1)).take found.length = w.take found.length := by
      rw [List.take_take]
      congr 1
      omega
    have l2 : (w.take (found.length + 1)).length = (found ++ [i]).length := by
      rw [List.length_take, l1]
      omega
    rcases lx_take found.length l2 hx with q | q
    · rw [e1] at q
      have e2 : (found ++ [i]).take found.length = found := by simp
      rw [e2] at q
      exact g.best w hw lw q
    · rw [e1] at q
      have e2 : (found ++ [i]).take found.length = found := by simp
      rw [e2] at q
      obtain ⟨j, r, k1, k2, k3⟩ := g.fits A hS hw lw q
      rw [k1] at hx
      have : j < i := by
        have gen : ∀ (u : List Nat), lx (u ++ [j]) (u ++ [i]) → j < i := by
          intro u
          induction u with
          | nil =>
            intro h
            rcases h with h | ⟨_, h⟩
            · exact h
            · exact h.elim
          | cons a u ih =>
            intro h
            rcases h with h | ⟨_, h⟩
            · exact absurd h (Nat.lt_irrefl _)
            · exact ih h
        exact gen found hx
      exact hno j r this k2 k3
theorem Gr.last {T : Nat} {found : List Nat} {total : Int} {st here : α} (g : Gr R T 0 found total st here) (hmin : ∀ w, Ring R w → T ≤ w.length) : FirstRing R found := by
  have hl := g.len
  obtain ⟨w, h1, h2, h3⟩ := g.goes
  have e : w.take found.length = w := List.take_of_length_le (by omega)
  rw [e] at h3
  refine ⟨h3 ▸ h1, fun v hv hx => ?_⟩
  rcases hx with hx | ⟨l, hx⟩
  · have := hmin v hv
    omega
  · have e2 : v.take found.length = v := List.take_of_length_le (by omega)
    have := g.best v hv (by omega)
    rw [e2] at this
    exact this hx
/-- the first one of the rings that the law lists: l ascending, all the rings of the least length -/
theorem first_ring_of {w : List Nat} (h : FirstRing R w) {l : List (List Nat)} (h1 : ∀ v ∈ l, Ring R v ∧ v.length = w.length) (h2 : w ∈ l) {x : List Nat} (hx : x ∈ l) (hmin : ∀ v ∈ l, v = x ∨ lx x v ∨ ¬ lx v x) : x = w ∨ lx x w ∨ ¬ lx w x := (hmin w h2).imp (fun e => e.symm) id
end
end
end Wy
/-! Ways, part 6: the first of the ways with the least sums, round by round. -/
namespace Wy
section
variable {α : Type} [DecidableEq α]
section
variable {R : List (Rw α)} {S : List α} {st a b : α} {c x : Int} {s : α → Option Int}
/-- s: the least sums from st -/
structure Least (R : List (Rw α)) (S : List α) (st : α) (s : α → Option Int) : Prop where
  zero : s st = some 0
  real : ∀ b z, s b = some z → b ∈ S ∧ ∃ w, Way R st w b z
  low : ∀ b w z, Way R st w b z → lo (s b) z
theorem LS.toLeast (L : LS R S st s) (h : ∀ r ∈ R, ∀ x, s r.1 = some x → lo (s r.2.1) (x + r.2.2)) : Least R S st s := ⟨L.zero, L.real, fun _ _ _ k => L.least h k⟩
/-- a row that lies on a least way -/
def Tight (s : α → Option Int) (r : Rw α) : Prop := ∃ x, s r.1 = some x ∧ s r.2.1 = some (x + r.2.2)
/-- a way with the least sum -/
def LW (R : List (Rw α)) (st : α) (s : α → Option Int) (w : List Nat) (b : α) : Prop := ∃ z, Way R st w b z ∧ s b = some z
def FW (R : List (Rw α)) (st : α) (s : α → Option Int) (w : List Nat) (b : α) : Prop := LW R st s w b ∧ ∀ v, LW R st s v b → ¬ ahead v w
theorem FW.uniq {w v : List Nat} (h : FW R st s w b) (k : FW R st s v b) : w = v := by
  rcases ahead_tri w v with q | q | q
  · exact absurd q (k.2 _ h.1)
  · exact q
  · exact absurd q (h.2 _ k.1)
theorem LW.start (L : Least R S st s) : LW R st s [] st := ⟨0, .nil _, L.zero⟩
theorem FW.start (L : Least R S st s) : FW R st s [] st := ⟨.start L, fun v _ h => by
  rcases h with h | h
  · exact absurd h (Nat.not_lt_zero _)
  · cases v with
    | nil => exact h.2
    | cons _ _ => simp at h⟩
theorem LW.snoc {u : List Nat} {i : Nat} {r : Rw α} (h : LW R st s u r.1) (hr : R[i]? = some r) (t : Tight s r) : LW R st s (u ++ [i]) r.2.1 := by
  obtain ⟨z, h1, h2⟩ := h
  obtain ⟨x, t1, t2⟩ := t
  rw [h2] at t1
  cases t1
  exact ⟨_, h1.snoc hr, t2⟩
theorem LW.inv (L : Least R S st s) {u : List Nat} {i : Nat} (h : LW R st s (u ++ [i]) b) : ∃ m c, R[i]? = some (m, b, c) ∧ LW R st s u m ∧ Tight s (m, b, c) := by
  obtain ⟨z, h1, h2⟩ := h
  obtain ⟨m, x, c, k1, r, rfl⟩ := h1.snoc_inv
  obtain ⟨y, q1, q2⟩ := L.low m u x k1
  obtain ⟨hm, w, hw⟩ := L.real m y q1
  obtain ⟨t, q3, q4⟩ := L.low b _ _ (hw.snoc r)
  rw [h2] at q3
  cases q3
  have : x = y := by omega
  subst this
  exact ⟨m, c, r, ⟨x, k1, q1⟩, x, q1, h2⟩
theorem LW.has (L : Least R S st s) {z : Int} (h : s b = some z) : ∃ w, LW R st s w b := by
  obtain ⟨_, w, hw⟩ := L.real b z h
  exact ⟨w, z, hw, h⟩
theorem FW.has (L : Least R S st s) {w : List Nat} (h : LW R st s w b) : ∃ v, FW R st s v b ∧ v.length ≤ w.length := by
  obtain ⟨z, hw, hz⟩ := h
  have inst : ∀ v, Decidable (LW R st s v b ∨ False) := fun _ => Classical.propDecidable _
  have hm : w ∈ (waysTo R st b w.length).filter (fun v => decide (LW R st s v b ∨ False) ) := by
    refine List.mem_filter.mpr ⟨mem_ways.mpr ⟨Nat.le_refl _, z, hw⟩, ?_⟩
    exact decide_eq_true (.inl ⟨z, hw, hz⟩)
  cases hh : ((waysTo R st b w.length).filter (fun v => decide (LW R st s v b ∨ False))).head? with
  | none =>
    rw [List.head?_eq_none_iff] at hh
    rw [hh] at hm
    cases hm
  | some v =>
    have hv := List.mem_of_mem_head? hh
    obtain ⟨v1, v2⟩ := List.mem_filter.mp hv
    have v2 := (of_decide_eq_true v2).resolve_right id
    refine ⟨v, ⟨v2, fun u hu ha => ?_⟩, (mem_ways.mp v1).1⟩
    have lu : u.length ≤ w.length := by
      have := (mem_ways.mp v1).1
      rcases ha with ha | ha <;> omega
    obtain ⟨y, u1, u2⟩ := hu
    have mu : u ∈ (waysTo R st b w.length).filter (fun v => decide (LW R st s v b ∨ False)) := List.mem_filter.mpr ⟨mem_ways.mpr ⟨lu, y, u1⟩, decide_eq_true (.inl ⟨y, u1, u2⟩)⟩
    rcases head_first ((ways_asc R st b w.length).filter _) hh u mu with q | q
    · subst q
      exact ahead_irr _ ha
    · exact ahead_irr _ (ahead_trans ha q)
theorem FW.isFirst (L : Least R S st s) {w : List Nat} {z : Int} (h : FW R st s w b) (hz : s b = some z) : IsFirst R st b z w := by
  obtain ⟨⟨y, h1, h2⟩, h3⟩ := h
  rw [hz] at h2
  cases h2
  refine ⟨⟨z, h1, Int.le_refl _⟩, fun v y hv hy => h3 v ?_⟩
  obtain ⟨t, q1, q2⟩ := L.low b v y hv
  rw [hz] at q1
  cases q1
  have : y = z := by omega
  subst this
  exact ⟨y, hv, hz⟩
abbrev Ws (α : Type) := α → Option (List Nat)
/-- at the head of round k: wy the ways that are found, sp the spots of the last round -/
structure Bf (R : List (Rw α)) (S : List α) (st : α) (s : α → Option Int) (k : Nat) (wy : Ws α) (sp : List α) : Prop where
  is : ∀ b w, wy b = some w ↔ FW R st s w b ∧ w.length ≤ k
  mem : ∀ b, b ∈ sp ↔ ∃ w, wy b = some w ∧ w.length = k
  asc : sp.Pairwise fun x y => ∀ u v, wy x = some u → wy y = some v → lx u v
  num : sp ≠ [] → k + 1 ≤ (S.filter fun b => (wy b).isSome).length
def wy0 (st : α) : Ws α := fun b => if b = st then some [] else none
theorem Bf.first (L : Least R S st s) (hs : st ∈ S) : Bf R S st s 0 (wy0 st) [st] where
  is := fun b w => by
    unfold wy0
    refine ⟨fun h => ?_, fun ⟨h1, h2⟩ => ?_⟩
    · split at h
      · rename_i q
        cases h
        subst q
        exact ⟨.start L, Nat.le_refl _⟩
      · cases h
    · have := List.length_eq_zero_iff.mp (Nat.le_zero.mp h2)
      subst this
      obtain ⟨⟨z, h3, _⟩, _⟩ := h1
      obtain ⟨rfl, _⟩ := h3.nil_inv
      rw [if_pos rfl]
  mem := fun b => by
    unfold wy0
    rw [List.mem_singleton]
    refine ⟨?_, ?_⟩
    · rintro rfl
      exact ⟨[], if_pos rfl, rfl⟩
    · rintro ⟨w, h, _⟩
      split at h
      · assumption
      · cases h
  asc := by simp
  num := fun _ => by
    have : st ∈ S.filter fun b => (wy0 st b).isSome := List.mem_filter.mpr ⟨hs, by unfold wy0; rw [if_pos rfl]; rfl⟩
    exact List.length_pos_of_mem this
/-- within round k: wy0 the ways ahead of it; cut: what is gone through lies ahead of this list -/
structure Bg (R : List (Rw α)) (S : List α) (st : α) (s : α → Option Int) (k : Nat) (W0 : Ws α) (done : List Nat → Prop) (wy : Ws α) (lt : List α) : Prop where
  old : ∀ b w, W0 b = some w → wy b = some w
  own : ∀ b, b ∈ lt ↔ W0 b = none ∧ ∃ w, wy b = some w
  got : ∀ b w, W0 b = none → wy b = some w → (∃ u i m c, w = u ++ [i] ∧ W0 m = some u ∧ u.length = k ∧ R[i]? = some (m, b, c) ∧ Tight s (m, b, c)) ∧ done w
  all : ∀ m b c u i, W0 m = some u → u.length = k → R[i]? = some (m, b, c) → Tight s (m, b, c) → done (u ++ [i]) → ∃ v, wy b = some v ∧ (W0 b = none → v = u ++ [i] ∨ lx v (u ++ [i]))
  asc : lt.Pairwise fun x y => ∀ u v, wy x = some u → wy y = some v → lx u v
  cnt : lt.length + (S.filter fun b => (W0 b).isSome).length ≤ (S.filter fun b => (wy b).isSome).length
theorem Bg.first {k : Nat} {W0 : Ws α} {done : List Nat → Prop} (hd : ∀ w, w.length = k + 1 → ¬ done w) : Bg R S st s k W0 done W0 [] where
  old := fun _ _ h => h
  own := fun b => by
    refine ⟨fun h => absurd h (by simp), ?_⟩
    rintro ⟨h, w, h'⟩
    rw [h] at h'
    cases h'
  got := fun b w h h' => by rw [h] at h'; cases h'
  all := fun m b c u i _ hu _ _ h => absurd h (hd _ (by simp [hu]))
  asc := .nil
  cnt := by simp
theorem Bg.weak {k : Nat} {W0 wy : Ws α} {done done' : List Nat → Prop} {lt : List α} (B : Bg R S st s k W0 done wy lt)
    (h1 : ∀ w, w.length = k + 1 → done w → done' w) (h2 : ∀ m b c u i, W0 m = some u → u.length = k → R[i]? = some (m, b, c) → Tight s (m, b, c) → done' (u ++ [i]) → done (u ++ [i])) : Bg R S st s k W0 done' wy lt where
  old := B.old
  own := B.own
  got := fun b w h k' => by
    obtain ⟨⟨u, i, m, c, e, hu⟩, d⟩ := B.got b w h k'
    refine ⟨⟨u, i, m, c, e, hu⟩, h1 w ?_ d⟩
    rw [e, List.length_append, hu.2.1]
    rfl
  all := fun m b c u i h3 h4 h5 h6 h7 => B.all m b c u i h3 h4 h5 h6 (h2 m b c u i h3 h4 h5 h6 h7)
  asc := B.asc
  cnt := B.cnt
/-- one more row is gone through -/
theorem Bg.step {k : Nat} {W0 wy : Ws α} {lt : List α} {done done' : List Nat → Prop} {m : α} {u : List Nat} {i : Nat} (B : Bg R S st s k W0 done wy lt) (hm : W0 m = some u) (hu : u.length = k) (hr : R[i]? = some (m, b, c)) (ht : Tight s (m, b, c)) (hb : b ∈ S)
    (hd : ∀ w, done w → w.length = k + 1 → lx w (u ++ [i])) (hd' : ∀ w, done' w ↔ done w ∨ w = u ++ [i]) :
    (wy b = none → Bg R S st s k W0 done' (upf wy b (some (u ++ [i]))) (lt ++ [b])) ∧ (wy b ≠ none → Bg R S st s k W0 done' wy lt) := by
  refine ⟨fun hn => ?_, fun hn => ?_⟩
  · have n0 : W0 b = none := by
      cases e : W0 b with
      | none => rfl
      | some w => rw [B.old b w e] at hn; cases hn
    have nl : b ∉ lt := fun h => by
      obtain ⟨_, w, h⟩ := (B.own b).mp h
      rw [hn] at h
      cases h
    exact {
      old := fun b' w h => by
        rw [upf_ne _ _ (by rintro rfl; rw [n0] at h; cases h)]
        exact B.old b' w h
      own := fun b' => by
        rw [List.mem_append, List.mem_singleton]
        by_cases q : b' = b
        · subst q
          rw [upf_self]
          exact ⟨fun _ => ⟨n0, _, rfl⟩, fun _ => .inr rfl⟩
        · rw [upf_ne _ _ q]
          rw [← B.own b']
          exact ⟨fun h => h.resolve_right q, .inl⟩
      got := fun b' w h h' => by
        by_cases q : b' = b
        · subst q
          rw [upf_self] at h'
          cases h'
          exact ⟨⟨u, i, m, c, rfl, hm, hu, hr, ht⟩, (hd' _).mpr (.inr rfl)⟩
        · rw [upf_ne _ _ q] at h'
          obtain ⟨h1, h2⟩ := B.got b' w h h'
          exact ⟨h1, (hd' _).mpr (.inl h2)⟩
      all := fun m' b' c' u' i' h1 h2 h3 h4 h5 => by
        rcases (hd' _).mp h5 with h5 | h5
        · obtain ⟨v, h6, h7⟩ := B.all m' b' c' u' i' h1 h2 h3 h4 h5
          have q : b' ≠ b := by rintro rfl; rw [hn] at h6; cases h6
          exact ⟨v, by rw [upf_ne _ _ q]; exact h6, h7⟩
        · have e : i' = i := by
            have := congrArg List.getLast? h5
            simpa using this
          subst e
          rw [hr] at h3
          cases h3
          exact ⟨_, upf_self .., fun _ => .inl h5.symm⟩
      asc := by
        rw [List.pairwise_append]
        refine ⟨?_, by simp, ?_⟩
        · refine (List.Pairwise.and_mem.mp B.asc).imp ?_
          rintro x y ⟨hx, hy, h⟩ p q e1 e2
          rw [upf_ne _ _ (by rintro rfl; exact nl hx)] at e1
          rw [upf_ne _ _ (by rintro rfl; exact nl hy)] at e2
          exact h p q e1 e2
        · intro x hx y hy p q e1 e2
          rw [List.mem_singleton] at hy
          subst hy
          rw [upf_self] at e2
          cases e2
          rw [upf_ne _ _ (by rintro rfl; exact nl hx)] at e1
          obtain ⟨g1, _⟩ := (B.own x).mp hx
          obtain ⟨⟨u', i', m', c', e3, h4, h5, _⟩, h6⟩ := B.got x p g1 e1
          exact hd p h6 (by rw [e3, List.length_append, h5]; rfl)
      cnt := by
        have := B.cnt
        rw [List.length_append]
        show lt.length + 1 + _ ≤ _
        have h3 : (S.filter fun b => (wy b).isSome).length + 1 ≤ (S.filter fun x => (upf wy b (some (u ++ [i])) x).isSome).length := by
          clear this B hd hd' nl n0 hm hu hr ht
          induction S with
          | nil => cases hb
          | cons y S ih =>
            rw [List.filter_cons, List.filter_cons]
            by_cases q : y = b
            · subst q
              rw [upf_self, hn]
              have : (S.filter fun b => (wy b).isSome).length ≤ (S.filter fun x => (upf wy y (some (u ++ [i])) x).isSome).length := by
                rw [← List.countP_eq_length_filter, ← List.countP_eq_length_filter]
                refine List.countP_mono_left fun z _ hz => ?_
                unfold upf
                split
                · rfl
                · exact hz
              simp
              omega
            · have := ih (by rcases List.mem_cons.mp hb with z | z; exact absurd z.symm q; exact z)
              rw [upf_ne _ _ q]
              split
              · rw [List.length_cons, List.length_cons]
                omega
              · exact this
        omega }
  · obtain ⟨w, hw⟩ : ∃ w, wy b = some w := by
      cases e : wy b with
      | none => exact absurd e hn
      | some w => exact ⟨w, rfl⟩
    exact {
      old := B.old
      own := B.own
      got := fun b' w h h' => by
        obtain ⟨h1, h2⟩ := B.got b' w h h'
        exact ⟨h1, (hd' _).mpr (.inl h2)⟩
      all := fun m' b' c' u' i' h1 h2 h3 h4 h5 => by
        rcases (hd' _).mp h5 with h5 | h5
        · exact B.all m' b' c' u' i' h1 h2 h3 h4 h5
        · have e : i' = i := by
            have := congrArg List.getLast? h5
            simpa using this
          subst e
          rw [hr] at h3
          cases h3
          refine ⟨w, hw, fun n0 => .inr ?_⟩
          obtain ⟨⟨u2, i2, m2, c2, e3, h7, h8, _⟩, h9⟩ := B.got b w n0 hw
          have := hd w h9 (by rw [e3, List.length_append, h8]; rfl)
          rw [← h5] at this
          exact this
      asc := B.asc
      cnt := B.cnt }
/-- the round is over -/
theorem Bf.next {k : Nat} {W0 wy : Ws α} {sp lt : List α} (L : Least R S st s) (F : Bf R S st s k W0 sp) (hsp : sp ≠ []) (B : Bg R S st s k W0 (fun _ => True) wy lt) : Bf R S st s (k + 1) wy lt := by
  -- what is new is first
  have new : ∀ b w, W0 b = none → wy b = some w → FW R st s w b ∧ w.length = k + 1 := by
    intro b w h h'
    obtain ⟨⟨u, i, m, c, rfl, h1, h2, h3, h4⟩, _⟩ := B.got b w h h'
    have fu := ((F.is m u).mp h1).1
    have lw : LW R st s (u ++ [i]) b := fu.1.snoc h3 h4
    have ll : (u ++ [i]).length = k + 1 := by rw [List.length_append, h2]; rfl
    refine ⟨⟨lw, fun v hv ha => ?_⟩, ll⟩
    have no : ∀ v, LW R st s v b → k + 1 ≤ v.length := fun v hv => by
      rcases Nat.lt_or_ge v.length (k + 1) with q | q
      · obtain ⟨v', hv', l'⟩ := FW.has L hv
        have := (F.is b v').mpr ⟨hv', by omega⟩
        rw [h] at this
        cases this
      · exact q
    rcases ha with ha | ⟨la, ha⟩
    · have := no v hv
      omega
    · have hne : v ≠ [] := by rintro rfl; simp at la
      obtain ⟨u', i', rfl⟩ : ∃ u' i', v = u' ++ [i'] := ⟨v.dropLast, v.getLast hne, (List.dropLast_concat_getLast hne).symm⟩
      obtain ⟨m', c', r', k1, k2⟩ := hv.inv L
      have lu' : u'.length = k := by
        have : (u' ++ [i']).length = k + 1 := by omega
        simpa using this
      obtain ⟨u2, f2, l2⟩ := FW.has L k1
      have e2 : u2.length = k := by
        have : LW R st s (u2 ++ [i']) b := f2.1.snoc r' k2
        have := no _ this
        rw [List.length_append] at this
        have : k + 1 ≤ u2.length + 1 := this
        omega
      have w2 := (F.is m' u2).mpr ⟨f2, by omega⟩
      obtain ⟨v2, g1, g2⟩ := B.all m' b c' u2 i' w2 e2 r' k2 trivial
      rw [h'] at g1
      cases g1
      -- (u2, i') not behind (u', i')
      have c1 : u2 = u' ∨ lx u2 u' := by
        rcases lx_tri (w := u2) (v := u') (by omega) with q | q | q
        · exact .inr q
        · exact .inl q
        · exact absurd (.inr ⟨by omega, q⟩) (f2.2 u' k1)
      have c2 : lx (u2 ++ [i']) (u ++ [i]) := by
        rcases c1 with rfl | c1
        · exact ha
        · exact lx_trans (lx_len (by omega) c1) ha
      rcases g2 h with q | q
      · rw [q] at c2
        exact lx_irr _ c2
      · exact lx_irr _ (lx_trans c2 q)
  refine ⟨fun b w => ⟨fun h => ?_, fun ⟨h1, h2⟩ => ?_⟩, fun b => ?_, B.asc, fun hl => ?_⟩
  · cases e : W0 b with
    | none =>
      obtain ⟨h1, h2⟩ := new b w e h
      exact ⟨h1, by omega⟩
    | some w' =>
      have := B.old b w' e
      rw [h] at this
      cases this
      obtain ⟨h1, h2⟩ := (F.is b w).mp e
      exact ⟨h1, by omega⟩
  · rcases Nat.lt_or_ge k w.length with q | q
    · have hne : w ≠ [] := by rintro rfl; simp at q
      obtain ⟨u, i, rfl⟩ : ∃ u i, w = u ++ [i] := ⟨w.dropLast, w.getLast hne, (List.dropLast_concat_getLast hne).symm⟩
      obtain ⟨m, c, r, k1, k2⟩ := h1.1.inv L
      have lu : u.length = k := by
        have : (u ++ [i]).length = k + 1 := by omega
        simpa using this
      obtain ⟨u2, f2, l2⟩ := FW.has L k1
      have e2 : u2.length = k := by
        have h3 : LW R st s (u2 ++ [i]) b := f2.1.snoc r k2
        rcases Nat.lt_or_ge u2.length k with q' | q'
        · refine absurd (.inl ?_) (h1.2 _ h3)
          rw [List.length_append, List.length_append]
          show u2.length + 1 < u.length + 1
          omega
        · omega
      have w2 := (F.is m u2).mpr ⟨f2, by omega⟩
      obtain ⟨v, g1, _⟩ := B.all m b c u2 i w2 e2 r k2 trivial
      cases e : W0 b with
      | none =>
        have := (new b v e g1).1.uniq h1
        rw [this] at g1
        exact g1
      | some w' =>
        have h5 := (F.is b w').mp e
        have := h5.1.uniq h1
        subst this
        exact B.old _ _ e
    · exact B.old _ _ ((F.is b w).mpr ⟨h1, q⟩)
  · rw [B.own b]
    refine ⟨?_, ?_⟩
    · rintro ⟨h1, w, h2⟩
      exact ⟨w, h2, (new b w h1 h2).2⟩
    · rintro ⟨w, h2, h3⟩
      refine ⟨?_, w, h2⟩
      cases e : W0 b with
      | none => rfl
      | some w' =>
        have := B.old b w' e
        rw [h2] at this
        cases this
        have := ((F.is b w).mp e).2
        omega
  · have h1 := B.cnt
    have h2 := F.num hsp
    have : 1 ≤ lt.length := List.length_pos_iff.mpr hl
    omega
/-- no spot is left: all ways are told -/
theorem Bf.last {k : Nat} {wy : Ws α} (L : Least R S st s) (F : Bf R S st s k wy []) : ∀ b w, wy b = some w ↔ FW R st s w b := by
  have len : ∀ n, ∀ b w, FW R st s w b → w.length = n → w.length < k := by
    intro n
    intro b w h hn
    rcases Nat.lt_or_ge w.length k with q | q
    · exact q
    · exfalso
      have e : w = w.take k ++ w.drop k := (List.take_append_drop k w).symm
      obtain ⟨z, hw, hz⟩ := h.1
      -- what stands ahead is a least way, too
      have pre : ∀ (v u : List Nat) (b : α), LW R st s (u ++ v) b → ∃ m, LW R st s u m := by
        intro v
        induction v with
        | nil =>
          intro u b h
          rw [List.append_nil] at h
          exact ⟨b, h⟩
        | cons i v ih =>
          intro u b h
          have h' : LW R st s ((u ++ [i]) ++ v) b := by simpa using h
          obtain ⟨m, hm⟩ := ih (u ++ [i]) b h'
          obtain ⟨m', c, _, k1, _⟩ := hm.inv L
          exact ⟨m', k1⟩
      have pre2 : ∀ (v u u2 : List Nat) (b m : α), LW R st s (u ++ v) b → LW R st s u m → LW R st s u2 m → LW R st s (u2 ++ v) b := by
        intro v
        induction v with
        | nil =>
          intro u u2 b m h h1 h2
          rw [List.append_nil] at h ⊢
          obtain ⟨z1, p1, p2⟩ := h
          obtain ⟨z2, p3, p4⟩ := h1
          obtain ⟨rfl, _⟩ := p1.uniq p3
          exact h2
        | cons i v ih =>
          intro u u2 b m h h1 h2
          have h' : LW R st s ((u ++ [i]) ++ v) b := by simpa using h
          obtain ⟨m2, hm2⟩ := pre v (u ++ [i]) b h'
          obtain ⟨m3, c, r, k1, k2⟩ := hm2.inv L
          obtain ⟨z1, p1, _⟩ := k1
          obtain ⟨z2, p3, _⟩ := h1
          obtain ⟨rfl, _⟩ := p1.uniq p3
          have := ih (u ++ [i]) (u2 ++ [i]) b m2 h' hm2 (h2.snoc r k2)
          simpa using this
      have h0 := h.1
      rw [e] at h0
      obtain ⟨m, hm⟩ := pre _ _ _ h0
      obtain ⟨u2, f2, l2⟩ := FW.has L hm
      have lt : (w.take k).length = k := by rw [List.length_take]; omega
      rcases Nat.lt_or_ge u2.length k with q' | q'
      · have h3 := pre2 _ _ u2 _ m h0 hm f2.1
        refine h.2 _ h3 (.inl ?_)
        conv => rhs; rw [e]
        rw [List.length_append, List.length_append]
        omega
      · have := (F.is m u2).mpr ⟨f2, by omega⟩
        have := (F.mem m).mpr ⟨u2, this, by omega⟩
        cases this
  intro b w
  refine ⟨fun h => ((F.is b w).mp h).1, fun h => (F.is b w).mpr ⟨h, ?_⟩⟩
  have := len _ b w h rfl
  omega
end
end
end Wy
/-! Systems as lists of rows; names_of, spots_of. -/
namespace Lm
open PySem PySem.Spec PyProof.Rows L2
abbrev Rws := List (Wy.Rw Spot)
def rwD (r : Wy.Rw Spot) : PyData := .tuple [oD r.1, oD r.2.1, .int r.2.2]
/-- a value that is a system -/
def Sy (H : Hp) (v : V) (R : Rws) : Prop := ∃ D n d, DrawAt D n H ∧ Da D H v d ∧ rowsD d = some (R.map rwD) ∧ (R.map rwD).all rowD = true ∧ R.length ≤ 30
theorem Sy.sm {H H' : Hp} {v : V} {R : Rws} (h : Sy H v R) (s : Same H H') : Sy H' v R := by
  obtain ⟨D, n, d, h1, h2, h3⟩ := h
  exact ⟨D, n, d, h1.sm s, h2.sm s, h3⟩
theorem unO_oD (o : Spot) : unO (oD o) = o := by cases o <;> rfl
theorem row_un {d : PyData} (h : rowD d = true) : ∃ r, d = rwD r := by
  cases d with
  | tuple ds =>
    obtain ⟨a, b, c, rfl, _⟩ := row_three h
    obtain ⟨⟨h1, h2⟩, _, z, rfl⟩ := row_z h
    exact ⟨(unO a, unO b, z), by unfold rwD; rw [← side_un h1, ← side_un h2]⟩
  | _ => cases h
theorem rows_un : ∀ {ds : List PyData}, ds.all rowD = true → ∃ R : Rws, ds = R.map rwD
  | [], _ => ⟨[], rfl⟩
  | d :: ds, h => by
    rw [List.all_cons, Bool.and_eq_true] at h
    obtain ⟨r, rfl⟩ := row_un h.1
    obtain ⟨R, rfl⟩ := rows_un h.2
    exact ⟨r :: R, rfl⟩
/-- a row's tuple -/
def RwAt (H : Hp) (u : V) (r : Wy.Rw Spot) : Prop := ∃ q, u = .ref q ∧ H q = some (.tup [oV r.1, oV r.2.1, .int r.2.2])
theorem RwAt.sm {H H' : Hp} {u : V} {r : Wy.Rw Spot} (h : RwAt H u r) (s : Same H H') : RwAt H' u r := let ⟨q, e, k⟩ := h; ⟨q, e, s _ _ k⟩
theorem da_oD {D : DrA} {H : Hp} {v : V} {o : Spot} (h : Da D H v (oD o)) : v = oV o := by
  cases o with
  | none => cases h; rfl
  | some x => cases h; rfl
theorem da_row {D : DrA} {H : Hp} {v : V} {r : Wy.Rw Spot} (h : Da D H v (rwD r)) : RwAt H v r := by
  cases h with
  | tup hp _ _ ha =>
    cases ha with
    | cons h1 ha => cases ha with
    | cons h2 ha => cases ha with
    | cons h3 ha =>
      cases ha
      cases h3
      rw [da_oD h1, da_oD h2] at hp
      exact ⟨_, rfl, hp⟩
theorem Sy.at_ {H : Hp} {v : V} {R : Rws} (h : Sy H v R) : ∃ p us, v = .ref p ∧ (H p = some (.lst us) ∨ H p = some (.tup us)) ∧ us.length = R.length ∧ ∀ (i : Nat) (u : V), us[i]? = some u → ∃ r : Wy.Rw Spot, R[i]? = some r ∧ RwAt H u r := by
  obtain ⟨D, n, d, h1, h2, h3, h4, h5⟩ := h
  obtain ⟨p, us, rfl, ha, _, _, hp⟩ := h2.rows h3
  have l := ha.length
  rw [List.length_map] at l
  refine ⟨p, us, rfl, hp, l, fun i u hu => ?_⟩
  obtain ⟨d, hd, hda⟩ := ha.get hu
  rw [List.getElem?_map] at hd
  cases e : R[i]? with
  | none => rw [e] at hd; cases hd
  | some r =>
    rw [e] at hd
    cases hd
    exact ⟨r, rfl, da_row hda⟩
theorem rowD_ne {r : Wy.Rw Spot} (h : rowD (rwD r) = true) : r.1 ≠ r.2.1 := by
  obtain ⟨⟨h1, h2⟩, h3, _⟩ := row_z h
  have := side_ne h1 h2 h3
  rw [unO_oD, unO_oD] at this
  exact this
theorem Sy.ok {H : Hp} {v : V} {R : Rws} (h : Sy H v R) : ∀ r ∈ R, rowD (rwD r) = true := by
  obtain ⟨D, n, d, h1, h2, h3, h4, h5⟩ := h
  exact fun r hr => List.all_eq_true.mp h4 _ (List.mem_map.mpr ⟨r, hr, rfl⟩)
theorem Sy.ne {H : Hp} {v : V} {R : Rws} (h : Sy H v R) : ∀ a b c, (a, b, c) ∈ R → a ≠ b := fun a b c hr => rowD_ne (h.ok _ hr)
theorem Sy.len {H : Hp} {v : V} {R : Rws} (h : Sy H v R) : R.length ≤ 30 := by
  obtain ⟨D, n, d, h1, h2, h3, h4, h5⟩ := h
  exact h5
/-- the sides of the rows -/
def sidesR (R : Rws) : List Spot := R.flatMap fun r => [r.1, r.2.1]
theorem sides_map (R : Rws) : (R.map rwD).flatMap sidesD = sidesR R := by
  unfold sidesR
  rw [List.flatMap_map]
  congr 1
  funext r
  show [unO (oD r.1), unO (oD r.2.1)] = _
  rw [unO_oD, unO_oD]
def NmsOf (R : Rws) (ys : List Str) : Prop := AscOf ((sidesR R).filterMap id) ys
def spots (ys : List Str) : List Spot := none :: ys.map some
theorem spots_nodup {ys : List Str} (h : ys.Nodup) : (spots ys).Nodup := by
  refine List.nodup_cons.mpr ⟨fun z => ?_, ?_⟩
  · obtain ⟨x, _, e⟩ := List.mem_map.mp z
    cases e
  · exact List.Pairwise.map _ (fun a b h e => h (Option.some.inj e)) h
theorem NmsOf.mem {R : Rws} {ys : List Str} (h : NmsOf R ys) : ∀ a b c, (a, b, c) ∈ R → a ∈ spots ys ∧ b ∈ spots ys := by
  have one : ∀ o ∈ sidesR R, o ∈ spots ys := by
    intro o ho
    cases o with
    | none => exact List.mem_cons_self ..
    | some x => exact List.mem_cons_of_mem _ (List.mem_map.mpr ⟨x, (h.2.2 x).mpr (List.mem_filterMap.mpr ⟨some x, ho, rfl⟩), rfl⟩)
  intro a b c hr
  exact ⟨one a (List.mem_flatMap.mpr ⟨_, hr, List.mem_cons_self ..⟩), one b (List.mem_flatMap.mpr ⟨_, hr, List.mem_cons_of_mem _ (List.mem_cons_self ..)⟩)⟩
theorem sides_len (R : Rws) : (sidesR R).length = 2 * R.length := by
  unfold sidesR
  induction R with
  | nil => rfl
  | cons r R ih =>
    rw [List.flatMap_cons, List.length_append, ih, List.length_cons]
    simp
    omega
theorem NmsOf.len {R : Rws} {ys : List Str} (h : NmsOf R ys) (l : R.length ≤ 30) : ys.length ≤ 60 := by
  have h1 := AscOf.len h
  have h2 : ((sidesR R).filterMap id).length ≤ (sidesR R).length := List.length_filterMap_le _ _
  rw [sides_len] at h2
  omega
/-! ### walks over rows -/
theorem rows_it {K : PySem.W.Frag} {i : Nat} {σ : L2.St} {H0 H : Hp} {Rd : It → Hp → Prop} {p : Addr} {us : List V} (e : σ[i]? = some (some (.ref p))) (h : H0 p = some (.lst us) ∨ H0 p = some (.tup us)) (s0 : Same H0 H)
    (q : ∀ (J : It) (G : Hp → Prop), (∀ H', Same H0 H' → G H') → Walk J us.length G (YAt us) → Rd J H) : (iOr (iList K (tVar i)) (iTup K (tVar i))) σ H Rd := by
  rcases h with h | h
  · exact .inl ⟨_, e, p, rfl, ⟨_, SqL.of (s0 _ _ h)⟩, q _ (fun H => SqL K H p us) (fun H' s => SqL.of (s _ _ h)) walk_list⟩
  · exact .inr ⟨_, e, p, rfl, ⟨_, SqT.of (s0 _ _ h)⟩, q _ (fun H => SqT K H p us) (fun H' s => SqT.of (s _ _ h)) walk_tup⟩
def YEnum (us : List V) : Nat → Hp → V → Hp → Prop := fun i H v H' => ∃ T x, v = .ref T ∧ H T = none ∧ H' = upd H T (.tup [.int (i : Nat), x]) ∧ us[i]? = some x
theorem enum_it {K : PySem.W.Frag} {ta : TA} {σ : L2.St} {H0 H : Hp} {Rd : It → Hp → Prop} {p : Addr} {us : List V} (e : ∀ Q : List V → Hp → Prop, Q [.ref p] H → ta σ H Q) (h : H0 p = some (.lst us) ∨ H0 p = some (.tup us)) (s0 : Same H0 H)
    (q : ∀ (J : It) (G : Hp → Prop), (∀ H', Same H0 H' → G H') → Walk J us.length G (YEnum us) → Rd J H) : (iOr (iEnum K ta) (iEnumT K ta)) σ H Rd := by
  rcases h with h | h
  · exact .inl (e _ ⟨p, us, rfl, SqL.of (s0 _ _ h), q _ (fun H => SqL K H p us) (fun H' s => SqL.of (s _ _ h)) walk_enumL⟩)
  · exact .inr (e _ ⟨p, us, rfl, SqT.of (s0 _ _ h), q _ (fun H => SqT K H p us) (fun H' s => SqT.of (s _ _ h)) walk_enumT⟩)
section
variable {P : Program} {w : World} {K : PySem.W.Frag} {mg : Str → Option Value} {base : Heap}
def spNm : Sp := fun vs H Q _ => ∃ (v : V) (R : Rws), vs = [v] ∧ Sy H v R ∧ ∀ (H' : Hp) (q : Addr) (ys : List Str), NmsOf R ys → H q = none → H' q = some (.lst (ys.map V.str)) → Same H H' → Q (.ref q) H'
theorem ok_nm {f : Addr} {fd : FuncData} (F : Fun K "names_of" "names_of" sNO f fd) (N : Bl mg) : FnOk P w K mg base CX0 1 f fd ["rows"] spNm := by
  refine (ok_no F N).imp fun vs H Q E h => ?_
  obtain ⟨v, R, rfl, ⟨D, n, d, h1, h2, h3, h4, h5⟩, q⟩ := h
  refine ⟨D, n, v, d, R.map rwD, rfl, h1, h2, h3, h4, by rw [List.length_map]; exact h5, fun H' r ys ha nr hr s => q H' r ys ?_ nr hr s⟩
  rw [sides_map] at ha
  exact ha
abbrev sSpots : Stmt := topS 13
theorem scSpots : FnScope ["rows"] ["rows"] (defScope sSpots) := ⟨rfl, rfl, rfl, by decide +kernel, rfl, by decide +kernel, by decide +kernel⟩
def spSpots : Sp := fun vs H Q _ => ∃ (v : V) (R : Rws), vs = [v] ∧ Sy H v R ∧ ∀ (H' : Hp) (q : Addr) (ys : List Str), NmsOf R ys → H q = none → H' q = some (.lst ((spots ys).map oV)) → Same H H' → Q (.ref q) H'
theorem ok_spots {f : Addr} {fd : FuncData} (F : Fun K "spots_of" "spots_of" sSpots f fd) (GN : Has P w K mg base CX0 1 "names_of" ["rows"] spNm) : FnOk P w K mg base CX0 2 f fd ["rows"] spSpots := by
  refine F.ok scSpots (fun vs H Q E h => ?_) (fun cdv A outer s H vs Q E hr h => ?_)
  · obtain ⟨v, R, rfl, _⟩ := h
    rfl
  · obtain ⟨v, R, rfl, sy, q⟩ := h
    refine ⟨_, pss_one (ps_ret (pe_op op_cat (pe_lst (pa_cons pe_non pa_nil)) (pe_h GN hr (by decide) (by rfl) pass0 (pa_cons (pv 0) pa_nil)))), ?_⟩
    refine ⟨by show 1 ≤ sizeLine; decide, fun p np => ?_⟩
    have s1 : Same H (upd H p (.lst [.non])) := same_upd np
    have hp : (upd H p (.lst [.non])) p = some (.lst [.non]) := upd_same
    generalize upd H p (.lst [.non]) = H1 at s1 hp ⊢
    refine ⟨v, rfl, v, R, rfl, sy.sm s1, fun H2 q2 ys hn nq h2 s2 => ?_⟩
    have l1 := hn.len sy.len
    refine ⟨p, q2, _, _, rfl, rfl, s2 _ _ hp, h2, ?_, fun r nr => ?_⟩
    · rw [List.length_map]
      exact small10000 (by show 1 + ys.length ≤ 10000; omega)
    · refine q _ r ys hn (none_of s1 (none_of s2 nr)) ?_ fun b o e => same_upd nr _ _ (s2 _ _ (s1 _ _ e))
      rw [upd_same]
      unfold spots
      rw [List.map_cons, List.map_map]
      rfl
end
end Lm
/-! Helpers: dicts as maps over the spots. -/
namespace Lm
open PySem PySem.Spec PyProof.Rows L2
theorem ix_or {X : Cx} {a b : R2} (h1 : IxR X a) (h2 : IxR X b) : IxR X (fun x y H Q => a x y H Q ∨ b x y H Q) := fun value slice pins s σ H x y v u Q I rx ry h hs =>
  h.elim (fun h => h1 value slice pins s σ H x y v u Q I rx ry h hs) fun h => h2 value slice pins s σ H x y v u Q I rx ry h hs
theorem ix_tupK {X : Cx} (K : PySem.W.Frag) (hK : X.K = K := by rfl) : IxR X (rIxT K) := hK ▸ ix_tup
theorem ix_listK {X : Cx} (K : PySem.W.Frag) (hK : X.K = K := by rfl) : IxR X (rIxL K) := hK ▸ ix_list
theorem ix_seq {X : Cx} (K : PySem.W.Frag) (hK : X.K = K := by rfl) : IxR X (fun x y H Q => rIxL K x y H Q ∨ rIxT K x y H Q) := ix_or (ix_listK K hK) (ix_tupK K hK)
theorem seq_ix {K : PySem.W.Frag} {H : Hp} {Q : VK} {p : Addr} {us : List V} {i : Nat} {u : V} (h : H p = some (.lst us) ∨ H p = some (.tup us)) (e : us[i]? = some u) (q : Q u H) : rIxL K (.ref p) (.int (i : Nat)) H Q ∨ rIxT K (.ref p) (.int (i : Nat)) H Q := by
  rcases h with h | h
  · exact .inl ⟨p, us, _, u, rfl, rfl, SqL.of h, atI_nat e, q⟩
  · exact .inr ⟨p, us, _, u, rfl, rfl, SqT.of h, atI_nat e, q⟩
theorem oV_inj {a b : Spot} (h : oV a = oV b) : a = b := by
  cases a <;> cases b <;> first | rfl | cases h
  rfl
theorem oV_eq (a b : Spot) : decide (oV a = oV b) = decide (a = b) := by
  by_cases h : a = b
  · rw [h]
    simp
  · rw [decide_eq_false h, decide_eq_false fun z => h (oV_inj z)]
theorem oV_scal (a b : Spot) : scal (oV a) (oV b) = true := by cases a <;> cases b <;> rfl
/-- a dict that maps spots of S -/
def MapS (P : Program) (w : World) (H : Hp) (a : Addr) (S : List Spot) (f : Spot → Option V) : Prop := ∃ ks : SK, H a = some (NS P w a ks) ∧ (ks.map (·.1)).Nodup ∧ (∀ k ∈ ks.map (·.1), k ∈ S) ∧ ∀ x, valV ks x = f x
section
variable {P : Program} {w : World} {H H' : Hp} {a : Addr} {S : List Spot} {f : Spot → Option V}
theorem MapS.sm (h : MapS P w H a S f) (s : Same H H') : MapS P w H' a S f := let ⟨ks, e, r⟩ := h; ⟨ks, s _ _ e, r⟩
theorem MapS.at_ (h : MapS P w H a S f) (s : ∀ o, H a = some o → H' a = some o) : MapS P w H' a S f := let ⟨ks, e, r⟩ := h; ⟨ks, s _ e, r⟩
theorem sk_put_nodup {ks : SK} (nd : (ks.map (·.1)).Nodup) (o : Spot) (v : V) : ((putK ks o v).map (·.1)).Nodup := by
  rw [putK_keys]
  split
  · exact nd
  · rename_i h
    exact List.nodup_append.mpr ⟨nd, by simp, fun a ha b hb e => h (by rw [List.mem_singleton] at hb; rw [← hb, ← e]; exact ha)⟩
theorem sk_put_mem {ks : SK} {S : List Spot} (h : ∀ k ∈ ks.map (·.1), k ∈ S) {o : Spot} (ho : o ∈ S) (v : V) : ∀ k ∈ (putK ks o v).map (·.1), k ∈ S := by
  intro k hk
  rw [putK_keys] at hk
  split at hk
  · exact h k hk
  · rcases List.mem_append.mp hk with q | q
    · exact h k q
    · rw [List.mem_singleton] at q
      rw [q]
      exact ho
theorem sk_len {ks : SK} {S : List Spot} (nd : (ks.map (·.1)).Nodup) (h : ∀ k ∈ ks.map (·.1), k ∈ S) : ks.length ≤ S.length := by
  have := Wy.pig nd h
  rw [List.length_map] at this
  exact this
theorem lt1000 {n : Nat} (h : n ≤ 1000) : n < sizeLine := by rw [sizeLine_eq]; omega
theorem MapS.put {ks : SK} (h1 : (ks.map (·.1)).Nodup) (h2 : ∀ k ∈ ks.map (·.1), k ∈ S) (h3 : ∀ x, valV ks x = f x) {o : Spot} (ho : o ∈ S) (v : V) : MapS P w (upd H a (NS P w a (putK ks o v))) a S (Wy.upf f o (some v)) :=
  ⟨_, upd_same, sk_put_nodup h1 o v, sk_put_mem h2 ho v, fun x => by
    rw [valV_put]
    unfold Wy.upf
    rw [h3]⟩
theorem MapS.nil : MapS P w (upd H a (NS P w a [])) a S (fun _ => none) := ⟨[], upd_same, by simp, fun _ h => absurd h (by simp), fun _ => rfl⟩
theorem MapS.one {o : Spot} {v : V} (ho : o ∈ S) : MapS P w (upd H a (NS P w a [(o, v)])) a S (Wy.upf (fun _ => none) o (some v)) :=
  ⟨_, upd_same, by simp, fun k hk => by simp at hk; rw [hk]; exact ho, fun x => by
    unfold Wy.upf
    by_cases e : o = x
    · rw [valV_pos e, if_pos e.symm]
    · rw [valV_neg e, if_neg (fun z => e z.symm)]
      rfl⟩
theorem valV_mem {κ : Type} [DecidableEq κ] {ks : List (κ × V)} (nd : (ks.map (·.1)).Nodup) {k : κ} {v : V} (h : (k, v) ∈ ks) : valV ks k = some v := by
  induction ks with
  | nil => cases h
  | cons p r ih =>
    obtain ⟨n1, n2⟩ := List.nodup_cons.mp nd
    rcases List.mem_cons.mp h with e | h
    · subst e
      exact valV_pos rfl
    · rw [valV_neg (fun e => n1 (by show p.1 ∈ _; rw [e]; exact List.mem_map.mpr ⟨(k, v), h, rfl⟩))]
      exact ih n2 h
theorem valV_key {κ : Type} [DecidableEq κ] {ks : List (κ × V)} {k : κ} {v : V} (h : valV ks k = some v) : (k, v) ∈ ks := by
  induction ks with
  | nil => cases h
  | cons p r ih =>
    by_cases e : p.1 = k
    · rw [valV_pos e] at h
      cases h
      rw [← e]
      exact List.mem_cons_self ..
    · rw [valV_neg e] at h
      exact List.mem_cons_of_mem _ (ih h)
end
theorem upd_apart {H : Hp} {a b : Addr} {o x : HO} (h : H a = some x) (n : a ≠ b) : (upd H b o) a = some x := by rw [upd_ne n]; exact h
/-! the rules with the program named, for blocks -/
section
variable {X : Cx} {o i e f k v value : Expr} {td ty tx tv tk : TE} {pos pos' apos cpos : Pos}
theorem pe_dgetSP (P : Program) (w : World) (ho : PE X o td) (hi : PE X i ty) (hs : NoSl i) (hP : X.prog = P := by rfl) (hw : X.w = w := by rfl) : PE X (.Subscript o i pos) (tDGetS P w td ty) := by
  subst hP hw
  exact pe_dgetS ho hi hs
theorem pc_dinSP (P : Program) (w : World) (hi : PE X i ty) (ho : PE X o td) (hP : X.prog = P := by rfl) (hw : X.w = w := by rfl) : PC X .In i o (tDInS P w ty td) := by
  subst hP hw
  exact pc_dinS hi ho
theorem pc_dnotinSP (P : Program) (w : World) (hi : PE X i ty) (ho : PE X o td) (hP : X.prog = P := by rfl) (hw : X.w = w := by rfl) : PC X .NotIn i o (tDNotInS P w ty td) := by
  subst hP hw
  exact pc_dnotinS hi ho
theorem pe_dnewSP (P : Program) (w : World) (hP : X.prog = P := by rfl) (hw : X.w = w := by rfl) : PE X (.Dict [] [] pos) (tDNewS P w) := by
  subst hP hw
  exact pe_dnewS
theorem pe_disSP (P : Program) (w : World) (hk : PE X k tk) (hv : PE X v tv) (hP : X.prog = P := by rfl) (hw : X.w = w := by rfl) : PE X (.Dict [some k] [v] pos) (tDisS P w tk tv) := by
  subst hP hw
  exact pe_disS hk hv
theorem pe_dgetXP (P : Program) (w : World) (hu : X.A.units + 64 < cLine) (ho : PE X o td) (hi : PE X i ty) (hs : NoSl i) (hP : X.prog = P := by rfl) (hw : X.w = w := by rfl) : PE X (.Subscript o i pos) (tDGetX P w td ty) := by
  subst hP hw
  exact pe_dgetX hu ho hi hs
theorem pc_dinXP (P : Program) (w : World) (hu : X.A.units + 64 < cLine) (hi : PE X i ty) (ho : PE X o td) (hP : X.prog = P := by rfl) (hw : X.w = w := by rfl) : PC X .In i o (tDInX P w ty td) := by
  subst hP hw
  exact pc_dinX hu hi ho
theorem pc_dnotinXP (P : Program) (w : World) (hu : X.A.units + 64 < cLine) (hi : PE X i ty) (ho : PE X o td) (hP : X.prog = P := by rfl) (hw : X.w = w := by rfl) : PC X .NotIn i o (tDNotInX P w ty td) := by
  subst hP hw
  exact pc_dnotinX hu hi ho
theorem ps_dputSP (P : Program) (w : World) (ho : PE X o td) (hi : PE X i ty) (hv : PE X value tv) (hs : swapsWith value (some (.Subscript o i pos')) pos.line X.env = pure false) (hP : X.prog = P := by rfl) (hw : X.w = w := by rfl) : PS X (.Assign [.Subscript o i pos'] value pos) (sDPutS P w td ty tv) := by
  subst hP hw
  exact ps_dputS ho hi hv hs
theorem pe_dget2SP (P : Program) (w : World) (ho : PE X o td) (he : PE X e ty) (hf : PE X f tx) (m : M2 X o "get" apos e f cpos) (hP : X.prog = P := by rfl) (hw : X.w = w := by rfl) : PE X (.Call (.Attribute o "get" apos) [e, f] [] cpos) (tDGet2S P w td ty tx) := by
  subst hP hw
  exact pe_dget2S ho he hf m
theorem pe_dget1SP (P : Program) (w : World) (ho : PE X o td) (he : PE X e ty) (m : M1 X o "get" apos e cpos) (hP : X.prog = P := by rfl) (hw : X.w = w := by rfl) : PE X (.Call (.Attribute o "get" apos) [e] [] cpos) (tDGet1S P w td ty) := by
  subst hP hw
  exact pe_dget1S ho he m
theorem pe_dsetdSP (P : Program) (w : World) (ho : PE X o td) (he : PE X e ty) (hf : PE X f tx) (m : M2 X o "setdefault" apos e f cpos) (hP : X.prog = P := by rfl) (hw : X.w = w := by rfl) : PE X (.Call (.Attribute o "setdefault" apos) [e, f] [] cpos) (tDSetdS P w td ty tx) := by
  subst hP hw
  exact pe_dsetdS ho he hf m
theorem call_lenSP (P : Program) (w : World) (hP : X.prog = P := by rfl) (hw : X.w = w := by rfl) : CallR X (.builtin "len") (rLenS P w) := by
  subst hP hw
  exact call_lenS
theorem ps_dputXP (P : Program) (w : World) (hu : X.A.units + 64 < cLine) (ho : PE X o td) (hi : PE X i ty) (hv : PE X value tv) (hs : swapsWith value (some (.Subscript o i pos')) pos.line X.env = pure false) (hP : X.prog = P := by rfl) (hw : X.w = w := by rfl) : PS X (.Assign [.Subscript o i pos'] value pos) (sDPutX P w td ty tv) := by
  subst hP hw
  exact ps_dputX hu ho hi hv hs
theorem pe_dget2XP (P : Program) (w : World) (hu : X.A.units + 64 < cLine) (ho : PE X o td) (he : PE X e ty) (hf : PE X f tx) (m : M2 X o "get" apos e f cpos) (hP : X.prog = P := by rfl) (hw : X.w = w := by rfl) : PE X (.Call (.Attribute o "get" apos) [e, f] [] cpos) (tDGet2X P w td ty tx) := by
  subst hP hw
  exact pe_dget2X hu ho he hf m
theorem pe_dnewXP (P : Program) (w : World) (hP : X.prog = P := by rfl) (hw : X.w = w := by rfl) : PE X (.Dict [] [] pos) (tDNewX P w) := by
  subst hP hw
  exact pe_dnewX
theorem pe_dcSP (P : Program) (w : World) {kx vx tg iter : Expr} {ifs : List Expr} {scope : Scope} {own : List (Str × Nat)} {wi : TI} {g : TG} {tt : TT} {tk tv : TE} (hc : X.calm = true) (hN : X.N.Nodup) (hi : PI X tg iter wi) (ok : BlkOk X.N X.env.scope scope own)
    (hg : ∀ (s : Shared) (H : Hp) (C : Addr) (cl : List (Str × Addr)) (fp : List Addr), PG (X.blk s H scope (compEnvC scope cl C X.env) fp) tg g) (ht : ∀ (s : Shared) (H : Hp) (C : Addr) (cl : List (Str × Addr)) (fp : List Addr), PTs (X.blk s H scope (compEnvC scope cl C X.env) fp) ifs tt)
    (hk : ∀ (s : Shared) (H : Hp) (C : Addr) (cl : List (Str × Addr)) (fp : List Addr), PE (X.blk s H scope (compEnvC scope cl C X.env) fp) kx tk)
    (he : ∀ (s : Shared) (H : Hp) (C : Addr) (cl : List (Str × Addr)) (fp : List Addr), PE (X.blk s H scope (compEnvC scope cl C X.env) fp) vx tv) (hs : ∀ x, foldedSetIterable iter X.env x = pure x := by intro _; rfl) (hP : X.prog = P := by rfl) (hw : X.w = w := by rfl) :
    PE X (.DictComp kx vx [⟨tg, iter, ifs, 0⟩] scope pos) (tDcS P w wi g tt tk tv (own.map (·.2))) := by
  subst hP hw
  exact pe_dcS hc hN hi ok hg ht hk he hs
end
end Lm
/-! ring_through. -/
namespace Lm
open PySem PySem.Spec PyProof.Rows L2
def natV (o : Option Nat) : Option V := o.map fun k => V.int ((k : Nat) : Int)
section
variable {P : Program} {w : World} {K : PySem.W.Frag} {mg : Str → Option Value} {base : Heap}
abbrev sRT : Stmt := topS 15
def nRT : List Str := ["rows", "came", "spot", "count", "_", "back", "here"]
theorem scRT : FnScope nRT ["rows", "came", "spot", "count"] (defScope sRT) := ⟨rfl, rfl, rfl, by decide +kernel, rfl, by decide +kernel, by decide +kernel⟩
def spRT (P : Program) (w : World) : Sp := fun vs H Q _ => ∃ (v : V) (R : Rws) (c : Addr) (x : Spot) (n : Nat) (cm : Spot → Option Nat) (S : List Spot) (L : Nat), vs = [v, .ref c, oV x, .int (n : Nat)] ∧ Sy H v R ∧ MapS P w H c S (fun y => natV (cm y)) ∧ (∀ y k, cm y = some k → k < R.length) ∧
  (∀ j, cm (Wy.bkn R cm x j) ≠ none) ∧ n ≤ 100 ∧ 1 ≤ L ∧ L ≤ 100 ∧ Wy.bkn R cm (Wy.bkn R cm x n) L = Wy.bkn R cm x n ∧ ∀ (H' : Hp) (q : Addr) (us : List V), H' q = some (.lst us) → Same H H' → Q (.ref q) H'
theorem ok_rt {f : Addr} {fd : FuncData} (F : Fun K "ring_through" "ring_through" sRT f fd) (N : Bl mg) : FnOk P w K mg base CX0 1 f fd ["rows", "came", "spot", "count"] (spRT P w) := by
  refine F.ok scRT (fun vs H Q E h => ?_) (fun cdv A outer s H vs Q E hr h => ?_)
  · obtain ⟨v, R, c, x, n, cm, S, L, rfl, _⟩ := h
    rfl
  · obtain ⟨v, R, c, x, n, cm, S, L, rfl, sy, hc, hk, al, n1, l1, l2, cyc, q⟩ := h
    refine ⟨_, pss_cons (ps_for PassesOwn.never rfl (pi_range1 (by rfl) N.brng (pa_cons (pv 3) pa_nil)) (pg_name (i := 4) scRT.nd rfl (.inl rfl))
        (pss_one (ps_set (i := 2) scRT.nd rfl (.inl rfl) (pe_ix (ix_tupK K) (pe_ix (ix_seq K) (pv 0) (pe_dgetSP P w (pv 1) (pv 2) (fun _ _ => rfl)) (fun _ _ => rfl)) pe_int (fun _ _ => rfl)))))
      (pss_cons (ps_set (i := 5) scRT.nd rfl (.inl rfl) (pe_lst (pa_cons (pe_dgetSP P w (pv 1) (pv 2) (fun _ _ => rfl)) pa_nil)))
      (pss_cons (ps_set (i := 6) scRT.nd rfl (.inl rfl) (pe_ix (ix_tupK K) (pe_ix (ix_seq K) (pv 0) (pe_dgetSP P w (pv 1) (pv 2) (fun _ _ => rfl)) (fun _ _ => rfl)) pe_int (fun _ _ => rfl)))
      (pss_cons (ps_while PassesOwn.never (pt_cmpR op_ne (pv 6) (pv 2) (nomark _))
        (pss_cons (ps_expr (pe_bm PySem.F.plainAttrs_list PySem.F.slot_list_append PySem.F.type_list_append mt_append (pv 5) (pa_cons (pe_dgetSP P w (pv 1) (pv 6) (fun _ _ => rfl)) pa_nil)))
          (pss_one (ps_set (i := 6) scRT.nd rfl (.inl rfl) (pe_ix (ix_tupK K) (pe_ix (ix_seq K) (pv 0) (pe_dgetSP P w (pv 1) (pv 6) (fun _ _ => rfl)) (fun _ _ => rfl)) pe_int (fun _ _ => rfl))))))
      (pss_one (ps_ret (pe_revL (pv 5))))))), ?_⟩
    obtain ⟨p, us, rfl, hp, lu, hu⟩ := sy.at_
    obtain ⟨ks, hc1, nd, inS, hv⟩ := hc
    -- one step back
    have step : ∀ (y : Spot), cm y ≠ none → ∃ k, valV ks y = some (.int ((k : Nat) : Int)) ∧ ∃ u q r, us[k]? = some u ∧ u = .ref q ∧ H q = some (.tup [oV (Wy.bk R cm y), oV r.2.1, .int r.2.2]) ∧ R[k]? = some r := by
      intro y hy
      cases e : cm y with
      | none => exact absurd e hy
      | some k =>
        have hl := hk y k e
        obtain ⟨r, hr⟩ : ∃ r, R[k]? = some r := ⟨R[k], List.getElem?_eq_getElem hl⟩
        have hl2 : k < us.length := by omega
        obtain ⟨r', hr', q', e', hq'⟩ := hu k us[k] (List.getElem?_eq_getElem hl2)
        rw [hr] at hr'
        cases hr'
        refine ⟨k, by rw [hv]; show natV (cm y) = _; rw [e]; rfl, us[k], q', r, List.getElem?_eq_getElem hl2, e', ?_, hr⟩
        have : Wy.bk R cm y = r.1 := Wy.bk_of e (show R[k]? = some (r.1, r.2.1, r.2.2) from hr)
        rw [this]
        exact hq'
    have get : ∀ (y : Spot) (H' : Hp) (Q' : VK), Same H H' → cm y ≠ none → (∀ k, Q' (.int ((k : Nat) : Int)) H') → ∃ a ks o v, V.ref c = .ref a ∧ Rd H' a (NS P w a ks) ∧ oV y = oV o ∧ valV ks o = some v ∧ Q' v H' := by
      intro y H' Q' s hy h
      obtain ⟨k, h1, _⟩ := step y hy
      exact ⟨c, ks, y, _, rfl, .inl (s _ _ hc1), rfl, h1, h k⟩
    have back : ∀ (y : Spot) (H' : Hp) (Q' : VK), Same H H' → cm y ≠ none → Q' (oV (Wy.bk R cm y)) H' → ∃ a ks o v, V.ref c = .ref a ∧ Rd H' a (NS P w a ks) ∧ oV y = oV o ∧ valV ks o = some v ∧ (rIxL K (.ref p) v H' (fun z H2 => rIxT K z (.int 0) H2 Q') ∨ rIxT K (.ref p) v H' (fun z H2 => rIxT K z (.int 0) H2 Q')) := by
      intro y H' Q' s hy h
      obtain ⟨k, h1, u, q', r, h2, rfl, h3, h4⟩ := step y hy
      refine ⟨c, ks, y, _, rfl, .inl (s _ _ hc1), rfl, h1, seq_ix (hp.imp (s _ _) (s _ _)) h2 ?_⟩
      exact ⟨q', _, 0, _, rfl, rfl, SqT.of (s _ _ h3), atI_nat (j := 0) rfl, h⟩
    refine ⟨_, rfl, n, rfl, by omega, by omega, for_range (fun i σ H' => H' = H ∧ ∃ x4, σ = [some (.ref p), some (.ref c), some (oV (Wy.bkn R cm x i)), some (.int (n : Nat)), x4, none, none]) ⟨rfl, none, rfl⟩ ?_ ?_⟩
    · rintro i σ H' hi ⟨rfl, x4, rfl⟩
      refine ⟨_, rfl, _, rfl, _, rfl, ?_⟩
      exact back _ H' _ (fun _ _ z => z) (al i) ⟨rfl, _, rfl⟩
    · rintro σ H' ⟨rfl, x4, rfl⟩
      rw [Int.toNat_natCast]
      generalize hs0 : Wy.bkn R cm x n = s0 at cyc ⊢
      have al0 : ∀ j, cm (Wy.bkn R cm s0 j) ≠ none := fun j => by rw [← hs0, ← Wy.bkn_add]; exact al _
      refine ⟨_, rfl, _, rfl, get s0 H' _ (fun _ _ z => z) (al0 0) fun k => ⟨by show 1 ≤ sizeLine; decide, fun b nb => ?_⟩⟩
      have s1 := same_upd (o := .lst [.int ((k : Nat) : Int)]) nb
      have hb1 : (upd H' b (.lst [.int ((k : Nat) : Int)])) b = some (.lst [.int ((k : Nat) : Int)]) := upd_same
      generalize upd H' b (.lst [.int ((k : Nat) : Int)]) = H1 at s1 hb1 ⊢
      refine ⟨_, rfl, _, rfl, _, rfl, back s0 H1 _ s1 (al0 0) ?_⟩
      refine while_by (fun σ H2 => ∃ (j : Nat) (acc : List V), σ = [some (.ref p), some (.ref c), some (oV s0), some (.int (n : Nat)), x4, some (.ref b), some (oV (Wy.bkn R cm s0 (j + 1)))] ∧ j < L ∧ H2 b = some (.lst acc) ∧ acc.length = j + 1 ∧ Same H' H2)
        (fun σ H2 => match H2 b with | some (.lst xs) => L + 1 - xs.length | _ => 0) ⟨0, _, rfl, l1, hb1, rfl, s1⟩ ?_ ?_
      · rintro σ H2 ⟨j, acc, rfl, hj, hb2, la, s2⟩
        refine ⟨_, rfl, _, rfl, oV_scal _ _, _, rfl, ?_⟩
        rw [oV_eq]
        by_cases e : Wy.bkn R cm s0 (j + 1) = s0
        · rw [decide_eq_true e]
          refine iteF ⟨_, rfl, b, acc, rfl, SqL.of hb2, fun r nr => ?_⟩
          exact q _ r _ upd_same fun b' o e' => same_upd nr _ _ (s2 _ _ e')
        · rw [decide_eq_false e]
          have hj2 : j + 1 < L := by
            rcases Nat.lt_or_ge (j + 1) L with h | h
            · exact h
            · have : j + 1 = L := by omega
              rw [this] at e
              exact absurd cyc e
          refine iteT ⟨_, rfl, .inl ⟨rfl, _, SqL.of hb2⟩, _, rfl, _, rfl, get _ H2 _ s2 (al0 (j + 1)) fun k2 => ⟨b, acc, _, rfl, rfl, hb2, small1000 (by omega), ?_⟩⟩
          have s3 : Same H' (upd H2 b (.lst (acc ++ [.int ((k2 : Nat) : Int)]))) := same_put s2 nb
          have hb3 : (upd H2 b (.lst (acc ++ [.int ((k2 : Nat) : Int)]))) b = some (.lst (acc ++ [.int ((k2 : Nat) : Int)])) := upd_same
          refine ⟨_, rfl, _, rfl, _, rfl, back _ _ _ s3 (al0 (j + 1)) ⟨⟨j + 1, _, rfl, hj2, hb3, by rw [List.length_append, la]; rfl, s3⟩, ?_⟩⟩
          rw [hb3, hb2]
          show L + 1 - (acc ++ [_]).length < L + 1 - acc.length
          rw [List.length_append, la]
          show L + 1 - (j + 1 + 1) < _
          omega
      · rintro σ H2 Q1 Q2 mono ⟨a1, e1, a2, e2, sc, k, ek, h⟩
        exact ⟨a1, e1, a2, e2, sc, k, ek, mono _ _ h⟩
end
end Lm
/-! weighed. -/
namespace Lm
open PySem PySem.Spec PyProof.Rows L2
theorem pi_enumK {X : Cx} {e : Expr} {ta : TA} {p pos tpos : Pos} {elts : List Expr} {kk : Nat} (K : PySem.W.Frag) (hg : Gl X "enumerate") (hm : X.mg "enumerate" = none) (ha : PA X [e] ta) (hK : X.K = K := by rfl)
    (hs : starEach [e] X.env = [(false, eval e X.env)] := by rfl) : PI X (.Tuple elts kk tpos) (.Call (.Name "enumerate" p) [e] [] pos) (iOr (iEnum K ta) (iEnumT K ta)) := by
  subst hK
  exact pi_or (pi_enum hg hm ha hs) (pi_enumT hg hm ha hs)
theorem pi_rowsK {X : Cx} {tg l : Expr} {tl : TE} (K : PySem.W.Frag) (hl : PE X l tl) (hK : X.K = K := by rfl) : PI X tg l (iOr (iList K tl) (iTup K tl)) := pi_or (pi_listK K hl hK) (pi_tupK K hl hK)
/-- a dict whose keys stay, and whose values are numbers -/
def VAt (P : Program) (w : World) (H : Hp) (a : Addr) (KS : List Spot) (v : Spot → Int) : Prop := ∃ ks : SK, H a = some (NS P w a ks) ∧ ks.map (·.1) = KS ∧ ∀ x ∈ KS, valV ks x = some (.int (v x))
theorem VAt.at_ {P : Program} {w : World} {H H' : Hp} {a : Addr} {KS : List Spot} {v : Spot → Int} (h : VAt P w H a KS v) (s : ∀ o, H a = some o → H' a = some o) : VAt P w H' a KS v := let ⟨ks, e, r⟩ := h; ⟨ks, s _ e, r⟩
theorem sk_put_keep {ks : SK} {o : Spot} (h : o ∈ ks.map (·.1)) (v : V) : (putK ks o v).map (·.1) = ks.map (·.1) := by rw [putK_keys, if_pos h]
/-- what weighed makes of rows -/
def WeOk (R : Rws) (y : V) : Prop := (y = .non ∧ ∃ p, Wy.Pot R p) ∨ ((∃ r, y = .ref r) ∧ ∃ w, Wy.Ring R w ∧ ∀ S : List Spot, none ∈ S → (∀ r ∈ R, r.1 ∈ S ∧ r.2.1 ∈ S) → w.length ≤ S.length)
section
variable {P : Program} {w : World} {K : PySem.W.Frag} {mg : Str → Option Value} {base : Heap}
abbrev sWe : Stmt := topS 14
def nWe : List Str := ["rows", "start", "values", "a", "b", "_", "came", "last", "rounds", "moved", "at", "c", "low", "base", "spot"]
theorem scWe : FnScope nWe ["rows", "start"] (defScope sWe) := ⟨rfl, rfl, rfl, by decide +kernel, rfl, by decide +kernel, by decide +kernel⟩
def spWe (P : Program) (w : World) : Sp := fun vs H Q _ => ∃ (v : V) (R : Rws) (st : Addr), vs = [v, .ref st] ∧ Sy H v R ∧ H st = some (NS P w st []) ∧
  ∀ (H' : Hp) (q : Addr) (x y : V), WeOk R y → H' q = some (.tup [x, y]) → Same H H' → Q (.ref q) H'
theorem ok_we {f : Addr} {fd : FuncData} (F : Fun K "weighed" "weighed" sWe f fd) (N : Bl mg) (GR : Has P w K mg base CX0 1 "ring_through" ["rows", "came", "spot", "count"] (spRT P w)) : FnOk P w K mg base CX0 2 f fd ["rows", "start"] (spWe P w) := by
  refine F.ok scWe (fun vs H Q E h => ?_) (fun cdv A outer s H vs Q E hr h => ?_)
  · obtain ⟨v, R, st, rfl, _⟩ := h
    rfl
  · obtain ⟨v, R, st, rfl, sy, hst, q⟩ := h
    refine ⟨_, pss_cons (ps_set (i := 2) scWe.nd rfl (.inr rfl) (pe_disSP P w pe_non pe_int))
      (pss_cons (ps_for PassesOwn.never rfl (pi_rowsK K (pv 0)) (pg_tup rfl (pgs_cons (pg_name (i := 3) scWe.nd rfl (.inl rfl)) (pgs_cons (pg_name (i := 4) scWe.nd rfl (.inl rfl)) (pgs_cons (pg_name (i := 5) scWe.nd rfl (.inl rfl)) pgs_nil))))
        (pss_cons (ps_dputSP P w (pv 2) (pv 3) (pe_dget2SP P w (pv 1) (pv 3) pe_int ⟨rfl, rfl, rfl, rfl⟩) rfl) (pss_one (ps_dputSP P w (pv 2) (pv 4) (pe_dget2SP P w (pv 1) (pv 4) pe_int ⟨rfl, rfl, rfl, rfl⟩) rfl))))
      (pss_cons (ps_set (i := 6) scWe.nd rfl (.inl rfl) (pe_dnewSP P w))
      (pss_cons (ps_set (i := 7) scWe.nd rfl (.inl rfl) pe_non)
      (pss_cons (ps_set (i := 8) scWe.nd rfl (.inl rfl) (pe_callB (call_lenSP P w) (by rfl) N.blen PySem.boot_len (pa_cons (pv 2) pa_nil)))
      (pss_cons (ps_for PassesOwn.never rfl (pi_range1 (by rfl) N.brng (pa_cons (pv 8) pa_nil)) (pg_name (i := 5) scWe.nd rfl (.inl rfl))
        (pss_cons (ps_set (i := 9) scWe.nd rfl (.inl rfl) pe_bl)
        (pss_cons (ps_for PassesOwn.never rfl (pi_enumK K (by rfl) N.benu (pa_cons (pv 0) pa_nil)) (pg_tup rfl (pgs_cons (pg_name (i := 10) scWe.nd rfl (.inl rfl)) (pgs_cons
            (pg_tup rfl (pgs_cons (pg_name (i := 3) scWe.nd rfl (.inl rfl)) (pgs_cons (pg_name (i := 4) scWe.nd rfl (.inl rfl)) (pgs_cons (pg_name (i := 11) scWe.nd rfl (.inl rfl)) pgs_nil)))) pgs_nil)))
          (pss_cons (ps_set (i := 12) scWe.nd rfl (.inl rfl) (pe_op op_sub (pe_dgetSP P w (pv 2) (pv 3) (fun _ _ => rfl)) (pv 11)))
            (pss_one (ps_if (pt_cmpR op_gt (pv 12) (pe_dgetSP P w (pv 2) (pv 4) (fun _ _ => rfl)) (nomark _))
              (pss_cons (ps_dputSP P w (pv 2) (pv 4) (pv 12) rfl) (pss_cons (ps_dputSP P w (pv 6) (pv 4) (pv 10) rfl) (pss_cons (ps_set (i := 7) scWe.nd rfl (.inl rfl) (pv 4)) (pss_one (ps_set (i := 9) scWe.nd rfl (.inl rfl) pe_bl))))) pss_nil))))
        (pss_one (ps_if (pt_not (pt_val (pv 9)))
          (pss_cons (ps_set (i := 13) scWe.nd rfl (.inr rfl) (pe_dgetSP P w (pv 2) pe_non (fun _ _ => rfl)))
            (pss_one (ps_ret (pe_tup (pa_cons (pe_lock (pe_dcSP P w (own := [("spot", 14)]) (g := gName 14) (tt := tYes) rfl scWe.nd (pi_keysS (P := P) (w := w) (pv 2)) (blkOk_by (own := [("spot", 14)]) (N := nWe) (sc := defScope sWe) (by decide +kernel))
                (fun _ _ _ _ _ => pg_name (i := 14) scWe.nd rfl (Or.inl rfl)) (fun _ _ _ _ _ => pts_nil) (fun _ _ _ _ _ => pv 14) (fun _ _ _ _ _ => pe_op op_sub (pe_dgetSP P w (pv 2) (pv 14) (fun _ _ => rfl)) (pv 13)))) (pa_cons pe_non pa_nil)))))) pss_nil)))))
      (pss_one (ps_ret (pe_tup (pa_cons pe_non (pa_cons (pe_h GR hr (by decide) (by rfl) pass0 (pa_cons (pv 0) (pa_cons (pv 6) (pa_cons (pv 7) (pa_cons (pv 8) pa_nil))))) pa_nil)))))))))), ?_⟩
    obtain ⟨p, us, rfl, hp, lu, hu⟩ := sy.at_
    have ne := sy.ne
    have l30 := sy.len
    refine fun d nd => ⟨none, rfl, upd_same, ?_⟩
    rw [upd_upd]
    have s1 : Same H (upd H d (NS P w d [(none, .int 0)])) := same_upd nd
    have hd1 : (upd H d (NS P w d [(none, .int 0)])) d = some (NS P w d [(none, .int 0)]) := upd_same
    generalize upd H d (NS P w d [(none, .int 0)]) = H1 at s1 hd1 ⊢
    -- the first loop
    have nst : st ≠ d := fun z => by rw [z] at hst; rw [hst] at nd; cases nd
    refine rows_it rfl hp s1 fun J G hG wk => for_it wk (fun i σ H' => Same H H' ∧ ∃ ks x3 x4 x5, σ = [some (.ref p), some (.ref st), some (.ref d), x3, x4, x5, none, none, none, none, none, none, none, none, none] ∧
      H' d = some (NS P w d ks) ∧ (ks.map (·.1)).Nodup ∧ none ∈ ks.map (·.1) ∧ (∀ k ∈ ks.map (·.1), k ∈ none :: sidesR R) ∧ (∀ r ∈ R.take i, r.1 ∈ ks.map (·.1) ∧ r.2.1 ∈ ks.map (·.1)) ∧ (∀ e ∈ ks, e.2 = .int 0))
      ⟨s1, [(none, .int 0)], none, none, none, rfl, hd1, by simp, by simp, fun k hk => by simp at hk; rw [hk]; exact List.mem_cons_self .., fun r hr => by simp at hr, fun e he => by simp at he; rw [he]⟩ (fun i σ H' _ z => hG _ z.1) ?_ ?_
    · rintro i x σ H' H'' hi ⟨sH, ks, x3, x4, x5, rfl, hd2, k1, k2, k3, k4, k5⟩ ⟨rfl, hx⟩
      obtain ⟨⟨a, b, c⟩, hr, q0, rfl, hq0⟩ := hu i x hx
      have l61 : ks.length ≤ 61 := by
        have := sk_len k1 k3
        rw [List.length_cons, sides_len] at this
        omega
      have mr := List.mem_of_getElem? hr
      have ma : a ∈ none :: sidesR R := List.mem_cons_of_mem _ (List.mem_flatMap.mpr ⟨_, mr, List.mem_cons_self ..⟩)
      have mb : b ∈ none :: sidesR R := List.mem_cons_of_mem _ (List.mem_flatMap.mpr ⟨_, mr, List.mem_cons_of_mem _ (List.mem_cons_self ..)⟩)
      refine ⟨q0, _, rfl, SqT.of (sH _ _ hq0), rfl, _, _, rfl, _, _, rfl, _, _, rfl, rfl, ?_⟩
      refine ⟨_, rfl, st, rfl, ⟨[], .inl (sH _ _ hst)⟩, _, rfl, [], a, .inl (sH _ _ hst), rfl, _, rfl, _, rfl, d, ks, a, rfl, hd2, rfl, lt1000 (by omega), ?_⟩
      have e1 : ((valV ([] : SK) a).getD (.int 0)) = .int 0 := rfl
      rw [e1]
      have hd3 : (upd H'' d (NS P w d (putK ks a (.int 0)))) d = some (NS P w d (putK ks a (.int 0))) := upd_same
      have sH3 : Same H (upd H'' d (NS P w d (putK ks a (.int 0)))) := same_put sH nd
      generalize upd H'' d (NS P w d (putK ks a (.int 0))) = H3 at hd3 sH3 ⊢
      have l1 := length_putK ks a (.int 0)
      refine ⟨_, rfl, st, rfl, ⟨[], .inl (sH3 _ _ hst)⟩, _, rfl, [], b, .inl (sH3 _ _ hst), rfl, _, rfl, _, rfl, d, _, b, rfl, hd3, rfl, lt1000 (by omega), ?_⟩
      have e2 : ((valV ([] : SK) b).getD (.int 0)) = .int 0 := rfl
      rw [e2]
      have put_all : ∀ {ks : SK} (o : Spot), (∀ e ∈ ks, e.2 = .int 0) → ∀ e ∈ putK ks o (.int 0), e.2 = .int 0 := by
        intro ks o h e he
        unfold putK at he
        split at he
        · obtain ⟨e', h1, rfl⟩ := List.mem_map.mp he
          split
          · rfl
          · exact h e' h1
        · rcases List.mem_append.mp he with z | z
          · exact h e z
          · rw [List.mem_singleton] at z
            rw [z]
      have key_up : ∀ {ks : SK} (o : Spot) (k : Spot), k ∈ ks.map (·.1) → k ∈ (putK ks o (.int 0)).map (·.1) := by
        intro ks o k h
        rw [putK_keys]
        split
        · exact h
        · exact List.mem_append_left _ h
      have key_self : ∀ {ks : SK} (o : Spot), o ∈ (putK ks o (.int 0)).map (·.1) := by
        intro ks o
        rw [putK_keys]
        split
        · assumption
        · exact List.mem_append_right _ (List.mem_singleton.mpr rfl)
      refine ⟨same_put sH3 nd, _, _, _, _, rfl, upd_same, sk_put_nodup (sk_put_nodup k1 a _) b _, key_up _ _ (key_up _ _ k2), sk_put_mem (sk_put_mem k3 ma _) mb _, fun r h => ?_, put_all _ (put_all _ k5)⟩
      rw [List.take_add_one, hr] at h
      rcases List.mem_append.mp h with z | z
      · exact ⟨key_up _ _ (key_up _ _ (k4 r z).1), key_up _ _ (key_up _ _ (k4 r z).2)⟩
      · have : r = (a, b, c) := by simpa using z
        subst this
        exact ⟨key_up _ _ (key_self _), key_self _⟩
    · rintro σ H' ⟨sH, ks, x3, x4, x5, rfl, hd2, k1, k2, k3, k4, k5⟩
      rw [lu, List.take_length] at k4
      have l61 : ks.length ≤ 61 := by
        have := sk_len k1 k3
        rw [List.length_cons, sides_len] at this
        omega
      generalize hKS : ks.map (·.1) = KS at k1 k2 k3 k4
      have lKS : KS.length = ks.length := by rw [← hKS, List.length_map]
      have hv0 : VAt P w H' d KS (fun _ => 0) := ⟨ks, hd2, hKS, fun x hx => by
        rw [← hKS] at hx
        obtain ⟨e, he, rfl⟩ := List.mem_map.mp hx
        have := k5 e he
        refine valV_mem (by rw [hKS]; exact k1) ?_
        rw [← this]
        exact he⟩
      refine fun c0 nc => ?_
      have nc0 := none_of sH nc
      have cd : c0 ≠ d := fun z => by rw [z, hd2] at nc; cases nc
      have hd3 : (upd H' c0 (NS P w c0 [])) d = some (NS P w d ks) := by rw [upd_ne cd.symm]; exact hd2
      have hv1 : VAt P w (upd H' c0 (NS P w c0 [])) d KS (fun _ => 0) := hv0.at_ fun o e => by rw [upd_ne cd.symm]; exact e
      have hc1 : MapS P w (upd H' c0 (NS P w c0 [])) c0 KS (fun y => natV ((fun _ => none : Spot → Option Nat) y)) := MapS.nil
      have sH1 : Same H (upd H' c0 (NS P w c0 [])) := same_put sH nc0
      generalize upd H' c0 (NS P w c0 []) = H1' at hd3 hv1 hc1 sH1 ⊢
      refine ⟨_, rfl, d, ks, rfl, .inl hd3, ?_⟩
      rw [← lKS]
      -- the rounds
      refine ⟨_, rfl, KS.length, rfl, by omega, by omega, for_range (fun i σ H2 => ∃ (x3 x4 x5 x9 x10 x11 x12 : Option V) (la : Spot) (v : Spot → Int) (cm : Spot → Option Nat) (t mr : Spot → Nat) (now : Nat), σ = [some (.ref p), some (.ref st), some (.ref d), x3, x4, x5, some (.ref c0), some (oV la), some (.int (KS.length : Nat)), x9, x10, x11, x12, none, none] ∧
        Same H H2 ∧ VAt P w H2 d KS v ∧ MapS P w H2 c0 KS (fun y => natV (cm y)) ∧ Wy.WI R (i + 1) 0 v cm t mr now ∧ (0 < i → mr la = i) ∧ (∀ y k, cm y = some k → k < R.length) ∧ ∀ y, mr y ≤ i)
        ⟨x3, x4, x5, none, none, none, none, none, _, _, _, _, 0, rfl, sH1, hv1, hc1, Wy.WI.first, fun z => absurd z (by omega), fun y k z => (nomatch z), fun _ => Nat.zero_le _⟩ ?_ ?_⟩
      · rintro i σ H2 hi ⟨x3, x4, x5, x9, x10, x11, x12, la, v, cm, t, mr, now, rfl, s2, hv2, hc2, wi, hla, hkl, hmr⟩
        have li : i < KS.length := by omega
        refine enum_it (fun Q q => ⟨_, rfl, q⟩) hp s2 fun J G hG wk => for_it wk (fun j σ H' => ∃ (y3 y4 y10 y11 y12 : Option V) (la : Spot) (b : Bool) (v : Spot → Int) (cm : Spot → Option Nat) (t mr : Spot → Nat) (now : Nat), σ = [some (.ref p), some (.ref st), some (.ref d), y3, y4, some (.int (0 + (i : Int))), some (.ref c0), some (oV la), some (.int (KS.length : Nat)), some (.bl b), y10, y11, y12, none, none] ∧
          Same H H' ∧ VAt P w H' d KS v ∧ MapS P w H' c0 KS (fun y => natV (cm y)) ∧ Wy.WI R (i + 1) j v cm t mr now ∧ (b = true → mr la = i + 1) ∧ (b = false → ∀ x, mr x ≠ i + 1) ∧ (∀ y k, cm y = some k → k < R.length))
          ⟨x3, x4, x10, x11, x12, la, false, v, cm, t, mr, now, rfl, s2, hv2, hc2, wi, fun z => (nomatch z), fun _ x e => by have := hmr x; omega, hkl⟩ (fun j σ H' _ ⟨_, _, _, _, _, _, _, _, _, _, _, _, _, z, _⟩ => hG _ z) ?_ ?_
        · rintro j x σ H' H'' hj ⟨y3, y4, y10, y11, y12, la, b0, v, cm, t, mr, now, rfl, s3, hv3, hc3, wi, hb1, hb2, hkl⟩ ⟨T, x, rfl, nT, rfl, hx⟩
          obtain ⟨⟨a, b, c⟩, hr, q0, rfl, hq0⟩ := hu j x hx
          have mr0 := List.mem_of_getElem? hr
          obtain ⟨ma, mb⟩ : a ∈ KS ∧ b ∈ KS := k4 _ mr0
          have ab := ne _ _ _ mr0
          have nT0 := none_of s3 nT
          obtain ⟨vks, hd4, e4, v4⟩ := hv3
          obtain ⟨cks, hc4, c1, c2, c3⟩ := hc3
          have Td : T ≠ d := fun z => by rw [z, hd4] at nT; cases nT
          have Tc : T ≠ c0 := fun z => by rw [z, hc4] at nT; cases nT
          have hT : (upd H' T (.tup [.int (j : Nat), .ref q0])) T = some (.tup [.int (j : Nat), .ref q0]) := upd_same
          have hd5 := upd_apart (o := .tup [.int (j : Nat), .ref q0]) hd4 Td.symm
          have hc5 := upd_apart (o := .tup [.int (j : Nat), .ref q0]) hc4 Tc.symm
          have s4 : Same H (upd H' T (.tup [.int (j : Nat), .ref q0])) := same_put s3 nT0
          generalize upd H' T (.tup [.int (j : Nat), .ref q0]) = H3 at hT hd5 hc5 s4 ⊢
          refine ⟨T, _, rfl, SqT.of hT, rfl, _, _, rfl, _, _, rfl, q0, _, rfl, SqT.of (s4 _ _ hq0), rfl, _, _, rfl, _, _, rfl, _, _, rfl, rfl, rfl, ?_⟩
          refine ⟨_, rfl, _, rfl, d, vks, a, _, rfl, .inl hd5, rfl, v4 a ma, _, rfl, _, _, rfl, rfl, ?_⟩
          refine ⟨_, rfl, _, rfl, _, rfl, d, vks, b, _, rfl, .inl hd5, rfl, v4 b mb, _, _, rfl, rfl, _, rfl, ?_⟩
          have lv : vks.length = KS.length := by rw [← e4, List.length_map]
          refine ite2 (fun z => ?_) (fun z => ?_)
          · have z : v b < v a - c := of_decide_eq_true z
            refine ⟨_, rfl, _, rfl, _, rfl, d, vks, b, rfl, hd5, rfl, lt1000 (by omega), ?_⟩
            have hc6 := upd_apart (o := NS P w d (putK vks b (.int (v a - c)))) hc5 cd
            have hd6 : (upd H3 d (NS P w d (putK vks b (.int (v a - c))))) d = some (NS P w d (putK vks b (.int (v a - c)))) := upd_same
            have s5 : Same H (upd H3 d (NS P w d (putK vks b (.int (v a - c))))) := same_put s4 nd
            generalize upd H3 d (NS P w d (putK vks b (.int (v a - c)))) = H4 at hc6 hd6 s5 ⊢
            have lc := sk_len c1 c2
            refine ⟨_, rfl, _, rfl, _, rfl, c0, cks, b, rfl, hc6, rfl, lt1000 (by omega), ?_⟩
            refine ⟨_, rfl, ?_⟩
            refine ⟨_, _, _, _, _, b, true, _, _, _, _, _, rfl, same_put s5 nc0, ⟨_, upd_apart hd6 cd.symm, by rw [sk_put_keep (by rw [e4]; exact mb), e4], fun y hy => ?_⟩, ?_, wi.move hr ab z, fun _ => Wy.upf_self _ _ _, fun z => (nomatch z), fun y k hy => ?_⟩
            · rw [valV_put]
              unfold Wy.upf
              split
              · rfl
              · exact v4 y hy
            · have e : (fun y => natV (Wy.upf cm b (some j) y)) = Wy.upf (fun y => natV (cm y)) b (some (.int (j : Nat))) := by
                funext y
                unfold Wy.upf
                split <;> rfl
              rw [e]
              exact MapS.put c1 c2 c3 mb _
            · unfold Wy.upf at hy
              split at hy
              · cases hy
                exact (List.getElem?_eq_some_iff.mp hr).1
              · exact hkl y k hy
          · have z : ¬ v b < v a - c := fun h => z (decide_eq_true h)
            exact ⟨_, _, _, _, _, la, b0, v, cm, t, mr, now, rfl, s4, ⟨vks, hd5, e4, v4⟩, ⟨cks, hc5, c1, c2, c3⟩, wi.stay hr (by omega), hb1, hb2, hkl⟩
        · rintro σ H3 ⟨y3, y4, y10, y11, y12, la, b0, v, cm, t, mr, now, rfl, s3, hv3, hc3, wi, hb1, hb2, hkl⟩
          rw [lu] at wi
          cases b0 with
          | true => exact ⟨_, rfl, _, rfl, iteF ⟨_, _, _, _, _, _, _, la, v, cm, t, mr, now, rfl, s3, hv3, hc3, wi.next, fun _ => hb1 rfl, hkl, fun y => (wi.tim y).2⟩⟩
          | false =>
            obtain ⟨vks, hd4, e4, v4⟩ := hv3
            have pot := wi.pot (hb2 rfl)
            refine ⟨_, rfl, _, rfl, iteT ?_⟩
            refine ⟨_, rfl, d, vks, none, _, rfl, .inl hd4, rfl, v4 none k2, ?_⟩
            refine ⟨d, _, hd4, trivial, fun od => ?_⟩
            have hdl : (upd H3 d (.frz od (NS P w d vks))) d = some (.frz od (NS P w d vks)) := upd_same
            refine ⟨_, rfl, d, od, vks, rfl, hdl, fun D nD => dc_itS walk_keysS (fun i H4 => Same (upd H3 d (.frz od (NS P w d vks))) H4 ∧ ∃ dks, H4 D = some (NS P w D dks) ∧ dks.length ≤ i) ⟨same_upd nD, [], upd_same, Nat.le_refl _⟩ (fun i H4 _ z => z.1 _ _ hdl) ?_ ?_⟩
            · rintro i x H4 H5 hi ⟨s4, dks, hD, lD⟩ ⟨rfl, k, vv, hk, rfl⟩
              have lv : vks.length = KS.length := by rw [← e4, List.length_map]
              have mk : k ∈ KS := by rw [← e4]; exact List.mem_map.mpr ⟨_, List.mem_of_getElem? hk, rfl⟩
              refine ⟨rfl, _, rfl, _, rfl, _, rfl, d, vks, k, _, rfl, .inr ⟨od, s4 _ _ hdl⟩, rfl, v4 k mk, _, rfl, _, _, rfl, rfl, dks, k, rfl, hD, lt1000 (by omega), same_put s4 nD, _, upd_same, ?_⟩
              exact Nat.le_trans (length_putK dks k _) (by omega)
            · rintro H4 ⟨s4, dks, hD, lD⟩
              have h4 := s4 _ _ hdl
              refine ⟨h4, by show 2 ≤ sizeLine; decide, fun t nt => ?_⟩
              have ups : Same H3 (upd H4 d (NS P w d vks)) := fun b o e => by
                by_cases eb : b = d
                · rw [eb, upd_same]
                  rw [eb, hd4] at e
                  exact e
                · rw [upd_ne eb]
                  exact s4 b o (by rw [upd_ne eb]; exact e)
              exact q _ t _ _ (.inl ⟨rfl, _, pot⟩) upd_same fun b o e => same_upd nt _ _ (ups _ _ (s3 _ _ e))
      · rintro σ H2 ⟨x3, x4, x5, x9, x10, x11, x12, la, v, cm, t, mr, now, rfl, s2, hv2, hc2, wi, hla, hkl, hmr⟩
        rw [Int.toNat_natCast] at wi hla
        have h0 : 0 < KS.length := List.length_pos_of_mem k2
        have sS : ∀ a b c, (a, b, c) ∈ R → a ∈ KS ∧ b ∈ KS := fun a b c h => k4 _ h
        obtain ⟨r1, ⟨L, r2, r3, r4⟩, r5⟩ := wi.ring ne sS (hla h0) h0
        refine ⟨_, rfl, _, rfl, _, rfl, _, rfl, .ref p, R, c0, la, KS.length, cm, KS, L, rfl, sy.sm s2, hc2, hkl, r1, by omega, r2, by omega, r4, fun H3 z us hz s3 => ⟨by show 2 ≤ sizeLine; decide, fun t nt => ?_⟩⟩
        refine q _ t _ _ (.inr ⟨⟨z, rfl⟩, ?_⟩) upd_same fun b o e => same_upd nt _ _ (s3 _ _ (s2 _ _ e))
        obtain ⟨w, hw, lw⟩ := r5
        refine ⟨w, hw, fun S hn hS => Nat.le_trans lw (Wy.pig k1 fun x hx => ?_)⟩
        rcases List.mem_cons.mp (k3 x hx) with rfl | h
        · exact hn
        · obtain ⟨r, hr, hx2⟩ := List.mem_flatMap.mp h
          rcases List.mem_cons.mp hx2 with rfl | hx2
          · exact (hS r hr).1
          · rcases List.mem_cons.mp hx2 with rfl | hx2
            · exact (hS r hr).2
            · cases hx2
end
end Lm
/-! name = {k: v for ..}. -/
namespace Lm
open PySem PySem.Spec PyProof.Rows L2
theorem swD_true {kx vx : Expr} {gs : List Comprehension} {scope : Scope} {pos py : Pos} {y : Str} {l : Nat} {env : Env} (k1 : env.scope.kind = .function) (k2 : env.scope.names.lookup y = some .local) (k3 : (py.line == pos.line) = true)
    (k4 : (scope.names.any fun (n, k) => n == y && (k == .local || k == .cell)) = false) : swapsWith (.DictComp kx vx gs scope pos) (some (.Name y py)) l env = pure true := by
  have e1 : env.kindOf y = some .local := k2
  have e2 : env.blockKind = .function := by unfold Env.blockKind; rw [k1]; rfl
  unfold swapsWith
  simp only [e2, e1, k4, Expr.pos, k3]
  rfl
theorem ps_setDcS {X : Cx} {i : Nat} {y : Str} {py : Pos} {kx vx tg iter : Expr} {ifs : List Expr} {scope : Scope} {own : List (Str × Nat)} {pos spos : Pos} {wi : TI} {g : TG} {tt : TT} {tk tv : TE} (P : Program) (w : World) (hc : X.calm = true) (hN : X.N.Nodup) (hy : X.N[i]? = some y) (hyl : X.env.scope.names.lookup y = some .local)
    (hsw : swapsWith (.DictComp kx vx [⟨tg, iter, ifs, 0⟩] scope pos) (some (.Name y py)) spos.line X.env = pure true) (hi : PI X tg iter wi) (ok : BlkOk X.N X.env.scope scope own)
    (hg : ∀ (s : Shared) (H : Hp) (C : Addr) (cl : List (Str × Addr)) (fp : List Addr), PG (X.blk s H scope (compEnvC scope cl C X.env) fp) tg g) (ht : ∀ (s : Shared) (H : Hp) (C : Addr) (cl : List (Str × Addr)) (fp : List Addr), PTs (X.blk s H scope (compEnvC scope cl C X.env) fp) ifs tt)
    (hk : ∀ (s : Shared) (H : Hp) (C : Addr) (cl : List (Str × Addr)) (fp : List Addr), PE (X.blk s H scope (compEnvC scope cl C X.env) fp) kx tk)
    (he : ∀ (s : Shared) (H : Hp) (C : Addr) (cl : List (Str × Addr)) (fp : List Addr), PE (X.blk s H scope (compEnvC scope cl C X.env) fp) vx tv) (hs : ∀ x, foldedSetIterable iter X.env x = pure x := by intro _; rfl) (hP : X.prog = P := by rfl) (hw : X.w = w := by rfl) :
    PS X (.Assign [.Name y py] (.DictComp kx vx [⟨tg, iter, ifs, 0⟩] scope pos) spos) (tAsg (tDcS P w wi g tt tk tv (own.map (·.2))) (gName i)) := by
  subst hP hw
  refine ⟨fun pins s σ H D I h => ?_⟩
  rw [exec_Assign_Name_used _ _ _ _ hsw]
  refine wpAny_bind (wpAny_standAt (wpAny_bind ?_))
  show wpAny _ X.A (do let _ ← comprehension (.DictComp kx vx [⟨tg, iter, ifs, 0⟩] scope pos) scope X.env (firstIterPos [⟨tg, iter, ifs, 0⟩] pos) newDict false (eval iter X.env) (some (assign (.Name y py) X.env))) _ _ s
  have h1 : tDcS X.prog X.w wi g tt tk tv (own.map (·.2)) σ H (fun x H1 => gName i x σ H1 D.nx) := h
  refine wpAny_bind (thn (dcS_core (Qf := fun _ s' => SP X pins D .next s') hc hN I hi ok hg ht hk he hs h1 fun L C s' m H' J q hn f => ?_) fun _ s' hq => wpAny_pure (wpAny_pure hq))
  show wpAny _ _ (assign (.Name y py) X.env (.ref L)) _ _ _
  refine wpAny_assign_Name (store_ok2 (v := V.ref L) J hN hy (.inl hyl) rfl (fun s2 I2 ⟨a, sb, ha⟩ => ?_) (.inr hyl))
  obtain ⟨g0, g1, g2, g3, g4, g5⟩ := f
  have nC : C ≠ a := by
    rcases ha with z | z
    · rw [z]; exact g1
    · exact fun e => g4 y a z e.symm
  refine ⟨m, hn.sameBut sb nC, fun h3 sb3 => ?_⟩
  exact ⟨_, H', I2.turned (t' := s2.toks) (fun b o hb e => (sb3.2 b hb).trans e) g0 g1 g3 g4 g5, q⟩
end Lm
/-! one_row_more. -/
namespace Lm
open PySem PySem.Spec PyProof.Rows L2
def intV (o : Option Int) : Option V := o.map V.int
/-- a dict of dicts: a table -/
def TabAt (P : Program) (w : World) (H : Hp) (a : Addr) (S : List Spot) (F : Wy.Tb Spot) : Prop := ∃ ks : SK, H a = some (NS P w a ks) ∧ (ks.map (·.1)).Nodup ∧ (∀ x, x ∈ ks.map (·.1) ↔ x ∈ S) ∧
  ∀ x ∈ S, ∃ d, valV ks x = some (.ref d) ∧ MapS P w H d S (fun e => intV (F x e))
theorem TabAt.sm {P : Program} {w : World} {H H' : Hp} {a : Addr} {S : List Spot} {F : Wy.Tb Spot} (h : TabAt P w H a S F) (s : Same H H') : TabAt P w H' a S F := by
  obtain ⟨ks, h1, h2, h3, h4⟩ := h
  exact ⟨ks, s _ _ h1, h2, h3, fun x hx => let ⟨d, e, m⟩ := h4 x hx; ⟨d, e, m.sm s⟩⟩
/-- a table that is being made: its dicts are new and apart -/
structure NewT (P : Program) (w : World) (H0 H : Hp) (a : Addr) (ks : SK) (S : List Spot) (G : Wy.Tb Spot) : Prop where
  at_ : H a = some (NS P w a ks)
  nd : (ks.map (·.1)).Nodup
  mem : ∀ x, x ∈ ks.map (·.1) ↔ x ∈ S
  val : ∀ x ∈ S, ∃ d, valV ks x = some (.ref d) ∧ MapS P w H d S (fun e => intV (G x e))
  inj : ∀ x y d, valV ks x = some (.ref d) → valV ks y = some (.ref d) → x = y
  new : ∀ x d, valV ks x = some (.ref d) → d ≠ a ∧ H0 d = none
  new0 : H0 a = none
theorem NewT.tab {P : Program} {w : World} {H0 H : Hp} {a : Addr} {ks : SK} {S : List Spot} {G : Wy.Tb Spot} (h : NewT P w H0 H a ks S G) : TabAt P w H a S G := ⟨ks, h.at_, h.nd, h.mem, h.val⟩
theorem NewT.sm {P : Program} {w : World} {H0 H H' : Hp} {a : Addr} {ks : SK} {S : List Spot} {G : Wy.Tb Spot} (h : NewT P w H0 H a ks S G) (s : Same H H') : NewT P w H0 H' a ks S G :=
  ⟨s _ _ h.at_, h.nd, h.mem, fun x hx => let ⟨d, e, m⟩ := h.val x hx; ⟨d, e, m.sm s⟩, h.inj, h.new, h.new0⟩
theorem NewT.at2 {P : Program} {w : World} {H0 H H' : Hp} {a : Addr} {ks : SK} {S : List Spot} {G : Wy.Tb Spot} {b : Addr} (h : NewT P w H0 H a ks S G) (hb : ∃ o, H0 b = some o) (s : ∀ c o, c ≠ b → H c = some o → H' c = some o) : NewT P w H0 H' a ks S G := by
  obtain ⟨o, hb⟩ := hb
  have na : a ≠ b := fun z => by have := h.new0; rw [z, hb] at this; cases this
  have nx : ∀ y d, valV ks y = some (.ref d) → d ≠ b := fun y d hy z => by have := (h.new y d hy).2; rw [z, hb] at this; cases this
  exact ⟨s _ _ na h.at_, h.nd, h.mem, fun y hy => let ⟨d, e, m⟩ := h.val y hy; ⟨d, e, m.at_ fun o' e' => s _ _ (nx y d e) e'⟩, h.inj, h.new, h.new0⟩
/-- one entry is put -/
theorem NewT.put {P : Program} {w : World} {H0 H : Hp} {a : Addr} {ks : SK} {S : List Spot} {G : Wy.Tb Spot} (h : NewT P w H0 H a ks S G) {x e : Spot} {d : Addr} {sk : SK} {z : Int} (he : e ∈ S) (hd : valV ks x = some (.ref d)) (h1 : H d = some (NS P w d sk))
    (h2 : (sk.map (·.1)).Nodup) (h3 : ∀ k ∈ sk.map (·.1), k ∈ S) (h4 : ∀ y, valV sk y = intV (G x y)) : NewT P w H0 (upd H d (NS P w d (putK sk e (.int z)))) a ks S (Wy.up2 G x e z) := by
  refine ⟨?_, h.nd, h.mem, fun y hy => ?_, h.inj, h.new, h.new0⟩
  · rw [upd_ne (h.new x d hd).1.symm]
    exact h.at_
  · obtain ⟨d', hd', m⟩ := h.val y hy
    refine ⟨d', hd', ?_⟩
    by_cases q : y = x
    · subst q
      rw [hd] at hd'
      cases hd'
      have e1 : (fun e' => intV (Wy.up2 G y e z y e')) = Wy.upf (fun e' => intV (G y e')) e (some (.int z)) := by
        funext e'
        unfold Wy.up2 Wy.upf
        by_cases k : e' = e
        · rw [if_pos ⟨rfl, k⟩, if_pos k]
          rfl
        · rw [if_neg (fun q => k q.2), if_neg k]
      rw [e1]
      exact MapS.put h2 h3 h4 he _
    · have nd : d' ≠ d := fun e' => q (h.inj y x d (by rw [← e']; exact hd') hd)
      have e1 : (fun e' => intV (Wy.up2 G x e z y e')) = fun e' => intV (G y e') := by
        funext e'
        rw [Wy.up2_ne _ _ (fun k => q k.1)]
      rw [e1]
      exact m.at_ fun o e' => by rw [upd_ne nd]; exact e'
theorem same_lock {H : Hp} {a : Addr} {od : Obj} {o : HO} (h : H a = some o) {H' : Hp} (s : Same (upd H a (.frz od o)) H') : Same H (upd H' a o) := fun b x e => by
  by_cases eb : b = a
  · rw [eb, upd_same]
    rw [eb, h] at e
    exact e
  · rw [upd_ne eb]
    exact s b x (by rw [upd_ne eb]; exact e)
section
variable {P : Program} {w : World} {K : PySem.W.Frag} {mg : Str → Option Value} {base : Heap}
abbrev sOM : Stmt := topS 16
def nOM : List Str := ["rows", "old", "new", "a", "b", "c", "sums", "end", "total", "spot"]
theorem scOM : FnScope nOM ["rows", "old"] (defScope sOM) := ⟨rfl, rfl, rfl, by decide +kernel, rfl, by decide +kernel, by decide +kernel⟩
def spOM (P : Program) (w : World) : Sp := fun vs H Q _ => ∃ (v : V) (R : Rws) (o : Addr) (S : List Spot) (F : Wy.Tb Spot), vs = [v, .ref o] ∧ Sy H v R ∧ TabAt P w H o S F ∧ S.length ≤ 100 ∧ (∀ a b c, (a, b, c) ∈ R → a ∈ S ∧ b ∈ S) ∧ (∀ a e z, F a e = some z → a ∈ S ∧ e ∈ S) ∧
  ∀ (H' : Hp) (q : Addr) (G : Wy.Tb Spot), Wy.TabI R S F R.length G → TabAt P w H' q S G → Same H H' → H q = none → Q (.ref q) H'
theorem ok_om {f : Addr} {fd : FuncData} (F : Fun K "one_row_more" "one_row_more" sOM f fd) : FnOk P w K mg base CX0 1 f fd ["rows", "old"] (spOM P w) := by
  refine F.ok scOM (fun vs H Q E h => ?_) (fun cdv A outer s H vs Q E hr h => ?_)
  · obtain ⟨v, R, o, S, F', rfl, _⟩ := h
    rfl
  · obtain ⟨v, R, o, S, F', rfl, sy, ta, lS, inS, FS, q⟩ := h
    refine ⟨_, pss_cons (ps_lock (ps_setDcS (i := 2) P w (own := [("spot", 9)]) (g := gName 9) (tt := tYes) rfl scOM.nd rfl rfl (swD_true rfl rfl rfl (by decide +kernel)) (pi_keysS (P := P) (w := w) (pv 1)) (blkOk_by (own := [("spot", 9)]) (N := nOM) (sc := defScope sOM) (by decide +kernel))
                (fun _ _ _ _ _ => pg_name (i := 9) scOM.nd rfl (Or.inl rfl)) (fun _ _ _ _ _ => pts_nil) (fun _ _ _ _ _ => pv 9) (fun _ _ _ _ _ => pe_dnewSP P w)))
      (pss_cons (ps_for PassesOwn.never rfl (pi_rowsK K (pv 0)) (pg_tup rfl (pgs_cons (pg_name (i := 3) scOM.nd rfl (.inl rfl)) (pgs_cons (pg_name (i := 4) scOM.nd rfl (.inl rfl)) (pgs_cons (pg_name (i := 5) scOM.nd rfl (.inl rfl)) pgs_nil))))
        (pss_cons (ps_set (i := 6) scOM.nd rfl (.inl rfl) (pe_dgetSP P w (pv 2) (pv 3) (fun _ _ => rfl)))
        (pss_one (ps_lock (ps_for PassesOwn.never rfl (pi_itemsS (P := P) (w := w) (pe_dgetSP P w (pv 1) (pv 4) (fun _ _ => rfl))) (pg_tup rfl (pgs_cons (pg_name (i := 7) scOM.nd rfl (.inl rfl)) (pgs_cons (pg_name (i := 8) scOM.nd rfl (.inl rfl)) pgs_nil)))
          (pss_one (ps_if (pw_or (pt_cmp (pc_dnotinSP P w (pv 7) (pv 6))) (pw_or1 (pt_cmpR op_lt (pe_op op_add (pv 5) (pv 8)) (pe_dgetSP P w (pv 6) (pv 7) (fun _ _ => rfl)) (nomark _)))).pt
            (pss_one (ps_dputSP P w (pv 6) (pv 7) (pe_op op_add (pv 5) (pv 8)) rfl)) pss_nil)))))))
      (pss_one (ps_ret (pv 2)))), ?_⟩
    obtain ⟨p, us, rfl, hp, lu, hu⟩ := sy.at_
    obtain ⟨oks, ho, o1, o2, o3⟩ := ta
    have lok : oks.length ≤ 100 := by
      have := sk_len o1 (fun k hk => (o2 k).mp hk)
      omega
    refine ⟨o, _, ho, trivial, fun od => ?_⟩
    have hol : (upd H o (.frz od (NS P w o oks))) o = some (.frz od (NS P w o oks)) := upd_same
    refine ⟨_, rfl, o, od, oks, rfl, hol, fun D nD => dc_itS walk_keysS (fun i H4 => Same (upd H o (.frz od (NS P w o oks))) H4 ∧ ∃ dks, H4 D = some (NS P w D dks) ∧ dks.map (·.1) = (oks.map (·.1)).take i ∧ (dks.map (·.2)).Nodup ∧
        ∀ e ∈ dks, ∃ d, e.2 = .ref d ∧ H4 d = some (NS P w d []) ∧ d ≠ D ∧ (upd H o (.frz od (NS P w o oks))) d = none) ⟨same_upd nD, [], upd_same, rfl, by simp, fun _ h => absurd h (by simp)⟩ (fun i H4 _ z => z.1 _ _ hol) ?_ ?_⟩
    · rintro i x H4 H5 hi ⟨s4, dks, hD, e1, e2, e3⟩ ⟨rfl, k, vv, hk, rfl⟩
      have ld : dks.length ≤ 100 := by
        have := congrArg List.length e1
        rw [List.length_map, List.length_take, List.length_map] at this
        omega
      have hk1 : (oks.map (·.1))[i]? = some k := by rw [List.getElem?_map, hk]; rfl
      have hkn : k ∉ dks.map (·.1) := by
        rw [e1]
        intro z
        obtain ⟨j, hj⟩ := List.mem_iff_getElem?.mp z
        rw [List.getElem?_take] at hj
        split at hj
        · rename_i lt
          have := (List.getElem?_inj (by rw [List.length_map]; omega) o1).mp (hj.trans hk1.symm)
          omega
        · cases hj
      have hkv : valV dks k = none := by
        cases e : valV dks k with
        | none => rfl
        | some v => exact absurd (List.mem_map.mpr ⟨_, valV_key e, rfl⟩) hkn
      refine ⟨rfl, _, rfl, fun d nd => ?_⟩
      have dD : d ≠ D := fun z => by rw [z, hD] at nd; cases nd
      have hD6 := upd_apart (o := NS P w d []) hD dD.symm
      have s6 : Same H5 (upd H5 d (NS P w d [])) := same_upd nd
      have hd6 : (upd H5 d (NS P w d [])) d = some (NS P w d []) := upd_same
      generalize upd H5 d (NS P w d []) = H6 at hD6 s6 hd6 ⊢
      refine ⟨dks, k, rfl, hD6, lt1000 (by omega), same_put (fun b x e => s6 b x (s4 b x e)) nD, _, upd_same, ?_, ?_, ?_⟩
      · rw [putK_new _ hkv, List.map_append, e1, List.take_add_one, hk1]
        rfl
      · rw [putK_new _ hkv, List.map_append]
        refine List.nodup_append.mpr ⟨e2, by simp, fun a ha b hb e => ?_⟩
        rw [List.map_singleton, List.mem_singleton] at hb
        obtain ⟨e', he', rfl⟩ := List.mem_map.mp ha
        obtain ⟨d', h1, h2, _⟩ := e3 e' he'
        rw [h1, hb] at e
        cases e
        rw [h2] at nd
        cases nd
      · intro e he
        rw [putK_new _ hkv] at he
        rcases List.mem_append.mp he with z | z
        · obtain ⟨d', h1, h2, h3, h4⟩ := e3 e z
          exact ⟨d', h1, by rw [upd_ne h3]; exact s6 _ _ h2, h3, h4⟩
        · rw [List.mem_singleton] at z
          subst z
          exact ⟨d, rfl, by rw [upd_ne dD]; exact hd6, dD, none_of s4 nd⟩
    · rintro H4 ⟨s4, dks, hD, e1, e2, e3⟩
      rw [show oks.length = (oks.map (·.1)).length from (List.length_map ..).symm, List.take_length] at e1
      have h4 := s4 _ _ hol
      have ups := same_lock (od := od) ho s4
      have Do : D ≠ o := fun z => by rw [z, upd_same] at nD; cases nD
      have nDH : H D = none := by rw [upd_ne Do] at nD; exact nD
      have fresh : ∀ d, (upd H o (.frz od (NS P w o oks))) d = none → d ≠ o ∧ H d = none := fun d hd => by
        have : d ≠ o := fun z => by rw [z, upd_same] at hd; cases hd
        rw [upd_ne this] at hd
        exact ⟨this, hd⟩
      have new0 : NewT P w H (upd H4 o (NS P w o oks)) D dks S (fun _ _ => none) := by
        refine ⟨by rw [upd_ne Do]; exact hD, by rw [e1]; exact o1, fun x => by rw [e1]; exact o2 x, fun x hx => ?_, fun x y d hx hy => ?_, fun x d hx => ?_, nDH⟩
        · obtain ⟨e, he, rfl⟩ := List.mem_map.mp (show x ∈ dks.map (·.1) by rw [e1]; exact (o2 x).mpr hx)
          obtain ⟨d, h1, h2, h3, h5⟩ := e3 e he
          refine ⟨d, valV_mem (by rw [e1]; exact o1) (by rw [← h1]; exact he), [], ?_, by simp, fun _ h => absurd h (by simp), fun _ => rfl⟩
          rw [upd_ne (fresh d h5).1]
          exact h2
        · have m1 := valV_key hx
          have m2 := valV_key hy
          obtain ⟨i, hi⟩ := List.mem_iff_getElem?.mp m1
          obtain ⟨j, hj⟩ := List.mem_iff_getElem?.mp m2
          have : i = j := (List.getElem?_inj (by rw [List.length_map]; exact (List.getElem?_eq_some_iff.mp hi).1) e2).mp (by rw [List.getElem?_map, List.getElem?_map, hi, hj]; rfl)
          subst this
          rw [hi] at hj
          cases hj
          rfl
        · obtain ⟨d', h1, _, h3, h5⟩ := e3 _ (valV_key hx)
          cases h1
          exact ⟨h3, (fresh d h5).2⟩
      refine ⟨h4, ?_⟩
      generalize upd H4 o (NS P w o oks) = H5 at ups new0 ⊢
      refine rows_it rfl hp ups fun J G hG wk => for_it wk (fun i σ H' => ∃ (x3 x4 x5 x6 x7 x8 : Option V) (G : Wy.Tb Spot), σ = [some (.ref p), some (.ref o), some (.ref D), x3, x4, x5, x6, x7, x8, none] ∧ Same H H' ∧ NewT P w H H' D dks S G ∧ Wy.TabI R S F' i G)
        ⟨none, none, none, none, none, none, _, rfl, ups, new0, Wy.TabI.first R S F'⟩ (fun i σ H' _ ⟨_, _, _, _, _, _, _, _, z, _⟩ => hG _ z) ?_ ?_
      · rintro i x σ H' H'' hi ⟨x3, x4, x5, x6, x7, x8, G, rfl, sH, nw, ti⟩ ⟨rfl, hx⟩
        obtain ⟨⟨a, b, c⟩, hr, q0, rfl, hq0⟩ := hu i x hx
        obtain ⟨ma, mb⟩ := inS _ _ _ (List.mem_of_getElem? hr)
        obtain ⟨da, hda, mda⟩ := nw.val a ma
        obtain ⟨db, hdb, bks, hb1, b1, b2, b3⟩ := o3 b mb
        refine ⟨q0, _, rfl, SqT.of (sH _ _ hq0), rfl, _, _, rfl, _, _, rfl, _, _, rfl, rfl, ?_⟩
        refine ⟨_, rfl, _, rfl, D, dks, a, _, rfl, .inl nw.at_, rfl, hda, ?_⟩
        have hb2 := sH _ _ hb1
        refine ⟨db, _, hb2, trivial, fun od2 => ?_⟩
        have nda := nw.new a da hda
        have dab : da ≠ db := fun z => by rw [z, hb1] at nda; cases nda.2
        have Dab : D ≠ db := fun z => by have := nw.new0; rw [z, hb1] at this; cases this
        have oDb : ∀ y d, valV dks y = some (.ref d) → d ≠ db := fun y d hy z => by have := (nw.new y d hy).2; rw [z, hb1] at this; cases this
        have nwl : NewT P w H (upd H'' db (.frz od2 (NS P w db bks))) D dks S G :=
          ⟨by rw [upd_ne Dab]; exact nw.at_, nw.nd, nw.mem, fun y hy => let ⟨d, e, m⟩ := nw.val y hy; ⟨d, e, m.at_ fun o' e' => by rw [upd_ne (oDb y d e)]; exact e'⟩, nw.inj, nw.new, nw.new0⟩
        have hbl : (upd H'' db (.frz od2 (NS P w db bks))) db = some (.frz od2 (NS P w db bks)) := upd_same
        have hob : Rd (upd H'' db (.frz od2 (NS P w db bks))) o (NS P w o oks) := by
          by_cases e : o = db
          · subst e
            have := sH _ _ ho
            rw [hb2] at this
            have e2 : NS P w o bks = NS P w o oks := Option.some.inj this
            exact .inr ⟨od2, by rw [hbl, e2]⟩
          · exact .inl (by rw [upd_ne e]; exact sH _ _ ho)
        have sL : Same (upd H db (.frz od2 (NS P w db bks))) (upd H'' db (.frz od2 (NS P w db bks))) := fun y o' e => by
          by_cases q : y = db
          · subst q
            rw [upd_same] at e ⊢
            exact e
          · rw [upd_ne q] at e ⊢
            exact sH _ _ e
        generalize upd H'' db (.frz od2 (NS P w db bks)) = H6 at nwl hbl hob sL ⊢
        refine ⟨_, rfl, _, rfl, o, oks, b, _, rfl, hob, rfl, hdb, db, od2, bks, rfl, hbl, ?_⟩
        refine for_it walk_itemsS (fun j σ H' => ∃ (x7 x8 : Option V) (G : Wy.Tb Spot), σ = [some (.ref p), some (.ref o), some (.ref D), some (oV a), some (oV b), some (.int c), some (.ref da), x7, x8, none] ∧ Same (upd H db (.frz od2 (NS P w db bks))) H' ∧ NewT P w H H' D dks S G ∧ Wy.TabJ R S F' i (fun x => x ∈ (bks.map (·.1)).take j) G)
          ⟨_, _, G, rfl, sL, nwl, ti.begin.weak fun x h => by simp at h⟩ (fun j σ H' _ ⟨_, _, _, _, z, _⟩ => z _ _ upd_same) ?_ ?_
        · rintro j x σ H' H8 hj ⟨x7, x8, G, rfl, s7, nw7, tj⟩ ⟨T, e, vv, hk, rfl, nT, rfl⟩
          have hv := valV_mem b1 (List.mem_of_getElem? hk)
          rw [b3] at hv
          have hv : intV (F' b e) = some vv := hv
          have me : e ∈ S := b2 e (List.mem_map.mpr ⟨_, List.mem_of_getElem? hk, rfl⟩)
          have hk1 : (bks.map (·.1))[j]? = some e := by rw [List.getElem?_map, hk]; rfl
          obtain ⟨y, hy, rfl⟩ : ∃ y, F' b e = some y ∧ vv = .int y := by
            cases q : F' b e with
            | none => rw [q] at hv; cases hv
            | some y => rw [q] at hv; exact ⟨y, rfl, (Option.some.inj hv).symm⟩
          have nwT := nw7.sm (same_upd (o := .tup [oV e, .int y]) nT)
          have hT : (upd H' T (.tup [oV e, .int y])) T = some (.tup [oV e, .int y]) := upd_same
          have s8 : Same (upd H db (.frz od2 (NS P w db bks))) (upd H' T (.tup [oV e, .int y])) := fun b' o' e' => same_upd nT _ _ (s7 _ _ e')
          generalize upd H' T (.tup [oV e, .int y]) = H8 at nwT hT s8 ⊢
          obtain ⟨da', hda', sk, hs1, hs2, hs3, hs4⟩ := nwT.val a ma
          rw [hda] at hda'
          cases hda'
          have tp := tj.put hr hy
          have dn : ∀ x, x ∈ (bks.map (·.1)).take (j + 1) → x ∈ (bks.map (·.1)).take j ∨ x = e := fun x hx => by
            rw [List.take_add_one, hk1] at hx
            rcases List.mem_append.mp hx with z | z
            · exact .inl z
            · exact .inr (by simpa using z)
          have lsk := sk_len hs2 hs3
          refine ⟨T, _, rfl, SqT.of hT, rfl, _, _, rfl, _, _, rfl, rfl, ?_⟩
          refine ⟨_, rfl, _, rfl, da, sk, e, rfl, .inl hs1, rfl, _, rfl, ?_⟩
          have hs4 : ∀ y, valV sk y = intV (G a y) := hs4
          rw [hs4 e]
          have sDa : (upd H db (.frz od2 (NS P w db bks))) da = none := by rw [upd_ne dab]; exact nda.2
          have fin : NewT P w H (upd H8 da (NS P w da (putK sk e (.int (c + y))))) D dks S (Wy.up2 G a e (c + y)) := nwT.put me hda hs1 hs2 hs3 hs4
          cases hG2 : G a e with
          | none =>
            have m1 : Wy.minO (G a e) (c + y) = c + y := by rw [hG2]; rfl
            rw [m1] at tp
            refine iteT ⟨_, rfl, _, rfl, _, _, rfl, rfl, _, rfl, _, rfl, da, sk, e, rfl, hs1, rfl, lt1000 (by omega), ?_⟩
            exact ⟨_, _, _, rfl, same_put s8 sDa, fin, tp.weak dn⟩
          | some z =>
            refine iteF ⟨_, rfl, _, rfl, _, _, rfl, rfl, _, rfl, _, rfl, da, sk, e, .int z, rfl, .inl hs1, rfl, by rw [hs4 e, hG2]; rfl, _, _, rfl, rfl, _, rfl, ?_⟩
            refine ite2 (fun h => ?_) (fun h => ?_)
            · have h : c + y < z := of_decide_eq_true h
              have m1 : Wy.minO (G a e) (c + y) = c + y := by
                rw [hG2]
                exact if_pos h
              rw [m1] at tp
              refine ⟨_, rfl, _, rfl, _, _, rfl, rfl, _, rfl, _, rfl, da, sk, e, rfl, hs1, rfl, lt1000 (by omega), ?_⟩
              exact ⟨_, _, _, rfl, same_put s8 sDa, fin, tp.weak dn⟩
            · have h : ¬ c + y < z := fun q => h (decide_eq_true q)
              have m1 : Wy.minO (G a e) (c + y) = z := by
                rw [hG2]
                exact if_neg h
              have m2 : Wy.up2 G a e z = G := by
                funext a' e'
                unfold Wy.up2
                split
                · rename_i q
                  rw [q.1, q.2, hG2]
                · rfl
              rw [m1, m2] at tp
              exact ⟨_, _, _, rfl, s8, nwT, tp.weak dn⟩
        · rintro σ H7 ⟨x7, x8, G, rfl, s7, nw7, tj⟩
          have keys : (bks.map (·.1)).take bks.length = bks.map (·.1) := by rw [show bks.length = (bks.map (·.1)).length from (List.length_map ..).symm, List.take_length]
          refine ⟨s7 _ _ upd_same, _, _, _, _, _, _, G, rfl, same_lock hb1 s7, nw7.at2 ⟨_, hb1⟩ fun c' o' n e => by rw [upd_ne n]; exact e, ⟨tj.real, fun j' a' b' c' e' y' hj' hr' hF' => ?_⟩⟩
          by_cases q : j' = i
          · subst q
            rw [hr] at hr'
            cases hr'
            refine tj.own _ _ _ e' y' hr ?_ hF'
            show e' ∈ (bks.map (·.1)).take bks.length
            rw [keys]
            have : valV bks e' = some (.int y') := by rw [b3]; show intV (F' b e') = _; rw [hF']; rfl
            exact List.mem_map.mpr ⟨_, valV_key this, rfl⟩
          · exact tj.low j' a' b' c' e' y' (by omega) hr' hF'
      · rintro σ H' ⟨x3, x4, x5, x6, x7, x8, G, rfl, sH, nw, ti⟩
        rw [lu] at ti
        exact ⟨_, rfl, q H' D G ti nw.tab sH nDH⟩
end
end Lm
/-! ring_tables. -/
namespace Lm
open PySem PySem.Spec PyProof.Rows L2
theorem rd_lock {P : Program} {w : World} {H : Hp} {t d : Addr} {od : Obj} {tks ks : SK} (ht : H t = some (NS P w t tks)) (hd : H d = some (NS P w d ks)) : Rd (upd H t (.frz od (NS P w t tks))) d (NS P w d ks) := by
  by_cases e : d = t
  · subst e
    rw [ht] at hd
    have : NS P w d tks = NS P w d ks := Option.some.inj hd
    exact .inr ⟨od, by rw [upd_same, this]⟩
  · exact .inl (by rw [upd_ne e]; exact hd)
theorem atI_end {α : Type} {xs : List α} {n : Nat} {v : α} (l : xs.length = n + 1) (h : xs[n]? = some v) : atI xs (-1) = some v := by
  have e : ixN xs.length (-1) = some n := by
    unfold ixN
    rw [l, if_neg (by decide), if_pos (by omega)]
    congr 1
    omega
  unfold atI
  rw [e]
  exact h
/-- a list of tables, with 0, 1, .. rows -/
def TabsAt (P : Program) (w : World) (H : Hp) (ts : List V) (R : Rws) (S : List Spot) (n : Nat) : Prop := ts.length = n ∧ ∀ k, k < n → ∃ a F, ts[k]? = some (.ref a) ∧ TabAt P w H a S F ∧ Wy.Tab R S k F
theorem TabsAt.sm {P : Program} {w : World} {H H' : Hp} {ts : List V} {R : Rws} {S : List Spot} {n : Nat} (h : TabsAt P w H ts R S n) (s : Same H H') : TabsAt P w H' ts R S n :=
  ⟨h.1, fun k hk => let ⟨a, F, e, t, q⟩ := h.2 k hk; ⟨a, F, e, t.sm s, q⟩⟩
theorem TabsAt.snoc {P : Program} {w : World} {H : Hp} {ts : List V} {R : Rws} {S : List Spot} {n : Nat} (h : TabsAt P w H ts R S n) {a : Addr} {F : Wy.Tb Spot} (t : TabAt P w H a S F) (q : Wy.Tab R S n F) : TabsAt P w H (ts ++ [.ref a]) R S (n + 1) := by
  refine ⟨by rw [List.length_append, h.1]; rfl, fun k hk => ?_⟩
  by_cases e : k = n
  · subst e
    exact ⟨a, F, by rw [List.getElem?_append_right (Nat.le_of_eq h.1), h.1, Nat.sub_self]; rfl, t, q⟩
  · obtain ⟨a', F', e1, e2, e3⟩ := h.2 k (by omega)
    exact ⟨a', F', by rw [List.getElem?_append_left (by rw [h.1]; omega)]; exact e1, e2, e3⟩
section
variable {P : Program} {w : World} {K : PySem.W.Frag} {mg : Str → Option Value} {base : Heap}
abbrev sRTs : Stmt := topS 17
def nRTs : List Str := ["rows", "spot", "tables", "table"]
theorem scRTs : FnScope nRTs ["rows"] (defScope sRTs) := ⟨rfl, rfl, rfl, by decide +kernel, rfl, by decide +kernel, by decide +kernel⟩
def spRTs (P : Program) (w : World) : Sp := fun vs H Q _ => ∃ (v : V) (R : Rws), vs = [v] ∧ Sy H v R ∧ (∃ w0, Wy.Ring R w0 ∧ w0.length ≤ 100) ∧
  ∀ (H' : Hp) (q : Addr) (ts : List V) (ys : List Str) (T : Nat), NmsOf R ys → H' q = some (.lst ts) → TabsAt P w H' ts R (spots ys) (T + 1) → T ≤ 100 → (∃ w0, Wy.Ring R w0 ∧ w0.length = T) → (∀ w0, Wy.Ring R w0 → T ≤ w0.length) → Same H H' → Q (.ref q) H'
theorem ok_rts {f : Addr} {fd : FuncData} (F : Fun K "ring_tables" "ring_tables" sRTs f fd) (GS : Has P w K mg base CX0 2 "spots_of" ["rows"] spSpots) (GO : Has P w K mg base CX0 1 "one_row_more" ["rows", "old"] (spOM P w)) : FnOk P w K mg base CX0 3 f fd ["rows"] (spRTs P w) := by
  refine F.ok scRTs (fun vs H Q E h => ?_) (fun cdv A outer s H vs Q E hr h => ?_)
  · obtain ⟨v, R, rfl, _⟩ := h
    rfl
  · obtain ⟨v, R, rfl, sy, ⟨w0, rw0, lw0⟩, q⟩ := h
    refine ⟨_, pss_cons (ps_set (i := 2) scRTs.nd rfl (.inl rfl) (pe_lst (pa_cons (pe_dcSP P w (own := [("spot", 1)]) (g := gName 1) (tt := tYes) rfl scRTs.nd (pi_listK K (pe_h GS hr (by decide) (by rfl) pass0 (pa_cons (pv 0) pa_nil))) (blkOk_by (own := [("spot", 1)]) (N := nRTs) (sc := defScope sRTs) (by decide +kernel))
                (fun _ _ _ _ _ => pg_name (i := 1) scRTs.nd rfl (Or.inl rfl)) (fun _ _ _ _ _ => pts_nil) (fun _ _ _ _ _ => pv 1) (fun _ _ _ _ _ => pe_disSP P w (pv 1) pe_int)) pa_nil)))
      (pss_one (ps_while PassesOwn.never (pt_val pe_bl)
        (pss_cons (ps_set (i := 3) scRTs.nd rfl (.inl rfl) (pe_h GO hr (by decide) (by rfl) pass0 (pa_cons (pv 0) (pa_cons (pe_ix (ix_listK K) (pv 2) (pe_un un_neg pe_int) (fun _ _ => rfl)) pa_nil))))
        (pss_cons (ps_expr (pe_bm PySem.F.plainAttrs_list PySem.F.slot_list_append PySem.F.type_list_append mt_append (pv 2) (pa_cons (pv 3) pa_nil)))
        (pss_one (ps_lock (ps_for PassesOwn.never rfl (pi_keysS (P := P) (w := w) (pv 3)) (pg_name (i := 1) scRTs.nd rfl (.inl rfl))
          (pss_one (ps_if (pt_cmpR op_lt (pe_dget2SP P w (pe_dgetSP P w (pv 3) (pv 1) (fun _ _ => rfl)) (pv 1) pe_int ⟨rfl, rfl, rfl, rfl⟩) pe_int (nomark _)) (pss_one (ps_ret (pv 2))) pss_nil))))))))), ?_⟩
    refine ⟨v, rfl, v, R, rfl, sy, fun H1 sp ys hn nsp hsp s1 => ⟨sp, rfl, ⟨_, SqL.of hsp⟩, fun D nD => ?_⟩⟩
    have lys := hn.len sy.len
    have lS : (spots ys).length ≤ 61 := by
      show (none :: ys.map some).length ≤ 61
      rw [List.length_cons, List.length_map]
      omega
    have ndS := spots_nodup hn.2.1
    have inS := hn.mem
    refine dc_itS walk_list (fun i H4 => Same H1 H4 ∧ ∃ dks, H4 D = some (NS P w D dks) ∧ dks.map (·.1) = (spots ys).take i ∧
        ∀ e ∈ dks, ∃ d, e.2 = .ref d ∧ H4 d = some (NS P w d [(e.1, .int 0)]) ∧ d ≠ D) ⟨same_upd nD, [], upd_same, rfl, fun _ h => absurd h (by simp)⟩ (fun i H4 _ z => SqL.of (z.1 _ _ hsp)) ?_ ?_
    · rintro i x H4 H5 hi ⟨s4, dks, hD, e1, e3⟩ ⟨rfl, hx⟩
      rw [List.getElem?_map] at hx
      obtain ⟨k, hk, rfl⟩ : ∃ k, (spots ys)[i]? = some k ∧ x = oV k := by
        cases e : (spots ys)[i]? with
        | none => rw [e] at hx; cases hx
        | some k => rw [e] at hx; exact ⟨k, rfl, (Option.some.inj hx).symm⟩
      have ld : dks.length ≤ 100 := by
        have := congrArg List.length e1
        rw [List.length_map, List.length_take] at this
        omega
      have hkn : k ∉ dks.map (·.1) := by
        rw [e1]
        intro z
        obtain ⟨j, hj⟩ := List.mem_iff_getElem?.mp z
        rw [List.getElem?_take] at hj
        split at hj
        · rename_i lt
          rw [List.length_map] at hi
          have := (List.getElem?_inj (by omega) ndS).mp (hj.trans hk.symm)
          omega
        · cases hj
      have hkv : valV dks k = none := by
        cases e : valV dks k with
        | none => rfl
        | some v => exact absurd (List.mem_map.mpr ⟨_, valV_key e, rfl⟩) hkn
      refine ⟨rfl, _, rfl, fun d nd => ⟨_, rfl, k, rfl, upd_same, ?_⟩⟩
      rw [upd_upd]
      have dD : d ≠ D := fun z => by rw [z, hD] at nd; cases nd
      have hD6 := upd_apart (o := NS P w d [(k, .int 0)]) hD dD.symm
      have s6 : Same H5 (upd H5 d (NS P w d [(k, .int 0)])) := same_upd nd
      have hd6 : (upd H5 d (NS P w d [(k, .int 0)])) d = some (NS P w d [(k, .int 0)]) := upd_same
      generalize upd H5 d (NS P w d [(k, .int 0)]) = H6 at hD6 s6 hd6 ⊢
      refine ⟨dks, k, rfl, hD6, lt1000 (by omega), same_put (fun b x e => s6 b x (s4 b x e)) nD, _, upd_same, ?_, ?_⟩
      · rw [putK_new _ hkv, List.map_append, e1, List.take_add_one, hk]
        rfl
      · intro e he
        rw [putK_new _ hkv] at he
        rcases List.mem_append.mp he with z | z
        · obtain ⟨d', h1, h2, h3⟩ := e3 e z
          exact ⟨d', h1, by rw [upd_ne h3]; exact s6 _ _ h2, h3⟩
        · rw [List.mem_singleton] at z
          subst z
          exact ⟨d, rfl, by rw [upd_ne dD]; exact hd6, dD⟩
    · rintro H4 ⟨s4, dks, hD, e1, e3⟩
      rw [show ((spots ys).map oV).length = (spots ys).length from List.length_map .., List.take_length] at e1
      have tab0 : TabAt P w H4 D (spots ys) (Wy.diagT (spots ys)) := by
        refine ⟨dks, hD, by rw [e1]; exact ndS, fun x => by rw [e1], fun x hx => ?_⟩
        obtain ⟨e, he, rfl⟩ := List.mem_map.mp (show x ∈ dks.map (·.1) by rw [e1]; exact hx)
        obtain ⟨d, h1, h2, h3⟩ := e3 e he
        refine ⟨d, valV_mem (by rw [e1]; exact ndS) (by rw [← h1]; exact he), [(e.1, .int 0)], h2, by simp, fun k hk => by simp at hk; rw [hk]; exact hx, fun y => ?_⟩
        show valV [(e.1, V.int 0)] y = intV (Wy.diagT (spots ys) e.1 y)
        unfold Wy.diagT
        by_cases q : e.1 = y
        · rw [valV_pos (show (e.1, V.int 0).1 = y from q), if_pos ⟨q, hx⟩]
          rfl
        · rw [valV_neg (show ¬ (e.1, V.int 0).1 = y from q), if_neg fun z => q z.1]
          rfl
      refine ⟨by show 1 ≤ sizeLine; decide, fun t nt => ?_⟩
      have nt0 := none_of s1 (none_of s4 nt)
      have s5 : Same H (upd H4 t (.lst [.ref D])) := same_put (fun b o e => s4 _ _ (s1 _ _ e)) nt0
      have ht5 : (upd H4 t (.lst [.ref D])) t = some (.lst [.ref D]) := upd_same
      have tabs0 : TabsAt P w (upd H4 t (.lst [.ref D])) [.ref D] R (spots ys) 1 := ⟨rfl, fun k hk => by
        have : k = 0 := by omega
        subst this
        exact ⟨D, _, rfl, tab0.sm (same_upd nt), Wy.Tab.zero R (spots ys)⟩⟩
      generalize upd H4 t (.lst [.ref D]) = H5 at s5 ht5 tabs0 ⊢
      refine while_by (fun σ H' => ∃ (x1 x3 : Option V) (ts : List V) (n : Nat), σ = [some v, x1, some (.ref t), x3] ∧ Same H H' ∧ H' t = some (.lst ts) ∧ TabsAt P w H' ts R (spots ys) (n + 1) ∧ (∀ w0, Wy.Ring R w0 → n < w0.length))
        (fun σ H' => match H' t with | some (.lst xs) => 1000 - xs.length | _ => 0) ⟨none, none, _, 0, rfl, s5, ht5, tabs0, fun w1 h => List.length_pos_iff.mpr h.ne⟩ ?_ ?_
      · rintro σ H6 ⟨x1, x3, ts, n, rfl, s6, ht6, tabs, lw⟩
        have lts := tabs.1
        have nl := lw w0 rw0
        obtain ⟨a, F', ha, ta, hF⟩ := tabs.2 n (by omega)
        refine ⟨_, rfl, iteT ?_⟩
        refine ⟨_, rfl, _, rfl, _, rfl, t, ts, _, .ref a, rfl, rfl, SqL.of ht6, ?_, ?_⟩
        · exact atI_end lts ha
        refine ⟨v, R, a, spots ys, F', rfl, sy.sm s6, ta, by omega, inS, hF.inS, fun H7 tb G ti tg s7 ntb => ?_⟩
        have hG := hF.succ inS ti
        refine ⟨_, rfl, .inl ⟨rfl, _, SqL.of (s7 _ _ ht6)⟩, _, rfl, t, ts, _, rfl, rfl, s7 _ _ ht6, small1000 (by omega), ?_⟩
        have sH7 : Same H H7 := fun b o e => s7 _ _ (s6 _ _ e)
        have tbt : tb ≠ t := fun z => by rw [z, ht6] at ntb; cases ntb
        have ht8 : (upd H7 t (.lst (ts ++ [.ref tb]))) t = some (.lst (ts ++ [.ref tb])) := upd_same
        have s8 : Same H (upd H7 t (.lst (ts ++ [.ref tb]))) := same_put sH7 nt0
        have mv : ∀ {x : Addr} {S : List Spot} {F : Wy.Tb Spot}, TabAt P w H7 x S F → TabAt P w (upd H7 t (.lst (ts ++ [.ref tb]))) x S F := by
          intro x S F ⟨ks, h1, h2, h3, h4⟩
          have ht7 := s7 _ _ ht6
          have nx : ∀ {y : Addr} {ks : SK}, H7 y = some (NS P w y ks) → y ≠ t := fun h z => by rw [z, ht7] at h; cases h
          refine ⟨ks, by rw [upd_ne (nx h1)]; exact h1, h2, h3, fun y hy => ?_⟩
          obtain ⟨d, e, sk, m1, m2⟩ := h4 y hy
          exact ⟨d, e, sk, by rw [upd_ne (nx m1)]; exact m1, m2⟩
        have tabs8 : TabsAt P w (upd H7 t (.lst (ts ++ [.ref tb]))) (ts ++ [.ref tb]) R (spots ys) (n + 1 + 1) := by
          refine TabsAt.snoc ⟨lts, fun k hk => ?_⟩ (mv tg) hG
          obtain ⟨a', F2, e1, e2, e3⟩ := (tabs.sm s7).2 k hk
          exact ⟨a', F2, e1, mv e2, e3⟩
        have tg8 := mv tg
        generalize upd H7 t (.lst (ts ++ [.ref tb])) = H8 at ht8 s8 tabs8 tg8 ⊢
        obtain ⟨tks, g1, g2, g3, g4⟩ := tg8
        refine ⟨tb, _, g1, trivial, fun od => ?_⟩
        have hbl : (upd H8 tb (.frz od (NS P w tb tks))) tb = some (.frz od (NS P w tb tks)) := upd_same
        have rdl : ∀ {d ks}, H8 d = some (NS P w d ks) → Rd (upd H8 tb (.frz od (NS P w tb tks))) d (NS P w d ks) := fun h => rd_lock g1 h
        have un : upd (upd H8 tb (.frz od (NS P w tb tks))) tb (NS P w tb tks) = H8 := by
          rw [upd_upd]
          funext y
          by_cases e : y = tb
          · rw [e, upd_same, g1]
          · rw [upd_ne e]
        refine ⟨_, rfl, tb, od, tks, rfl, hbl, for_it walk_keysS (fun j σ H' => H' = upd H8 tb (.frz od (NS P w tb tks)) ∧ (∃ x1, σ = [some v, x1, some (.ref t), some (.ref tb)]) ∧ ∀ x ∈ (tks.map (·.1)).take j, ∀ z, G x x = some z → ¬ z < 0) ⟨rfl, ⟨_, rfl⟩, fun x hx => by simp at hx⟩ (fun j σ H' _ z => by rw [z.1]; exact hbl) ?_ ?_⟩
        · rintro j x σ H' H9 hj ⟨rfl, ⟨x1, rfl⟩, hx⟩ ⟨rfl, k, vv, hk, rfl⟩
          have hk1 : (tks.map (·.1))[j]? = some k := by rw [List.getElem?_map, hk]; rfl
          have mk : k ∈ spots ys := (g3 k).mp (List.mem_of_getElem? hk1)
          obtain ⟨d, hd, sk, m1, m2, m3, m4⟩ := g4 k mk
          have m4 : ∀ y, valV sk y = intV (G k y) := m4
          refine ⟨_, rfl, _, rfl, tb, tks, k, _, rfl, .inr ⟨od, hbl⟩, rfl, hd, d, rfl, ⟨sk, rdl m1⟩, _, rfl, sk, k, rdl m1, rfl, ?_⟩
          rw [m4 k]
          have step : (∀ z, G k k = some z → ¬ z < 0) → ∀ x ∈ (tks.map (·.1)).take (j + 1), ∀ z, G x x = some z → ¬ z < 0 := fun h x hx' => by
            rw [List.take_add_one, hk1] at hx'
            rcases List.mem_append.mp hx' with z | z
            · exact hx x z
            · have : x = k := by simpa using z
              rw [this]
              exact h
          cases hg : G k k with
          | none =>
            refine ⟨_, _, rfl, rfl, _, rfl, iteF ⟨rfl, ⟨_, rfl⟩, step fun z hz => by rw [hg] at hz; cases hz⟩⟩
          | some z =>
            refine ⟨_, _, rfl, rfl, _, rfl, ite2 (fun h => ?_) (fun h => ⟨rfl, ⟨_, rfl⟩, step fun z' hz' => ?_⟩)⟩
            · have h : z < 0 := of_decide_eq_true h
              obtain ⟨w1, r1, l1⟩ := hG.neg inS |>.mp ⟨k, mk, z, hg, h⟩
              refine ⟨_, rfl, hbl, ?_⟩
              rw [un]
              exact q H8 t _ ys (n + 1) hn ht8 tabs8 (by omega) ⟨w1, r1, l1⟩ (fun w2 r2 => lw w2 r2) s8
            · rw [hg] at hz'
              cases hz'
              exact fun z2 => h (decide_eq_true z2)
        · rintro σ H9 ⟨rfl, ⟨x1, rfl⟩, hx⟩
          rw [show tks.length = (tks.map (·.1)).length from (List.length_map ..).symm, List.take_length] at hx
          refine ⟨hbl, ?_⟩
          rw [un]
          refine ⟨⟨_, _, _, n + 1, rfl, s8, ht8, tabs8, fun w2 r2 => ?_⟩, ?_⟩
          · have l2 := lw w2 r2
            rcases Nat.lt_or_ge (n + 1) w2.length with z | z
            · exact z
            · have e : w2.length = n + 1 := by omega
              obtain ⟨x, hxS, z, hz, lz⟩ := hG.neg inS |>.mpr ⟨w2, r2, e⟩
              exact absurd lz (hx x ((g3 x).mpr hxS) z hz)
          · rw [ht8, ht6]
            show 1000 - (ts ++ [_]).length < 1000 - ts.length
            rw [List.length_append, lts]
            show 1000 - (n + 1 + 1) < _
            omega
      · rintro σ H6 Q1 Q2 mono ⟨k, ek, h⟩
        exact ⟨k, ek, mono _ _ h⟩
end
end Lm
/-! first_ring. -/
namespace Lm
open PySem PySem.Spec PyProof.Rows L2
/-- what first_ring tells -/
def FrOk (R : Rws) (H : Hp) (y : V) : Prop := (y = .non ∧ ∃ p, Wy.Pot R p) ∨ ∃ (q : Addr) (l : List Nat), y = .ref q ∧ H q = some (.lst (l.map fun k => V.int ((k : Nat) : Int))) ∧ Wy.FirstRing R l ∧ l.length ≤ 100
section
variable {P : Program} {w : World} {K : PySem.W.Frag} {mg : Str → Option Value} {base : Heap}
abbrev sFR : Stmt := topS 18
def nFR : List Str := ["rows", "tables", "found", "total", "start", "here", "left", "at", "a", "b", "c", "end", "rest"]
theorem scFR : FnScope nFR ["rows"] (defScope sFR) := ⟨rfl, rfl, rfl, by decide +kernel, rfl, by decide +kernel, by decide +kernel⟩
def spFR : Sp := fun vs H Q _ => ∃ (v : V) (R : Rws), vs = [v] ∧ Sy H v R ∧ ∀ (H' : Hp) (y : V), FrOk R H' y → Same H H' → (∀ q, y = .ref q → H q = none) → Q y H'
theorem ok_fr {f : Addr} {fd : FuncData} (F : Fun K "first_ring" "first_ring" sFR f fd) (N : Bl mg) (GW : Has P w K mg base CX0 2 "weighed" ["rows", "start"] (spWe P w)) (GT : Has P w K mg base CX0 3 "ring_tables" ["rows"] (spRTs P w)) (NM : True) : FnOk P w K mg base CX0 4 f fd ["rows"] spFR := by
  refine F.ok scFR (fun vs H Q E h => ?_) (fun cdv A outer s H vs Q E hr h => ?_)
  · obtain ⟨v, R, rfl, _⟩ := h
    rfl
  · obtain ⟨v, R, rfl, sy, q⟩ := h
    refine ⟨_, pss_cons (ps_if (pt_cmpR op_isN1 (pe_ix (ix_tupK K) (pe_h GW hr (by decide) (by rfl) pass0 (pa_cons (pv 0) (pa_cons (pe_dnewSP P w) pa_nil))) pe_int (fun _ _ => rfl)) pe_non (nomark _)) (pss_one (ps_ret pe_non)) pss_nil)
      (pss_cons (ps_set (i := 1) scFR.nd rfl (.inl rfl) (pe_h GT hr (by decide) (by rfl) pass0 (pa_cons (pv 0) pa_nil)))
      (pss_cons (ps_set (i := 2) scFR.nd rfl (.inl rfl) (pe_lst pa_nil))
      (pss_cons (ps_set (i := 3) scFR.nd rfl (.inl rfl) pe_int)
      (pss_cons (ps_set (i := 4) scFR.nd rfl (.inl rfl) pe_non)
      (pss_cons (ps_set (i := 5) scFR.nd rfl (.inl rfl) pe_non)
      (pss_cons (ps_for PassesOwn.never rfl (pi_range3 (by rfl) N.brng (pa_cons (pe_op op_sub (pe_callB call_len_seq (by rfl) N.blen PySem.boot_len (pa_cons (pv 1) pa_nil)) pe_int) (pa_cons (pe_un un_neg pe_int) (pa_cons (pe_un un_neg pe_int) pa_nil)))) (pg_name (i := 6) scFR.nd rfl (.inl rfl))
        (pss_one (ps_for PassesOwn.never rfl (pi_enumK K (by rfl) N.benu (pa_cons (pv 0) pa_nil)) (pg_tup rfl (pgs_cons (pg_name (i := 7) scFR.nd rfl (.inl rfl)) (pgs_cons
            (pg_tup rfl (pgs_cons (pg_name (i := 8) scFR.nd rfl (.inl rfl)) (pgs_cons (pg_name (i := 9) scFR.nd rfl (.inl rfl)) (pgs_cons (pg_name (i := 10) scFR.nd rfl (.inl rfl)) pgs_nil)))) pgs_nil)))
          (C8.pss_cut (ps_if (pw_and (pt_truth (pv 2) (fun _ => rfl)) (pw_and1 (pt_cmpR op_ne (pv 8) (pv 5) (nomark _)))).pt (pss_one ps_continue) pss_nil)
          (C8.pss_cut (ps_set (i := 11) scFR.nd rfl (.inl rfl) (pe_ifExp (pt_truth (pv 2) (fun _ => rfl)) (pv 4) (pv 8)))
          (pss_cons (ps_set (i := 12) scFR.nd rfl (.inl rfl) (pe_dget1SP P w (pe_dgetSP P w (pe_ix (ix_listK K) (pv 1) (pv 6) (fun _ _ => rfl)) (pv 9) (fun _ _ => rfl)) (pv 11) ⟨rfl, rfl, rfl, rfl⟩))
          (pss_one (ps_if (pw_and (pt_cmpR op_notN1 (pv 12) pe_non (nomark _)) (pw_and1 (pt_cmpR op_lt (pe_op op_add (pe_op op_add (pv 3) (pv 10)) (pv 12)) pe_int (nomark _)))).pt
            (pss_cons (ps_set (i := 4) scFR.nd rfl (.inl rfl) (pv 11)) (pss_cons (ps_set (i := 5) scFR.nd rfl (.inl rfl) (pv 9)) (pss_cons (ps_set (i := 3) scFR.nd rfl (.inl rfl) (pe_op op_add (pv 3) (pv 10)))
              (pss_cons (ps_expr (pe_bm PySem.F.plainAttrs_list PySem.F.slot_list_append PySem.F.type_list_append mt_append (pv 2) (pa_cons (pv 7) pa_nil))) (pss_one ps_break))))) pss_nil))))))))
      (pss_one (ps_ret (pv 2))))))))), ?_⟩
    obtain ⟨p, us, rfl, hp, lu, hu⟩ := sy.at_
    have l30 := sy.len
    refine ⟨_, rfl, fun st nst => ?_⟩
    have s1 : Same H (upd H st (NS P w st [])) := same_upd nst
    have hst : (upd H st (NS P w st [])) st = some (NS P w st []) := upd_same
    generalize upd H st (NS P w st []) = H1 at s1 hst ⊢
    refine ⟨.ref p, R, st, rfl, sy.sm s1, hst, fun H2 wq x y hw hwq s2 => ?_⟩
    have s02 : Same H H2 := fun b o e => s2 _ _ (s1 _ _ e)
    refine ⟨_, _, 1, _, rfl, rfl, SqT.of hwq, atI_nat (j := 1) rfl, rfl, _, rfl, ?_⟩
    rcases hw with ⟨rfl, pot⟩ | ⟨⟨r0, rfl⟩, w0, rw0, lw0⟩
    · rw [decide_eq_true rfl]
      exact iteT (q H2 .non (.inl ⟨rfl, pot⟩) s02 fun _ z => nomatch z)
    rw [decide_eq_false (fun z => by cases z)]
    have lw1 : w0.length ≤ 100 := by
      have := lw0 (none :: sidesR R) (List.mem_cons_self ..) fun r hr => ⟨List.mem_cons_of_mem _ (List.mem_flatMap.mpr ⟨r, hr, List.mem_cons_self ..⟩), List.mem_cons_of_mem _ (List.mem_flatMap.mpr ⟨r, hr, List.mem_cons_of_mem _ (List.mem_cons_self ..)⟩)⟩
      rw [List.length_cons, sides_len] at this
      omega
    refine iteF ⟨_, rfl, .ref p, R, rfl, sy.sm s02, ⟨w0, rw0, lw1⟩, fun H3 tq ts ys T hn htq tabs lT ring hmin s3 => ⟨Nat.zero_le _, fun f nf => ?_⟩⟩
    have s03 : Same H H3 := fun b o e => s3 _ _ (s02 _ _ e)
    have nf0 := none_of s03 nf
    have s4 : Same H (upd H3 f (.lst [])) := same_put s03 nf0
    have htq4 : (upd H3 f (.lst [])) tq = some (.lst ts) := same_upd nf _ _ htq
    have hf4 : (upd H3 f (.lst [])) f = some (.lst ([] : List V)) := upd_same
    have ftq : f ≠ tq := fun z => by rw [z, htq] at nf; cases nf
    have tabs4 := tabs.sm (same_upd (o := .lst []) nf)
    have lts := tabs.1
    have inS := hn.mem
    have fT : ∀ {x : Addr} {ks : SK}, H3 x = some (NS P w x ks) → x ≠ f := fun h z => by rw [z, nf] at h; cases h
    generalize hH4 : upd H3 f (.lst []) = H4 at s4 htq4 hf4 tabs4 ⊢
    -- all but f stands
    have T1 : 1 ≤ T := by
      obtain ⟨w1, r1, l1⟩ := ring
      have := List.length_pos_iff.mpr r1.ne
      omega
    refine ⟨_, rfl, tq, ts, rfl, .inl (SqL.of htq4), _, _, rfl, rfl, _, rfl, _, rfl, (ts.length : Int) - 2, -1, -1, _, rfl, RgC.neg (by omega) (by omega) (by decide) (by decide), ?_⟩
    have en : ((ts.length : Int) - 2 - -1).toNat = T := by omega
    rw [en]
    refine for_it walk_rangeC (fun m σ H' => ∃ (x6 x7 x8 x9 x10 x11 x12 : Option V) (found : List Nat) (total : Int) (st here : Spot), σ = [some (.ref p), some (.ref tq), some (.ref f), some (.int total), some (oV st), some (oV here), x6, x7, x8, x9, x10, x11, x12] ∧
      H' f = some (.lst (found.map fun k => V.int ((k : Nat) : Int))) ∧ (∀ b o, b ≠ f → H4 b = some o → H' b = some o) ∧ m ≤ T ∧ Wy.Gr R T (T - m) found total st here)
      ⟨none, none, none, none, none, none, none, [], 0, none, none, rfl, hf4, fun b o _ e => e, Nat.zero_le _, Wy.Gr.first ring⟩ (fun m σ H' _ _ => trivial) ?_ ?_
    · rintro m x σ H' H'' hm ⟨x6, x7, x8, x9, x10, x11, x12, found, total, st, here, rfl, hf, sb, _, gr⟩ ⟨rfl, rfl⟩
      obtain ⟨tb, F', htb, tab, hF⟩ := tabs4.2 (T - 1 - m) (by omega)
      have gl : T - m = (T - 1 - m) + 1 := by omega
      rw [gl] at gr
      have lf : found.length ≤ 100 := by have := gr.len; omega
      have left_e : (ts.length : Int) - 2 + (m : Nat) * -1 = ((T - 1 - m : Nat) : Int) := by omega
      have sH : Same H H'' := fun b o e => sb _ _ (fun z => by rw [z, nf0] at e; cases e) (s4 _ _ e)
      refine enum_it (fun Q q => ⟨_, rfl, q⟩) hp sH fun J G hG wk => for_it wk (fun j σ H' => ∃ (x7 x8 x9 x10 x11 x12 : Option V), σ = [some (.ref p), some (.ref tq), some (.ref f), some (.int total), some (oV st), some (oV here), some (.int ((ts.length : Int) - 2 + (m : Nat) * -1)), x7, x8, x9, x10, x11, x12] ∧
          H' f = some (.lst (found.map fun k => V.int ((k : Nat) : Int))) ∧ (∀ b o, b ≠ f → H4 b = some o → H' b = some o) ∧ ∀ (j' : Nat) (r : Wy.Rw Spot), j' < j → R[j']? = some r → ¬ Wy.Fits F' found total st here r)
        ⟨x7, x8, x9, x10, x11, x12, rfl, hf, sb, fun j' r h => absurd h (Nat.not_lt_zero _)⟩ (fun j σ H' _ ⟨_, _, _, _, _, _, _, _, z, _⟩ => hG _ fun b o e => z _ _ (fun y => by rw [y, nf0] at e; cases e) (s4 _ _ e)) ?_ ?_
      · rintro j x σ H' H8 hj ⟨x7, x8, x9, x10, x11, x12, rfl, hf, sb, hno⟩ ⟨U, x, rfl, nU, rfl, hx⟩
        obtain ⟨⟨a, b, c⟩, hr, q0, rfl, hq0⟩ := hu j x hx
        obtain ⟨ma, mb⟩ := inS _ _ _ (List.mem_of_getElem? hr)
        have nUf : U ≠ f := fun z => by rw [z, hf] at nU; cases nU
        have hU : (upd H' U (.tup [.int (j : Nat), .ref q0])) U = some (.tup [.int (j : Nat), .ref q0]) := upd_same
        have hf8 := upd_apart (o := .tup [.int (j : Nat), .ref q0]) hf nUf.symm
        have sb8 : ∀ b o, b ≠ f → H4 b = some o → (upd H' U (.tup [.int (j : Nat), .ref q0])) b = some o := fun b o n e => same_upd nU _ _ (sb b o n e)
        generalize upd H' U (.tup [.int (j : Nat), .ref q0]) = H8 at hU hf8 sb8 ⊢
        have old : ∀ b o, H b = some o → H8 b = some o := fun b o e => sb8 _ _ (fun y => by rw [y, nf0] at e; cases e) (s4 _ _ e)
        refine ⟨U, _, rfl, SqT.of hU, rfl, _, _, rfl, _, _, rfl, q0, _, rfl, SqT.of (old _ _ hq0), rfl, _, _, rfl, _, _, rfl, _, _, rfl, rfl, rfl, ?_⟩
        refine ⟨fun σ H9 => H9 = H8 ∧ σ = [some (.ref p), some (.ref tq), some (.ref f), some (.int total), some (oV st), some (oV here), some (.int ((ts.length : Int) - 2 + (m : Nat) * -1)), some (.int (j : Nat)), some (oV a), some (oV b), some (.int c), x11, x12] ∧ (found ≠ [] → a = here), ?_, ?_⟩
        · refine ⟨_, rfl, _, .inl ⟨_, SqL.of hf8, rfl⟩, ?_⟩
          by_cases e : found = []
          · subst e
            exact iteF (iteF ⟨rfl, rfl, fun h => absurd rfl h⟩)
          · have e1 : (!(found.map fun k => V.int ((k : Nat) : Int)).isEmpty) = true := by
              cases found with
              | nil => exact absurd rfl e
              | cons _ _ => rfl
            rw [e1]
            refine iteT ⟨_, rfl, _, rfl, oV_scal _ _, _, rfl, ?_⟩
            rw [oV_eq]
            by_cases e2 : a = here
            · rw [decide_eq_true e2]
              exact iteF ⟨rfl, rfl, fun _ => e2⟩
            · rw [decide_eq_false e2]
              refine iteT ⟨_, _, _, _, _, _, rfl, hf8, sb8, fun j' r h1 h2 => ?_⟩
              by_cases q2 : j' = j
              · subst q2
                rw [hr] at h2
                cases h2
                exact fun z => e2 (z.1 e)
              · exact hno j' r (by omega) h2
        · rintro σ H9 ⟨rfl, rfl, hhere⟩
          refine ⟨fun σ H10 => H10 = H9 ∧ σ = [some (.ref p), some (.ref tq), some (.ref f), some (.int total), some (oV st), some (oV here), some (.int ((ts.length : Int) - 2 + (m : Nat) * -1)), some (.int (j : Nat)), some (oV a), some (oV b), some (.int c), some (oV (if found = [] then a else st)), x12], ?_, ?_⟩
          · refine ⟨_, rfl, _, .inl ⟨_, SqL.of hf8, rfl⟩, ?_⟩
            by_cases e : found = []
            · subst e
              exact iteF ⟨_, rfl, rfl, rfl⟩
            · have e1 : (!(found.map fun k => V.int ((k : Nat) : Int)).isEmpty) = true := by
                cases found with
                | nil => exact absurd rfl e
                | cons _ _ => rfl
              rw [e1]
              refine iteT ⟨_, rfl, rfl, ?_⟩
              rw [if_neg e]
              rfl
          · rintro σ H10 ⟨rfl, rfl⟩
            obtain ⟨tks, g1, g2, g3, g4⟩ := tab
            obtain ⟨d, hd, sk, m1, m2, m3, m4⟩ := g4 b mb
            have m4 : ∀ y, valV sk y = intV (F' b y) := m4
            have nsf : ∀ {x : Addr} {ks : SK}, H4 x = some (NS P w x ks) → x ≠ f := fun h z => by rw [z, hf4] at h; cases h
            have d8 := sb8 _ _ (nsf m1) m1
            refine ⟨_, rfl, _, rfl, tq, ts, _, .ref tb, rfl, rfl, SqL.of (sb8 _ _ ftq.symm htq4), ?_, ?_⟩
            · rw [left_e]
              exact atI_nat htb
            refine ⟨_, rfl, tb, tks, b, _, rfl, .inl (sb8 _ _ (nsf g1) g1), rfl, hd, d, rfl, ⟨sk, .inl d8⟩, _, rfl, sk, (if found = [] then a else st), .inl d8, rfl, ?_⟩
            rw [m4]
            have nofit : (∀ y, F' b (if found = [] then a else st) = some y → ¬ total + c + y < 0) → ∀ (j' : Nat) (r : Wy.Rw Spot), j' < j + 1 → R[j']? = some r → ¬ Wy.Fits F' found total st here r := fun h j' r h1 h2 => by
              by_cases q2 : j' = j
              · subst q2
                rw [hr] at h2
                cases h2
                rintro ⟨_, y, hy, ly⟩
                exact h y hy ly
              · exact hno j' r (by omega) h2
            cases hE : F' b (if found = [] then a else st) with
            | none =>
              refine ⟨_, rfl, rfl, _, rfl, iteF (iteF ⟨_, _, _, _, _, _, rfl, hf8, sb8, nofit fun y hy => by rw [hE] at hy; cases hy⟩)⟩
            | some y =>
              refine ⟨_, rfl, rfl, _, rfl, iteT ⟨_, rfl, _, rfl, _, _, rfl, rfl, _, rfl, _, _, rfl, rfl, _, _, rfl, rfl, _, rfl, ite2 (fun z => ?_) (fun z => ?_)⟩⟩
              · have z : total + c + y < 0 := of_decide_eq_true z
                refine ⟨_, rfl, _, rfl, _, rfl, _, rfl, _, _, rfl, rfl, _, rfl, .inl ⟨rfl, _, SqL.of hf8⟩, _, rfl, f, _, _, rfl, rfl, hf8, small1000 (by rw [List.length_map]; omega), ?_⟩
                have g' := gr.step hF inS hr ⟨hhere, y, hE, z⟩ hno
                have gl2 : T - (m + 1) = T - 1 - m := by omega
                refine ⟨_, _, _, _, _, _, _, found ++ [j], total + c, (if found = [] then a else st), b, rfl, ?_, fun b' o n e => by rw [upd_ne n]; exact sb8 b' o n e, by omega, by rw [gl2]; exact g'⟩
                rw [upd_same, List.map_append]
                rfl
              · have z : ¬ total + c + y < 0 := fun h => z (decide_eq_true h)
                exact ⟨_, _, _, _, _, _, rfl, hf8, sb8, nofit fun y' hy' => by rw [hE] at hy'; cases hy'; exact z⟩
      · rintro σ H' ⟨x7, x8, x9, x10, x11, x12, rfl, hf, sb, hno⟩
        rw [lu] at hno
        obtain ⟨j', r, h1, h2⟩ := gr.any hF inS
        exact absurd h2 (hno j' r (List.getElem?_eq_some_iff.mp h1).1 h1)
    · rintro σ H' ⟨x6, x7, x8, x9, x10, x11, x12, found, total, st, here, rfl, hf, sb, _, gr⟩
      rw [Nat.sub_self] at gr
      have lf : found.length ≤ 100 := by have := gr.len; omega
      refine ⟨_, rfl, q H' _ (.inr ⟨f, found, rfl, hf, gr.last hmin, lf⟩) (fun b o e => sb _ _ (fun z => by rw [z, nf0] at e; cases e) (s4 _ _ e)) fun q' z => ?_⟩
      cases z
      exact nf0
end
end Lm
/-! least_sums. -/
namespace Lm
open PySem PySem.Spec PyProof.Rows L2
section
variable {P : Program} {w : World} {K : PySem.W.Frag} {mg : Str → Option Value} {base : Heap}
abbrev sLS : Stmt := topS 19
def nLS : List Str := ["rows", "start", "sums", "moved", "a", "b", "c", "total"]
theorem scLS : FnScope nLS ["rows", "start"] (defScope sLS) := ⟨rfl, rfl, rfl, by decide +kernel, rfl, by decide +kernel, by decide +kernel⟩
def spLS (P : Program) (w : World) : Sp := fun vs H Q _ => ∃ (v : V) (R : Rws) (st : Spot) (S : List Spot) (p : Spot → Int), vs = [v, oV st] ∧ Sy H v R ∧ st ∈ S ∧ S.length ≤ 100 ∧ (∀ a b c, (a, b, c) ∈ R → a ∈ S ∧ b ∈ S) ∧ Wy.Pot R p ∧
  ∀ (H' : Hp) (q : Addr) (s : Spot → Option Int), Wy.Least R S st s → MapS P w H' q S (fun x => intV (s x)) → Same H H' → H q = none → Q (.ref q) H'
theorem ok_ls {f : Addr} {fd : FuncData} (F : Fun K "least_sums" "least_sums" sLS f fd) : FnOk P w K mg base CX0 1 f fd ["rows", "start"] (spLS P w) := by
  refine F.ok scLS (fun vs H Q E h => ?_) (fun cdv A outer s H vs Q E hr h => ?_)
  · obtain ⟨v, R, st, S, p, rfl, _⟩ := h
    rfl
  · obtain ⟨v, R, st, S, pt, rfl, sy, hst, lS, inS, pot, q⟩ := h
    refine ⟨_, pss_cons (ps_set (i := 2) scLS.nd rfl (.inl rfl) (pe_disSP P w (pv 1) pe_int))
      (pss_cons (ps_set (i := 3) scLS.nd rfl (.inl rfl) pe_bl)
      (pss_cons (ps_while PassesOwn.never (pt_val (pv 3))
        (pss_cons (ps_set (i := 3) scLS.nd rfl (.inl rfl) pe_bl)
        (pss_one (ps_for PassesOwn.never rfl (pi_rowsK K (pv 0)) (pg_tup rfl (pgs_cons (pg_name (i := 4) scLS.nd rfl (.inl rfl)) (pgs_cons (pg_name (i := 5) scLS.nd rfl (.inl rfl)) (pgs_cons (pg_name (i := 6) scLS.nd rfl (.inl rfl)) pgs_nil))))
          (pss_one (ps_if (pt_cmp (pc_dinSP P w (pv 4) (pv 2)))
            (pss_cons (ps_set (i := 7) scLS.nd rfl (.inl rfl) (pe_op op_add (pe_dgetSP P w (pv 2) (pv 4) (fun _ _ => rfl)) (pv 6)))
              (pss_one (ps_if (pw_or (pt_cmp (pc_dnotinSP P w (pv 5) (pv 2))) (pw_or1 (pt_cmpR op_lt (pv 7) (pe_dgetSP P w (pv 2) (pv 5) (fun _ _ => rfl)) (nomark _)))).pt
                (pss_cons (ps_dputSP P w (pv 2) (pv 5) (pv 7) rfl) (pss_one (ps_set (i := 3) scLS.nd rfl (.inl rfl) pe_bl))) pss_nil))) pss_nil))))))
      (pss_one (ps_ret (pv 2))))), ?_⟩
    obtain ⟨p, us, rfl, hp, lu, hu⟩ := sy.at_
    refine fun d nd => ⟨_, rfl, st, rfl, upd_same, ?_⟩
    rw [upd_upd]
    have s1 : Same H (upd H d (NS P w d [(st, .int 0)])) := same_upd nd
    have m1 : MapS P w (upd H d (NS P w d [(st, .int 0)])) d S (fun x => intV (Wy.firstS st x)) := by
      have e : (fun x => intV (Wy.firstS st x)) = Wy.upf (fun _ => none) st (some (V.int 0)) := by
        funext x
        unfold Wy.firstS Wy.upf
        split <;> rfl
      rw [e]
      exact MapS.one hst
    generalize upd H d (NS P w d [(st, .int 0)]) = H1 at s1 m1 ⊢
    refine ⟨fun n σ H' => ∃ (x4 x5 x6 x7 : Option V) (b : Bool) (s : Spot → Option Int), σ = [some (.ref p), some (oV st), some (.ref d), some (.bl b), x4, x5, x6, x7] ∧ Same H H' ∧ MapS P w H' d S (fun x => intV (s x)) ∧ Wy.LS R S st s ∧
        (b = false → ∀ r ∈ R, ∀ x, s r.1 = some x → Wy.lo (s r.2.1) (x + r.2.2)) ∧ n = 2 * Wy.room R S pt st s + (if b = true then 1 else 0),
      ⟨_, none, none, none, none, true, _, rfl, s1, m1, Wy.LS.first hst, fun z => (nomatch z), rfl⟩, ?_⟩
    rintro n σ H2 ⟨x4, x5, x6, x7, b0, s, rfl, s2, m2, ls, fix, rfl⟩
    refine ⟨_, rfl, _, rfl, ?_⟩
    cases b0 with
    | false =>
      refine iteF ⟨_, rfl, ?_⟩
      exact q H2 d s (ls.toLeast (fix rfl)) m2 s2 nd
    | true =>
      refine iteT ⟨fun σ' H' => ∃ (x4 x5 x6 x7 : Option V) (b : Bool) (s' : Spot → Option Int), σ' = [some (.ref p), some (oV st), some (.ref d), some (.bl b), x4, x5, x6, x7] ∧ Same H H' ∧ MapS P w H' d S (fun x => intV (s' x)) ∧ Wy.LS R S st s' ∧
        (b = false → s' = s ∧ ∀ r ∈ R, ∀ x, s r.1 = some x → Wy.lo (s r.2.1) (x + r.2.2)) ∧ (b = true → Wy.room R S pt st s' < Wy.room R S pt st s), ?_, ?_⟩
      · rintro σ' H' ⟨x4, x5, x6, x7, b, s', rfl, sH, mH, ls', fx, lt⟩
        refine ⟨_, ?_, x4, x5, x6, x7, b, s', rfl, sH, mH, ls', fun e => by obtain ⟨e1, e2⟩ := fx e; rw [e1]; exact e2, rfl⟩
        cases b with
        | true =>
          have := lt rfl
          show 2 * Wy.room R S pt st s' + 1 < 2 * Wy.room R S pt st s + 1
          omega
        | false =>
          rw [(fx rfl).1]
          show 2 * Wy.room R S pt st s + 0 < 2 * Wy.room R S pt st s + 1
          omega
      · refine rows_it rfl hp s2 fun J G hG wk => for_it wk (fun i σ' H' => ∃ (x4 x5 x6 x7 : Option V) (b : Bool) (s' : Spot → Option Int), σ' = [some (.ref p), some (oV st), some (.ref d), some (.bl b), x4, x5, x6, x7] ∧ Same H H' ∧ MapS P w H' d S (fun x => intV (s' x)) ∧ Wy.LS R S st s' ∧
          (b = false → s' = s ∧ ∀ (j : Nat) (r : Wy.Rw Spot), j < i → R[j]? = some r → ∀ x, s r.1 = some x → Wy.lo (s r.2.1) (x + r.2.2)) ∧ (b = true → Wy.room R S pt st s' < Wy.room R S pt st s))
          ⟨x4, x5, x6, x7, false, s, rfl, s2, m2, ls, fun _ => ⟨rfl, fun j r h => absurd h (Nat.not_lt_zero _)⟩, fun z => (nomatch z)⟩ (fun i σ' H' _ ⟨_, _, _, _, _, _, _, z, _⟩ => hG _ z) ?_ ?_
        · rintro i x σ' H' H'' hi ⟨x4, x5, x6, x7, b0, s', rfl, sH, ⟨ks, hd, k1, k2, k3⟩, ls', fx, lt⟩ ⟨rfl, hx⟩
          obtain ⟨⟨a, b, c⟩, hr, q0, rfl, hq0⟩ := hu i x hx
          have mr := List.mem_of_getElem? hr
          obtain ⟨ma, mb⟩ := inS _ _ _ mr
          have k3 : ∀ x, valV ks x = intV (s' x) := k3
          have lk := sk_len k1 k2
          -- a row that lowers nothing
          have stay : (∀ y, s' a = some y → Wy.lo (s' b) (y + c)) → (b0 = false → s' = s ∧ ∀ (j : Nat) (r : Wy.Rw Spot), j < i + 1 → R[j]? = some r → ∀ x, s r.1 = some x → Wy.lo (s r.2.1) (x + r.2.2)) := fun h e => by
            obtain ⟨e1, e2⟩ := fx e
            refine ⟨e1, fun j r h1 h2 => ?_⟩
            by_cases q2 : j = i
            · subst q2
              rw [hr] at h2
              cases h2
              rw [← e1]
              exact h
            · exact e2 j r (by omega) h2
          refine ⟨q0, _, rfl, SqT.of (sH _ _ hq0), rfl, _, _, rfl, _, _, rfl, _, _, rfl, rfl, ?_⟩
          refine ⟨_, rfl, _, rfl, d, ks, a, rfl, .inl hd, rfl, _, rfl, ?_⟩
          rw [k3]
          cases ha : s' a with
          | none => exact iteF ⟨_, _, _, _, b0, s', rfl, sH, ⟨ks, hd, k1, k2, k3⟩, ls', stay (fun y hy => by rw [ha] at hy; cases hy), lt⟩
          | some y =>
            refine iteT ⟨_, rfl, _, rfl, d, ks, a, .int y, rfl, .inl hd, rfl, by rw [k3, ha]; rfl, _, rfl, _, _, rfl, rfl, ?_⟩
            have low : (∀ z, s' b = some z → y + c < z) → MapS P w (upd H'' d (NS P w d (putK ks b (.int (y + c))))) d S (fun x => intV (Wy.upf s' b (some (y + c)) x)) ∧ Wy.LS R S st (Wy.upf s' b (some (y + c))) ∧ Wy.room R S pt st (Wy.upf s' b (some (y + c))) < Wy.room R S pt st s := fun h => by
              obtain ⟨l1, l2⟩ := ls'.low pot mr mb ha h
              refine ⟨?_, l1, ?_⟩
              · have e : (fun x => intV (Wy.upf s' b (some (y + c)) x)) = Wy.upf (fun x => intV (s' x)) b (some (V.int (y + c))) := by
                  funext x
                  unfold Wy.upf
                  split <;> rfl
                rw [e]
                exact MapS.put k1 k2 k3 mb _
              · cases b0 with
                | true => exact Nat.lt_trans l2 (lt rfl)
                | false =>
                  rw [(fx rfl).1] at l2 ⊢
                  exact l2
            refine ⟨_, rfl, _, rfl, d, ks, b, rfl, .inl hd, rfl, _, rfl, ?_⟩
            rw [k3]
            cases hb : s' b with
            | none =>
              obtain ⟨g1, g2, g3⟩ := low fun z hz => by rw [hb] at hz; cases hz
              refine iteT ⟨_, rfl, _, rfl, _, rfl, d, ks, b, rfl, hd, rfl, lt1000 (by omega), ?_⟩
              exact ⟨_, _, _, _, true, _, rfl, same_put sH nd, g1, g2, fun z => (nomatch z), fun _ => g3⟩
            | some z =>
              refine iteF ⟨_, rfl, _, rfl, _, rfl, d, ks, b, .int z, rfl, .inl hd, rfl, by rw [k3, hb]; rfl, _, _, rfl, rfl, _, rfl, ite2 (fun h => ?_) (fun h => ?_)⟩
              · have h : y + c < z := of_decide_eq_true h
                obtain ⟨g1, g2, g3⟩ := low fun z' hz => by rw [hb] at hz; cases hz; exact h
                refine ⟨_, rfl, _, rfl, _, rfl, d, ks, b, rfl, hd, rfl, lt1000 (by omega), ?_⟩
                exact ⟨_, _, _, _, true, _, rfl, same_put sH nd, g1, g2, fun z => (nomatch z), fun _ => g3⟩
              · have h : ¬ y + c < z := fun e => h (decide_eq_true e)
                exact ⟨_, _, _, _, b0, s', rfl, sH, ⟨ks, hd, k1, k2, k3⟩, ls', stay (fun y' hy => by rw [ha] at hy; cases hy; exact ⟨z, hb, by omega⟩), lt⟩
        · rintro σ' H' ⟨x4, x5, x6, x7, b, s', rfl, sH, mH, ls', fx, lt⟩
          refine ⟨x4, x5, x6, x7, b, s', rfl, sH, mH, ls', fun e => ?_, lt⟩
          obtain ⟨e1, e2⟩ := fx e
          refine ⟨e1, fun r hr => ?_⟩
          obtain ⟨j, hj⟩ := List.mem_iff_getElem?.mp hr
          exact e2 j r (by rw [lu]; exact (List.getElem?_eq_some_iff.mp hj).1) hj
end
end Lm
/-! least_ways. -/
namespace Lm
open PySem PySem.Spec PyProof.Rows L2
def natL (l : List Nat) : List V := l.map fun k => V.int ((k : Nat) : Int)
/-- a list of pairs of an index and a spot -/
def PairsAt (H : Hp) (us : List V) (l : List (Nat × Spot)) : Prop := us.length = l.length ∧ ∀ (i : Nat) (e : Nat × Spot), l[i]? = some e → ∃ q, us[i]? = some (.ref q) ∧ H q = some (.tup [.int ((e.1 : Nat) : Int), oV e.2])
theorem PairsAt.at_ {H H' : Hp} {us : List V} {l : List (Nat × Spot)} (h : PairsAt H us l) (s : ∀ q ys, H q = some (.tup ys) → H' q = some (.tup ys)) : PairsAt H' us l :=
  ⟨h.1, fun i e he => let ⟨q, h1, h2⟩ := h.2 i e he; ⟨q, h1, s _ _ h2⟩⟩
theorem PairsAt.snoc {H : Hp} {us : List V} {l : List (Nat × Spot)} (h : PairsAt H us l) {k : Nat} {b : Spot} {q : Addr} (hq : H q = some (.tup [.int ((k : Nat) : Int), oV b])) : PairsAt H (us ++ [.ref q]) (l ++ [(k, b)]) := by
  refine ⟨by rw [List.length_append, List.length_append, h.1]; rfl, fun i e he => ?_⟩
  by_cases lt : i < l.length
  · rw [List.getElem?_append_left lt] at he
    obtain ⟨q', h1, h2⟩ := h.2 i e he
    exact ⟨q', by rw [List.getElem?_append_left (by rw [h.1]; exact lt)]; exact h1, h2⟩
  · rw [List.getElem?_append_right (by omega)] at he
    have : i = l.length := by
      have := (List.getElem?_eq_some_iff.mp he).1
      simp at this
      omega
    subst this
    rw [Nat.sub_self] at he
    cases he
    exact ⟨q, by rw [List.getElem?_append_right (by rw [h.1]; exact Nat.le_refl _), h.1, Nat.sub_self]; rfl, hq⟩
def tgt (s : Spot → Option Int) (r : Wy.Rw Spot) : Bool := match s r.1, s r.2.1 with | some y, some z => decide (z = y + r.2.2) | _, _ => false
/-- the tight rows from each spot -/
def tightL (R : Rws) (s : Spot → Option Int) (x : Spot) (n : Nat) : List (Nat × Spot) := ((R.take n).zipIdx.filter fun r => decide (r.1.1 = x) && tgt s r.1).map fun r => (r.2, r.1.2.1)
theorem tgt_iff {s : Spot → Option Int} {r : Wy.Rw Spot} : tgt s r = true ↔ Wy.Tight s r := by
  unfold tgt Wy.Tight
  cases h1 : s r.1 with
  | none => exact ⟨fun h => (nomatch h), fun ⟨_, h, _⟩ => nomatch h⟩
  | some y =>
    cases h2 : s r.2.1 with
    | none => exact ⟨fun h => (nomatch h), fun ⟨_, _, h⟩ => nomatch h⟩
    | some z =>
      constructor
      · intro h
        have h : z = y + r.2.2 := of_decide_eq_true h
        exact ⟨y, rfl, by rw [h]⟩
      · rintro ⟨x, e1, e2⟩
        cases e1
        cases e2
        exact decide_eq_true rfl
theorem tightL_succ {R : Rws} {s : Spot → Option Int} {x : Spot} {n : Nat} {r : Wy.Rw Spot} (h : R[n]? = some r) : tightL R s x (n + 1) = tightL R s x n ++ if r.1 = x ∧ tgt s r = true then [(n, r.2.1)] else [] := by
  have hl : (R.take n).length = n := by
    rw [List.length_take]
    have := (List.getElem?_eq_some_iff.mp h).1
    omega
  unfold tightL
  rw [List.take_add_one, h]
  show (((R.take n ++ [r]).zipIdx).filter _).map _ = _
  rw [List.zipIdx_append, List.filter_append, List.map_append]
  congr 1
  rw [hl, Nat.zero_add]
  show ((List.filter _ [(r, n)]).map _) = _
  rw [List.filter_cons]
  by_cases e : r.1 = x
  · subst e
    cases ht : tgt s r with
    | true => simp
    | false => simp
  · simp [e]
theorem tightL_mem {R : Rws} {s : Spot → Option Int} {x : Spot} {n i : Nat} {b : Spot} : (i, b) ∈ tightL R s x n ↔ i < n ∧ ∃ c, R[i]? = some (x, b, c) ∧ Wy.Tight s (x, b, c) := by
  unfold tightL
  rw [List.mem_map]
  constructor
  · rintro ⟨⟨⟨a, b', c⟩, j⟩, hm, e⟩
    have e1 : j = i := congrArg Prod.fst e
    have e2 : b' = b := congrArg Prod.snd e
    subst e1 e2
    obtain ⟨h1, h2⟩ := List.mem_filter.mp hm
    rw [Bool.and_eq_true] at h2
    have e1 : a = x := of_decide_eq_true h2.1
    subst e1
    have h3 := List.mem_zipIdx_iff_getElem?.mp h1
    have h3 : (R.take n)[j]? = some (a, b', c) := h3
    rw [List.getElem?_take] at h3
    split at h3
    · exact ⟨by assumption, c, h3, tgt_iff.mp h2.2⟩
    · cases h3
  · rintro ⟨lt, c, h1, h2⟩
    refine ⟨((x, b, c), i), List.mem_filter.mpr ⟨List.mem_zipIdx_iff_getElem?.mpr ?_, ?_⟩, rfl⟩
    · show (R.take n)[i]? = _
      rw [List.getElem?_take, if_pos lt]
      exact h1
    · have := tgt_iff.mpr h2
      show (decide (x = x) && tgt s (x, b, c)) = true
      rw [this]
      simp
theorem tightL_asc (R : Rws) (s : Spot → Option Int) (x : Spot) (n : Nat) : (tightL R s x n).Pairwise fun e f => e.1 < f.1 := by
  unfold tightL
  refine List.pairwise_map.mpr (List.Pairwise.filter _ ?_)
  refine List.pairwise_iff_getElem.mpr fun i j hi hj h => ?_
  rw [List.getElem_zipIdx, List.getElem_zipIdx]
  show 0 + i < 0 + j
  omega
theorem tightL_len (R : Rws) (s : Spot → Option Int) (x : Spot) (n : Nat) : (tightL R s x n).length ≤ R.length := by
  unfold tightL
  rw [List.length_map]
  refine Nat.le_trans (List.length_filter_le _ _) ?_
  rw [List.length_zipIdx, List.length_take]
  omega
/-- the dict of the tight rows -/
structure TgAt (P : Program) (w : World) (H : Hp) (a : Addr) (ks : SK) (S : List Spot) (g : Spot → List (Nat × Spot)) : Prop where
  at_ : H a = some (NS P w a ks)
  nd : (ks.map (·.1)).Nodup
  mem : ∀ k ∈ ks.map (·.1), k ∈ S
  non : ∀ x, valV ks x = none → g x = []
  val : ∀ x v, valV ks x = some v → ∃ d us, v = .ref d ∧ H d = some (.lst us) ∧ PairsAt H us (g x)
  inj : ∀ x y d, valV ks x = some (.ref d) → valV ks y = some (.ref d) → x = y
theorem TgAt.sm {P : Program} {w : World} {H H' : Hp} {a : Addr} {ks : SK} {S : List Spot} {g : Spot → List (Nat × Spot)} (h : TgAt P w H a ks S g) (s : Same H H') : TgAt P w H' a ks S g :=
  ⟨s _ _ h.at_, h.nd, h.mem, h.non, fun x v e => let ⟨d, us, e1, e2, e3⟩ := h.val x v e; ⟨d, us, e1, s _ _ e2, e3.at_ fun q ys e => s _ _ e⟩, h.inj⟩
/-- the dict of the ways -/
def WaysAt (P : Program) (w : World) (H : Hp) (a : Addr) (ks : SK) (S : List Spot) (wy : Spot → Option (List Nat)) : Prop := H a = some (NS P w a ks) ∧ (ks.map (·.1)).Nodup ∧ (∀ k ∈ ks.map (·.1), k ∈ S) ∧ (∀ x, wy x = none → valV ks x = none) ∧ (∀ x l, wy x = some l → ∃ d, valV ks x = some (.ref d) ∧ H d = some (.lst (natL l)))
theorem WaysAt.at_ {P : Program} {w : World} {H H' : Hp} {a : Addr} {ks : SK} {S : List Spot} {wy : Spot → Option (List Nat)} (h : WaysAt P w H a ks S wy) (s1 : ∀ o, H a = some o → H' a = some o) (s2 : ∀ x d l, valV ks x = some (.ref d) → H d = some (.lst (natL l)) → H' d = some (.lst (natL l))) : WaysAt P w H' a ks S wy := by
  obtain ⟨h1, h2, h3, h4, h5⟩ := h
  exact ⟨s1 _ h1, h2, h3, h4, fun x l e => let ⟨d, e1, e2⟩ := h5 x l e; ⟨d, e1, s2 x d l e1 e2⟩⟩
theorem WaysAt.sm {P : Program} {w : World} {H H' : Hp} {a : Addr} {ks : SK} {S : List Spot} {wy : Spot → Option (List Nat)} (h : WaysAt P w H a ks S wy) (s : Same H H') : WaysAt P w H' a ks S wy := h.at_ (fun o e => s _ _ e) fun _ _ _ _ e => s _ _ e
end Lm
/-! least_ways. -/
namespace Lm
open PySem PySem.Spec PyProof.Rows L2
theorem TgAt.app {P : Program} {w : World} {H : Hp} {a : Addr} {ks : SK} {S : List Spot} {g g' : Spot → List (Nat × Spot)} {x b : Spot} {d T : Addr} {us : List V} {k : Nat} (h : TgAt P w H a ks S g) (hd : valV ks x = some (.ref d)) (hl : H d = some (.lst us)) (hp : PairsAt H us (g x))
    (hT : H T = some (.tup [.int ((k : Nat) : Int), oV b])) (g1 : g' x = g x ++ [(k, b)]) (g2 : ∀ y, y ≠ x → g' y = g y) : TgAt P w (upd H d (.lst (us ++ [.ref T]))) a ks S g' := by
  have nt : ∀ q ys, H q = some (.tup ys) → q ≠ d := fun q ys e z => by rw [z, hl] at e; cases e
  have ad : a ≠ d := fun z => by have := h.at_; rw [z, hl] at this; cases this
  refine ⟨by rw [upd_ne ad]; exact h.at_, h.nd, h.mem, fun y e => ?_, fun y v e => ?_, h.inj⟩
  · have : y ≠ x := fun z => by rw [z, hd] at e; cases e
    rw [g2 y this]
    exact h.non y e
  · obtain ⟨d', us', rfl, e2, e3⟩ := h.val y v e
    by_cases q : y = x
    · subst q
      rw [hd] at e
      cases e
      refine ⟨_, _, rfl, upd_same, ?_⟩
      rw [g1]
      exact (hp.snoc hT).at_ fun q ys e => by rw [upd_ne (nt q ys e)]; exact e
    · have nd : d' ≠ d := fun z => q (h.inj y x d (by rw [← z]; exact e) hd)
      refine ⟨d', us', rfl, by rw [upd_ne nd]; exact e2, ?_⟩
      rw [g2 y q]
      exact e3.at_ fun q ys e => by rw [upd_ne (nt q ys e)]; exact e
theorem TgAt.new {P : Program} {w : World} {H : Hp} {a : Addr} {ks : SK} {S : List Spot} {g : Spot → List (Nat × Spot)} {x : Spot} {L : Addr} (h : TgAt P w H a ks S g) (hx : x ∈ S) (hn : valV ks x = none) (hL : H L = some (.lst [])) (hap : ∀ y d, valV ks y = some (.ref d) → d ≠ L) :
    TgAt P w (upd H a (NS P w a (putK ks x (.ref L)))) a (putK ks x (.ref L)) S g := by
  have nl : ∀ q o, H q = some o → (∀ ks, o ≠ NS P w a ks) → q ≠ a := fun q o e f z => by rw [z, h.at_] at e; exact f ks (Option.some.inj e).symm
  refine ⟨upd_same, sk_put_nodup h.nd x _, sk_put_mem h.mem hx _, fun y e => ?_, fun y v e => ?_, fun y z d e1 e2 => ?_⟩
  · rw [valV_put] at e
    split at e
    · cases e
    · exact h.non y e
  · rw [valV_put] at e
    split at e
    · rename_i q
      cases e
      refine ⟨L, [], rfl, by rw [upd_ne (nl L _ hL fun ks z => by cases z)]; exact hL, ?_⟩
      rw [q, h.non x hn]
      exact ⟨rfl, fun i e he => by simp at he⟩
    · obtain ⟨d, us, e1, e2, e3⟩ := h.val y v e
      exact ⟨d, us, e1, by rw [upd_ne (nl d _ e2 fun ks z => by cases z)]; exact e2, e3.at_ fun q ys e => by rw [upd_ne (nl q _ e fun ks z => by cases z)]; exact e⟩
  · rw [valV_put] at e1 e2
    split at e1
    · rename_i q1
      cases e1
      split at e2
      · rename_i q2
        rw [q1, q2]
      · exact absurd rfl (hap z L e2)
    · split at e2
      · cases e2
        exact absurd rfl (hap y L e1)
      · exact h.inj y z d e1 e2
theorem natL_app (u : List Nat) (k : Nat) : natL (u ++ [k]) = natL u ++ [.int ((k : Nat) : Int)] := by
  unfold natL
  rw [List.map_append]
  rfl
/-- what is gone through: spots ahead of i, and of spot i what lies ahead of j -/
def doneB (sp : List Spot) (W0 : Wy.Ws Spot) (g : Spot → List (Nat × Spot)) (i j : Nat) : List Nat → Prop := fun w => ∃ (i' j' : Nat) (x : Spot) (u : List Nat) (e : Nat × Spot), sp[i']? = some x ∧ W0 x = some u ∧ (g x)[j']? = some e ∧ w = u ++ [e.1] ∧ (i' < i ∨ (i' = i ∧ j' < j))
section
variable {P : Program} {w : World} {K : PySem.W.Frag} {mg : Str → Option Value} {base : Heap}
abbrev sLW : Stmt := topS 20
def nLW : List Str := ["rows", "start", "sums", "tight", "at", "a", "b", "c", "ways", "spots", "later", "spot", "end"]
theorem scLW : FnScope nLW ["rows", "start"] (defScope sLW) := ⟨rfl, rfl, rfl, by decide +kernel, rfl, by decide +kernel, by decide +kernel⟩
def spLW (P : Program) (w : World) : Sp := fun vs H Q _ => ∃ (v : V) (R : Rws) (st : Spot) (S : List Spot) (p : Spot → Int), vs = [v, oV st] ∧ Sy H v R ∧ st ∈ S ∧ S.length ≤ 100 ∧ (∀ a b c, (a, b, c) ∈ R → a ∈ S ∧ b ∈ S) ∧ Wy.Pot R p ∧
  ∀ (H' : Hp) (t sq wq : Addr) (s : Spot → Option Int) (ks : SK) (wy : Wy.Ws Spot), Wy.Least R S st s → MapS P w H' sq S (fun x => intV (s x)) → WaysAt P w H' wq ks S wy → (∀ b l, wy b = some l ↔ Wy.FW R st s l b) → (∀ b l, wy b = some l → l.length ≤ S.length) → H' t = some (.tup [.ref sq, .ref wq]) → Same H H' → Q (.ref t) H'
theorem ok_lw {f : Addr} {fd : FuncData} (F : Fun K "least_ways" "least_ways" sLW f fd) (N : Bl mg) (GL : Has P w K mg base CX0 1 "least_sums" ["rows", "start"] (spLS P w)) : FnOk P w K mg base CX0 2 f fd ["rows", "start"] (spLW P w) := by
  refine F.ok scLW (fun vs H Q E h => ?_) (fun cdv A outer s H vs Q E hr h => ?_)
  · obtain ⟨v, R, st, S, p, rfl, _⟩ := h
    rfl
  · obtain ⟨v, R, st, S, pt, rfl, sy, hst, lS, inS, pot, q⟩ := h
    refine ⟨_, pss_cons (ps_set (i := 2) scLW.nd rfl (.inl rfl) (pe_h GL hr (by decide) (by rfl) pass0 (pa_cons (pv 0) (pa_cons (pv 1) pa_nil))))
      (pss_cons (ps_set (i := 3) scLW.nd rfl (.inl rfl) (pe_dnewSP P w))
      (pss_cons (ps_for PassesOwn.never rfl (pi_enumK K (by rfl) N.benu (pa_cons (pv 0) pa_nil)) (pg_tup rfl (pgs_cons (pg_name (i := 4) scLW.nd rfl (.inl rfl)) (pgs_cons
            (pg_tup rfl (pgs_cons (pg_name (i := 5) scLW.nd rfl (.inl rfl)) (pgs_cons (pg_name (i := 6) scLW.nd rfl (.inl rfl)) (pgs_cons (pg_name (i := 7) scLW.nd rfl (.inl rfl)) pgs_nil)))) pgs_nil)))
          (pss_one (ps_if (pw_and (pt_cmp (pc_dinSP P w (pv 5) (pv 2))) (pw_and1 (pt_cmpR op_eq (pe_op op_add (pe_dgetSP P w (pv 2) (pv 5) (fun _ _ => rfl)) (pv 7)) (pe_dgetSP P w (pv 2) (pv 6) (fun _ _ => rfl)) (nomark _)))).pt
            (pss_one (ps_expr (pe_bm PySem.F.plainAttrs_list PySem.F.slot_list_append PySem.F.type_list_append mt_append (pe_dsetdSP P w (pv 3) (pv 5) (pe_lst pa_nil) ⟨rfl, rfl, rfl, rfl⟩) (pa_cons (pe_tup (pa_cons (pv 4) (pa_cons (pv 6) pa_nil))) pa_nil)))) pss_nil)))
      (pss_cons (ps_set (i := 8) scLW.nd rfl (.inl rfl) (pe_disSP P w (pv 1) (pe_lst pa_nil)))
      (pss_cons (ps_set (i := 9) scLW.nd rfl (.inl rfl) (pe_lst (pa_cons (pv 1) pa_nil)))
      (pss_cons (ps_while PassesOwn.never (pt_truth (pv 9) (fun _ => rfl))
        (pss_cons (ps_set (i := 10) scLW.nd rfl (.inl rfl) (pe_lst pa_nil))
        (pss_cons (ps_for PassesOwn.never rfl (pi_listK K (pv 9)) (pg_name (i := 11) scLW.nd rfl (.inl rfl))
          (pss_one (ps_for PassesOwn.never rfl (pi_listK K (pe_dget2SP P w (pv 3) (pv 11) (pe_lst pa_nil) ⟨rfl, rfl, rfl, rfl⟩)) (pg_tup rfl (pgs_cons (pg_name (i := 4) scLW.nd rfl (.inl rfl)) (pgs_cons (pg_name (i := 12) scLW.nd rfl (.inl rfl)) pgs_nil)))
            (pss_one (ps_if (pt_cmp (pc_dnotinSP P w (pv 12) (pv 8)))
              (pss_cons (ps_dputSP P w (pv 8) (pv 12) (pe_op op_cat (pe_dgetSP P w (pv 8) (pv 11) (fun _ _ => rfl)) (pe_lst (pa_cons (pv 4) pa_nil))) rfl)
                (pss_one (ps_expr (pe_bm PySem.F.plainAttrs_list PySem.F.slot_list_append PySem.F.type_list_append mt_append (pv 10) (pa_cons (pv 12) pa_nil))))) pss_nil)))))
        (pss_one (ps_set (i := 9) scLW.nd rfl (.inl rfl) (pv 10))))))
      (pss_one (ps_ret (pe_tup (pa_cons (pv 2) (pa_cons (pv 8) pa_nil)))))))))), ?_⟩
    obtain ⟨p, us, rfl, hp, lu, hu⟩ := sy.at_
    have l30 := sy.len
    refine ⟨_, rfl, _, rfl, .ref p, R, st, S, pt, rfl, sy, hst, lS, inS, pot, fun H1 sq s le ms s1 nsq => ?_⟩
    obtain ⟨sks, sq1, sq2, sq3, sq4⟩ := ms
    have sq4 : ∀ x, valV sks x = intV (s x) := sq4
    refine fun tq ntq => ?_
    have ntq0 := none_of s1 ntq
    have s2 : Same H (upd H1 tq (NS P w tq [])) := same_put s1 ntq0
    have s12 : Same H1 (upd H1 tq (NS P w tq [])) := same_upd ntq
    have tg0 : TgAt P w (upd H1 tq (NS P w tq [])) tq [] S (fun x => tightL R s x 0) := ⟨upd_same, by simp, fun _ h => absurd h (by simp), (fun x _ => by unfold tightL; simp), (fun x v e => nomatch e), (fun x y d e => nomatch e)⟩
    generalize upd H1 tq (NS P w tq []) = H2 at s2 s12 tg0 ⊢
    have sqt : sq ≠ tq := fun z => by rw [z, ntq] at sq1; cases sq1
    -- the tight rows
    refine enum_it (fun Q q => ⟨_, rfl, q⟩) hp s2 fun J G hG wk => for_it wk (fun i σ H' => ∃ (x4 x5 x6 x7 : Option V) (ks : SK), σ = [some (.ref p), some (oV st), some (.ref sq), some (.ref tq), x4, x5, x6, x7, none, none, none, none, none] ∧ Same H H' ∧ H' sq = some (NS P w sq sks) ∧ TgAt P w H' tq ks S (fun x => tightL R s x i) ∧ (∀ x d, valV ks x = some (.ref d) → H d = none))
      ⟨none, none, none, none, _, rfl, s2, s12 _ _ sq1, tg0, fun x d e => nomatch e⟩ (fun i σ H' _ ⟨_, _, _, _, _, _, z, _⟩ => hG _ z) ?_ ?_
    · rintro i x σ H' H'' hi ⟨x4, x5, x6, x7, ks, rfl, sH, hsq, tg, nk⟩ ⟨U, x, rfl, nU, rfl, hx⟩
      obtain ⟨⟨a, b, c⟩, hr, q0, rfl, hq0⟩ := hu i x hx
      have mr := List.mem_of_getElem? hr
      obtain ⟨ma, mb⟩ := inS _ _ _ mr
      have nU0 := none_of sH nU
      have sU : Same H' (upd H' U (.tup [.int (i : Nat), .ref q0])) := same_upd nU
      have hU : (upd H' U (.tup [.int (i : Nat), .ref q0])) U = some (.tup [.int (i : Nat), .ref q0]) := upd_same
      have sH3 : Same H (upd H' U (.tup [.int (i : Nat), .ref q0])) := same_put sH nU0
      have hsq3 := sU _ _ hsq
      have tg3 := tg.sm sU
      generalize upd H' U (.tup [.int (i : Nat), .ref q0]) = H3 at sU hU sH3 hsq3 tg3 ⊢
      refine ⟨U, _, rfl, SqT.of hU, rfl, _, _, rfl, _, _, rfl, q0, _, rfl, SqT.of (sH3 _ _ hq0), rfl, _, _, rfl, _, _, rfl, _, _, rfl, rfl, rfl, ?_⟩
      refine ⟨_, rfl, _, rfl, sq, sks, a, rfl, .inl hsq3, rfl, _, rfl, ?_⟩
      rw [sq4]
      have skip : tgt s (a, b, c) = false → TgAt P w H3 tq ks S (fun x => tightL R s x (i + 1)) := fun h => by
        have e : (fun x => tightL R s x (i + 1)) = fun x => tightL R s x i := by
          funext x
          rw [tightL_succ hr, if_neg (fun z => by rw [h] at z; cases z.2), List.append_nil]
        rw [e]
        exact tg3
      cases ha : s a with
      | none =>
        refine iteF (iteF ⟨_, _, _, _, ks, rfl, sH3, hsq3, skip ?_, nk⟩)
        unfold tgt
        show (match s a, s b with | some y, some z => _ | _, _ => false) = false
        rw [ha]
      | some y =>
        obtain ⟨_, wa, hwa⟩ := le.real a y ha
        obtain ⟨z, hb, _⟩ := le.low b _ _ (hwa.snoc hr)
        refine iteT ⟨_, rfl, _, rfl, sq, sks, a, .int y, rfl, .inl hsq3, rfl, by rw [sq4, ha]; rfl, _, rfl, _, _, rfl, rfl, _, rfl, _, rfl, sq, sks, b, .int z, rfl, .inl hsq3, rfl, by rw [sq4, hb]; rfl, rfl, _, rfl, ?_⟩
        rw [dec_int]
        by_cases e : y + c = z
        · have te : tgt s (a, b, c) = true := tgt_iff.mpr ⟨y, ha, by show s b = some (y + c); rw [hb, e]⟩
          rw [show (y + c == z) = true from by rw [e]; exact beq_self_eq_true z]
          refine iteT ⟨_, rfl, tq, rfl, ⟨ks, .inl tg3.at_⟩, _, rfl, Nat.zero_le _, fun L nL => ?_⟩
          have sL : Same H3 (upd H3 L (.lst [])) := same_upd nL
          have nL0 := none_of sH3 nL
          have hL : (upd H3 L (.lst [])) L = some (.lst ([] : List V)) := upd_same
          have tg4 := tg3.sm sL
          have sH4 : Same H (upd H3 L (.lst [])) := same_put sH3 nL0
          have hsq4 := sL _ _ hsq3
          have apL : ∀ y d, valV ks y = some (.ref d) → d ≠ L := fun y d e z => by
            obtain ⟨d', us', e1, e2, _⟩ := tg3.val y _ e
            cases e1
            rw [z, nL] at e2
            cases e2
          generalize upd H3 L (.lst []) = H4 at sL hL tg4 sH4 hsq4 ⊢
          have lks := sk_len tg.nd tg.mem
          -- the list that is appended to, wherever it stands
          have fin : ∀ (H5 : Hp) (ks5 : SK) (d : Addr) (us5 : List V), Same H H5 → H5 sq = some (NS P w sq sks) → TgAt P w H5 tq ks5 S (fun x => tightL R s x i) → valV ks5 a = some (.ref d) → H5 d = some (.lst us5) → PairsAt H5 us5 (tightL R s a i) → (∀ x d, valV ks5 x = some (.ref d) → H d = none) →
              ∀ T, H5 T = none → (∃ (x4 x5 x6 x7 : Option V) (ks : SK), [some (.ref p), some (oV st), some (.ref sq), some (.ref tq), some (.int (i : Nat)), some (oV a), some (oV b), some (.int c), none, none, none, none, none] = [some (.ref p), some (oV st), some (.ref sq), some (.ref tq), x4, x5, x6, x7, none, none, none, none, none] ∧
                Same H (upd (upd H5 T (.tup [.int (i : Nat), oV b])) d (.lst (us5 ++ [.ref T]))) ∧ (upd (upd H5 T (.tup [.int (i : Nat), oV b])) d (.lst (us5 ++ [.ref T]))) sq = some (NS P w sq sks) ∧ TgAt P w (upd (upd H5 T (.tup [.int (i : Nat), oV b])) d (.lst (us5 ++ [.ref T]))) tq ks S (fun x => tightL R s x (i + 1)) ∧ (∀ x d, valV ks x = some (.ref d) → H d = none)) := by
            intro H5 ks5 d us5 h1 h2 h3 h4 h5 h6 h9 T nT
            have h7 := h9 a d h4
            have h8 : sq ≠ d := fun z => by rw [z, h5] at h2; cases h2
            have sT : Same H5 (upd H5 T (.tup [.int (i : Nat), oV b])) := same_upd nT
            refine ⟨_, _, _, _, ks5, rfl, same_put (fun b o e => sT _ _ (h1 _ _ e)) h7, by rw [upd_ne h8]; exact sT _ _ h2, ?_, h9⟩
            refine (h3.sm sT).app h4 (sT _ _ h5) (h6.at_ fun q ys e => sT _ _ e) upd_same ?_ ?_
            · show tightL R s a (i + 1) = _
              rw [tightL_succ hr, if_pos ⟨rfl, te⟩]
            · intro y hy
              show tightL R s y (i + 1) = _
              rw [tightL_succ hr, if_neg (fun z => hy z.1.symm), List.append_nil]
          refine ⟨ks, a, tg4.at_, rfl, lt1000 (by omega), fun v hv => ?_, fun hn => ?_⟩
          · obtain ⟨d, us5, rfl, e1, e2⟩ := tg4.val a v hv
            have l5 : us5.length ≤ 30 := by rw [e2.1]; exact Nat.le_trans (tightL_len R s a i) l30
            refine ⟨.inl ⟨rfl, _, SqL.of e1⟩, _, rfl, _, rfl, by show 2 ≤ sizeLine; decide, fun T nT => ?_⟩
            have dT : d ≠ T := fun z => by rw [z, nT] at e1; cases e1
            refine ⟨d, us5, _, rfl, rfl, by rw [upd_ne dT]; exact e1, small1000 (by omega), ?_⟩
            exact fin H4 ks d us5 sH4 hsq4 tg4 hv e1 e2 nk T nT
          · have tqL : L ≠ tq := fun z => by rw [z, tg4.at_] at hL; cases hL
            have hL5 : (upd H4 tq (NS P w tq (putK ks a (.ref L)))) L = some (.lst ([] : List V)) := by rw [upd_ne tqL]; exact hL
            have tn := tg4.new ma hn hL apL
            refine ⟨.inl ⟨rfl, _, SqL.of hL5⟩, _, rfl, _, rfl, by show 2 ≤ sizeLine; decide, fun T nT => ?_⟩
            have LT : L ≠ T := ne_of_none hL5 nT
            refine ⟨L, [], _, rfl, rfl, by rw [upd_ne LT]; exact hL5, by show 0 < sizeLine; decide, ?_⟩
            refine fin _ (putK ks a (.ref L)) L [] (same_put sH4 ntq0) (by rw [upd_ne sqt]; exact hsq4) tn (by rw [valV_put, if_pos rfl]) hL5 ?_ (fun x d e => ?_) T nT
            · have e0 : tightL R s a i = [] := tg4.non a hn
              rw [e0]
              exact ⟨rfl, fun i e he => by simp at he⟩
            · rw [valV_put] at e
              split at e
              · cases e
                exact nL0
              · exact nk x d e
        · rw [show (y + c == z) = false from by rw [beq_eq_false_iff_ne]; exact e]
          refine iteF ⟨_, _, _, _, ks, rfl, sH3, hsq3, skip ?_, nk⟩
          cases te : tgt s (a, b, c) with
          | false => rfl
          | true =>
            obtain ⟨y', h1, h2⟩ := tgt_iff.mp te
            have h1 : s a = some y' := h1
            have h2 : s b = some (y' + c) := h2
            rw [ha] at h1
            cases h1
            rw [hb] at h2
            cases h2
            exact absurd rfl e
    · rintro σ H3 ⟨x4, x5, x6, x7, tks, rfl, s3, hsq3, tg, _⟩
      rw [lu] at tg
      -- the ways
      refine fun wq nwq => ⟨_, rfl, Nat.zero_le _, fun E0 nE0 => ⟨st, rfl, by rw [upd_ne (ne_of_none upd_same nE0)]; exact upd_same, ?_⟩⟩
      have Ewq : E0 ≠ wq := fun z => by rw [z, upd_same] at nE0; cases nE0
      have nE03 : H3 E0 = none := by rw [upd_ne Ewq] at nE0; exact nE0
      have hE0 : (upd (upd (upd H3 wq (.dK [])) E0 (.lst [])) wq (NS P w wq [(st, .ref E0)])) E0 = some (.lst []) := by rw [upd_ne Ewq]; exact upd_same
      have hwq0 : (upd (upd (upd H3 wq (.dK [])) E0 (.lst [])) wq (NS P w wq [(st, .ref E0)])) wq = some (NS P w wq [(st, .ref E0)]) := upd_same
      have s34 : Same H3 (upd (upd (upd H3 wq (.dK [])) E0 (.lst [])) wq (NS P w wq [(st, .ref E0)])) := same_put (same_put (same_upd nwq) nE03) nwq
      generalize upd (upd (upd H3 wq (.dK [])) E0 (.lst [])) wq (NS P w wq [(st, .ref E0)]) = H4 at hE0 hwq0 s34 ⊢
      have wa0 : WaysAt P w H4 wq [(st, .ref E0)] S (Wy.wy0 st) := by
        refine ⟨hwq0, by simp, fun k hk => by simp at hk; rw [hk]; exact hst, fun x hx => ?_, fun x l hx => ?_⟩
        · unfold Wy.wy0 at hx
          split at hx
          · cases hx
          · rename_i ne
            exact valV_neg (fun z => ne z.symm)
        · unfold Wy.wy0 at hx
          split at hx
          · rename_i e
            cases hx
            exact ⟨E0, valV_pos e.symm, hE0⟩
          · cases hx
      refine ⟨_, rfl, by show 1 ≤ sizeLine; decide, fun sp0 nsp0 => ?_⟩
      have s45 := same_upd (o := .lst [oV st]) nsp0
      have hsp0 : (upd H4 sp0 (.lst [oV st])) sp0 = some (.lst [oV st]) := upd_same
      have wa1 := wa0.sm s45
      have s35 : Same H3 (upd H4 sp0 (.lst [oV st])) := fun b o e => s45 _ _ (s34 _ _ e)
      generalize upd H4 sp0 (.lst [oV st]) = H5 at s45 hsp0 wa1 s35 ⊢
      have numS : ∀ (W : Wy.Ws Spot), (S.filter fun b => (W b).isSome).length ≤ S.length := fun _ => List.length_filter_le _ _
      refine ⟨fun m σ H' => ∃ (x4 x5 x6 x7 x10 x11 x12 : Option V) (spq : Addr) (sp : List Spot) (k : Nat) (wks : SK) (wy : Wy.Ws Spot), σ = [some (.ref p), some (oV st), some (.ref sq), some (.ref tq), x4, x5, x6, x7, some (.ref wq), some (.ref spq), x10, x11, x12] ∧ Same H3 H' ∧ H' spq = some (.lst (sp.map oV)) ∧ WaysAt P w H' wq wks S wy ∧ Wy.Bf R S st s k wy sp ∧ sp.length ≤ S.length ∧ k ≤ S.length ∧ m = S.length - k,
        ⟨_, _, _, _, _, none, none, none, sp0, [st], 0, _, _, rfl, s35, hsp0, wa1, Wy.Bf.first le hst, List.length_pos_of_mem hst, Nat.zero_le _, rfl⟩, ?_⟩
      rintro m σ H6 ⟨x4, x5, x6, x7, x10, x11, x12, spq, sp, k, wks, wy, rfl, s6, hsp, wa, bf, lsp, kS, rfl⟩
      refine ⟨_, rfl, _, .inl ⟨_, SqL.of hsp, rfl⟩, ?_⟩
      cases hspe : sp with
      | nil =>
        subst hspe
        refine iteF ⟨_, rfl, _, rfl, by show 2 ≤ sizeLine; decide, fun t nt => ?_⟩
        have st7 := same_upd (o := .tup [.ref sq, .ref wq]) nt
        have all : Same H (upd H6 t (.tup [.ref sq, .ref wq])) := fun b o e => st7 _ _ (s6 _ _ (s3 _ _ e))
        exact q _ t sq wq s wks wy le ⟨sks, st7 _ _ (s6 _ _ hsq3), sq2, sq3, sq4⟩ (wa.sm st7) (bf.last le) (fun b l e => Nat.le_trans ((bf.is b l).mp e).2 kS) upd_same all
      | cons sh sr =>
        have hne : sp ≠ [] := by rw [hspe]; exact fun z => nomatch z
        rw [← hspe]
        have e0 : (!(sp.map oV).isEmpty) = true := by rw [hspe]; rfl
        have kS2 : k + 1 ≤ S.length := Nat.le_trans (bf.num hne) (numS _)
        rw [e0]
        refine iteT ⟨fun σ' H' => ∃ (x4 x5 x6 x7 x10 x11 x12 : Option V) (spq : Addr) (sp' : List Spot) (wks : SK) (wy' : Wy.Ws Spot), σ' = [some (.ref p), some (oV st), some (.ref sq), some (.ref tq), x4, x5, x6, x7, some (.ref wq), some (.ref spq), x10, x11, x12] ∧ Same H3 H' ∧ H' spq = some (.lst (sp'.map oV)) ∧ WaysAt P w H' wq wks S wy' ∧ Wy.Bf R S st s (k + 1) wy' sp' ∧ sp'.length ≤ S.length, ?_, ?_⟩
        · rintro σ' H' ⟨x4, x5, x6, x7, x10, x11, x12, spq, sp', wks, wy', rfl, h1, h2, h3, h4, h5⟩
          exact ⟨S.length - (k + 1), by omega, x4, x5, x6, x7, x10, x11, x12, spq, sp', k + 1, wks, wy', rfl, h1, h2, h3, h4, h5, kS2, rfl⟩
        refine ⟨Nat.zero_le _, fun lt nlt => ?_⟩
        have nlt3 := none_of s6 nlt
        have s67 := same_upd (o := .lst []) nlt
        have hlt : (upd H6 lt (.lst [])) lt = some (.lst ([] : List V)) := upd_same
        have wa7 := wa.sm s67
        have hsp7 := s67 _ _ hsp
        have s37 : Same H3 (upd H6 lt (.lst [])) := fun b o e => s67 _ _ (s6 _ _ e)
        have spl : spq ≠ lt := ne_of_none hsp nlt
        have apl : ∀ x d, valV wks x = some (.ref d) → wy x ≠ none → d ≠ lt := fun x d e h => by
          cases hx : wy x with
          | none => exact absurd hx h
          | some l =>
            obtain ⟨d', e1, e2⟩ := wa.2.2.2.2 x l hx
            rw [e] at e1
            cases e1
            exact ne_of_none e2 nlt
        have wkn : ∀ x d, valV wks x = some (.ref d) → d ≠ lt := fun x d e => by
          by_cases h : wy x = none
          · have := wa.2.2.2.1 x h
            rw [this] at e
            cases e
          · exact apl x d e h
        generalize upd H6 lt (.lst []) = H7 at s67 hlt wa7 hsp7 s37 ⊢
        have gdef : ∀ x, (fun x => tightL R s x R.length) x = tightL R s x R.length := fun _ => rfl
        have W0mem : ∀ x ∈ sp, ∃ u, wy x = some u ∧ u.length = k := fun x hx => (bf.mem x).mp hx
        have asc : ∀ (i i' : Nat) (x x' : Spot) (u u' : List Nat), sp[i]? = some x → sp[i']? = some x' → wy x = some u → wy x' = some u' → i' < i → Wy.lx u' u := fun i i' x x' u u' h1 h2 h3 h4 h5 => by
          have hi := (List.getElem?_eq_some_iff.mp h1)
          have hi' := (List.getElem?_eq_some_iff.mp h2)
          obtain ⟨l1, e1⟩ := hi
          obtain ⟨l2, e2⟩ := hi'
          have := List.pairwise_iff_getElem.mp bf.asc i' i l2 l1 h5 u' u (by rw [e2]; exact h4) (by rw [e1]; exact h3)
          exact this
        refine ⟨_, rfl, spq, rfl, ⟨_, SqL.of hsp7⟩, for_list (K := K) (a := spq) (xs := sp.map oV) (fun i σ' H' => ∃ (x4 x5 x6 x7 x11 x12 : Option V) (lts : List Spot) (wks : SK) (wy' : Wy.Ws Spot), σ' = [some (.ref p), some (oV st), some (.ref sq), some (.ref tq), x4, x5, x6, x7, some (.ref wq), some (.ref spq), some (.ref lt), x11, x12] ∧ Same H3 H' ∧ H' spq = some (.lst (sp.map oV)) ∧ H' lt = some (.lst (lts.map oV)) ∧ WaysAt P w H' wq wks S wy' ∧ (∀ x d, valV wks x = some (.ref d) → d ≠ lt) ∧ Wy.Bg R S st s k wy (doneB sp wy (fun x => tightL R s x R.length) i 0) wy' lts)
          ⟨x4, x5, x6, x7, x11, x12, [], wks, wy, rfl, s37, hsp7, hlt, wa7, wkn, Wy.Bg.first fun w' hw hd => ?_⟩ (fun i σ' H' _ ⟨_, _, _, _, _, _, _, _, _, _, _, z, _⟩ => SqL.of z) ?_ ?_⟩
        · obtain ⟨i', j', x, u, e, _, _, _, _, h⟩ := hd
          omega
        · rintro i xv σ' H8 hi ⟨x4, x5, x6, x7, x11, x12, lts, wks, wy', rfl, s8, hsp8, hlt8, wa8, wkn8, bg⟩
          obtain ⟨x, hx, rfl⟩ : ∃ x, sp[i]? = some x ∧ xv = oV x := by
            rw [List.getElem?_map] at hi
            cases e : sp[i]? with
            | none => rw [e] at hi; cases hi
            | some x => rw [e] at hi; exact ⟨x, rfl, (Option.some.inj hi).symm⟩
          obtain ⟨u, hu0, lu0⟩ := W0mem x (List.mem_of_getElem? hx)
          have tg8 := tg.sm s8
          refine ⟨_, rfl, tq, rfl, ⟨tks, .inl tg8.at_⟩, _, rfl, Nat.zero_le _, fun E nE => ⟨tks, x, .inl (same_upd nE _ _ tg8.at_), rfl, ?_⟩⟩
          have nE3 := none_of s8 nE
          have s89 := same_upd (o := .lst []) nE
          -- the list of the tight rows
          obtain ⟨e, us9, he, hus, hpa, elt⟩ : ∃ e us9, (valV tks x).getD (.ref E) = .ref e ∧ (upd H8 E (.lst [])) e = some (.lst us9) ∧ PairsAt (upd H8 E (.lst [])) us9 (tightL R s x R.length) ∧ e ≠ lt := by
            cases hv : valV tks x with
            | none =>
              refine ⟨E, [], rfl, upd_same, ?_, fun z => by rw [z, hlt8] at nE; cases nE⟩
              have : tightL R s x R.length = [] := tg.non x hv
              rw [this]
              exact ⟨rfl, fun i e he => by simp at he⟩
            | some v =>
              obtain ⟨d, us9, rfl, e1, e2⟩ := tg8.val x v hv
              obtain ⟨d', us', e3, e4, _⟩ := tg.val x _ hv
              cases e3
              exact ⟨d, us9, rfl, s89 _ _ e1, e2.at_ fun q ys e => s89 _ _ e, ne_of_none e4 nlt3⟩
          rw [he]
          have sp9 := s89 _ _ hsp8
          have hlt9 := s89 _ _ hlt8
          have wa9 := wa8.sm s89
          have s39 : Same H3 (upd H8 E (.lst [])) := fun b o e => s89 _ _ (s8 _ _ e)
          generalize upd H8 E (.lst []) = H9 at s89 hus hpa sp9 hlt9 wa9 s39 ⊢
          refine ⟨e, rfl, ⟨_, SqL.of hus⟩, for_list (K := K) (a := e) (xs := us9) (fun j σ' H' => ∃ (x4 x5 x6 x7 x12 : Option V) (lts : List Spot) (wks : SK) (wy' : Wy.Ws Spot), σ' = [some (.ref p), some (oV st), some (.ref sq), some (.ref tq), x4, x5, x6, x7, some (.ref wq), some (.ref spq), some (.ref lt), some (oV x), x12] ∧ Same H3 H' ∧ H' spq = some (.lst (sp.map oV)) ∧ H' e = some (.lst us9) ∧ PairsAt H' us9 (tightL R s x R.length) ∧ H' lt = some (.lst (lts.map oV)) ∧ WaysAt P w H' wq wks S wy' ∧ (∀ x d, valV wks x = some (.ref d) → d ≠ lt) ∧ Wy.Bg R S st s k wy (doneB sp wy (fun x => tightL R s x R.length) i j) wy' lts)
            ⟨x4, x5, x6, x7, x12, lts, wks, wy', rfl, s39, sp9, hus, hpa, hlt9, wa9, wkn8, bg⟩ (fun j σ' H' _ ⟨_, _, _, _, _, _, _, _, _, _, _, z, _⟩ => SqL.of z) ?_ ?_⟩
          · rintro j yv σ' H10 hj ⟨x4, x5, x6, x7, x12, lts, wks, wy', rfl, s10, sp10, hus10, hpa10, hlt10, wa10, wkn10, bg⟩
            have hj2 : j < (tightL R s x R.length).length := by rw [← hpa10.1]; exact (List.getElem?_eq_some_iff.mp hj).1
            obtain ⟨⟨at_, b⟩, hab⟩ : ∃ e, (tightL R s x R.length)[j]? = some e := ⟨_, List.getElem?_eq_getElem hj2⟩
            obtain ⟨U, hU1, hU⟩ := hpa10.2 j _ hab
            rw [hj] at hU1
            cases hU1
            obtain ⟨_, c, hr, ti⟩ := tightL_mem.mp (List.mem_of_getElem? hab)
            have mb := (inS _ _ _ (List.mem_of_getElem? hr)).2
            obtain ⟨wk1, wk2, wk3, wk4, wk5⟩ := id wa10
            have lwk := sk_len wk2 wk3
            refine ⟨U, _, rfl, SqT.of hU, rfl, _, _, rfl, _, _, rfl, rfl, ?_⟩
            refine ⟨_, rfl, _, rfl, wq, wks, b, rfl, .inl wk1, rfl, _, rfl, ?_⟩
            have stp := bg.step (done' := doneB sp wy (fun x => tightL R s x R.length) i (j + 1)) hu0 lu0 hr ti mb (fun w' hd lw => ?_) (fun w' => ?_)
            · cases hb : wy' b with
              | some l =>
                obtain ⟨d, e1, e2⟩ := wk5 b l hb
                rw [e1]
                refine iteF ⟨_, _, _, _, _, lts, wks, wy', rfl, s10, sp10, hus10, hpa10, hlt10, wa10, wkn10, stp.2 (by rw [hb]; exact fun z => nomatch z)⟩
              | none =>
                rw [wk4 b hb]
                have bg' := stp.1 hb
                obtain ⟨du, e1, e2⟩ := wk5 x u (bg.old x u hu0)
                refine iteT ⟨_, rfl, _, rfl, wq, wks, x, .ref du, rfl, .inl wk1, rfl, e1, _, rfl, by show 1 ≤ sizeLine; decide, fun Z nZ => ⟨du, Z, _, _, rfl, rfl, same_upd nZ _ _ e2, upd_same, ?_, fun r nr => ?_⟩⟩
                · unfold natL
                  rw [List.length_map, lu0]
                  exact small10000 (by show k + 1 ≤ 10000; omega)
                have sZ : Same H10 (upd H10 Z (.lst [.int ((at_ : Nat) : Int)])) := same_upd nZ
                have sR : Same H10 (upd (upd H10 Z (.lst [.int ((at_ : Nat) : Int)])) r (.lst (natL u ++ [.int ((at_ : Nat) : Int)]))) := fun b o e => same_upd nr _ _ (sZ _ _ e)
                have hr11 : (upd (upd H10 Z (.lst [.int ((at_ : Nat) : Int)])) r (.lst (natL u ++ [.int ((at_ : Nat) : Int)]))) r = some (.lst (natL (u ++ [at_]))) := by rw [upd_same, natL_app]
                have nr10 := none_of sZ nr
                have rlt : r ≠ lt := fun z => by rw [z, hlt10] at nr10; cases nr10
                generalize upd (upd H10 Z (.lst [.int ((at_ : Nat) : Int)])) r (.lst (natL u ++ [.int ((at_ : Nat) : Int)])) = H11 at sR hr11 ⊢
                refine ⟨_, rfl, _, rfl, wq, wks, b, rfl, sR _ _ wk1, rfl, lt1000 (by omega), ?_⟩
                have nwl : ∀ {q : Addr} {ys : List V}, H11 q = some (.lst ys) → q ≠ wq := fun h z => by rw [z, sR _ _ wk1] at h; cases h
                have ltq : lt ≠ wq := nwl (sR _ _ hlt10)
                have hlt12 : (upd H11 wq (NS P w wq (putK wks b (.ref r)))) lt = some (.lst (lts.map oV)) := by rw [upd_ne ltq]; exact sR _ _ hlt10
                have llt : lts.length ≤ 100 := by
                  have := bg.cnt
                  have := numS wy'
                  omega
                refine ⟨_, rfl, .inl ⟨rfl, _, SqL.of hlt12⟩, _, rfl, lt, _, _, rfl, rfl, hlt12, small1000 (by rw [List.length_map]; omega), ?_⟩
                have nt : ∀ {q : Addr} {ys : List V}, H11 q = some (.tup ys) → q ≠ wq ∧ q ≠ lt := fun h => ⟨(fun z => by rw [z, sR _ _ wk1] at h; cases h), (fun z => by rw [z, sR _ _ hlt10] at h; cases h)⟩
                have up : ∀ q o, q ≠ wq → q ≠ lt → H11 q = some o → (upd (upd H11 wq (NS P w wq (putK wks b (.ref r)))) lt (.lst (lts.map oV ++ [oV b]))) q = some o := fun q o n1 n2 e => by rw [upd_ne n2, upd_ne n1]; exact e
                refine ⟨_, _, _, _, _, lts ++ [b], putK wks b (.ref r), Wy.upf wy' b (some (u ++ [at_])), rfl, fun q o e => ?_, ?_, ?_, ?_, ?_, ?_, ?_, bg'⟩
                · exact up q o (fun z => by rw [z, nwq] at e; cases e) (fun z => by rw [z, nlt3] at e; cases e) (sR _ _ (s10 _ _ e))
                · exact up _ _ (nwl (sR _ _ sp10)) spl (sR _ _ sp10)
                · exact up _ _ (nwl (sR _ _ hus10)) elt (sR _ _ hus10)
                · exact hpa10.at_ fun q ys e => up _ _ (nt (sR _ _ e)).1 (nt (sR _ _ e)).2 (sR _ _ e)
                · rw [upd_same, List.map_append]
                  rfl
                · refine ⟨by rw [upd_ne ltq.symm]; exact upd_same, sk_put_nodup wk2 b _, sk_put_mem wk3 mb _, fun y hy => ?_, fun y l hy => ?_⟩
                  · unfold Wy.upf at hy
                    rw [valV_put]
                    split at hy
                    · cases hy
                    · rename_i ne
                      rw [if_neg ne]
                      exact wk4 y hy
                  · unfold Wy.upf at hy
                    rw [valV_put]
                    split at hy
                    · rename_i e
                      cases hy
                      exact ⟨r, if_pos e, up _ _ (nwl hr11) rlt hr11⟩
                    · rename_i ne
                      obtain ⟨d, g1, g2⟩ := wk5 y l hy
                      exact ⟨d, by rw [if_neg ne]; exact g1, up _ _ (nwl (sR _ _ g2)) (wkn10 y d g1) (sR _ _ g2)⟩
                · intro y d hy
                  rw [valV_put] at hy
                  split at hy
                  · cases hy
                    exact rlt
                  · exact wkn10 y d hy
            · obtain ⟨i', j', x', u', e', h1, h2, h3, rfl, h5⟩ := hd
              obtain ⟨u2, h6, h7⟩ := W0mem x' (List.mem_of_getElem? h1)
              rw [h2] at h6
              cases h6
              rcases h5 with h5 | ⟨rfl, h5⟩
              · exact Wy.lx_len (by omega) (asc i i' x x' u u' hx h1 hu0 h2 h5)
              · rw [hx] at h1
                cases h1
                rw [hu0] at h2
                cases h2
                refine Wy.lx_pre _ (Wy.lx_one ?_)
                obtain ⟨l1, g1⟩ := List.getElem?_eq_some_iff.mp h3
                obtain ⟨l2, g2⟩ := List.getElem?_eq_some_iff.mp hab
                have := List.pairwise_iff_getElem.mp (tightL_asc R s x R.length) j' j l1 l2 h5
                rw [g1, g2] at this
                exact this
            · constructor
              · rintro ⟨i', j', x', u', e', h1, h2, h3, rfl, h5⟩
                rcases h5 with h5 | ⟨rfl, h5⟩
                · exact .inl ⟨i', j', x', u', e', h1, h2, h3, rfl, .inl h5⟩
                · by_cases q2 : j' = j
                  · subst q2
                    rw [hx] at h1
                    cases h1
                    rw [hu0] at h2
                    cases h2
                    have h3 : (tightL R s x R.length)[j']? = some e' := h3
                    rw [hab] at h3
                    cases h3
                    exact .inr rfl
                  · exact .inl ⟨i', j', x', u', e', h1, h2, h3, rfl, .inr ⟨rfl, by omega⟩⟩
              · rintro (⟨i', j', x', u', e', h1, h2, h3, rfl, h5⟩ | rfl)
                · exact ⟨i', j', x', u', e', h1, h2, h3, rfl, h5.imp id fun z => ⟨z.1, by omega⟩⟩
                · exact ⟨i, j, x, u, (at_, b), hx, hu0, hab, rfl, .inr ⟨rfl, Nat.lt_succ_self _⟩⟩
          · rintro σ' H10 ⟨x4, x5, x6, x7, x12, lts, wks, wy', rfl, s10, sp10, hus10, hpa10, hlt10, wa10, wkn10, bg⟩
            refine ⟨_, _, _, _, _, _, lts, wks, wy', rfl, s10, sp10, hlt10, wa10, wkn10, bg.weak (fun w' _ hd => ?_) (fun m' b' c' u' i' h1 h2 h3 h4 hd => ?_)⟩
            · obtain ⟨i', j', x', u', e', h1, h2, h3, h4, h5⟩ := hd
              exact ⟨i', j', x', u', e', h1, h2, h3, h4, .inl (by rcases h5 with z | z <;> omega)⟩
            · obtain ⟨i2, j2, x', u2, e', g1, g2, g3, g4, g5⟩ := hd
              refine ⟨i2, j2, x', u2, e', g1, g2, g3, g4, ?_⟩
              rcases g5 with z | z
              · by_cases q2 : i2 = i
                · subst q2
                  rw [hx] at g1
                  cases g1
                  exact .inr ⟨rfl, by rw [hpa10.1]; exact (List.getElem?_eq_some_iff.mp g3).1⟩
                · exact .inl (by omega)
              · exact absurd z.2 (Nat.not_lt_zero _)
        · rintro σ' H10 ⟨x4, x5, x6, x7, x11, x12, lts, wks, wy', rfl, s10, sp10, hlt10, wa10, wkn10, bg⟩
          have bgT := bg.weak (done' := fun _ => True) (fun _ _ _ => trivial) fun m' b' c' u' i' h1 h2 h3 h4 _ => by
            have hm := (bf.mem m').mpr ⟨u', h1, h2⟩
            obtain ⟨i2, hi2⟩ := List.mem_iff_getElem?.mp hm
            have he : (i', b') ∈ tightL R s m' R.length := tightL_mem.mpr ⟨(List.getElem?_eq_some_iff.mp h3).1, c', h3, h4⟩
            obtain ⟨j2, hj2⟩ := List.mem_iff_getElem?.mp he
            exact ⟨i2, j2, m', u', (i', b'), hi2, h1, hj2, rfl, .inl (by rw [List.length_map]; exact (List.getElem?_eq_some_iff.mp hi2).1)⟩
          have nx := bf.next le hne bgT
          refine ⟨_, rfl, _, _, _, _, _, _, _, lt, lts, wks, wy', rfl, s10, hlt10, wa10, nx, ?_⟩
          have := bg.cnt
          have := numS wy'
          omega
end
end Lm
/-! repr of a list of small numbers, whatever reprs are under way; an exception with such a field (ok_initL, YMkL, ps_badYL: made from OwnI and OwnE). -/
namespace Lm
open PySem PySem.Spec PyProof.Rows L2
theorem list_repr_headAny {M : Model} {A : Around} {E : Value → Shared → Prop} {s : Shared} {Q : Fin → Shared → Prop} {a : Addr} {o : Obj} {x : Value} {l : List Value} {n} {b : Nat}
    (hget : s.heap.get? a = some o) (hd : o.data = .seq (x :: l).toArray n) (h2 : wpAny M A (do rule "list.__repr__.in-itself"; retStr "[...]") Q E s)
    (h : wpAny M A (do again (.builtin "list.__repr__.loop" ⟨[.ref a, rawInt 0, ← newList [], rawInt b], []⟩)) Q E s) : wpAny M A (Builtin.listReprAt b ⟨[.ref a], []⟩) Q E s := by
  intro Γ p hΓ
  have k1 := h Γ p hΓ
  have k2 := h2 Γ p hΓ
  unfold Builtin.listReprAt
  simp [slotArgs, Builtin.List.listItems, seqItems?, Sem.wp_load_of (h := hget), hd, stack]
  show Sem.wp M Γ (if (Γ.below.any _) = true then _ else _) _ _ p s
  split
  · first | exact k2 | (simp at k2 ⊢; exact k2)
  · exact k1
theorem textFrom_up : ∀ (ts : List Str) (k n : Nat) (acc : Str), (∀ t ∈ ts, t.length ≤ n) → (textFrom k acc ts).length ≤ acc.length + ts.length * (n + 2)
  | [], k, n, acc, _ => by
    show acc.length ≤ _
    omega
  | t :: r, k, n, acc, h => by
    have h1 := textFrom_up r (k + 1) n (acc ++ (if k > 0 then ", " else "" : String) ++ t) fun t' ht => h t' (List.mem_cons_of_mem _ ht)
    have h2 := h t (List.mem_cons_self ..)
    show (textFrom (k + 1) (acc ++ (if k > 0 then ", " else "" : String) ++ t) r).length ≤ _
    have h3 : (acc ++ (if k > 0 then ", " else "" : String) ++ t : Str).length ≤ acc.length + 2 + t.length := by
      rw [Str.length_append, Str.length_append]
      split
      · rw [PySem.ofString_length]
        have : (", " : String).length = 2 := rfl
        omega
      · rw [PySem.ofString_length]
        have : ("" : String).length = 0 := rfl
        omega
    have h4 : (t :: r).length * (n + 2) = r.length * (n + 2) + (n + 2) := by
      rw [List.length_cons, Nat.add_mul, Nat.one_mul]
    omega
theorem listText_up {ts : List Str} {n : Nat} (h : ∀ t ∈ ts, t.length ≤ n) : (listText ts).length ≤ ts.length * (n + 2) + 2 := by
  have := textFrom_up ts 0 n "[" h
  unfold listText
  rw [Str.length_append, PySem.ofString_length]
  rw [PySem.ofString_length] at this
  have h1 : ("[" : String).length = 1 := rfl
  have h2 : ("]" : String).length = 1 := rfl
  omega
theorem reprObj_any {prog : Program} {w : World} {A : Around} {E : Value → Shared → Prop} {s : Shared} {a : Addr} {oa : Obj} {x : Value} {l : List Value} {na : Nat} {ts : List Str} {Q : Value → Shared → Prop} (hTy : s.TypeIs (.ref a) "list") (hu : A.units < cLine)
    (ha : s.heap.get? a = some oa) (hda : oa.data = .seq (x :: l).toArray na) (hlen : ts.length = (x :: l).toArray.size) (hT : ∀ (i : Nat) (y : Value), (x :: l).toArray[i]? = some y → ∃ t, ts[i]? = some t ∧ ReprIs prog w y t)
    (hQ : ∀ (z : Str) h' u tk, z.length ≤ (listText ts).length + 5 → (∀ b o, s.heap.get? b = some o → h'.get? b = some o) → Q (.str z u) { s with heap := h', toks := tk }) (hsz : (listText ts).length ≤ 10000) : wpAny (model prog w) A (pyReprObj (.ref a)) Q E s := by
  have hz : (listText ts).length ≤ sizeLine := Nat.le_trans hsz (by unfold sizeLine; decide)
  have fin : ∀ (z : Str) h' u tk, z.length ≤ (listText ts).length + 5 → (∀ b o, s.heap.get? b = some o → h'.get? b = some o) → wpAny (model prog w) A (do let r ← pure (Value.str z u); if ← isInstance r (.type "str") then return r else unsupported "x") Q E { s with heap := h', toks := tk } := fun z h' u tk hz2 hk =>
    wpAny_bind (wpAny_pure (wpAny_bind (wpAny_isInstance (T := "str") (b := true) rfl isSubtype_str_str (wpAny_pure (hQ z h' u tk hz2 hk)))))
  unfold pyReprObj
  refine wpAny_bind (wpAny_cRoomFor hu ?_)
  refine wpAny_bind (wpAny_specialOf (name := Str.ofString "__repr__") hTy F.slot_list_repr.lookup ?_)
  refine wpAny_bind (m := callSpecialIfBound? (.ref a) (Str.ofString "__repr__")) (wpAny_callSpecialIfBound?_slot (name := Str.ofString "__repr__") hTy F.slot_list_repr
    (wpAny_call (codeAny_call_builtin F.slot_list_repr.plain F.entry_list_repr (F.slot_list_repr.check _ _ _ _ _ _ _ _ hTy (F.args_list_repr_1 _) ?_))))
  refine list_repr_headAny ha hda (wpAny_bind (wpAny_rule ?_)) ?_
  · refine wpAny_bind (wpAny_mkStr (wpAny_pure ?_) (by rw [PySem.ofString_length]; unfold sizeLine; decide))
    exact wpAny_bind (wpAny_isInstance (T := "str") (b := true) rfl isSubtype_str_str (wpAny_pure (hQ _ s.heap _ _ (by rw [PySem.ofString_length]; have : ("[...]" : String).length = 5 := rfl; omega) fun _ _ e => e)))
  · refine wpAny_bind (m := newList []) (wpAny_newObj_type ?_)
    refine wpAny_pure ⟨F.quiet_list_repr_loop _, ?_⟩
    refine codeAny_list_repr_start (P := s.heap.objs.size) (Nat.ne_of_lt (Heap.lt_size ha)) hlen hT (Heap.get?_push_of_some _ ha) hda (Heap.get?_push_size _ rfl) (fun h' u tk hk => ?_) (b := 0) (by omega)
    exact wpAny_bind (wpAny_isInstance (T := "str") (b := true) rfl isSubtype_str_str (wpAny_pure (hQ _ h' u tk (Nat.le_add_right _ _) fun b o e => hk b o (Nat.ne_of_lt (Heap.lt_size e)) (Heap.get?_push_of_some _ e))))
/-- a list of small numbers -/
def RingV (H : Hp) (y : V) : Prop := ∃ (q : Addr) (l : List Nat), y = .ref q ∧ H q = some (.lst (l.map fun k => V.int ((k : Nat) : Int))) ∧ l ≠ [] ∧ l.length ≤ 100 ∧ ∀ k ∈ l, k < 1000
theorem RingV.sm {H H' : Hp} {y : V} (h : RingV H y) (s : Same H H') : RingV H' y := let ⟨q, l, e, h1, r⟩ := h; ⟨q, l, e, s _ _ h1, r⟩
def tFmtL (te : TE) : TE := fun σ H Q => te σ H fun x H1 => ∃ (q : Addr) (l : List Nat), x = .ref q ∧ H1 q = some (.lst (l.map fun k => V.int ((k : Nat) : Int))) ∧ l ≠ [] ∧ l.length ≤ 100 ∧ (∀ k ∈ l, k < 1000) ∧ ∀ z : Str, z.length ≤ 5000 → Q (.str z) H1
theorem small_log {k : Nat} (h : k < 1000) : ((k : Nat) : Int).natAbs.log2 < 1920 := by
  rw [Int.natAbs_natCast]
  by_cases h0 : k = 0
  · rw [h0]
    decide
  · have : k.log2 < 10 := (Nat.log2_lt h0).mpr (by omega)
    omega
theorem pe_fmtL {X : Cx} {e : Expr} {te : TE} {pos : Pos} (hu : X.A.units < cLine) (he : PE X e te) : PE X (.FormattedValue e 114 none pos) (tFmtL te) := by
  refine ⟨fun pins s σ H Q I h => ?_⟩
  refine wpAny_FormattedValue_repr (thn (he.run pins s σ H _ I h) fun v s1 hv => ?_)
  obtain ⟨x, H1, I1, r1, q, l, rfl, hq, hne, hl, hk, fin⟩ := hv
  obtain rfl : v = Value.ref q := r1
  obtain ⟨its, rv, hp, hz⟩ := I1.list (SqL.of (K := X.K) hq)
  obtain ⟨o, n, e1, e2, e3, e4⟩ := hp
  have lt : its.length = l.length := by rw [← rv.length, List.length_map]
  cases its with
  | nil => exact absurd (List.length_eq_zero_iff.mp (by simpa using lt.symm)) hne
  | cons y r =>
    have each : ∀ (i : Nat) (u : Value), (y :: r)[i]? = some u → ∃ t, (l.map fun k => (Str.ofString (toString ((k : Nat) : Int))))[i]? = some t ∧ ReprIs X.prog X.w u t := by
      intro i u hi
      have hil : i < l.length := by
        have := (List.getElem?_eq_some_iff.mp hi).1
        omega
      have hk2 : l[i]? = some l[i] := List.getElem?_eq_getElem hil
      obtain ⟨u', hu', ru⟩ := rv.get (i := i) (x := V.int ((l[i] : Nat) : Int)) (by rw [List.getElem?_map, hk2]; rfl)
      rw [hi] at hu'
      cases hu'
      obtain ⟨t, rfl⟩ := ru
      exact ⟨_, by rw [List.getElem?_map, hk2]; rfl, ReprIs.int t (small_log (hk _ (List.getElem_mem hil)))⟩
    have lent : ∀ t ∈ l.map (fun k => (Str.ofString (toString ((k : Nat) : Int)))), t.length ≤ 5 := by
      intro t ht
      obtain ⟨k, hk1, rfl⟩ := List.mem_map.mp ht
      rw [PySem.ofString_length]
      exact int_text_length_le10 (k := 4) (by decide) (by have := hk k hk1; rw [Int.natAbs_natCast]; omega)
    have up := listText_up lent
    rw [List.length_map] at up
    refine reprObj_any (ts := l.map fun k => (Str.ofString (toString ((k : Nat) : Int)))) ⟨o, e1, e2⟩ hu e1 e4 (by rw [List.length_map]; simpa using lt.symm) (fun i u hi => each i u (by simpa using hi)) (fun z h' u tk hz2 hkp => ?_) (by omega)
    have hz3 : z.length ≤ 5000 := by omega
    have hz4 : z.length ≤ sizeLine := Nat.le_trans hz3 (by unfold sizeLine; decide)
    exact wpAny_formatField_str ⟨.str z, H1, I1.kept hkp, ⟨_, rfl⟩, fin z hz3⟩ ⟨.str z, H1, (I1.kept hkp).tok _, ⟨_, rfl⟩, fin z hz3⟩ hz4
section
variable {P : Program} {w : World} {K : PySem.W.Frag} {mg : Str → Option Value} {base : Heap}
/-- what it keeps: the argument in the one field -/
def spInitL (K : PySem.W.Frag) (C : Addr) (x : Str) : Sp := fun vs H Q _ => ∃ (a : Addr) (y : V), vs = [.ref a, y] ∧ H a = some (exo a C none) ∧ PySem.W.findIn K (.ref C) x = some none ∧ RingV H y ∧
  ∀ dx, H dx = none → dx ≠ a → Q .non (upd (upd H dx (exd dx [(x, y)])) a (exo a C (some dx)))
theorem ok_initL {x : Str} {C fI : Addr} {st : Stmt} {fd : FuncData} (F : InitAt P K mg C st fI fd) (T : InitTxt st x) (hx : (x == ("self" : Str)) = false ∧ (x == ("__class__" : Str)) = false ∧ (x == ("super" : Str)) = false) (hdb : (x == ("__debug__" : Str)) = false ∧ (x == ("__classdict__" : Str)) = false) :
    FnOk P w K mg base CX0 1 fI fd ["self", x] (spInitL K C x) := by
  refine ⟨fun vs H Q E h => ?_, fun A outer s H args us vs Q E hr e0 hb r hsp => ?_⟩
  · obtain ⟨a, y, rfl, _⟩ := h
    rfl
  · obtain ⟨a, y, rfl, ha, hno, hy, q⟩ := hsp
    obtain ⟨oc, od, kV, doc, pm, an, cda, cc, ct, osl, qual, rfl, lk, hcd, ⟨ccl, cdd, fs, ccs, file, tf, lcd, hfs, hfile⟩, cl, cld, csl, lcc⟩ := F.ex
    obtain ⟨cd, hcls⟩ := F.cls
    obtain ⟨m, j, p0, p1, p2, p3, p4, p5, p6, p7, p8, p9, pa, pb, pc, pd, hbody, hm, hev⟩ := T.body
    have hsc := T.sc
    have hpar := T.params
    have hself := F.self
    have hsup := F.sup
    have htop := F.top
    have halong := F.along
    have hisV := F.isV
    have hopq := F.opq
    have hoex := F.oex
    clear F T
    generalize defScope st = sc at *
    generalize defBody st = bd at *
    subst hsc hbody
    have KX : K.In s.heap := e0.mod.kin.keeps fun b o e => (e0.bs b o e).1
    have lim : s.heap.NoLimit := e0.mod.nolimit.keeps fun b o e => (e0.bs b o e).1
    match us, r with
    | [u0, u1], .cons r0 (.cons r1 .nil) =>
    obtain rfl : u0 = Value.ref a := r0
    refine ks_codeAny_call_defAt (binds := [("self", .ref a), (x, u1)]) hr.depth (KX _ _ lk) rfl lim (PySem.W.codeRec_of KX hcd) rfl hb ?_ ?_ (fun h₀ ns hk => ?_)
    · intro z hz
      have hz : z ∈ ([("self", .local), (x, .local), ("__class__", .free), ("super", .globalImplicit)] : List (Str × NameKind)) := hz
      simp at hz
      rcases hz with rfl | rfl | rfl | rfl <;> (intro e; cases e)
    · intro z hz
      have hz : z = (("self" : Str), Value.ref a) ∨ z = (x, u1) := by simpa using hz
      show ([("self", .local), (x, .local), ("__class__", .free), ("super", .globalImplicit)] : List (Str × NameKind)).lookup z.1 = some .local
      rcases hz with rfl | rfl
      · rw [lk_cons, if_pos rfl]
      · rw [lk_cons, lk_cons, if_pos rfl]
        split <;> rfl
    · have I := inv_init (qual := qual) (f := fI) (cd := .ref cda) (A := A) (outer := outer) (xe := fun e s' => wpAny (model P w) (A.deeper (PySem.W.ksEnv qual (scI x) s.heap.objs.size fI (.ref cda) cc)) (leaving (PySem.W.ksEnv qual (scI x) s.heap.objs.size fI (.ref cda) cc) e)
          (fun _ s'' => CR CX0 outer P w H s Q E (.error e) s'') (fun e' s'' => CR CX0 outer P w H s Q E (.error e') s'') s') hx hr.hd e0 lcc (v0 := .ref a) (u0 := .ref a) rfl r1 ns hk (s.toks + 2)
      have kS : (scI x).names.lookup ("super" : Str) = some .globalImplicit := by
        show ([("self", .local), (x, .local), ("__class__", .free), ("super", .globalImplicit)] : List (Str × NameKind)).lookup ("super" : Str) = some .globalImplicit
        rw [lk_cons, if_neg (by decide), lk_cons, if_neg (fun z => by rw [← z] at hx; simp at hx), lk_cons, if_neg (by decide), lk_cons, if_pos rfl]
      have kC : (scI x).names.lookup ("__class__" : Str) = some .free := by
        show ([("self", .local), (x, .local), ("__class__", .free), ("super", .globalImplicit)] : List (Str × NameKind)).lookup ("__class__" : Str) = some .free
        rw [lk_cons, if_neg (by decide), lk_cons, if_neg (fun z => by rw [← z] at hx; simp at hx), lk_cons, if_pos rfl]
      have kA : (scI x).names.lookup ("self" : Str) = some .local := rfl
      obtain ⟨hpos, ar, ar2, hargs, hself'⟩ := hpar
      obtain ⟨oD, hD1, hD2⟩ : ∃ oD, h₀.get? C = some oD ∧ oD.data = .cls cd := by
        unfold PySem.W.clsIn at hcls
        split at hcls
        · rename_i c0 d0 cd' sl ho
          cases hcls
          exact ⟨_, hk _ _ (KX _ _ ho), rfl⟩
        · cases hcls
      obtain ⟨t1, hxo⟩ := exo_at I.hok ha
      obtain ⟨pl, hev⟩ := hev (PySem.W.ksEnv qual (scI x) s.heap.objs.size fI (.ref cda) cc)
      refine ks_wpAt_execs_cons (ks_wpAt_Expr_any (ks_wpAt_MethodCall ?_ hev))
      · refine ks_wpAt_super_base (env := PySem.W.ksEnv qual (scI x) s.heap.objs.size fI (.ref cda) cc) (ar := ar) kS kC (by rfl) rfl (hk _ _ (KX _ _ lk)) rfl ?_ rfl (hk _ _ (KX _ _ lcd)) rfl hfs hfile htop ?_
        · show ((defArgs st).posonlyargs ++ (defArgs st).args).head? = some ar
          rw [hpos, hargs]
          rfl
        · obtain ⟨mb, b1, b2⟩ := e0.mod.blt
          refine PySem.W.ks_loadName_global rfl kS (Calls.loadGlobal_builtin (env := PySem.W.ksEnv qual (scI x) s.heap.objs.size fI (.ref cda) cc) (e0.mod.glob.keeps I.bk) hsup (b1.keeps I.bk) ((b2 "super" (by decide)).trans (by decide +kernel)) ⟨rfl, ?_⟩)
          refine wpAny_loadName_free rfl kC rfl ⟨_, hk _ _ (KX _ _ lcc), rfl⟩ ?_
          refine wpAny_loadName_local rfl (by rw [hself']; exact kA) ns (v := .ref a) ?_ ?_
          · rw [hself']
            show ([(x, u1), ("self", .ref a)] : List (Str × Value)).lookup ("self" : Str) = some (.ref a)
            rw [lk_cons, if_neg (fun z => by rw [← z] at hx; simp at hx), lk_cons, if_pos rfl]
          refine ks_wpAny_isType_cls hD1 hD2 ⟨rfl, ?_⟩
          refine ks_wpAny_call_super hD1 hD2 hxo rfl (fun c e => by cases e) (PySem.W.looks_mroIn I.kIn hself) (fun h2 hso hk2 => ?_)
          have I2 := I.kept (t' := s.toks + 2) hk2
          have hx2 := hk2 _ _ hxo
          have J2 : PySem.W.InstAt h2 a { cls := .ref C, dict := none, data := .fields #[.ref t1, .none, .none, .none, .bool false, .none] } C none := ⟨hx2, rfl, rfl, trivial⟩
          have along : PySem.W.alongIn K "__init__" ((cd.mro.dropWhile (· != .ref C)).drop 1) = some (some (.builtin "ValueError.__init__")) := by
            unfold PySem.W.ks_superIn at halong
            rw [hcls] at halong
            exact halong
          refine PySem.W.kxs_getMethod PySem.W.kxs_ValueError hso (PySem.W.looks_opaque I2.kIn hopq) (fun A Q E s k q => wpAny_bind ((PySem.W.looks_clsIn I2.kIn hcls) A _ E s k (wpAny_pure q))) rfl I2.kIn along (J2.type.andThen (PySem.W.looks_subIn I2.kIn hisV)) (PySem.W.ks_ne I2.kIn J2 hcls) (by decide) ?_
          have I3 := (I2.kept (t' := s.toks + 2 + 1) fun b o e => Heap.get?_push_of_some (PySem.W.kxs_mw "ValueError.__init__" a) e).pins_of (pins' := [(h2.objs.size, PySem.W.kxs_mw "ValueError.__init__" a)]) fun p hp => by
            rw [List.mem_singleton.mp hp]
            refine ⟨Heap.get?_push_size _ rfl, I2.hok.fresh (Nat.le_refl _), ?_, I2.nofs (Nat.le_refl _), fun v z => by cases z⟩
            exact Nat.ne_of_gt I2.lt
          have vx : Vis (scI x) x := .inl (by
            show ([("self", .local), (x, .local), ("__class__", .free), ("super", .globalImplicit)] : List (Str × NameKind)).lookup x = some .local
            rw [lk_cons, lk_cons, if_pos rfl]
            split <;> rfl)
          refine PySem.W.kxs_callWith (i := "ValueError.__init__") (x := a) rfl (PySem.Calls.evalArgs_plain ?_)
          refine thn ((pa_cons (pe_joined (.cons pe_str (.cons (pe_fmtL (Room.deeper (k := 0) hr _).units0 (pv 1 rfl vx hdb.1 hdb.2)) .nil))) pa_nil).run p7 [(h2.objs.size, PySem.W.kxs_mw "ValueError.__init__" a)] _ [some (.ref a), some y] H (fun vs H1 => vs.length = 1 ∧ H1 = H) I3 ?_) fun us s4 hus => ?_
          · have fits : ∀ z : Str, z.length ≤ 5000 → (Str.empty ++ m ++ z).length ≤ sizeLine := fun z hz => by
              rw [Str.length_append, Str.length_append, sizeLine_eq]
              have : Str.empty.length = 0 := rfl
              omega
            refine ⟨m, rfl, ?_, ?_⟩
            · have := fits "" (by decide +kernel)
              rw [Str.length_append] at this
              exact Nat.le_trans (Nat.le_add_right _ _) this
            · obtain ⟨q0, l, rfl, h1, h2, h3, h4⟩ := hy
              exact ⟨_, rfl, q0, l, rfl, h1, h2, h3, h4, fun z hz => ⟨_, rfl, fits _ hz, rfl, rfl⟩⟩
          · obtain ⟨vs, H1, I4, r4, hl4, rfl⟩ := hus
            have pin := I4.pin _ (List.mem_append_right _ (List.mem_singleton.mpr rfl))
            refine ⟨pin.1, call_mw hoex I4 ha pin.1 ?_ fun s5 I5 => ?_⟩
            · show us.length ≤ sizeLine
              rw [← r4.length, hl4]
              decide
            · have I6 := (I5.pins_of (pins' := []) (fun _ z => nomatch z))
              have st := run_on (D := { nx := fun _ H' => Q .non H', rt := Q }) (st := [.Assign [.Attribute (.Name "self" p9) x pa] (.Name x pb) pc]) I6 (pss_one (ps_ost (pv 0) (pv 1 rfl vx hdb.1 hdb.2))) ⟨y, rfl, .ref a, rfl, a, C, rfl, hoex, hno, .inl ⟨ha, q⟩⟩
              refine wpAt_of_wpAny (wpAny_mono st (fun fl s6 hs => ?_) fun _ _ z => z)
              cases fl with
              | next =>
                obtain ⟨σ', H', J, qq⟩ := hs
                exact ⟨.non, H', J.os, J.bare, J.base, J.hok, rfl, qq⟩
              | ret u =>
                obtain ⟨v, σ', H', J, rv, qq⟩ := hs
                exact ⟨v, H', J.os, J.bare, J.base, J.hok, rv, qq⟩
              | brk =>
                obtain ⟨_, _, _, qq⟩ := hs
                exact False.elim qq
              | cont =>
                obtain ⟨_, _, _, qq⟩ := hs
                exact False.elim qq
/-- a class with such an __init__, as the head leaves it -/
structure YMkL (P : Program) (K : PySem.W.Frag) (mg : Str → Option Value) (base : Heap) (w : World) (x : Str) (f : Str) (C : Addr) : Prop where
  at_ : mg x = some (.ref C)
  oex : OexC K C
  ini : ∃ (fI : Addr) (fd : FuncData), PySem.W.findIn K (.ref C) "__init__" = some (some (.ref fI)) ∧ PySem.W.typeIn K (.ref fI) = some (.type "function") ∧ FnOk P w K mg base CX0 1 fI fd ["self", f] (spInitL K C f) ∧ L2.Binds K fd ["self", f] []
  no : PySem.W.findIn K (.ref C) f = some none
end
/-- raise X(e) -/
def tBadYL (C : Addr) (f : Str) (W : WX) (te : TE) : TS := fun _ σ H => te σ H fun y H1 => RingV H1 y ∧ ∀ dx, H1 dx = none → W (.ref C) (some dx) σ (upd H1 dx (.xd [(f, y)]))
theorem ps_badYL {X : Cx} {W : WX} {x f : Str} {C : Addr} {e : Expr} {te : TE} {p pos pos2 : Pos} {j : Nat} (hc : X.calm = true) (M : YMkL X.prog X.K X.mg X.base X.w x f C) (tk : Takes X W) (hr : Room j X.A) (hj : 2 ≤ j) (hg : Gl X x) (he : PE X e te) (hdb : (x == ("__debug__" : Str)) = false := by decide)
    (hs : starEach [e] X.env = (false, eval e X.env) :: starEach [] X.env := by rfl) : PS X (.Raise (some (.Call (.Name x p) [e] [] pos)) none pos2) (tBadYL C f W te) := by
  obtain ⟨fI, fd, i1, i2, F, hb⟩ := M.ini
  have base := ps_raise (pos := pos2) hc tk (pmk_oex (p := p) (pos := pos) M.oex i1 i2 F (hr.mono hj) hb .nil pass0 hg M.at_ (pa_cons (pe_of he) pa_nil hs) hdb hs)
  refine ⟨fun pins s σ H D I h => base.run pins s σ H D I ?_⟩
  refine ⟨_, h, fun y H1 hq => ?_⟩
  obtain ⟨hy, q⟩ := hq
  refine ⟨by show 1 ≤ 1000; decide, fun a na => ⟨a, y, rfl, upd_same, M.no, hy.sm (same_upd na), fun dx hd hne => ⟨rfl, dx, [(f, y)], upd_same, ?_, ?_, ?_⟩⟩⟩
  · rw [upd_ne hne, upd_same]
  · rwa [upd_ne hne] at hd
  · rw [xd_heap na hne]
    exact q dx (by rwa [upd_ne hne] at hd)
end Lm
/-! check_system, check_spot, check_ringless. -/
namespace Lm
open PySem PySem.Spec PyProof.Rows L2
theorem short_side {o : Spot} (h : sideD (oD o) = true) : shortD (oD o) = true := by
  cases o with
  | none => rfl
  | some x =>
    show decide (x.length ≤ 1000) = true
    have h : rowNameD (.str x) = true := by
      have : sideD (.str x) = true := h
      unfold sideD at this
      simpa using this
    unfold rowNameD at h
    simp at h
    exact decide_eq_true (by omega)
theorem short_row {r : Wy.Rw Spot} (h : rowD (rwD r) = true) : shortD (rwD r) = true := by
  obtain ⟨⟨h1, h2⟩, _⟩ := row_z h
  show (shortD (oD r.1) && (shortD (oD r.2.1) && (shortD (.int r.2.2) && true))) = true
  rw [short_side h1, short_side h2]
  rfl
theorem short_allR : ∀ {R : Rws}, (R.map rwD).all rowD = true → shortAll (R.map rwD) = true
  | [], _ => rfl
  | r :: R, h => by
    rw [List.map_cons, List.all_cons, Bool.and_eq_true] at h
    show (shortD (rwD r) && shortAll (R.map rwD)) = true
    rw [short_row h.1, short_allR h.2]
    rfl
theorem Sy.sys {H : Hp} {v : V} {R : Rws} (h : Sy H v R) : ∃ D d, Da D H v d ∧ shortD d = true ∧ sysD d = true := by
  obtain ⟨D, n, d, h1, h2, h3, h4, h5⟩ := h
  refine ⟨D, d, h2, ?_, ?_⟩
  · have := short_allR h4
    cases d <;> cases h3 <;> exact this
  · unfold sysD
    rw [h3]
    show (decide ((R.map rwD).length ≤ 400) && (R.map rwD).all rowD) = true
    rw [h4, List.length_map, decide_eq_true (by omega)]
    rfl
/-- what is no system -/
def NoSy (H : Hp) (v : V) : Prop := ∃ D d, Da D H v d ∧ shortD d = true ∧ sysD d = false
theorem NoSy.sm {H H' : Hp} {v : V} (h : NoSy H v) (s : Same H H') : NoSy H' v := let ⟨D, d, a, r⟩ := h; ⟨D, d, a.sm s, r⟩
/-- what is neither None nor a name of the rows -/
def NoSp (H : Hp) (u : V) (R : Rws) : Prop := (∃ x : Str, u = .str x ∧ some x ∉ sidesR R) ∨ ∃ D d, Da D H u d ∧ isStr d = false ∧ u ≠ .non
theorem NoSp.sm {H H' : Hp} {u : V} {R : Rws} (h : NoSp H u R) (s : Same H H') : NoSp H' u R := h.imp id fun ⟨D, d, a, r⟩ => ⟨D, d, a.sm s, r⟩
theorem NmsOf.iff {R : Rws} {ys : List Str} (h : NmsOf R ys) (x : Str) : x ∈ ys ↔ some x ∈ sidesR R := by
  refine (h.2.2 x).trans ⟨fun z => ?_, fun z => List.mem_filterMap.mpr ⟨_, z, rfl⟩⟩
  obtain ⟨o, ho, e⟩ := List.mem_filterMap.mp z
  have e : o = some x := e
  rw [← e]
  exact ho
theorem spots_mem {R : Rws} {ys : List Str} (h : NmsOf R ys) {o : Spot} : o ∈ spots ys ↔ o ∈ none :: sidesR R := by
  cases o with
  | none => exact ⟨fun _ => List.mem_cons_self .., fun _ => List.mem_cons_self ..⟩
  | some x =>
    constructor
    · intro z
      rcases List.mem_cons.mp z with e | z
      · cases e
      · obtain ⟨y, hy, e⟩ := List.mem_map.mp z
        cases e
        exact List.mem_cons_of_mem _ ((h.iff x).mp hy)
    · intro z
      rcases List.mem_cons.mp z with e | z
      · cases e
      · exact List.mem_cons_of_mem _ (List.mem_map.mpr ⟨x, (h.iff x).mpr z, rfl⟩)
theorem inV_str (x : Str) : ∀ ys : List Str, inV (.str x) (ys.map V.str) = decide (x ∈ ys)
  | [] => by simp [inV]
  | y :: ys => by
    have ih := inV_str x ys
    unfold inV at ih ⊢
    rw [List.map_cons, List.any_cons, ih]
    have e1 : eqV (.str y) (.str x) = decide (y = x) := by
      show (y == x) = _
      by_cases h : y = x <;> simp [h]
    rw [e1]
    by_cases h : y = x
    · simp [h]
    · have : ¬ x = y := fun z => h z.symm
      simp [h, this]
theorem way_lt {R : Rws} {a b : Spot} {w : List Nat} {z : Int} (h : Wy.Way R a w b z) : ∀ k ∈ w, k < R.length := by
  induction h with
  | nil => intro k hk; cases hk
  | cons hr _ ih =>
    intro k hk
    rcases List.mem_cons.mp hk with rfl | hk
    · exact (List.getElem?_eq_some_iff.mp hr).1
    · exact ih k hk
section
variable {P : Program} {w : World} {K : PySem.W.Frag} {mg : Str → Option Value} {base : Heap}
abbrev sCkSy : Stmt := topS 26
theorem scCkSy : FnScope ["system"] ["system"] (defScope sCkSy) := ⟨rfl, rfl, rfl, by decide +kernel, rfl, by decide +kernel, by decide +kernel⟩
def spCkSy (BS : Addr) : Sp := fun vs H Q E => ∃ v : V, vs = [v] ∧ ((∃ R, Sy H v R ∧ ∀ H', Same H H' → Q .non H') ∨ (NoSy H v ∧ ∀ H', Same H H' → E (.ref BS) none H'))
theorem ok_ckSy {BS : Addr} {f : Addr} {fd : FuncData} (F : Fun K "check_system" "check_system" sCkSy f fd) (M1 : XMk K mg "BadSystem" BS) (GS : Has P w K mg base CX0 3 "is_system" ["thing"] (spS sysD)) : FnOk P w K mg base (L2.CX P w) 4 f fd ["system"] (spCkSy BS) := by
  refine F.okX scCkSy (fun vs H Q E h => ?_) (fun cdv A outer s H vs Q E hr h => ?_)
  · obtain ⟨v, rfl, _⟩ := h
    rfl
  · obtain ⟨v, rfl, q⟩ := h
    refine ⟨_, pss_one (ps_if (pt_not (pt_val (pe_h GS hr (by decide) (by rfl) (E := C8.E0) pass0 (pa_cons (pv 0) pa_nil)))) (pss_one (ps_bad rfl M1 (takes_of (E := E) rfl rfl rfl rfl) (by rfl))) pss_nil), ?_⟩
    rcases q with ⟨R, sy, q⟩ | ⟨⟨D, d, hd, sd, hb⟩, q⟩
    · obtain ⟨D, d, hd, sd, hb⟩ := sy.sys
      refine ⟨_, rfl, D, v, d, rfl, hd, sd, fun H' s => ⟨_, rfl, ?_⟩⟩
      rw [hb]
      exact iteF (q H' s)
    · refine ⟨_, rfl, D, v, d, rfl, hd, sd, fun H' s => ⟨_, rfl, ?_⟩⟩
      rw [hb]
      exact iteT (q H' s)
abbrev sCkSp : Stmt := topS 31
theorem scCkSp : FnScope ["system", "spot"] ["system", "spot"] (defScope sCkSp) := ⟨rfl, rfl, rfl, by decide +kernel, rfl, by decide +kernel, by decide +kernel⟩
def spCkSp (BN : Addr) : Sp := fun vs H Q E => ∃ (v u : V) (R : Rws), vs = [v, u] ∧ Sy H v R ∧ ((∃ o, u = oV o ∧ o ∈ none :: sidesR R ∧ ∀ H', Same H H' → Q .non H') ∨ (NoSp H u R ∧ ∀ H', Same H H' → E (.ref BN) none H'))
theorem ok_ckSp {BN : Addr} {f : Addr} {fd : FuncData} (F : Fun K "check_spot" "check_spot" sCkSp f fd) (N : Bl mg) (M1 : XMk K mg "BadName" BN) (GN : Has P w K mg base CX0 1 "names_of" ["rows"] spNm) : FnOk P w K mg base (L2.CX P w) 3 f fd ["system", "spot"] (spCkSp BN) := by
  refine F.okX scCkSp (fun vs H Q E h => ?_) (fun cdv A outer s H vs Q E hr h => ?_)
  · obtain ⟨v, u, R, rfl, _⟩ := h
    rfl
  · obtain ⟨v, u, R, rfl, sy, q⟩ := h
    refine ⟨_, pss_one (ps_if (pw_and (pt_cmpR op_notN1 (pv 1) pe_non (nomark _)) (pw_and1 (pw_or (pt_not (pt_val (pe_callB call_isi (by rfl) N.bisi (by decide +kernel) (pa_cons (pv 1) (pa_cons (pe_bltn (v := .ty "str") (by rfl) N.bstr (by decide +kernel) rfl) pa_nil)))))
        (pw_or1 (pt_cmpR (show OpR _ _ (rIn K true) from op_notIn_seq) (pv 1) (pe_h GN hr (by decide) (by rfl) (E := C8.E0) pass0 (pa_cons (pv 0) pa_nil)) (by rfl)))).pt)).pt
        (pss_one (ps_bad rfl M1 (takes_of (E := E) rfl rfl rfl rfl) (by rfl))) pss_nil), ?_⟩
    rcases q with ⟨o, rfl, ho, q⟩ | ⟨⟨x, rfl, hx⟩ | ⟨D, d, hd, hs, hn⟩, q⟩
    · cases o with
      | none => exact ⟨_, rfl, rfl, _, rfl, iteF (iteF (q H fun _ _ e => e))⟩
      | some x =>
        refine ⟨_, rfl, rfl, _, rfl, iteT ⟨_, rfl, .str x, .ty "str", _, _, true, rfl, .ty "str", .base (.str x), kit_ty (show kitB "str" "str" = some true by decide +kernel), true, rfl, iteF ?_⟩⟩
        refine ⟨_, rfl, _, rfl, v, R, rfl, sy, fun H' r ys hy nr hr' s => ⟨r, _, rfl, .inl (SqL.of hr'), rfl, by simp [flatV], ?_⟩⟩
        show ∃ k, V.bl (if true = true then !inV (.str x) (ys.map V.str) else inV (.str x) (ys.map V.str)) = V.bl k ∧ _
        rw [inV_str, decide_eq_true ((hy.iff x).mpr ((List.mem_cons.mp ho).resolve_left fun z => nomatch z))]
        exact ⟨_, rfl, iteF (q H' s)⟩
    · refine ⟨_, rfl, rfl, _, rfl, iteT ⟨_, rfl, .str x, .ty "str", _, _, true, rfl, .ty "str", .base (.str x), kit_ty (show kitB "str" "str" = some true by decide +kernel), true, rfl, iteF ?_⟩⟩
      refine ⟨_, rfl, _, rfl, v, R, rfl, sy, fun H' r ys hy nr hr' s => ⟨r, _, rfl, .inl (SqL.of hr'), rfl, by simp [flatV], ?_⟩⟩
      rw [inV_str, decide_eq_false (fun z => hx ((hy.iff x).mp z))]
      exact ⟨_, rfl, iteT (q H' s)⟩
    · refine ⟨_, rfl, rfl, _, rfl, ?_⟩
      rw [decide_eq_false hn]
      refine iteT ⟨_, rfl, u, .ty "str", _, _, isStr d, rfl, .ty "str", hd.ty, kit_str K d, isStr d, rfl, ?_⟩
      rw [hs]
      exact iteT (iteT (q H fun _ _ e => e))
abbrev sCkRl : Stmt := topS 30
theorem scCkRl : FnScope ["system", "found"] ["system"] (defScope sCkRl) := ⟨rfl, rfl, rfl, by decide +kernel, rfl, by decide +kernel, by decide +kernel⟩
/-- what is raised for a ring -/
def RgE (RG : Addr) (R : Rws) (H : Hp) (E : XK) : Prop := ∀ (H' : Hp) (q dx : Addr) (l : List Nat), Wy.FirstRing R l → H' q = some (.lst (l.map fun k => V.int ((k : Nat) : Int))) → l.length ≤ 100 → (∀ k ∈ l, k < R.length) → Same H H' → H' dx = none → E (.ref RG) (some dx) (upd H' dx (.xd [("ring", .ref q)]))
def spCkRl (BS RG : Addr) : Sp := fun vs H Q E => ∃ v : V, vs = [v] ∧ ((NoSy H v ∧ ∀ H', Same H H' → E (.ref BS) none H') ∨ ∃ R, Sy H v R ∧ (∀ H' p, Wy.Pot R p → Same H H' → Q .non H') ∧ RgE RG R H E)
theorem ok_ckRl {BS RG : Addr} {f : Addr} {fd : FuncData} (F : Fun K "check_ringless" "check_ringless" sCkRl f fd) (M2 : YMkL P K mg base w "Ringed" "ring" RG) (GC : Has P w K mg base (L2.CX P w) 4 "check_system" ["system"] (spCkSy BS)) (GF : Has P w K mg base CX0 4 "first_ring" ["rows"] spFR) :
    FnOk P w K mg base (L2.CX P w) 5 f fd ["system"] (spCkRl BS RG) := by
  refine F.okX scCkRl (fun vs H Q E h => ?_) (fun cdv A outer s H vs Q E hr h => ?_)
  · obtain ⟨v, rfl, _⟩ := h
    rfl
  · obtain ⟨v, rfl, q⟩ := h
    refine ⟨_, pss_cons (ps_expr (pe_h GC hr (by decide) (by rfl) passE (pa_cons (pv 0) pa_nil)))
      (pss_cons (ps_set (i := 1) scCkRl.nd rfl (.inl rfl) (pe_h GF hr (by decide) (by rfl) (E := C8.E0) pass0 (pa_cons (pv 0) pa_nil)))
      (pss_one (ps_if (pt_cmpR op_notN1 (pv 1) pe_non (nomark _)) (pss_one (ps_badYL rfl M2 (takes_of (E := E) rfl rfl rfl rfl) hr (by decide) (by rfl) (pv 1))) pss_nil))), ?_⟩
    rcases q with ⟨no, q⟩ | ⟨R, sy, q1, q2⟩
    · exact ⟨_, rfl, v, rfl, .inr ⟨no, q⟩⟩
    · refine ⟨_, rfl, v, rfl, .inl ⟨R, sy, fun H1 s1 => ⟨_, rfl, v, R, rfl, sy.sm s1, fun H2 y hy s2 _ => ?_⟩⟩⟩
      have s02 : Same H H2 := fun b o e => s2 _ _ (s1 _ _ e)
      rcases hy with ⟨rfl, p, hp⟩ | ⟨q, l, rfl, hq, hf, hl⟩
      · exact ⟨_, rfl, rfl, _, rfl, iteF (q1 H2 p hp s02)⟩
      · obtain ⟨a, z, hw, _⟩ := hf.1
        have hk := way_lt hw
        refine ⟨_, rfl, rfl, _, rfl, ?_⟩
        rw [decide_eq_false (fun z => by cases z)]
        refine iteT ⟨_, rfl, ⟨q, l, rfl, hq, hf.1.ne, hl, fun k h => ?_⟩, fun dx nd => q2 H2 q dx l hf hq hl hk s02 nd⟩
        have := hk k h
        have := sy.len
        omega
end
end Lm
/-! most, closed. -/
namespace Lm
open PySem PySem.Spec PyProof.Rows L2
/-- what most tells of a pair -/
def MoIs (R : Rws) (a b : Spot) (H : Hp) (r : V) : Prop := (r = .non ∧ ∀ w z, ¬ Wy.Way R a w b z) ∨
  ∃ (t q : Addr) (z : Int) (l : List Nat), r = .ref t ∧ H t = some (.tup [.int z, .ref q]) ∧ H q = some (.lst (natL l)) ∧ (∃ w, Wy.Way R a w b z) ∧ (∀ w z', Wy.Way R a w b z' → z ≤ z') ∧ Wy.IsFirst R a b z l ∧ ∀ ys, NmsOf R ys → l.length ≤ ys.length + 1
theorem MoIs.sm {R : Rws} {a b : Spot} {H H' : Hp} {r : V} (h : MoIs R a b H r) (s : Same H H') : MoIs R a b H' r := by
  rcases h with h | ⟨t, q, z, l, e, h1, h2, h3⟩
  · exact .inl h
  · exact .inr ⟨t, q, z, l, e, s _ _ h1, s _ _ h2, h3⟩
theorem least_uniq {R : Rws} {S : List Spot} {a : Spot} {s s' : Spot → Option Int} (h : Wy.Least R S a s) (k : Wy.Least R S a s') : s = s' := by
  have one : ∀ {s s' : Spot → Option Int}, Wy.Least R S a s → Wy.Least R S a s' → ∀ b z, s b = some z → s' b = some z := by
    intro s s' h k b z e
    obtain ⟨_, w, hw⟩ := h.real b z e
    obtain ⟨y, e2, l⟩ := k.low b w z hw
    obtain ⟨_, w2, hw2⟩ := k.real b y e2
    obtain ⟨x, e3, l2⟩ := h.low b w2 y hw2
    rw [e] at e3
    cases e3
    rw [e2, Int.le_antisymm l l2]
  funext b
  cases e : s b with
  | some z => exact (one h k b z e).symm
  | none =>
    cases e2 : s' b with
    | none => rfl
    | some z =>
      have := one k h b z e2
      rw [e] at this
      cases this
/-- each once -/
def ded : List Spot → List Spot
  | [] => []
  | x :: r => if x ∈ ded r then ded r else x :: ded r
theorem ded_mem {x : Spot} : ∀ {l : List Spot}, x ∈ ded l ↔ x ∈ l
  | [] => Iff.rfl
  | y :: r => by
    have ih := ded_mem (x := x) (l := r)
    show x ∈ (if y ∈ ded r then ded r else y :: ded r) ↔ _
    split
    · rename_i h
      rw [ih, List.mem_cons]
      exact ⟨.inr, fun z => z.elim (fun e => by rw [e]; exact ded_mem.mp h) id⟩
    · rw [List.mem_cons, List.mem_cons, ih]
theorem ded_nodup : ∀ l : List Spot, (ded l).Nodup
  | [] => .nil
  | y :: r => by
    show (if y ∈ ded r then ded r else y :: ded r).Nodup
    split
    · exact ded_nodup r
    · rename_i h
      exact List.nodup_cons.mpr ⟨h, ded_nodup r⟩
def spR (R : Rws) : List Spot := ded (none :: sidesR R)
theorem spR_mem {R : Rws} {o : Spot} : o ∈ spR R ↔ o ∈ none :: sidesR R := ded_mem
theorem spR_in {R : Rws} : ∀ a b c, (a, b, c) ∈ R → a ∈ spR R ∧ b ∈ spR R := fun a b c h =>
  ⟨spR_mem.mpr (List.mem_cons_of_mem _ (List.mem_flatMap.mpr ⟨_, h, List.mem_cons_self ..⟩)), spR_mem.mpr (List.mem_cons_of_mem _ (List.mem_flatMap.mpr ⟨_, h, List.mem_cons_of_mem _ (List.mem_cons_self ..)⟩))⟩
theorem spR_len {R : Rws} {ys : List Str} (h : NmsOf R ys) : (spR R).length ≤ ys.length + 1 := by
  have := Wy.pig (ded_nodup _) fun x hx => (spots_mem h).mpr (spR_mem.mp hx)
  have e : (spots ys).length = ys.length + 1 := by show (none :: ys.map some).length = _; rw [List.length_cons, List.length_map]
  rw [e] at this
  exact this
theorem spR_61 (R : Rws) : (spR R).length ≤ 2 * R.length + 1 := by
  have := Wy.pig (ded_nodup (none :: sidesR R)) fun x hx => ded_mem.mp hx
  rw [List.length_cons, sides_len] at this
  exact this
/-! the pairs, as they are put -/
def stepK (cl : Spot → Spot → Option Int) (a : Spot) (acc : List (PK × V)) (b : Spot) : List (PK × V) := if a = b then acc else match cl a b with | some z => putK acc (a, b) (.int z) | none => acc
def rowK (cl : Spot → Spot → Option Int) (S : List Spot) (acc : List (PK × V)) (a : Spot) : List (PK × V) := S.foldl (stepK cl a) acc
def closedK (S : List Spot) (cl : Spot → Spot → Option Int) : List (PK × V) := S.foldl (rowK cl S) []
theorem putK_len {κ : Type} [DecidableEq κ] (ks : List (κ × V)) (k : κ) (v : V) : (putK ks k v).length ≤ ks.length + 1 := by
  have := congrArg List.length (putK_keys ks k v)
  rw [List.length_map] at this
  rw [this]
  split
  · rw [List.length_map]
    omega
  · rw [List.length_append, List.length_map]
    exact Nat.le_refl _
theorem stepK_len (cl : Spot → Spot → Option Int) (a b : Spot) (acc : List (PK × V)) : (stepK cl a acc b).length ≤ acc.length + 1 := by
  unfold stepK
  split
  · omega
  · split
    · exact putK_len _ _ _
    · omega
theorem foldl_one {α β : Type} (f : β → α → β) (b : β) {l : List α} {i : Nat} {x : α} (h : l[i]? = some x) : (l.take (i + 1)).foldl f b = f ((l.take i).foldl f b) x := by
  rw [List.take_add_one, h, List.foldl_append]
  rfl
section
variable {P : Program} {w : World} {K : PySem.W.Frag} {mg : Str → Option Value} {base : Heap}
abbrev sMo : Stmt := topS 32
def nMo : List Str := ["system", "a", "b", "sums", "ways"]
theorem scMo : FnScope nMo ["system", "a", "b"] (defScope sMo) := ⟨rfl, rfl, rfl, by decide +kernel, rfl, by decide +kernel, by decide +kernel⟩
def HasPot (R : Rws) : Prop := ∃ p, Wy.Pot R p
def HasRing (R : Rws) : Prop := ∃ w, Wy.Ring R w
def spMo (BS BN RG : Addr) : Sp := fun vs H Q E => ∃ v u1 u2 : V, vs = [v, u1, u2] ∧ ((NoSy H v ∧ ∀ H', Same H H' → E (.ref BS) none H') ∨ ∃ R, Sy H v R ∧
  ((NoSp H u1 R ∧ ∀ H', Same H H' → E (.ref BN) none H') ∨ ∃ a, u1 = oV a ∧ a ∈ none :: sidesR R ∧
    ((NoSp H u2 R ∧ ∀ H', Same H H' → E (.ref BN) none H') ∨ ∃ b, u2 = oV b ∧ b ∈ none :: sidesR R ∧ ((HasRing R ∧ RgE RG R H E) ∨ (HasPot R ∧ ∀ H' r, Same H H' → MoIs R a b H' r → Q r H')))))
theorem RgE.sm {RG : Addr} {R : Rws} {H H' : Hp} {E : XK} (h : RgE RG R H E) (s : Same H H') : RgE RG R H' E := fun H2 q dx l h1 h2 h3 h4 s2 nd => h H2 q dx l h1 h2 h3 h4 (fun b o e => s2 _ _ (s _ _ e)) nd
theorem ok_mo {BS BN RG : Addr} {f : Addr} {fd : FuncData} (F : Fun K "most" "most" sMo f fd) (GC : Has P w K mg base (L2.CX P w) 4 "check_system" ["system"] (spCkSy BS)) (GP : Has P w K mg base (L2.CX P w) 3 "check_spot" ["system", "spot"] (spCkSp BN))
    (GR : Has P w K mg base (L2.CX P w) 5 "check_ringless" ["system"] (spCkRl BS RG)) (GW : Has P w K mg base CX0 2 "least_ways" ["rows", "start"] (spLW P w)) (GS : True) : FnOk P w K mg base (L2.CX P w) 6 f fd ["system", "a", "b"] (spMo BS BN RG) := by
  refine F.okX scMo (fun vs H Q E h => ?_) (fun cdv A outer s H vs Q E hr h => ?_)
  · obtain ⟨v, u1, u2, rfl, _⟩ := h
    rfl
  · obtain ⟨v, u1, u2, rfl, q⟩ := h
    refine ⟨_, pss_cons (ps_expr (pe_h GC hr (by decide) (by rfl) passE (pa_cons (pv 0) pa_nil)))
      (pss_cons (ps_expr (pe_h GP hr (by decide) (by rfl) passE (pa_cons (pv 0) (pa_cons (pv 1) pa_nil))))
      (pss_cons (ps_expr (pe_h GP hr (by decide) (by rfl) passE (pa_cons (pv 0) (pa_cons (pv 2) pa_nil))))
      (pss_cons (ps_expr (pe_h GR hr (by decide) (by rfl) passE (pa_cons (pv 0) pa_nil)))
      (pss_cons (ps_if (pt_cmpR op_eq (pv 1) (pv 2) (nomark _)) (pss_one (ps_ret (pe_tup (pa_cons pe_int (pa_cons (pe_lst pa_nil) pa_nil))))) pss_nil)
      (pss_cons (ps_asg (pe_h GW hr (by decide) (by rfl) (E := C8.E0) pass0 (pa_cons (pv 0) (pa_cons (pv 1) pa_nil))) (pg_tup rfl (pgs_cons (pg_name (i := 3) scMo.nd rfl (.inl rfl)) (pgs_cons (pg_name (i := 4) scMo.nd rfl (.inl rfl)) pgs_nil))))
      (pss_cons (ps_if (pt_cmp (pc_dnotinSP P w (pv 2) (pv 3))) (pss_one (ps_ret pe_non)) pss_nil)
      (pss_one (ps_ret (pe_tup (pa_cons (pe_dgetSP P w (pv 3) (pv 2) (fun _ _ => rfl)) (pa_cons (pe_dgetSP P w (pv 4) (pv 2) (fun _ _ => rfl)) pa_nil))))))))))), ?_⟩
    rcases q with ⟨no, q⟩ | ⟨R, sy, q⟩
    · exact ⟨_, rfl, v, rfl, .inr ⟨no, q⟩⟩
    refine ⟨_, rfl, v, rfl, .inl ⟨R, sy, fun H1 s1 => ?_⟩⟩
    rcases q with ⟨no, q⟩ | ⟨a, rfl, ha, q⟩
    · exact ⟨_, rfl, _, rfl, v, u1, R, rfl, sy.sm s1, .inr ⟨no.sm s1, fun H' s' => q H' fun b o e => s' _ _ (s1 _ _ e)⟩⟩
    refine ⟨_, rfl, _, rfl, v, _, R, rfl, sy.sm s1, .inl ⟨a, rfl, ha, fun H2 s2 => ?_⟩⟩
    have s02 : Same H H2 := fun b o e => s2 _ _ (s1 _ _ e)
    rcases q with ⟨no, q⟩ | ⟨b, rfl, hb, q⟩
    · exact ⟨_, rfl, _, rfl, v, u2, R, rfl, sy.sm s02, .inr ⟨no.sm s02, fun H' s' => q H' fun b o e => s' _ _ (s02 _ _ e)⟩⟩
    refine ⟨_, rfl, _, rfl, v, _, R, rfl, sy.sm s02, .inl ⟨b, rfl, hb, fun H3 s3 => ?_⟩⟩
    have s03 : Same H H3 := fun b o e => s3 _ _ (s02 _ _ e)
    refine ⟨_, rfl, v, rfl, .inr ⟨R, sy.sm s03, fun H4 p hp s4 => ?_, ?_⟩⟩
    · have s04 : Same H H4 := fun b o e => s4 _ _ (s03 _ _ e)
      rcases q with ⟨⟨w0, hw⟩, _⟩ | ⟨_, q⟩
      · exact absurd hw (hp.noRing w0)
      refine ⟨_, rfl, _, rfl, oV_scal _ _, _, rfl, ?_⟩
      rw [oV_eq]
      by_cases e : a = b
      · subst e
        rw [decide_eq_true rfl]
        refine iteT ⟨Nat.zero_le _, fun q1 nq => ?_⟩
        have s5 := same_upd (o := .lst []) nq
        refine ⟨by show 2 ≤ sizeLine; decide, fun t nt => q _ _ (fun b o e => same_upd nt _ _ (s5 _ _ (s04 _ _ e))) (.inr ⟨t, q1, 0, [], rfl, upd_same, same_upd nt _ _ upd_same, ⟨[], .nil _⟩, fun w' z' hz => ?_, ⟨⟨0, .nil _, Int.le_refl _⟩, fun v' z' _ _ h => ?_⟩, fun ys _ => Nat.zero_le _⟩)⟩
        · have := hp.le hz
          omega
        · rcases h with h | h
          · exact absurd h (Nat.not_lt_zero _)
          · have hl := h.1
            have : v' = [] := List.length_eq_zero_iff.mp hl
            rw [this] at h
            exact Wy.lx_irr _ h.2
      · rw [decide_eq_false e]
        have sy4 := sy.sm s04
        have l61 := spR_61 R
        have l30 := sy.len
        refine iteF ⟨_, rfl, _, rfl, v, R, a, spR R, p, rfl, sy4, spR_mem.mpr ha, by omega, spR_in, hp, fun H5 t sq wq s' ks wy le ms wa ww wl ht s5 => ?_⟩
        obtain ⟨sks, hs1, _, _, hs4⟩ := ms
        refine ⟨t, _, rfl, SqT.of ht, rfl, _, _, rfl, _, _, rfl, rfl, ?_⟩
        refine ⟨_, rfl, _, rfl, sq, sks, b, rfl, .inl hs1, rfl, _, rfl, ?_⟩
        rw [show valV sks b = intV (s' b) from hs4 b]
        cases hz : s' b with
        | none =>
          refine iteT (q H5 .non (fun b o e => s5 _ _ (s04 _ _ e)) (.inl ⟨rfl, fun w' z hw => ?_⟩))
          obtain ⟨y, e2, _⟩ := le.low b w' z hw
          rw [hz] at e2
          cases e2
        | some z =>
          obtain ⟨_, w', hw⟩ := le.real b z hz
          obtain ⟨w2, hw2⟩ := Wy.LW.has le hz
          obtain ⟨l, hl, _⟩ := Wy.FW.has le hw2
          have hl2 := (ww b l).mpr hl
          obtain ⟨lq, e1, e2⟩ := wa.2.2.2.2 b l hl2
          refine iteF ⟨_, rfl, _, rfl, sq, sks, b, _, rfl, .inl hs1, rfl, by rw [show valV sks b = intV (s' b) from hs4 b, hz]; rfl, _, rfl, _, rfl, wq, ks, b, _, rfl, .inl wa.1, rfl, e1, by show 2 ≤ sizeLine; decide, fun r nr => q _ _ (fun b o e => same_upd nr _ _ (s5 _ _ (s04 _ _ e))) (.inr ⟨r, lq, z, l, rfl, upd_same, same_upd nr _ _ e2, ⟨w', hw⟩, fun w3 z3 h3 => ?_, hl.isFirst le hz, fun ys2 h2 => ?_⟩)⟩
          · obtain ⟨y, e3, l3⟩ := le.low b w3 z3 h3
            rw [hz] at e3
            cases e3
            exact l3
          · have := wl b l hl2
            have := spR_len h2
            omega
    · rcases q with ⟨_, q⟩ | ⟨⟨p, hp⟩, _⟩
      · exact q.sm s03
      · intro H' q' dx l hf
        obtain ⟨w0, hw0⟩ : ∃ w0, Wy.Ring R w0 := ⟨l, hf.1⟩
        exact absurd hw0 (hp.noRing w0)
abbrev sClo : Stmt := topS 33
def nClo : List Str := ["system", "spots", "found", "a", "sums", "b"]
theorem scClo : FnScope nClo ["system"] (defScope sClo) := ⟨rfl, rfl, rfl, by decide +kernel, rfl, by decide +kernel, by decide +kernel⟩
def spClo (P : Program) (w : World) (BS RG : Addr) : Sp := fun vs H Q E => ∃ v : V, vs = [v] ∧ ((NoSy H v ∧ ∀ H', Same H H' → E (.ref BS) none H') ∨ ∃ R, Sy H v R ∧ ((HasRing R ∧ RgE RG R H E) ∨
  ∃ cl : Spot → Spot → Option Int, HasPot R ∧ (∀ ys, NmsOf R ys → ∀ a ∈ spots ys, Wy.Least R (spots ys) a (cl a)) ∧ ∀ (H' : Hp) (q : Addr) (ys : List Str), NmsOf R ys → PDat P w H' q (closedK (spots ys) cl) → Same H H' → H q = none → Q (.ref q) H'))
theorem ok_clo {BS RG : Addr} {f : Addr} {fd : FuncData} (F : Fun K "closed" "closed" sClo f fd) (GR : Has P w K mg base (L2.CX P w) 5 "check_ringless" ["system"] (spCkRl BS RG)) (GS : Has P w K mg base CX0 2 "spots_of" ["rows"] spSpots)
    (GL : Has P w K mg base CX0 1 "least_sums" ["rows", "start"] (spLS P w)) : FnOk P w K mg base (L2.CX P w) 6 f fd ["system"] (spClo P w BS RG) := by
  refine F.okX scClo (fun vs H Q E h => ?_) (fun cdv A outer s H vs Q E hr h => ?_)
  · obtain ⟨v, rfl, _⟩ := h
    rfl
  · obtain ⟨v, rfl, q⟩ := h
    have hu := hr.units
    refine ⟨_, pss_cons (ps_expr (pe_h GR hr (by decide) (by rfl) passE (pa_cons (pv 0) pa_nil)))
      (pss_cons (ps_set (i := 1) scClo.nd rfl (.inl rfl) (pe_h GS hr (by decide) (by rfl) (E := C8.E0) pass0 (pa_cons (pv 0) pa_nil)))
      (pss_cons (ps_set (i := 2) scClo.nd rfl (.inl rfl) (pe_dnewXP P w))
      (pss_cons (ps_for (passes_of rfl) rfl (pi_listK K (pv 1)) (pg_name (i := 3) scClo.nd rfl (.inl rfl))
        (pss_cons (ps_set (i := 4) scClo.nd rfl (.inl rfl) (pe_h GL hr (by decide) (by rfl) (E := C8.E0) pass0 (pa_cons (pv 0) (pa_cons (pv 3) pa_nil))))
        (pss_one (ps_for (passes_of rfl) rfl (pi_listK K (pv 1)) (pg_name (i := 5) scClo.nd rfl (.inl rfl))
          (pss_one (ps_if (pw_and (pt_cmpR op_ne (pv 3) (pv 5) (nomark _)) (pw_and1 (pt_cmp (pc_dinSP P w (pv 5) (pv 4))))).pt
            (pss_one (ps_dputXP P w hu (pv 2) (pe_tup (pa_cons (pv 3) (pa_cons (pv 5) pa_nil))) (pe_dgetSP P w (pv 4) (pv 5) (fun _ _ => rfl)) rfl)) pss_nil))))))
      (pss_one (ps_ret (pv 2)))))), ?_⟩
    rcases q with ⟨no, q⟩ | ⟨R, sy, q⟩
    · exact ⟨_, rfl, v, rfl, .inl ⟨no, q⟩⟩
    rcases q with ⟨⟨w0, hw⟩, q⟩ | ⟨cl, ⟨p, hp⟩, le, q⟩
    · exact ⟨_, rfl, v, rfl, .inr ⟨R, sy, fun H' p hp _ => absurd hw (hp.noRing w0), q⟩⟩
    refine ⟨_, rfl, v, rfl, .inr ⟨R, sy, fun H1 p1 hp1 s1 => ?_, fun H' q' dx l hf => absurd hf.1 (hp.noRing l)⟩⟩
    refine ⟨_, rfl, v, R, rfl, sy.sm s1, fun H2 sp ys hn nsp hsp s2 => fun d od nd pd0 _ => ?_⟩
    have s02 : Same H H2 := fun b o e => s2 _ _ (s1 _ _ e)
    have nd0 := none_of s02 nd
    have s3 : Same H (upd H2 d od) := same_put s02 nd0
    have hsp3 := same_upd (o := od) nd _ _ hsp
    have spd : sp ≠ d := ne_of_none hsp nd
    generalize upd H2 d od = H3 at pd0 s3 hsp3 ⊢
    have le := le ys hn
    have ndS := spots_nodup hn.2.1
    have lys := hn.len sy.len
    have inS := hn.mem
    generalize hS : spots ys = S at hsp3 le ndS inS
    have lS : S.length ≤ 61 := by
      rw [← hS]
      show (none :: ys.map some).length ≤ 61
      rw [List.length_cons, List.length_map]
      omega
    refine ⟨_, rfl, sp, rfl, ⟨_, SqL.of hsp3⟩, for_list (K := K) (a := sp) (xs := S.map oV) (fun i σ H' => ∃ (x3 x4 x5 : Option V), σ = [some v, some (.ref sp), some (.ref d), x3, x4, x5] ∧ (∀ b o, b ≠ d → H3 b = some o → H' b = some o) ∧ PDat P w H' d ((S.take i).foldl (rowK cl S) []) ∧ ((S.take i).foldl (rowK cl S) []).length ≤ i * 61)
      ⟨none, none, none, rfl, fun b o _ e => e, pd0, Nat.zero_le _⟩ (fun i σ H' _ ⟨_, _, _, _, sb, _⟩ => SqL.of (sb _ _ spd hsp3)) ?_ ?_⟩
    · rintro i xv σ H4 hi ⟨x3, x4, x5, rfl, sb, pd, lp⟩
      obtain ⟨a, ha, rfl⟩ : ∃ a, S[i]? = some a ∧ xv = oV a := by
        rw [List.getElem?_map] at hi
        cases e : S[i]? with
        | none => rw [e] at hi; cases hi
        | some x => rw [e] at hi; exact ⟨x, rfl, (Option.some.inj hi).symm⟩
      have li : i < S.length := (List.getElem?_eq_some_iff.mp ha).1
      have ma : a ∈ S := List.mem_of_getElem? ha
      have s4 : Same H H4 := fun b o e => sb _ _ (fun z => by rw [z, nd0] at e; cases e) (s3 _ _ e)
      refine ⟨_, rfl, _, rfl, v, R, a, S, p, rfl, sy.sm s4, ma, by omega, inS, hp, fun H5 sq s' ls ms s5 nsq => ?_⟩
      have es := least_uniq ls (le a ma)
      have sb5 : ∀ b o, b ≠ d → H3 b = some o → H5 b = some o := fun b o n e => s5 _ _ (sb b o n e)
      have pd5 := pd.sm s5
      have sqd : sq ≠ d := by
        rintro rfl
        obtain ⟨kvs, h1, _⟩ := pd
        rw [nsq] at h1
        cases h1
      obtain ⟨sks, hs1, _, _, hs4⟩ := ms
      have hs4 : ∀ x, valV sks x = intV (s' x) := hs4
      generalize hacc : (S.take i).foldl (rowK cl S) [] = acc at pd5 lp
      refine ⟨_, rfl, sp, rfl, ⟨_, SqL.of (sb5 _ _ spd hsp3)⟩, for_list (K := K) (a := sp) (xs := S.map oV) (fun j σ H' => ∃ (x5 : Option V), σ = [some v, some (.ref sp), some (.ref d), some (oV a), some (.ref sq), x5] ∧ (∀ b o, b ≠ d → H5 b = some o → H' b = some o) ∧ PDat P w H' d ((S.take j).foldl (stepK cl a) acc) ∧ ((S.take j).foldl (stepK cl a) acc).length ≤ acc.length + j)
        ⟨x5, rfl, fun b o _ e => e, pd5, Nat.le_refl _⟩ (fun j σ H' _ ⟨_, _, sb6, _⟩ => SqL.of (sb6 _ _ spd (sb5 _ _ spd hsp3))) ?_ ?_⟩
      · rintro j xv σ H6 hj ⟨x5, rfl, sb6, pd6, lp6⟩
        obtain ⟨b, hb, rfl⟩ : ∃ b, S[j]? = some b ∧ xv = oV b := by
          rw [List.getElem?_map] at hj
          cases e : S[j]? with
          | none => rw [e] at hj; cases hj
          | some x => rw [e] at hj; exact ⟨x, rfl, (Option.some.inj hj).symm⟩
        have lj : j < S.length := (List.getElem?_eq_some_iff.mp hb).1
        have stp := foldl_one (stepK cl a) acc hb
        generalize (S.take j).foldl (stepK cl a) acc = ac2 at stp pd6 lp6
        have hs6 := sb6 _ _ sqd hs1
        have lnew : ((S.take (j + 1)).foldl (stepK cl a) acc).length ≤ acc.length + (j + 1) := by
          rw [stp]
          have := stepK_len cl a b ac2
          omega
        refine ⟨_, rfl, _, rfl, oV_scal _ _, _, rfl, ?_⟩
        rw [oV_eq]
        by_cases e : a = b
        · rw [decide_eq_true e]
          have st2 : (S.take (j + 1)).foldl (stepK cl a) acc = ac2 := by rw [stp]; exact if_pos e
          exact iteF ⟨_, rfl, sb6, by rw [st2]; exact pd6, lnew⟩
        rw [decide_eq_false e]
        refine iteT ⟨_, rfl, _, rfl, sq, sks, b, rfl, .inl hs6, rfl, _, rfl, ?_⟩
        rw [hs4 b, es]
        cases hz : cl a b with
        | none =>
          have st2 : (S.take (j + 1)).foldl (stepK cl a) acc = ac2 := by
            rw [stp]
            unfold stepK
            rw [if_neg e, hz]
          exact iteF ⟨_, rfl, sb6, by rw [st2]; exact pd6, lnew⟩
        | some z =>
          have st2 : (S.take (j + 1)).foldl (stepK cl a) acc = putK ac2 (a, b) (.int z) := by
            rw [stp]
            unfold stepK
            rw [if_neg e, hz]
          refine iteT ⟨_, rfl, _, rfl, sq, sks, b, .int z, rfl, .inl hs6, rfl, by rw [hs4 b, es, hz]; rfl, _, rfl, _, rfl, _, rfl, by show 2 ≤ sizeLine; decide, fun t nt => ?_⟩
          have s7 := same_upd (o := .tup [oV a, oV b]) nt
          refine ⟨d, ac2, (a, b), t, rfl, pd6.sm s7, rfl, upd_same, ?_, fun o pd7 _ => ⟨_, rfl, fun c x n h => ?_, by rw [st2]; exact pd7, lnew⟩⟩
          · have : i * 61 ≤ 61 * 61 := Nat.mul_le_mul_right _ (by omega)
            have : 10000 ≤ sizeLine := by unfold sizeLine; decide
            omega
          · rw [upd_ne n]
            exact s7 _ _ (sb6 _ _ n h)
      · rintro σ H6 ⟨x5, rfl, sb6, pd6, lp6⟩
        rw [show (S.map oV).length = S.length from List.length_map .., List.take_length] at pd6 lp6
        have stp := foldl_one (rowK cl S) [] ha
        rw [hacc] at stp
        refine ⟨_, _, _, rfl, fun b o n e => sb6 _ _ n (sb5 _ _ n e), by rw [stp]; exact pd6, ?_⟩
        rw [stp]
        have lp6 : (rowK cl S acc a).length ≤ acc.length + S.length := lp6
        omega
    · rintro σ H4 ⟨x3, x4, x5, rfl, sb, pd, _⟩
      rw [show (S.map oV).length = S.length from List.length_map .., List.take_length] at pd
      refine ⟨_, rfl, q H4 d ys hn ?_ (fun b o e => sb _ _ (fun z => by rw [z, nd0] at e; cases e) (s3 _ _ e)) nd0⟩
      rw [hS]
      exact pd
end
end Lm
/-! has_bool of a text, has_just_keys, is_kept, is_point_of, is_point: of a point that holds. -/
namespace Lm
open PySem PySem.Spec PyProof.Rows L2
theorem upd_eqself {H : Hp} {a : Addr} {o : HO} (h : H a = some o) : upd H a o = H := by
  funext b
  unfold upd
  by_cases e : b = a
  · subst e; rw [if_pos rfl, h]
  · rw [if_neg e]
/-- a dict of numbers whose keys are the texts ys -/
def PtAt (H : Hp) (d : Addr) (ys : List Str) (p : Str → Int) : Prop := ∃ kvs : List (Key × V), H d = some (.dK kvs) ∧ kvs.map (·.1) = ys.map Sum.inr ∧ ∀ x ∈ ys, valV kvs (.inr x) = some (.int (p x))
theorem PtAt.sm {H H' : Hp} {d : Addr} {ys : List Str} {p : Str → Int} (h : PtAt H d ys p) (s : Same H H') : PtAt H' d ys p := let ⟨k, e, r⟩ := h; ⟨k, s _ _ e, r⟩
/-- what a point tells of a side -/
def ptV (p : Str → Int) : Spot → Int
  | none => 0
  | some x => p x
section
variable {P : Program} {w : World} {K : PySem.W.Frag} {mg : Str → Option Value} {base : Heap}
abbrev sHasB : Stmt := topS 9
theorem scHasB : FnScope ["thing", "item"] ["thing"] (defScope sHasB) := ⟨rfl, rfl, rfl, by decide +kernel, rfl, by decide +kernel, by decide +kernel⟩
def spNo : Sp := fun _ _ _ _ => False
def spHasB : Sp := fun vs H Q _ => ∃ x : Str, vs = [.str x] ∧ Q (.bl false) H
theorem ok_hasB_no {f : Addr} {fd : FuncData} (F : Fun K "has_bool" "has_bool" sHasB f fd) : FnOk P w K mg base CX0 1 f fd ["thing"] spNo :=
  F.ok scHasB (fun vs H Q E h => h.elim) (fun cdv A outer s H vs Q E hr h => h.elim)
theorem ok_hasB {f : Addr} {fd : FuncData} (F : Fun K "has_bool" "has_bool" sHasB f fd) (N : Bl mg) (GH : Has P w K mg base CX0 1 "has_bool" ["thing"] spNo) : FnOk P w K mg base CX0 3 f fd ["thing"] spHasB := by
  refine F.ok scHasB (fun vs H Q E h => ?_) (fun cdv A outer s H vs Q E hr h => ?_)
  · obtain ⟨x, rfl, _⟩ := h
    rfl
  · obtain ⟨x, rfl, q⟩ := h
    refine ⟨_, pss_cons (ps_if (pt_val (pe_callB call_isi (by rfl) N.bisi (by decide +kernel) (pa_cons (pv 0) (pa_cons (pe_bltn (v := .ty "tuple") (by rfl) N.btup (by decide +kernel) rfl) pa_nil))))
        (pss_one (ps_ret (pe_callB (cr_any rfl) (by rfl) N.bany (by decide +kernel) (pa_cons (pe_lc (own := [("item", 1)]) (g := gName 1) (tt := tYes) rfl scHasB.nd (pi_tupK K (pv 0)) (blkOk_by (own := [("item", 1)]) (N := ["thing", "item"]) (sc := defScope sHasB) (by decide +kernel)) (fun _ _ _ _ _ => pg_name (i := 1) scHasB.nd rfl (Or.inl rfl))
          (fun _ _ _ _ _ => pts_nil) (fun _ _ _ _ _ => pe_h GH (hr.mono (by decide : 1 ≤ 2)) (by decide) (by rfl) pass0 (pa_cons (pv 1) pa_nil))) pa_nil)))) pss_nil)
      (pss_one (ps_ret (pe_callB call_isi (by rfl) N.bisi (by decide +kernel) (pa_cons (pv 0) (pa_cons (pe_bltn (v := .ty "bool") (by rfl) N.bbool (by decide +kernel) rfl) pa_nil))))), ?_⟩
    exact ⟨_, rfl, .str x, .ty "tuple", _, _, false, rfl, .ty "tuple", .base (.str x), kit_ty (show kitB "str" "tuple" = some false by decide +kernel), false, rfl, iteF ⟨_, rfl, .str x, .ty "bool", _, _, false, rfl, .ty "bool", .base (.str x), kit_ty (show kitB "str" "bool" = some false by decide +kernel), q⟩⟩
abbrev sJust : Stmt := topS 10
def nJust : List Str := ["thing", "keys", "key"]
theorem scJust : FnScope nJust ["thing", "keys"] (defScope sJust) := ⟨rfl, rfl, rfl, by decide +kernel, rfl, by decide +kernel, by decide +kernel⟩
def spJust : Sp := fun vs H Q _ => ∃ (d a : Addr) (ys : List Str) (p : Str → Int), vs = [.ref d, .ref a] ∧ PtAt H d ys p ∧ H a = some (.lst (ys.map V.str)) ∧ ys.length ≤ 1000 ∧ Q (.bl true) H
theorem ok_just {f : Addr} {fd : FuncData} (F : Fun K "has_just_keys" "has_just_keys" sJust f fd) (N : Bl mg) (GH : Has P w K mg base CX0 3 "has_bool" ["thing"] spHasB) (hdict : mg "dict" = none) : FnOk P w K mg base CX0 4 f fd ["thing", "keys"] spJust := by
  refine F.ok scJust (fun vs H Q E h => ?_) (fun cdv A outer s H vs Q E hr h => ?_)
  · obtain ⟨d, a, ys, p, rfl, _⟩ := h
    rfl
  · obtain ⟨d, a, l, p, rfl, ⟨kvs, hd, hk, hv⟩, ha, hl, q⟩ := h
    have hu := hu_of hr
    refine ⟨_, pss_cons (ps_if (pw_or (pt_not (pt_val (pe_callB call_isi (by rfl) N.bisi (by decide +kernel) (pa_cons (pv 0) (pa_cons (pe_bltn (v := .ty "dict") (by rfl) hdict (by decide +kernel) rfl) pa_nil)))))
          (pw_or1 (pt_cmpR op_ne (pe_callB call_lenD (by rfl) N.blen PySem.boot_len (pa_cons (pv 0) pa_nil)) (pe_callB call_len_seq (by rfl) N.blen PySem.boot_len (pa_cons (pv 1) pa_nil)) (nomark _)))).pt (pss_one (ps_ret pe_bl)) pss_nil)
      (pss_cons (ps_lock (ps_for PassesOwn.never rfl (pi_keys (pv 0)) (pg_name (i := 2) scJust.nd rfl (.inl rfl)) (pss_one (ps_if (pt_val (pe_h GH hr (by decide) (by rfl) pass0 (pa_cons (pv 2) pa_nil))) (pss_one (ps_ret pe_bl)) pss_nil))))
      (pss_cons (ps_for PassesOwn.never rfl (pi_listK K (pv 1)) (pg_name (i := 2) scJust.nd rfl (.inl rfl)) (pss_one (ps_if (pt_cmp (pc_dnotin hu (pv 2) (pv 0)) (by rfl)) (pss_one (ps_ret pe_bl)) pss_nil)))
      (pss_one (ps_ret pe_bl)))), ?_⟩
    have len : kvs.length = l.length := by
      have := congrArg List.length hk
      simpa using this
    refine ⟨_, rfl, .ref d, .ty "dict", _, _, true, rfl, .ty "dict", .base (.dK hd), kit_ty (show kitB "dict" "dict" = some true by decide +kernel), true, rfl, ?_⟩
    refine iteF ⟨_, rfl, d, kvs, rfl, hd, _, rfl, a, _, rfl, .inl (SqL.of ha), rfl, ?_⟩
    have e1 : (V.int (kvs.length : Int)) = V.int ((l.map V.str).length : Int) := by rw [List.length_map, len]
    refine ⟨_, rfl, ?_⟩
    rw [decide_eq_true e1]
    refine iteF ?_
    refine ⟨d, _, hd, trivial, fun od => ?_⟩
    have ups : upd (upd H d (.frz od (.dK kvs))) d (.dK kvs) = H := by rw [upd_upd]; exact upd_eqself hd
    refine ⟨_, rfl, d, od, rfl, .inl ⟨kvs, upd_same, for_it walk_keys (fun i σ H' => H' = upd H d (.frz od (.dK kvs)) ∧ ∃ x1, σ = [some (.ref d), some (.ref a), x1]) ⟨rfl, _, rfl⟩ (fun i σ H' _ h => by rw [h.1]; exact upd_same) ?_ ?_⟩⟩
    · rintro i x σ H1 H2 hi ⟨rfl, x1, rfl⟩ ⟨rfl, k, v, hkv, rfl⟩
      have h1 : (kvs.map (·.1))[i]? = some k := by rw [List.getElem?_map, hkv]; rfl
      rw [hk, List.getElem?_map] at h1
      obtain ⟨z, hz, rfl⟩ : ∃ z, l[i]? = some z ∧ Sum.inr z = k := by
        cases hzz : l[i]? with
        | none => rw [hzz] at h1; cases h1
        | some z => rw [hzz] at h1; exact ⟨z, rfl, by injection h1⟩
      exact ⟨_, rfl, z, rfl, _, rfl, iteF ⟨rfl, _, rfl⟩⟩
    · rintro σ H' ⟨rfl, x1, rfl⟩
      refine ⟨upd_same, ?_⟩
      rw [ups]
      refine ⟨_, rfl, a, rfl, ⟨_, SqL.of ha⟩, for_list (K := K) (xs := l.map V.str) (fun i σ H' => H' = H ∧ ∃ x1, σ = [some (.ref d), some (.ref a), x1]) ⟨rfl, _, rfl⟩ (fun i σ H' _ h => by rw [h.1]; exact SqL.of ha) ?_ ?_⟩
      · rintro i x σ H' hx ⟨rfl, x1, rfl⟩
        obtain ⟨z, hz, rfl⟩ : ∃ z, l[i]? = some z ∧ x = .str z := by
          rw [List.getElem?_map] at hx
          cases e : l[i]? with
          | none => rw [e] at hx; cases hx
          | some z => rw [e] at hx; exact ⟨z, rfl, (Option.some.inj hx).symm⟩
        refine ⟨_, rfl, _, rfl, d, _, rfl, .inl ⟨kvs, .inr z, .inl hd, rfl, rfl⟩, _, rfl, ?_⟩
        rw [hv z (List.mem_of_getElem? hz)]
        exact iteF ⟨rfl, _, rfl⟩
      · rintro σ H' ⟨rfl, x1, rfl⟩
        exact q
abbrev sKept : Stmt := topS 29
def nKept : List Str := ["row", "point", "a", "b", "c", "left", "right"]
theorem scKept : FnScope nKept ["row", "point"] (defScope sKept) := ⟨rfl, rfl, rfl, by decide +kernel, rfl, by decide +kernel, by decide +kernel⟩
def spKept : Sp := fun vs H Q _ => ∃ (u : V) (r : Wy.Rw Spot) (d : Addr) (ys : List Str) (p : Str → Int), vs = [u, .ref d] ∧ RwAt H u r ∧ PtAt H d ys p ∧ (∀ x, r.1 = some x → x ∈ ys) ∧ (∀ x, r.2.1 = some x → x ∈ ys) ∧ Q (.bl (decide (ptV p r.1 - ptV p r.2.1 ≤ r.2.2))) H
theorem ok_kept {f : Addr} {fd : FuncData} (F : Fun K "is_kept" "is_kept" sKept f fd) : FnOk P w K mg base CX0 1 f fd ["row", "point"] spKept := by
  refine F.ok scKept (fun vs H Q E h => ?_) (fun cdv A outer s H vs Q E hr h => ?_)
  · obtain ⟨u, r, d, ys, p, rfl, _⟩ := h
    rfl
  · obtain ⟨u, ⟨a, b, c⟩, d, ys, p, rfl, ⟨q0, rfl, hq0⟩, ⟨kvs, hd, hk, hv⟩, ma, mb, q⟩ := h
    have hu := hu_of hr
    refine ⟨_, pss_cons (ps_asg (pv 0) (pg_tup rfl (pgs_cons (pg_name (i := 2) scKept.nd rfl (.inl rfl)) (pgs_cons (pg_name (i := 3) scKept.nd rfl (.inl rfl)) (pgs_cons (pg_name (i := 4) scKept.nd rfl (.inl rfl)) pgs_nil)))))
      (pss_cons (ps_set (i := 5) scKept.nd rfl (.inl rfl) (pe_ifExp (pt_cmpR op_isN1 (pv 2) pe_non (nomark _)) pe_int (pe_dget hu (pv 1) (pv 2) (fun _ _ => rfl))))
      (pss_cons (ps_set (i := 6) scKept.nd rfl (.inl rfl) (pe_ifExp (pt_cmpR op_isN1 (pv 3) pe_non (nomark _)) pe_int (pe_dget hu (pv 1) (pv 3) (fun _ _ => rfl))))
      (pss_one (ps_ret (pe_cmpR op_le (pe_op op_sub (pv 5) (pv 6)) (pv 4) (nomark _)))))), ?_⟩
    refine ⟨_, rfl, q0, _, rfl, SqT.of hq0, rfl, _, _, rfl, _, _, rfl, _, _, rfl, rfl, ?_⟩
    refine ⟨_, rfl, rfl, _, rfl, ?_⟩
    have fin : ∀ x y : Int, x = ptV p a → y = ptV p b → Q (.bl (decide (x - y ≤ c))) H := fun x y e1 e2 => by rw [e1, e2]; exact q
    cases a with
    | none =>
      refine iteT ⟨_, rfl, rfl, _, rfl, ?_⟩
      cases b with
      | none => exact iteT ⟨_, rfl, _, rfl, _, _, rfl, rfl, _, rfl, _, _, rfl, rfl, fin _ _ rfl rfl⟩
      | some y => exact iteF ⟨_, rfl, _, rfl, d, _, rfl, .inl ⟨kvs, .inr y, .inl hd, rfl, (hv y (mb y rfl)).symm⟩, _, rfl, _, rfl, _, _, rfl, rfl, _, rfl, _, _, rfl, rfl, fin _ _ rfl rfl⟩
    | some x =>
      refine iteF ⟨_, rfl, _, rfl, d, _, rfl, .inl ⟨kvs, .inr x, .inl hd, rfl, (hv x (ma x rfl)).symm⟩, ?_⟩
      refine ⟨_, rfl, rfl, _, rfl, ?_⟩
      cases b with
      | none => exact iteT ⟨_, rfl, _, rfl, _, _, rfl, rfl, _, rfl, _, _, rfl, rfl, fin _ _ rfl rfl⟩
      | some y => exact iteF ⟨_, rfl, _, rfl, d, _, rfl, .inl ⟨kvs, .inr y, .inl hd, rfl, (hv y (mb y rfl)).symm⟩, _, rfl, _, rfl, _, _, rfl, rfl, _, rfl, _, _, rfl, rfl, fin _ _ rfl rfl⟩
abbrev sPtO : Stmt := topS 28
def nPtO : List Str := ["system", "thing", "name", "row"]
theorem scPtO : FnScope nPtO ["system", "thing"] (defScope sPtO) := ⟨rfl, rfl, rfl, by decide +kernel, rfl, by decide +kernel, by decide +kernel⟩
/-- a point that keeps all rows -/
def spPt : Sp := fun vs H Q _ => ∃ (v : V) (R : Rws) (d : Addr) (ys : List Str) (p : Str → Int), vs = [v, .ref d] ∧ Sy H v R ∧ NmsOf R ys ∧ PtAt H d ys p ∧ Wy.Pot R (ptV p) ∧ ∀ H', (∀ b o, H b = some o → H' b = some o) → Q (.bl true) H'
theorem ok_ptO {f : Addr} {fd : FuncData} (F : Fun K "is_point_of" "is_point_of" sPtO f fd) (N : Bl mg) (GJ : Has P w K mg base CX0 4 "has_just_keys" ["thing", "keys"] spJust) (GN : Has P w K mg base CX0 1 "names_of" ["rows"] spNm) (GI : Has P w K mg base CX0 1 "is_number" ["thing"] spNum)
    (GK : Has P w K mg base CX0 1 "is_kept" ["row", "point"] spKept) : FnOk P w K mg base CX0 5 f fd ["system", "thing"] spPt := by
  refine F.ok scPtO (fun vs H Q E h => ?_) (fun cdv A outer s H vs Q E hr h => ?_)
  · obtain ⟨v, R, d, ys, p, rfl, _⟩ := h
    rfl
  · obtain ⟨v, R, d, ys, p, rfl, sy, hn, pt, pot, q⟩ := h
    have hu := hu_of hr
    refine ⟨_, pss_cons (ps_if (pt_not (pt_val (pe_h GJ hr (by decide) (by rfl) pass0 (pa_cons (pv 1) (pa_cons (pe_h GN hr (by decide) (by rfl) pass0 (pa_cons (pv 0) pa_nil)) pa_nil))))) (pss_one (ps_ret pe_bl)) pss_nil)
      (pss_cons (ps_lock (ps_for PassesOwn.never rfl (pi_keys (pv 1)) (pg_name (i := 2) scPtO.nd rfl (.inl rfl)) (pss_one (ps_if (pt_not (pt_val (pe_h GI hr (by decide) (by rfl) pass0 (pa_cons (pe_dget hu (pv 1) (pv 2) (fun _ _ => rfl)) pa_nil)))) (pss_one (ps_ret pe_bl)) pss_nil))))
      (pss_cons (ps_for PassesOwn.never rfl (pi_rowsK K (pv 0)) (pg_name (i := 3) scPtO.nd rfl (.inl rfl)) (pss_one (ps_if (pt_not (pt_val (pe_h GK hr (by decide) (by rfl) pass0 (pa_cons (pv 3) (pa_cons (pv 1) pa_nil))))) (pss_one (ps_ret pe_bl)) pss_nil)))
      (pss_one (ps_ret pe_bl)))), ?_⟩
    have lys := hn.len sy.len
    refine ⟨_, rfl, _, rfl, v, R, rfl, sy, fun H1 r ys2 hn2 nr hr1 s1 => ?_⟩
    have e := AscOf.uniq hn2 hn fun _ => Iff.rfl
    subst e
    have pt1 := pt.sm s1
    refine ⟨d, r, ys2, p, rfl, pt1, hr1, by omega, _, rfl, iteF ?_⟩
    obtain ⟨kvs, hd, hk, hv⟩ := pt1
    refine ⟨d, _, hd, trivial, fun od => ?_⟩
    have ups : upd (upd H1 d (.frz od (.dK kvs))) d (.dK kvs) = H1 := by rw [upd_upd]; exact upd_eqself hd
    have hfz : (upd H1 d (.frz od (.dK kvs))) d = some (.frz od (.dK kvs)) := upd_same
    refine ⟨_, rfl, d, od, rfl, .inl ⟨kvs, hfz, for_it walk_keys (fun i σ H' => H' = upd H1 d (.frz od (.dK kvs)) ∧ ∃ x2, σ = [some v, some (.ref d), x2, none]) ⟨rfl, _, rfl⟩ (fun i σ H' _ h => by rw [h.1]; exact upd_same) ?_ ?_⟩⟩
    · rintro i x σ H1 H2 hi ⟨rfl, x1, rfl⟩ ⟨rfl, k, y, hkv, rfl⟩
      have h1 : (kvs.map (·.1))[i]? = some k := by rw [List.getElem?_map, hkv]; rfl
      rw [hk, List.getElem?_map] at h1
      obtain ⟨z, hz, rfl⟩ : ∃ z, ys2[i]? = some z ∧ Sum.inr z = k := by
        cases hzz : ys2[i]? with
        | none => rw [hzz] at h1; cases h1
        | some z => rw [hzz] at h1; exact ⟨z, rfl, by injection h1⟩
      exact ⟨_, rfl, _, rfl, d, _, rfl, .inl ⟨kvs, .inr z, .inr ⟨od, hfz⟩, rfl, (hv z (List.mem_of_getElem? hz)).symm⟩, ⟨0, 0, 0⟩, .int (p z), .int (p z), rfl, .int _, _, rfl, iteF ⟨rfl, _, rfl⟩⟩
    · rintro σ H' ⟨rfl, x2, rfl⟩
      refine ⟨upd_same, ?_⟩
      rw [ups]
      have sy1 := sy.sm s1
      obtain ⟨q0, us, rfl, hp, lu, hus⟩ := sy1.at_
      refine rows_it rfl hp (fun _ _ z => z) fun J G hG wk => for_it wk (fun i σ H' => H' = H1 ∧ ∃ x3, σ = [some (.ref q0), some (.ref d), x2, x3]) ⟨rfl, _, rfl⟩ (fun i σ H' _ z => hG _ (by rw [z.1]; exact fun _ _ z => z)) ?_ ?_
      · rintro i x σ H' H'' hi ⟨rfl, x3, rfl⟩ ⟨rfl, hx⟩
        obtain ⟨⟨a, b, c⟩, hr, at1⟩ := hus i x hx
        have mr := List.mem_of_getElem? hr
        obtain ⟨ma, mb⟩ := hn.mem _ _ _ mr
        have down : ∀ o : Spot, o ∈ spots ys2 → ∀ x, o = some x → x ∈ ys2 := by
          rintro o ho x rfl
          rcases List.mem_cons.mp ho with z | z
          · cases z
          · obtain ⟨y, hy, e⟩ := List.mem_map.mp z
            cases e
            exact hy
        refine ⟨_, rfl, _, rfl, x, (a, b, c), d, ys2, p, rfl, at1, ⟨kvs, hd, hk, hv⟩, down a ma, down b mb, _, rfl, ?_⟩
        rw [decide_eq_true (pot _ mr)]
        exact iteF ⟨rfl, _, rfl⟩
      · rintro σ H' ⟨rfl, x3, rfl⟩
        exact q _ s1
abbrev sPt : Stmt := topS 27
theorem scPt : FnScope ["system", "thing"] ["system", "thing"] (defScope sPt) := ⟨rfl, rfl, rfl, by decide +kernel, rfl, by decide +kernel, by decide +kernel⟩
theorem ok_pt {BS : Addr} {f : Addr} {fd : FuncData} (F : Fun K "is_point" "is_point" sPt f fd) (GC : Has P w K mg base (L2.CX P w) 4 "check_system" ["system"] (spCkSy BS)) (GO : Has P w K mg base CX0 5 "is_point_of" ["system", "thing"] spPt) : FnOk P w K mg base (L2.CX P w) 6 f fd ["system", "thing"] spPt := by
  refine F.okX scPt (fun vs H Q E h => ?_) (fun cdv A outer s H vs Q E hr h => ?_)
  · obtain ⟨v, R, d, ys, p, rfl, _⟩ := h
    rfl
  · obtain ⟨v, R, d, ys, p, rfl, sy, hn, pt, pot, q⟩ := h
    refine ⟨_, pss_cons (ps_expr (pe_h GC hr (by decide) (by rfl) passE (pa_cons (pv 0) pa_nil)))
      (pss_one (ps_ret (pe_h GO hr (by decide) (by rfl) (E := C8.E0) pass0 (pa_cons (pv 0) (pa_cons (pv 1) pa_nil))))), ?_⟩
    exact ⟨_, rfl, v, rfl, .inl ⟨R, sy, fun H1 s1 => ⟨_, rfl, _, rfl, v, R, d, ys, p, rfl, sy.sm s1, hn, pt.sm s1, pot, fun H' s' => q H' fun b o e => s' _ _ (s1 _ _ e)⟩⟩⟩
end
end Lm
/-! _law_sides; lists of rows. -/
namespace Lm
open PySem PySem.Spec PyProof.Rows L2
/-- a list of rows -/
def RLs (H : Hp) (p : Addr) (R : Rws) : Prop := ∃ us : List V, H p = some (.lst us) ∧ us.length = R.length ∧ (∀ (i : Nat) (u : V), us[i]? = some u → ∃ r : Wy.Rw Spot, R[i]? = some r ∧ RwAt H u r) ∧ (∀ a b c, (a, b, c) ∈ R → a ≠ b) ∧ R.length ≤ 30 ∧ ∀ o ∈ sidesR R, ∀ x, o = some x → PyData.strOk x = true
theorem RLs.sm {H H' : Hp} {p : Addr} {R : Rws} (h : RLs H p R) (s : Same H H') : RLs H' p R := by
  obtain ⟨us, h1, h2, h3, h4⟩ := h
  exact ⟨us, s _ _ h1, h2, fun i u hu => let ⟨r, e, k⟩ := h3 i u hu; ⟨r, e, k.sm s⟩, h4⟩
/-- the same, over the changes of the draws -/
theorem RwAt.at2 {H H' : Hp} {u : V} {r : Wy.Rw Spot} (h : RwAt H u r) (s : ∀ q ys, H q = some (.tup ys) → H' q = some (.tup ys)) : RwAt H' u r := let ⟨q, e, k⟩ := h; ⟨q, e, s _ _ k⟩
theorem str_map {ys : List Str} {i : Nat} {x : V} (h : (ys.map V.str)[i]? = some x) : ∃ z, ys[i]? = some z ∧ x = .str z := by
  rw [List.getElem?_map] at h
  cases e : ys[i]? with
  | none => rw [e] at h; cases h
  | some z => rw [e] at h; exact ⟨z, rfl, (Option.some.inj h).symm⟩
theorem spot_map {ys : List Spot} {i : Nat} {x : V} (h : (ys.map oV)[i]? = some x) : ∃ z, ys[i]? = some z ∧ x = oV z := by
  rw [List.getElem?_map] at h
  cases e : ys[i]? with
  | none => rw [e] at h; cases h
  | some z => rw [e] at h; exact ⟨z, rfl, (Option.some.inj h).symm⟩
def addO (nm : List Str) (o : Spot) : Option Str := o.bind fun x => if x ∈ nm then none else some x
def addS (nm : List Str) (l : List Spot) : List Str := l.filterMap (addO nm)
theorem addS_mem {nm : List Str} {l : List Spot} {x : Str} : x ∈ addS nm l ↔ some x ∈ l ∧ x ∉ nm := by
  unfold addS
  rw [List.mem_filterMap]
  constructor
  · rintro ⟨o, ho, e⟩
    cases o with
    | none => cases e
    | some y =>
      have e : (if y ∈ nm then none else some y) = some x := e
      split at e
      · cases e
      · rename_i h
        cases e
        exact ⟨ho, h⟩
  · rintro ⟨h1, h2⟩
    exact ⟨some x, h1, if_neg h2⟩
theorem addS_nodup {nm : List Str} {a b : Spot} (h : a ≠ b) : (addS nm [a, b]).Nodup := by
  have key : ∀ {o : Spot} {x : Str}, addO nm o = some x → o = some x := by
    intro o x e
    cases o with
    | none => cases e
    | some y =>
      have e : (if y ∈ nm then none else some y) = some x := e
      split at e
      · cases e
      · exact e
  unfold addS
  rw [List.filterMap_cons]
  cases ea : addO nm a with
  | none =>
    rw [List.filterMap_cons]
    cases eb : addO nm b <;> simp
  | some x =>
    rw [List.filterMap_cons]
    cases eb : addO nm b with
    | none => simp
    | some y =>
      simp
      intro e
      exact h (by rw [key ea, key eb, e])
theorem sidesR_take {R : Rws} {i : Nat} {r : Wy.Rw Spot} (h : R[i]? = some r) : sidesR (R.take (i + 1)) = sidesR (R.take i) ++ [r.1, r.2.1] := by
  unfold sidesR
  rw [List.take_add_one, h, List.flatMap_append]
  rfl
section
variable {P : Program} {w : World} {K : PySem.W.Frag} {mg : Str → Option Value} {base : Heap}
/-- row[:2] -/
theorem sl_two {H : Hp} {q : Addr} {a b c : V} {Q : VK} (h : H q = some (.tup [a, b, c])) (k : ∀ p, H p = none → Q (.ref p) (upd H p (.tup [a, b]))) : rSlA K (.ref q) none (some 2) H Q :=
  ⟨q, _, rfl, SqT.of h, fun z => absurd (show HT.sIx 3 3 (some 2) = 3 from z.2) (by decide), fun _ p np => k p np⟩
abbrev sSd : Stmt := topS 44
def nSd : List Str := ["rows", "found", "row", "side"]
theorem scSd : FnScope nSd ["rows"] (defScope sSd) := ⟨rfl, rfl, rfl, by decide +kernel, rfl, by decide +kernel, by decide +kernel⟩
def spSd : Sp := fun vs H Q _ => ∃ (p : Addr) (R : Rws), vs = [.ref p] ∧ RLs H p R ∧ ∀ (H' : Hp) (q : Addr) (ys : List Str), NmsOf R ys → H q = none → H' q = some (.lst (ys.map V.str)) → Same H H' → Q (.ref q) H'
theorem ok_sd {f : Addr} {fd : FuncData} (F : Fun K "_law_sides" "_law_sides" sSd f fd) (N : Bl mg) : FnOk P w K mg base CX0 1 f fd ["rows"] spSd := by
  refine F.ok scSd (fun vs H Q E h => ?_) (fun cdv A outer s H vs Q E hr h => ?_)
  · obtain ⟨p, R, rfl, _⟩ := h
    rfl
  · obtain ⟨p, R, rfl, ⟨us, hp, lu, hu, ne, l30, okn⟩, q⟩ := h
    refine ⟨_, pss_cons (ps_set (i := 1) scSd.nd rfl (.inr rfl) (pe_lst pa_nil))
      (pss_cons (ps_for PassesOwn.never rfl (pi_listK K (pv 0)) (pg_name (i := 2) scSd.nd rfl (.inl rfl))
        (pss_one (ps_set (i := 1) scSd.nd rfl (.inr rfl) (pe_op op_cat (pv 1) (pe_lc (own := [("side", 3)]) (g := gName 3) rfl scSd.nd (pi_tupK K (pe_slice (show SlR _ (rSlA K) from sl_tupA) (pv 2) po_none (po_some pe_int))) (blkOk_by (own := [("side", 3)]) (N := nSd) (sc := defScope sSd) (by decide +kernel))
          (fun _ _ _ _ _ => pg_name (i := 3) scSd.nd rfl (Or.inl rfl)) (fun _ _ _ _ _ => pts_one (pw_and (pt_cmpR op_notN1 (pv 3) pe_non (nomark _)) (pw_and1 (pt_cmpR (show OpR _ _ (rIn K true) from op_notIn_seq) (pv 3) (pv 1) (by rfl)))).pt) (fun _ _ _ _ _ => pv 3))))))
      (pss_one (ps_ret (pe_callB (cr_sortedSK K) (by rfl) N.bsrt (by decide +kernel) (pa_cons (pv 1) pa_nil))))), ?_⟩
    refine ⟨Nat.zero_le _, fun f nf => ?_⟩
    have s1 := same_upd (o := .lst []) nf
    refine ⟨_, rfl, p, rfl, ⟨_, SqL.of (s1 _ _ hp)⟩, for_list (K := K) (a := p) (xs := us) (fun i σ H' => Same H H' ∧ ∃ (f : Addr) (nm : List Str) (x2 : Option V), σ = [some (.ref p), some (.ref f), x2, none] ∧ H' f = some (.lst (nm.map V.str)) ∧ H f = none ∧ nm.Nodup ∧ (∀ x, x ∈ nm ↔ some x ∈ sidesR (R.take i)) ∧ nm.length ≤ 2 * i)
      ⟨s1, f, [], none, rfl, upd_same, nf, by simp, fun x => by simp [sidesR], Nat.zero_le _⟩ (fun i σ H' _ z => SqL.of (z.1 _ _ hp)) ?_ ?_⟩
    · rintro i x σ H1 hx ⟨sH, f, nm, x2, rfl, hf, nf, nd, mem, ln⟩
      obtain ⟨⟨a, b, c⟩, hr, q0, rfl, hq0⟩ := hu i x hx
      have hne := ne a b c (List.mem_of_getElem? hr)
      have li : i < R.length := (List.getElem?_eq_some_iff.mp hr).1
      refine ⟨_, rfl, _, rfl, _, rfl, sl_two (sH _ _ hq0) fun t nt => ⟨t, rfl, ⟨_, SqT.of upd_same⟩, fun D nD => ?_⟩⟩
      have s2 := same_upd (o := .tup [oV a, oV b]) nt
      have ht : (upd H1 t (.tup [oV a, oV b])) t = some (.tup ([a, b].map oV)) := upd_same
      generalize upd H1 t (.tup [oV a, oV b]) = H2 at s2 ht nD ⊢
      have s3 := same_upd (o := .lst []) nD
      refine lc_tup (K := K) (a := t) (xs := [a, b].map oV) (fun j H' => Same H2 H' ∧ H' D = some (.lst ((addS nm ([a, b].take j)).map V.str))) ⟨s3, upd_same⟩ (fun j H' _ z => SqT.of (z.1 _ _ ht)) ?_ ?_
      · rintro j xv H3 hj ⟨s4, hD⟩
        obtain ⟨o, ho, rfl⟩ := spot_map hj
        have stp : addS nm ([a, b].take (j + 1)) = addS nm ([a, b].take j) ++ (addO nm o).toList := by
          unfold addS
          rw [List.take_add_one, ho, List.filterMap_append]
          congr 1
        have hf3 := s4 _ _ (s2 _ _ hf)
        refine ⟨rfl, _, rfl, rfl, _, rfl, ?_⟩
        cases o with
        | none => exact iteF (iteF ⟨s4, by rw [stp]; show _ = some (HO.lst ((addS nm ([a, b].take j) ++ []).map V.str)); rw [List.append_nil]; exact hD⟩)
        | some y =>
          refine iteT ⟨_, rfl, _, rfl, f, _, rfl, .inl (SqL.of hf3), rfl, by simp [flatV], ?_⟩
          show ∃ k, V.bl (if true = true then !inV (.str y) (nm.map V.str) else inV (.str y) (nm.map V.str)) = V.bl k ∧ _
          rw [inV_str]
          by_cases hy : y ∈ nm
          · rw [decide_eq_true hy]
            have e : addO nm (some y) = none := if_pos hy
            refine ⟨_, rfl, iteF ⟨s4, ?_⟩⟩
            rw [stp, e]
            show _ = some (HO.lst ((addS nm ([a, b].take j) ++ []).map V.str))
            rw [List.append_nil]
            exact hD
          · rw [decide_eq_false hy]
            have e : addO nm (some y) = some y := if_neg hy
            refine ⟨_, rfl, iteT ⟨_, rfl, _, hD, ?_, same_put s4 nD, ?_⟩⟩
            · have h1 : (addS nm ([a, b].take j)).length ≤ ([a, b].take j).length := List.length_filterMap_le _ _
              have h2 : ([a, b].take j).length ≤ 2 := by rw [List.length_take]; show min j 2 ≤ 2; omega
              exact small1000 (by rw [List.length_map]; omega)
            · rw [upd_same, stp, e, List.map_append]
              rfl
      · rintro H3 ⟨s4, hD⟩
        have hD : H3 D = some (.lst ((addS nm [a, b]).map V.str)) := hD
        have l2 : (addS nm [a, b]).length ≤ 2 := List.length_filterMap_le _ _
        have hf3 := s4 _ _ (s2 _ _ hf)
        refine ⟨f, D, _, _, rfl, rfl, hf3, hD, small10000 (by rw [List.length_map, List.length_map]; omega), fun r nr => ?_⟩
        have s13 : Same H1 H3 := fun b o e => s4 _ _ (s2 _ _ e)
        have sH3 : Same H H3 := fun b o e => s13 _ _ (sH _ _ e)
        refine ⟨fun b o e => same_upd nr _ _ (sH3 _ _ e), r, nm ++ addS nm [a, b], _, rfl, by rw [upd_same, List.map_append], none_of sH3 nr, ?_, fun x => ?_, by rw [List.length_append]; omega⟩
        · exact List.nodup_append.mpr ⟨nd, addS_nodup hne, fun x hx y hy e => (addS_mem.mp hy).2 (e ▸ hx)⟩
        · rw [sidesR_take hr, List.mem_append, List.mem_append, mem, addS_mem, mem]
          constructor
          · rintro (h | h)
            · exact .inl h
            · exact .inr h.1
          · intro h
            by_cases k : some x ∈ sidesR (R.take i)
            · exact .inl k
            · exact .inr ⟨h.resolve_left k, k⟩
    · rintro σ H1 ⟨sH, f, nm, x2, rfl, hf, nf, nd, mem, ln⟩
      rw [lu, List.take_length] at mem
      refine ⟨_, rfl, f, nm, rfl, SqL.of hf, by omega, fun ys q' pm so nq => ?_⟩
      refine q _ q' ys ⟨so, pm.nodup_iff.mpr nd, fun k => ?_⟩ (none_of sH nq) upd_same fun b o e => same_upd nq _ _ (sH b o e)
      rw [pm.mem_iff, mem, List.mem_filterMap]
      exact ⟨fun h => ⟨_, h, rfl⟩, fun ⟨o, h1, h2⟩ => by have h2 : o = some k := h2; rw [← h2]; exact h1⟩
end
end Lm
/-! _law_closest, _law_has_ring. -/
namespace Lm
open PySem PySem.Spec PyProof.Rows L2
def rDictX (P : Program) (w : World) (K : PySem.W.Frag) : List V → Hp → VK → Prop := fun xs H Q => ∃ (l : Addr) (ts : List Addr) (es : PX), xs = [.ref l] ∧ SqL K H l (ts.map V.ref) ∧ H l ≠ none ∧
    Paired (fun t e => H t = some (.tup [.ref e.2.1, e.2.2])) ts es ∧ KA H es ∧ ∀ p o, H p = none → PDat P w (upd H p o) p (mergeP [] (plainX es)) → Mut (some o) → Q (.ref p) (upd H p o)
theorem cr_dictX {X : Cx} (P : Program) (w : World) (K : PySem.W.Frag) (hc : X.calm = true) (hu : X.A.units + 64 < cLine) (hP : X.prog = P := by rfl) (hw : X.w = w := by rfl) (hK : X.K = K := by rfl) : CallR X (.type "dict") (rDictX P w K) := call_dictX P w K hc hu hP hw hK
theorem paired_imp {α β : Type} {F G : α → β → Prop} {l : List α} {m : List β} (h : Paired F l m) (k : ∀ a b, a ∈ l → F a b → G a b) : Paired G l m := by
  induction h with
  | nil => exact .nil
  | cons f _ ih => exact .cons (k _ _ (List.mem_cons_self ..) f) (ih fun a b ha => k a b (List.mem_cons_of_mem _ ha))
/-- a dict of pairs, as a table -/
def DAt (P : Program) (w : World) (H : Hp) (q : Addr) (D : Wy.Tb Spot) : Prop := ∃ ks, PDat P w H q ks ∧ ∀ a b, valV ks (a, b) = intV (D a b)
theorem DAt.sm {P : Program} {w : World} {H H' : Hp} {q : Addr} {D : Wy.Tb Spot} (h : DAt P w H q D) (s : Same H H') : DAt P w H' q D := let ⟨ks, a, b⟩ := h; ⟨ks, a.sm s, b⟩
theorem valV_putP {ks : List (PK × V)} {a b x y : Spot} {v : V} : valV (putK ks (a, b) v) (x, y) = if x = a ∧ y = b then some v else valV ks (x, y) := by
  rw [valV_put]
  by_cases h : x = a ∧ y = b
  · obtain ⟨rfl, rfl⟩ := h
    rw [if_pos rfl, if_pos ⟨rfl, rfl⟩]
  · rw [if_neg h, if_neg]
    intro e
    injection e with e1 e2
    first | exact h ⟨e1.symm, e2.symm⟩ | exact h ⟨e1, e2⟩
theorem DAt.put {P : Program} {w : World} {H : Hp} {q : Addr} {ks : List (PK × V)} {D : Wy.Tb Spot} {a b : Spot} {z : Int} (h : PDat P w H q (putK ks (a, b) (.int z))) (k : ∀ a b, valV ks (a, b) = intV (D a b)) : DAt P w H q (Wy.up2 D a b z) :=
  ⟨_, h, fun x y => by
    rw [valV_putP, k]
    unfold Wy.up2
    split <;> rfl⟩
theorem prod_len (S : List Spot) : ∀ T : List Spot, (T.flatMap fun a => S.map fun b => (a, b)).length = T.length * S.length
  | [] => by simp
  | t :: T => by
    rw [List.flatMap_cons, List.length_append, List.length_map, prod_len S T, List.length_cons, Nat.add_mul, Nat.one_mul, Nat.add_comm]
theorem pd_len {P : Program} {w : World} {H : Hp} {q : Addr} {ks : List (PK × V)} {D : Wy.Tb Spot} {S : List Spot} (h : PDat P w H q ks) (k : ∀ a b, valV ks (a, b) = intV (D a b)) (i : ∀ a b z, D a b = some z → a ∈ S ∧ b ∈ S) (l : S.length ≤ 61) : ks.length < sizeLine := by
  have := Wy.pig (S := S.flatMap fun a => S.map fun b => (a, b)) h.nodup fun e he => by
    obtain ⟨x, hx, rfl⟩ := List.mem_map.mp he
    obtain ⟨⟨a, b⟩, v⟩ := x
    have hv := valV_mem h.nodup hx
    rw [k] at hv
    cases hD : D a b with
    | none => rw [hD] at hv; cases hv
    | some z =>
      obtain ⟨ha, hb⟩ := i a b z hD
      exact List.mem_flatMap.mpr ⟨a, ha, List.mem_map.mpr ⟨b, hb, rfl⟩⟩
  rw [prod_len, List.length_map] at this
  have h1 : S.length * S.length ≤ 61 * 61 := Nat.mul_le_mul l l
  have h2 : 10000 ≤ sizeLine := by unfold sizeLine; decide
  omega
theorem diag_val : ∀ (S : List Spot) (acc : List (PK × V)) (x y : Spot), valV (mergeP acc (S.map fun s => ((s, s), V.int 0))) (x, y) = if x = y ∧ x ∈ S then some (V.int 0) else valV acc (x, y)
  | [], acc, x, y => by
    rw [if_neg (fun h => nomatch h.2)]
    rfl
  | s :: S, acc, x, y => by
    show valV (mergeP (putK acc (s, s) (.int 0)) (S.map fun s => ((s, s), V.int 0))) (x, y) = _
    rw [diag_val S, valV_putP]
    by_cases h1 : x = y ∧ x ∈ S
    · rw [if_pos h1, if_pos ⟨h1.1, List.mem_cons_of_mem _ h1.2⟩]
    · rw [if_neg h1]
      by_cases h2 : x = s ∧ y = s
      · rw [if_pos h2, if_pos ⟨h2.1.trans h2.2.symm, by rw [h2.1]; exact List.mem_cons_self ..⟩]
      · rw [if_neg h2, if_neg]
        rintro ⟨e, h⟩
        rcases List.mem_cons.mp h with h | h
        · exact h2 ⟨h, e ▸ h⟩
        · exact h1 ⟨e, h⟩
theorem diag_at (S : List Spot) (x y : Spot) : valV (mergeP [] (S.map fun s => ((s, s), V.int 0))) (x, y) = intV (Wy.diagT S x y) := by
  rw [diag_val]
  unfold Wy.diagT
  split <;> rfl
/-- the spots in the law's order -/
def spotz (ys : List Str) : List Spot := ys.map some ++ [none]
theorem spotz_mem {ys : List Str} {o : Spot} : o ∈ spotz ys ↔ o ∈ spots ys := by
  unfold spotz spots
  rw [List.mem_append, List.mem_singleton, List.mem_cons, or_comm]
theorem spotz_len (ys : List Str) : (spotz ys).length = ys.length + 1 := by
  unfold spotz
  rw [List.length_append, List.length_map]
  rfl
theorem good_mono {R : Rws} {S M : List Spot} {D : Wy.Tb Spot} (h : Wy.Good R S M D) (k : ∀ x ∈ S, x ∈ M) : Wy.Good R S S D := ⟨h.dia, h.row, fun m hm => h.via m (k m hm)⟩
/-- what the law's table tells -/
structure ClIs (R : Rws) (S : List Spot) (D : Wy.Tb Spot) : Prop where
  real : Wy.Real R D
  inS : ∀ a b z, D a b = some z → a ∈ S ∧ b ∈ S
  fin : Wy.Neg S D ∨ Wy.Good R S S D
  dia : ∀ a ∈ S, ∃ z, D a a = some z
theorem up2_at (D : Wy.Tb Spot) (a b : Spot) (o : Option Int) (z : Int) : (intV o).getD (.int z) = .int (o.getD z) := by cases o <;> rfl
theorem min_is (o : Option Int) (z : Int) : (if z < o.getD z then z else o.getD z) = Wy.minO o z := by
  unfold Wy.minO
  cases o with
  | none => show (if z < z then z else z) = z; split <;> rfl
  | some y => rfl
section
variable {P : Program} {w : World} {K : PySem.W.Frag} {mg : Str → Option Value} {base : Heap}
abbrev sCl : Stmt := topS 48
def nCl : List Str := ["rows", "sides", "found", "row", "key", "middle", "one", "two", "told", "side"]
theorem scCl : FnScope nCl ["rows"] (defScope sCl) := ⟨rfl, rfl, rfl, by decide +kernel, rfl, by decide +kernel, by decide +kernel⟩
def spCl (P : Program) (w : World) : Sp := fun vs H Q _ => ∃ (p : Addr) (R : Rws), vs = [.ref p] ∧ RLs H p R ∧ ∀ (H' : Hp) (q : Addr) (ys : List Str) (D : Wy.Tb Spot), NmsOf R ys → ClIs R (spotz ys) D → DAt P w H' q D → H q = none → Same H H' → Q (.ref q) H'
theorem ok_cl {f : Addr} {fd : FuncData} (F : Fun K "_law_closest" "_law_closest" sCl f fd) (N : Bl mg) (hdict : mg "dict" = none) (GS : Has P w K mg base CX0 1 "_law_sides" ["rows"] spSd) : FnOk P w K mg base CX0 2 f fd ["rows"] (spCl P w) := by
  refine F.ok scCl (fun vs H Q E h => ?_) (fun cdv A outer s H vs Q E hr h => ?_)
  · obtain ⟨p, R, rfl, _⟩ := h
    rfl
  · obtain ⟨p, R, rfl, rl, q⟩ := h
    have hu := hr.units
    refine ⟨_, pss_cons (ps_set (i := 1) scCl.nd rfl (.inl rfl) (pe_op op_cat (pe_h GS hr (by decide) (by rfl) pass0 (pa_cons (pv 0) pa_nil)) (pe_lst (pa_cons pe_non pa_nil))))
      (pss_cons (ps_set (i := 2) scCl.nd rfl (.inl rfl) (pe_callTy (cr_dictX P w K rfl hu) (by rfl) hdict (by decide +kernel) (pa_cons (pe_lc (own := [("side", 9)]) (g := gName 9) (tt := tYes) rfl scCl.nd (pi_listK K (pv 1)) (blkOk_by (own := [("side", 9)]) (N := nCl) (sc := defScope sCl) (by decide +kernel))
          (fun _ _ _ _ _ => pg_name (i := 9) scCl.nd rfl (Or.inl rfl)) (fun _ _ _ _ _ => pts_nil) (fun _ _ _ _ _ => pe_tup (pa_cons (pe_tup (pa_cons (pv 9) (pa_cons (pv 9) pa_nil))) (pa_cons pe_int pa_nil)))) pa_nil)))
      (pss_cons (ps_for PassesOwn.never rfl (pi_listK K (pv 0)) (pg_name (i := 3) scCl.nd rfl (.inl rfl))
        (pss_cons (ps_set (i := 4) scCl.nd rfl (.inl rfl) (pe_tup (pa_cons (pe_ix (ix_tupK K) (pv 3) pe_int (fun _ _ => rfl)) (pa_cons (pe_ix (ix_tupK K) (pv 3) pe_int (fun _ _ => rfl)) pa_nil))))
        (pss_one (ps_dputXP P w hu (pv 2) (pv 4) (pe_callB (call_min2 rfl) (by rfl) N.bmin (by decide +kernel) (pa_cons (pe_dget2XP P w hu (pv 2) (pv 4) (pe_ix (ix_tupK K) (pv 3) pe_int (fun _ _ => rfl)) ⟨rfl, rfl, rfl, rfl⟩) (pa_cons (pe_ix (ix_tupK K) (pv 3) pe_int (fun _ _ => rfl)) pa_nil))) rfl))))
      (pss_cons (ps_for PassesOwn.never rfl (pi_listK K (pv 1)) (pg_name (i := 5) scCl.nd rfl (.inl rfl))
        (pss_one (ps_for PassesOwn.never rfl (pi_listK K (pv 1)) (pg_name (i := 6) scCl.nd rfl (.inl rfl))
          (pss_one (ps_for PassesOwn.never rfl (pi_listK K (pv 1)) (pg_name (i := 7) scCl.nd rfl (.inl rfl))
            (pss_one (ps_if (pw_and (pt_cmp (pc_dinXP P w hu (pe_tup (pa_cons (pv 6) (pa_cons (pv 5) pa_nil))) (pv 2))) (pw_and1 (pt_cmp (pc_dinXP P w hu (pe_tup (pa_cons (pv 5) (pa_cons (pv 7) pa_nil))) (pv 2))))).pt
              (pss_cons (ps_set (i := 8) scCl.nd rfl (.inl rfl) (pe_op op_add (pe_dgetXP P w hu (pv 2) (pe_tup (pa_cons (pv 6) (pa_cons (pv 5) pa_nil))) (fun _ _ => rfl)) (pe_dgetXP P w hu (pv 2) (pe_tup (pa_cons (pv 5) (pa_cons (pv 7) pa_nil))) (fun _ _ => rfl))))
              (pss_one (ps_dputXP P w hu (pv 2) (pe_tup (pa_cons (pv 6) (pa_cons (pv 7) pa_nil))) (pe_callB (call_min2 rfl) (by rfl) N.bmin (by decide +kernel) (pa_cons (pe_dget2XP P w hu (pv 2) (pe_tup (pa_cons (pv 6) (pa_cons (pv 7) pa_nil))) (pv 8) ⟨rfl, rfl, rfl, rfl⟩) (pa_cons (pv 8) pa_nil))) rfl))) pss_nil)))))))
      (pss_one (ps_ret (pv 2)))))), ?_⟩
    obtain ⟨us, hp, lu, hu', ne, l30, okn⟩ := id rl
    refine ⟨_, rfl, p, R, rfl, rl, fun H1 sq ys hn nsq hsq s1 => ?_⟩
    have lys := hn.len l30
    refine ⟨by show 1 ≤ sizeLine; decide, fun t nt => ⟨sq, t, _, _, rfl, rfl, same_upd nt _ _ hsq, upd_same, small10000 (by rw [List.length_map]; show ys.length + 1 ≤ 10000; omega), fun sd nsd => ?_⟩⟩
    have s2 : Same H (upd (upd H1 t (.lst [.non])) sd (.lst (ys.map V.str ++ [.non]))) := fun b o e => same_upd nsd _ _ (same_upd nt _ _ (s1 _ _ e))
    have hsd : (upd (upd H1 t (.lst [.non])) sd (.lst (ys.map V.str ++ [.non]))) sd = some (.lst ((spotz ys).map oV)) := by
      rw [upd_same]
      unfold spotz
      rw [List.map_append, List.map_map]
      rfl
    have nsd0 := none_of s1 (none_of (same_upd nt) nsd)
    generalize upd (upd H1 t (.lst [.non])) sd (.lst (ys.map V.str ++ [.non])) = H2 at s2 hsd ⊢
    have inZ : ∀ a b c, (a, b, c) ∈ R → a ∈ spotz ys ∧ b ∈ spotz ys := fun a b c h => let ⟨x, y⟩ := hn.mem a b c h; ⟨spotz_mem.mpr x, spotz_mem.mpr y⟩
    have lZ : (spotz ys).length ≤ 61 := by rw [spotz_len]; omega
    have endq : ∀ (H' : Hp) (q' : Addr) (D : Wy.Tb Spot), ClIs R (spotz ys) D → DAt P w H' q' D → H q' = none → Same H H' → Q (.ref q') H' := fun H' q' D h1 h2 h3 h4 => q H' q' ys D hn h1 h2 h3 h4
    clear q
    have noneZ : (none : Spot) ∈ spotz ys := List.mem_append_right _ (List.mem_singleton.mpr rfl)
    generalize hS : spotz ys = S at hsd inZ lZ endq noneZ
    refine ⟨_, rfl, sd, rfl, ⟨_, SqL.of hsd⟩, fun D nD => ?_⟩
    have nD0 := none_of s2 nD
    refine lc_list (K := K) (a := sd) (xs := S.map oV) (fun i H' => Same H2 H' ∧ ∃ (ts : List Addr) (es : PX), H' D = some (.lst (ts.map V.ref)) ∧ ts.length = i ∧ Paired (fun t e => H' t = some (.tup [.ref e.2.1, e.2.2])) ts es ∧ KA H' es ∧ plainX es = (S.take i).map fun s => ((s, s), V.int 0))
      ⟨same_upd nD, [], [], upd_same, rfl, .nil, fun e he => absurd he (by simp), rfl⟩ (fun i H' _ z => SqL.of (z.1 _ _ hsd)) ?_ ?_
    · rintro i xv H3 hi ⟨s3, ts, es, hD, lt, pr, ka, pl⟩
      obtain ⟨o, ho, rfl⟩ := spot_map hi
      have li : i < S.length := (List.getElem?_eq_some_iff.mp ho).1
      refine ⟨rfl, _, rfl, _, rfl, by show 2 ≤ sizeLine; decide, fun k nk => ⟨by show 2 ≤ sizeLine; decide, fun tt ntt => ?_⟩⟩
      have hk4 : (upd (upd H3 k (.tup [oV o, oV o])) tt (.tup [.ref k, .int 0])) k = some (.tup [oV o, oV o]) := same_upd ntt _ _ upd_same
      have htt4 : (upd (upd H3 k (.tup [oV o, oV o])) tt (.tup [.ref k, .int 0])) tt = some (.tup [.ref k, .int 0]) := upd_same
      have s4 : Same H3 (upd (upd H3 k (.tup [oV o, oV o])) tt (.tup [.ref k, .int 0])) := fun b x e => same_upd ntt _ _ (same_upd nk _ _ e)
      generalize upd (upd H3 k (.tup [oV o, oV o])) tt (.tup [.ref k, .int 0]) = H4 at hk4 htt4 s4 ⊢
      have hD4 := s4 _ _ hD
      have nt : ∀ {x : Addr} {l : List V}, H4 x = some (.tup l) → x ≠ D := fun h z => by rw [z, hD4] at h; cases h
      refine ⟨_, hD4, by rw [List.length_map]; exact small1000 (by omega), same_put (fun _ _ e => s4 _ _ (s3 _ _ e)) nD, ts ++ [tt], es ++ [((o, o), k, .int 0)], by rw [upd_same, List.map_append]; rfl, by rw [List.length_append, lt]; rfl, ?_, ?_, ?_⟩
      · refine Paired.snoc (paired_imp pr fun a b _ h => by rw [upd_ne (nt (s4 _ _ h))]; exact s4 _ _ h) ?_
        rw [upd_ne (nt htt4)]
        exact htt4
      · intro e he
        rcases List.mem_append.mp he with z | z
        · rw [upd_ne (nt (s4 _ _ (ka e z)))]
          exact s4 _ _ (ka e z)
        · rw [List.mem_singleton] at z
          subst z
          rw [upd_ne (nt hk4)]
          exact hk4
      · rw [List.take_add_one, ho, List.map_append, ← pl]
        unfold plainX
        rw [List.map_append]
        rfl
    · rintro H3 ⟨s3, ts, es, hD, lt, pr, ka, pl⟩
      rw [show (S.map oV).length = S.length from List.length_map .., List.take_length] at pl
      refine ⟨D, ts, es, rfl, SqL.of hD, by rw [hD]; exact (fun z => nomatch z), pr, ka, fun fq fo nfq pd _ => ?_⟩
      rw [pl] at pd
      have d0 : DAt P w (upd H3 fq fo) fq (Wy.diagT S) := ⟨_, pd, fun a b => diag_at S a b⟩
      have s4 : Same H2 (upd H3 fq fo) := same_put s3 (none_of s3 nfq)
      have nfq2 := none_of s3 nfq
      have nfq0 := none_of s2 nfq2
      have fsd : sd ≠ fq := ne_of_none hsd nfq2
      have hsd4 := s4 _ _ hsd
      have s04 : Same H (upd H3 fq fo) := fun b o e => s4 _ _ (s2 _ _ e)
      generalize upd H3 fq fo = H4 at d0 s4 hsd4 s04 ⊢
      clear pd
      -- the rows
      refine ⟨_, rfl, p, rfl, ⟨_, SqL.of (s04 _ _ hp)⟩, for_list (K := K) (a := p) (xs := us) (fun i σ H' => ∃ (x3 x4 : Option V) (Dt : Wy.Tb Spot), σ = [some (.ref p), some (.ref sd), some (.ref fq), x3, x4, none, none, none, none, none] ∧ (∀ b o, b ≠ fq → H4 b = some o → H' b = some o) ∧ DAt P w H' fq Dt ∧ Wy.FwR R S i Dt)
        ⟨none, none, _, rfl, fun b o _ e => e, d0, Wy.FwR.first R S⟩ (fun i σ H' _ ⟨_, _, _, _, sb, _⟩ => SqL.of (sb _ _ (ne_of_none hp nfq0) (s04 _ _ hp))) ?_ ?_⟩
      · rintro i xv σ H5 hi ⟨x3, x4, Dt, rfl, sb, ⟨ks, pd, hv⟩, fw⟩
        obtain ⟨⟨a, b, c⟩, hr', q0, rfl, hq0⟩ := hu' i xv hi
        have mr := List.mem_of_getElem? hr'
        have hq5 := sb _ _ (ne_of_none hq0 nfq0) (s04 _ _ hq0)
        refine ⟨_, rfl, q0, _, 0, _, rfl, rfl, SqT.of hq5, atI_nat (j := 0) rfl, _, rfl, q0, _, 1, _, rfl, rfl, SqT.of hq5, atI_nat (j := 1) rfl, by show 2 ≤ sizeLine; decide, fun k nk => ?_⟩
        have hk6 : (upd H5 k (.tup [oV a, oV b])) k = some (.tup [oV a, oV b]) := upd_same
        have s6 := same_upd (o := .tup [oV a, oV b]) nk
        have hq6 := s6 _ _ hq5
        have pd6 := pd.sm s6
        have sb6 : ∀ b' o, b' ≠ fq → H4 b' = some o → (upd H5 k (.tup [oV a, oV b])) b' = some o := fun b' o n e => s6 _ _ (sb b' o n e)
        generalize upd H5 k (.tup [oV a, oV b]) = H6 at hk6 hq6 pd6 sb6 ⊢
        refine ⟨_, rfl, fq, rfl, ⟨_, pd6⟩, _, rfl, _, rfl, q0, _, 2, _, rfl, rfl, SqT.of hq6, atI_nat (j := 2) rfl, ks, (a, b), k, pd6, rfl, hk6, _, rfl, q0, _, 2, _, rfl, rfl, SqT.of hq6, atI_nat (j := 2) rfl, ?_⟩
        rw [hv, up2_at Dt a b]
        refine ⟨_, _, rfl, _, rfl, _, rfl, fq, ks, (a, b), k, rfl, pd6, rfl, hk6, pd_len pd6 hv fw.inS lZ, fun o pd7 _ => ?_⟩
        rw [min_is] at pd7
        exact ⟨_, _, _, rfl, fun b' o' n e => by rw [upd_ne n]; exact sb6 b' o' n e, DAt.put pd7 hv, fw.step hr' (ne a b c mr) (inZ a b c mr)⟩
      · rintro σ H5 ⟨x3, x4, Dt, rfl, sb, dt, fw⟩
        rw [lu] at fw
        have hsd5 := sb _ _ fsd hsd4
        -- the spots in turn
        refine ⟨_, rfl, sd, rfl, ⟨_, SqL.of hsd5⟩, for_list (K := K) (a := sd) (xs := S.map oV) (fun m σ H' => ∃ (x5 x6 x7 x8 : Option V) (D0 : Wy.Tb Spot) (M : List Spot), σ = [some (.ref p), some (.ref sd), some (.ref fq), x3, x4, x5, x6, x7, x8, none] ∧ (∀ b o, b ≠ fq → H4 b = some o → H' b = some o) ∧ DAt P w H' fq D0 ∧ Wy.Real R D0 ∧ (∀ a b z, D0 a b = some z → a ∈ S ∧ b ∈ S) ∧ (∀ x ∈ S.take m, x ∈ M) ∧ (Wy.Neg S D0 ∨ Wy.Good R S M D0) ∧ ∀ a ∈ S, ∃ z, D0 a a = some z)
          ⟨none, none, none, none, Dt, [], rfl, sb, dt, fw.real, fw.inS, fun x hx => by simp at hx, .inr fw.good, fun a ha => ⟨_, fw.dia a ha⟩⟩ (fun m σ H' _ ⟨_, _, _, _, _, _, _, sb, _⟩ => SqL.of (sb _ _ fsd hsd4)) ?_ ?_⟩
        · rintro im xv σ H6 him ⟨x5, x6, x7, x8, D0, M, rfl, sb6, dt6, real, inS, hM, ng, dia⟩
          obtain ⟨m, hm, rfl⟩ := spot_map him
          have mm : m ∈ S := List.mem_of_getElem? hm
          refine ⟨_, rfl, sd, rfl, ⟨_, SqL.of (sb6 _ _ fsd hsd4)⟩, for_list (K := K) (a := sd) (xs := S.map oV) (fun i σ H' => ∃ (x6 x7 x8 : Option V) (D1 : Wy.Tb Spot), σ = [some (.ref p), some (.ref sd), some (.ref fq), x3, x4, some (oV m), x6, x7, x8, none] ∧ (∀ b o, b ≠ fq → H4 b = some o → H' b = some o) ∧ DAt P w H' fq D1 ∧ Wy.FwM R S M m D0 (fun a b => a ∈ S.take i ∧ b ∈ S) D1)
            ⟨x6, x7, x8, D0, rfl, sb6, dt6, (Wy.FwM.first real inS).weak fun a b h => by simp at h⟩ (fun i σ H' _ ⟨_, _, _, _, _, sb, _⟩ => SqL.of (sb _ _ fsd hsd4)) ?_ ?_⟩
          · rintro i xv σ H7 hi ⟨x6, x7, x8, D1, rfl, sb7, dt7, fm⟩
            obtain ⟨a, ha, rfl⟩ := spot_map hi
            refine ⟨_, rfl, sd, rfl, ⟨_, SqL.of (sb7 _ _ fsd hsd4)⟩, for_list (K := K) (a := sd) (xs := S.map oV) (fun j σ H' => ∃ (x7 x8 : Option V) (D2 : Wy.Tb Spot), σ = [some (.ref p), some (.ref sd), some (.ref fq), x3, x4, some (oV m), some (oV a), x7, x8, none] ∧ (∀ b o, b ≠ fq → H4 b = some o → H' b = some o) ∧ DAt P w H' fq D2 ∧ Wy.FwM R S M m D0 (fun x y => (x ∈ S.take i ∧ y ∈ S) ∨ (x = a ∧ y ∈ S.take j)) D2)
              ⟨x7, x8, D1, rfl, sb7, dt7, fm.weak fun x y h => h.elim id fun z => by simp at z⟩ (fun j σ H' _ ⟨_, _, _, _, sb, _⟩ => SqL.of (sb _ _ fsd hsd4)) ?_ ?_⟩
            · rintro j xv σ H8 hj ⟨x7, x8, D2, rfl, sb8, ⟨ks, pd, hv⟩, fm⟩
              obtain ⟨b, hb, rfl⟩ := spot_map hj
              have wk : ∀ {D3 : Wy.Tb Spot}, Wy.FwM R S M m D0 (fun x y => ((x ∈ S.take i ∧ y ∈ S) ∨ (x = a ∧ y ∈ S.take j)) ∨ (x = a ∧ y = b)) D3 → Wy.FwM R S M m D0 (fun x y => (x ∈ S.take i ∧ y ∈ S) ∨ (x = a ∧ y ∈ S.take (j + 1))) D3 := fun F => F.weak fun x y h => by
                rcases h with h | ⟨h1, h2⟩
                · exact .inl (.inl h)
                · rw [List.take_add_one, hb] at h2
                  rcases List.mem_append.mp h2 with z | z
                  · exact .inl (.inr ⟨h1, z⟩)
                  · exact .inr ⟨h1, by simpa using z⟩
              refine ⟨_, rfl, _, rfl, by show 2 ≤ sizeLine; decide, fun t1 n1 => ?_⟩
              have s9 := same_upd (o := .tup [oV a, oV m]) n1
              have h1 : (upd H8 t1 (.tup [oV a, oV m])) t1 = some (.tup [oV a, oV m]) := upd_same
              have pd9 := pd.sm s9
              have sb9 : ∀ b' o, b' ≠ fq → H4 b' = some o → (upd H8 t1 (.tup [oV a, oV m])) b' = some o := fun b' o n e => s9 _ _ (sb8 b' o n e)
              generalize upd H8 t1 (.tup [oV a, oV m]) = H9 at h1 pd9 sb9 ⊢
              refine ⟨_, rfl, fq, ks, (a, m), t1, rfl, pd9, rfl, h1, _, rfl, ?_⟩
              rw [hv]
              cases e1 : D2 a m with
              | none => exact iteF (iteF ⟨_, _, D2, rfl, sb9, ⟨ks, pd9, hv⟩, wk (fm.pass mm (.inl e1))⟩)
              | some x =>
                refine iteT ⟨_, rfl, _, rfl, by show 2 ≤ sizeLine; decide, fun t2 n2 => ?_⟩
                have s10 := same_upd (o := .tup [oV m, oV b]) n2
                have h2 : (upd H9 t2 (.tup [oV m, oV b])) t2 = some (.tup [oV m, oV b]) := upd_same
                have pd10 := pd9.sm s10
                have sb10 : ∀ b' o, b' ≠ fq → H4 b' = some o → (upd H9 t2 (.tup [oV m, oV b])) b' = some o := fun b' o n e => s10 _ _ (sb9 b' o n e)
                generalize upd H9 t2 (.tup [oV m, oV b]) = H10 at h2 pd10 sb10 ⊢
                refine ⟨_, rfl, fq, ks, (m, b), t2, rfl, pd10, rfl, h2, _, rfl, ?_⟩
                rw [hv]
                cases e2 : D2 m b with
                | none => exact iteF ⟨_, _, D2, rfl, sb10, ⟨ks, pd10, hv⟩, wk (fm.pass mm (.inr e2))⟩
                | some y =>
                  refine iteT ⟨_, rfl, _, rfl, _, rfl, by show 2 ≤ sizeLine; decide, fun t3 n3 => ?_⟩
                  have s11 := same_upd (o := .tup [oV a, oV m]) n3
                  have h3 : (upd H10 t3 (.tup [oV a, oV m])) t3 = some (.tup [oV a, oV m]) := upd_same
                  have pd11 := pd10.sm s11
                  have sb11 : ∀ b' o, b' ≠ fq → H4 b' = some o → (upd H10 t3 (.tup [oV a, oV m])) b' = some o := fun b' o n e => s11 _ _ (sb10 b' o n e)
                  generalize upd H10 t3 (.tup [oV a, oV m]) = H11 at h3 pd11 sb11 ⊢
                  refine ⟨fq, ks, (a, m), t3, .int x, rfl, pd11, rfl, h3, by rw [hv, e1]; rfl, _, rfl, _, rfl, _, rfl, by show 2 ≤ sizeLine; decide, fun t4 n4 => ?_⟩
                  have s12 := same_upd (o := .tup [oV m, oV b]) n4
                  have h4 : (upd H11 t4 (.tup [oV m, oV b])) t4 = some (.tup [oV m, oV b]) := upd_same
                  have pd12 := pd11.sm s12
                  have sb12 : ∀ b' o, b' ≠ fq → H4 b' = some o → (upd H11 t4 (.tup [oV m, oV b])) b' = some o := fun b' o n e => s12 _ _ (sb11 b' o n e)
                  generalize upd H11 t4 (.tup [oV m, oV b]) = H12 at h4 pd12 sb12 ⊢
                  refine ⟨fq, ks, (m, b), t4, .int y, rfl, pd12, rfl, h4, by rw [hv, e2]; rfl, _, _, rfl, rfl, ?_⟩
                  refine ⟨_, rfl, fq, rfl, ⟨_, pd12⟩, _, rfl, _, rfl, by show 2 ≤ sizeLine; decide, fun t5 n5 => ?_⟩
                  have s13 := same_upd (o := .tup [oV a, oV b]) n5
                  have h5 : (upd H12 t5 (.tup [oV a, oV b])) t5 = some (.tup [oV a, oV b]) := upd_same
                  have pd13 := pd12.sm s13
                  have sb13 : ∀ b' o, b' ≠ fq → H4 b' = some o → (upd H12 t5 (.tup [oV a, oV b])) b' = some o := fun b' o n e => s13 _ _ (sb12 b' o n e)
                  generalize upd H12 t5 (.tup [oV a, oV b]) = H13 at h5 pd13 sb13 ⊢
                  refine ⟨_, rfl, ks, (a, b), t5, pd13, rfl, h5, _, rfl, ?_⟩
                  rw [hv, up2_at D2 a b]
                  refine ⟨_, _, rfl, _, rfl, _, rfl, _, rfl, by show 2 ≤ sizeLine; decide, fun t6 n6 => ?_⟩
                  have s14 := same_upd (o := .tup [oV a, oV b]) n6
                  have h6 : (upd H13 t6 (.tup [oV a, oV b])) t6 = some (.tup [oV a, oV b]) := upd_same
                  have pd14 := pd13.sm s14
                  have sb14 : ∀ b' o, b' ≠ fq → H4 b' = some o → (upd H13 t6 (.tup [oV a, oV b])) b' = some o := fun b' o n e => s14 _ _ (sb13 b' o n e)
                  generalize upd H13 t6 (.tup [oV a, oV b]) = H14 at h6 pd14 sb14 ⊢
                  refine ⟨fq, ks, (a, b), t6, rfl, pd14, rfl, h6, pd_len pd14 hv fm.inS lZ, fun o pd15 _ => ?_⟩
                  rw [min_is] at pd15
                  exact ⟨_, _, _, rfl, fun b' o' n e => by rw [upd_ne n]; exact sb14 b' o' n e, DAt.put pd15 hv, wk (fm.step mm e1 e2)⟩
            · rintro σ H8 ⟨x7, x8, D2, rfl, sb8, dt8, fm⟩
              rw [show (S.map oV).length = S.length from List.length_map .., List.take_length] at fm
              refine ⟨_, _, _, D2, rfl, sb8, dt8, fm.weak fun x y h => ?_⟩
              rw [List.take_add_one, ha] at h
              rcases List.mem_append.mp h.1 with z | z
              · exact .inl ⟨z, h.2⟩
              · exact .inr ⟨by simpa using z, h.2⟩
          · rintro σ H7 ⟨x6, x7, x8, D1, rfl, sb7, dt7, fm⟩
            rw [show (S.map oV).length = S.length from List.length_map .., List.take_length] at fm
            refine ⟨_, _, _, _, D1, m :: M, rfl, sb7, dt7, fm.real, fm.inS, fun x hx => ?_, fm.last mm ng, fun a ha => ?_⟩
            · rw [List.take_add_one, hm] at hx
              rcases List.mem_append.mp hx with z | z
              · exact List.mem_cons_of_mem _ (hM x z)
              · have : x = m := by simpa using z
                rw [this]
                exact List.mem_cons_self ..
            · obtain ⟨z, hz⟩ := dia a ha
              obtain ⟨y, hy, _⟩ := fm.und a a z ⟨z, hz, Int.le_refl _⟩
              exact ⟨y, hy⟩
        · rintro σ H6 ⟨x5, x6, x7, x8, D0, M, rfl, sb6, dt6, real, inS, hM, ng, dia⟩
          rw [show (S.map oV).length = S.length from List.length_map .., List.take_length] at hM
          exact ⟨_, rfl, endq H6 fq D0 ⟨real, inS, ng.imp id fun g => good_mono g hM, dia⟩ dt6 nfq0 fun b o e => sb6 _ _ (fun z => by rw [z, nfq0] at e; cases e) (s04 _ _ e)⟩
end
end Lm
/-! _law_has_ring, _law_sum_of. -/
namespace Lm
open PySem PySem.Spec PyProof.Rows L2
/-! ### no ring: there is a point that keeps all rows -/
theorem least_of {α : Type} (f : α → Option Int) : ∀ l : List α, (∀ s ∈ l, f s = none) ∨ ∃ s ∈ l, ∃ z, f s = some z ∧ ∀ s' ∈ l, ∀ z', f s' = some z' → z ≤ z'
  | [] => .inl fun _ h => nomatch h
  | x :: r => by
    cases hx : f x with
    | none =>
      rcases least_of f r with h | ⟨s, hs, z, e, k⟩
      · exact .inl fun s hs => (List.mem_cons.mp hs).elim (fun e => by rw [e]; exact hx) (h s)
      · refine .inr ⟨s, List.mem_cons_of_mem _ hs, z, e, fun s' hs' z' e' => ?_⟩
        rcases List.mem_cons.mp hs' with q | q
        · rw [q, hx] at e'
          cases e'
        · exact k s' q z' e'
    | some y =>
      rcases least_of f r with h | ⟨s, hs, z, e, k⟩
      · refine .inr ⟨x, List.mem_cons_self .., y, hx, fun s' hs' z' e' => ?_⟩
        rcases List.mem_cons.mp hs' with q | q
        · rw [q, hx] at e'
          cases e'
          exact Int.le_refl _
        · rw [h s' q] at e'
          cases e'
      · by_cases c : y ≤ z
        · refine .inr ⟨x, List.mem_cons_self .., y, hx, fun s' hs' z' e' => ?_⟩
          rcases List.mem_cons.mp hs' with q | q
          · rw [q, hx] at e'
            cases e'
            exact Int.le_refl _
          · exact Int.le_trans c (k s' q z' e')
        · refine .inr ⟨s, List.mem_cons_of_mem _ hs, z, e, fun s' hs' z' e' => ?_⟩
          rcases List.mem_cons.mp hs' with q | q
          · rw [q, hx] at e'
            cases e'
            omega
          · exact k s' q z' e'
def MinAt (S : List Spot) (D : Wy.Tb Spot) (x : Spot) (z : Int) : Prop := (∃ s ∈ S, D s x = some z) ∧ ∀ s' ∈ S, ∀ z', D s' x = some z' → z ≤ z'
theorem MinAt.uniq {S : List Spot} {D : Wy.Tb Spot} {x : Spot} {z y : Int} (h : MinAt S D x z) (k : MinAt S D x y) : z = y := by
  obtain ⟨⟨s, hs, e⟩, h2⟩ := h
  obtain ⟨⟨t, ht, e'⟩, k2⟩ := k
  exact Int.le_antisymm (h2 t ht y e') (k2 s hs z e)
theorem pot_of_good {R : Rws} {S : List Spot} {D : Wy.Tb Spot} (G : Wy.Good R S S D) (hS : ∀ a b c, (a, b, c) ∈ R → a ∈ S ∧ b ∈ S) : HasPot R := by
  have ex : ∀ x ∈ S, ∃ z, MinAt S D x z := fun x hx => by
    rcases least_of (fun s => D s x) S with h | ⟨s, hs, z, e, k⟩
    · have := h x hx
      rw [show D x x = some 0 from G.dia x hx] at this
      cases this
    · exact ⟨z, ⟨s, hs, e⟩, k⟩
  classical
  refine ⟨fun x => if h : ∃ z, MinAt S D x z then - Classical.choose h else 0, fun r hr => ?_⟩
  obtain ⟨a, b, c⟩ := r
  obtain ⟨ha, hb⟩ := hS a b c hr
  have h1 := ex a ha
  have h2 := ex b hb
  show (if h : ∃ z, MinAt S D a z then - Classical.choose h else 0) - (if h : ∃ z, MinAt S D b z then - Classical.choose h else 0) ≤ c
  rw [dif_pos h1, dif_pos h2]
  obtain ⟨⟨s, hs, e⟩, _⟩ := Classical.choose_spec h1
  have k := (Classical.choose_spec h2).2
  obtain ⟨y, e2, l⟩ := G.row _ hr
  have l : y ≤ c := l
  obtain ⟨u, e3, l3⟩ := G.via a ha s b _ _ e e2
  have := k s hs u e3
  omega
theorem ClIs.pot {R : Rws} {S : List Spot} {D : Wy.Tb Spot} (C : ClIs R S D) (hS : ∀ a b c, (a, b, c) ∈ R → a ∈ S ∧ b ∈ S) : (HasRing R ∧ Wy.Neg S D) ∨ (HasPot R ∧ Wy.Good R S S D) :=
  C.fin.imp (fun h => ⟨h.ring C.real, h⟩) fun h => ⟨pot_of_good h hS, h⟩
/-! ### a list against [] -/
theorem ne_nil_r {K : PySem.W.Frag} {H : Hp} {a b : Addr} {xs : List V} {ds : List PyData} {Q : VK} (hs : SqL K H a xs) (hd : DpAll K H xs ds) (lay : PyData.canLayAll0 ds = true) (dep : PyData.depthAll ds ≤ 50) (hb : H b = some (.lst [])) (q : Q (.bl (!ds.isEmpty)) H) : rNeD K (.ref a) (.ref b) H Q :=
  ⟨.list ds, .list [], .lst hs hd, .lst (SqL.of hb) .nil, shaped_lay lay dep, by decide +kernel, by rw [eqv_nil]; exact q⟩
theorem dp_spots {K : PySem.W.Frag} {H : Hp} : ∀ l : List Spot, DpAll K H (l.map oV) (l.map oD)
  | [] => .nil
  | none :: r => .cons .non (dp_spots r)
  | some x :: r => .cons (.str x) (dp_spots r)
def OkS (l : List Spot) : Prop := ∀ o ∈ l, ∀ x, o = some x → PyData.strOk x = true
theorem lay_spots : ∀ l : List Spot, OkS l → PyData.canLayAll0 (l.map oD) = true ∧ PyData.depthAll (l.map oD) ≤ 50
  | [], _ => by simp [PyData.canLayAll0, PyData.depthAll]
  | o :: r, h => by
    obtain ⟨h1, h2⟩ := lay_spots r fun o ho => h o (List.mem_cons_of_mem _ ho)
    cases o with
    | none => simp [PyData.canLayAll0, PyData.canLay0, PyData.depthAll, PyData.depth, oD, h1, h2]
    | some x =>
      have := h (some x) (List.mem_cons_self ..) x rfl
      simp [PyData.canLayAll0, PyData.canLay0, PyData.depthAll, PyData.depth, oD, h1, h2, this]
theorem ok_spotz {R : Rws} {ys : List Str} (hn : NmsOf R ys) (ok : ∀ o ∈ sidesR R, ∀ x, o = some x → PyData.strOk x = true) : OkS (spotz ys) := by
  rintro o ho x rfl
  rcases List.mem_append.mp ho with h | h
  · obtain ⟨y, hy, e⟩ := List.mem_map.mp h
    cases e
    exact ok _ ((hn.iff x).mp hy) x rfl
  · rw [List.mem_singleton] at h
    cases h
theorem lay_ints : ∀ l : List Int, PyData.canLayAll0 (l.map PyData.int) = true ∧ PyData.depthAll (l.map PyData.int) = 0
  | [] => by simp [PyData.canLayAll0, PyData.depthAll]
  | o :: r => by
    obtain ⟨h1, h2⟩ := lay_ints r
    simp [PyData.canLayAll0, PyData.canLay0, PyData.depthAll, PyData.depth, h1, h2]
section
variable {P : Program} {w : World} {K : PySem.W.Frag} {mg : Str → Option Value} {base : Heap}
abbrev sHr : Stmt := topS 49
def nHr : List Str := ["rows", "closest", "side"]
theorem scHr : FnScope nHr ["rows"] (defScope sHr) := ⟨rfl, rfl, rfl, by decide +kernel, rfl, by decide +kernel, by decide +kernel⟩
def spHr : Sp := fun vs H Q _ => ∃ (p : Addr) (R : Rws), vs = [.ref p] ∧ RLs H p R ∧ (∀ H', HasRing R → Same H H' → Q (.bl true) H') ∧ (∀ H', HasPot R → Same H H' → Q (.bl false) H')
theorem ok_hr {f : Addr} {fd : FuncData} (F : Fun K "_law_has_ring" "_law_has_ring" sHr f fd) (GS : Has P w K mg base CX0 1 "_law_sides" ["rows"] spSd) (GC : Has P w K mg base CX0 2 "_law_closest" ["rows"] (spCl P w)) : FnOk P w K mg base CX0 3 f fd ["rows"] spHr := by
  refine F.ok scHr (fun vs H Q E h => ?_) (fun cdv A outer s H vs Q E hr h => ?_)
  · obtain ⟨p, R, rfl, _⟩ := h
    rfl
  · obtain ⟨p, R, rfl, rl, q1, q2⟩ := h
    have hu := hr.units
    refine ⟨_, pss_cons (ps_set (i := 1) scHr.nd rfl (.inr rfl) (pe_h GC hr (by decide) (by rfl) pass0 (pa_cons (pv 0) pa_nil)))
      (pss_one (ps_ret (pe_cmpR (show OpR _ _ (rNeD K) from op_neD hu) (pe_lc (own := [("side", 2)]) (g := gName 2) rfl scHr.nd (pi_listK K (pe_op op_cat (pe_h GS hr (by decide) (by rfl) pass0 (pa_cons (pv 0) pa_nil)) (pe_lst (pa_cons pe_non pa_nil)))) (blkOk_by (own := [("side", 2)]) (N := nHr) (sc := defScope sHr) (by decide +kernel))
          (fun _ _ _ _ _ => pg_name (i := 2) scHr.nd rfl (Or.inl rfl)) (fun _ _ _ _ _ => pts_one (pt_cmpR op_lt (pe_dgetXP P w hu (pv 1) (pe_tup (pa_cons (pv 2) (pa_cons (pv 2) pa_nil))) (fun _ _ => rfl)) pe_int (nomark _))) (fun _ _ _ _ _ => pv 2)) (pe_lst pa_nil) (nomark _)))), ?_⟩
    refine ⟨_, rfl, p, R, rfl, rl, fun H1 cq ys D hn cl dt ncq s1 => ?_⟩
    refine ⟨_, rfl, p, R, rfl, rl.sm s1, fun H2 sq ys2 hn2 nsq hsq s2 => ?_⟩
    have e := AscOf.uniq hn2 hn fun _ => Iff.rfl
    subst e
    obtain ⟨us, _, _, _, _, l30, okn⟩ := id rl
    have lys := hn2.len l30
    refine ⟨by show 1 ≤ sizeLine; decide, fun t nt => ⟨sq, t, _, _, rfl, rfl, same_upd nt _ _ hsq, upd_same, small10000 (by rw [List.length_map]; show ys2.length + 1 ≤ 10000; omega), fun sd nsd => ?_⟩⟩
    have s3 : Same H2 (upd (upd H2 t (.lst [.non])) sd (.lst (ys2.map V.str ++ [.non]))) := fun b o e => same_upd nsd _ _ (same_upd nt _ _ e)
    have hsd : (upd (upd H2 t (.lst [.non])) sd (.lst (ys2.map V.str ++ [.non]))) sd = some (.lst ((spotz ys2).map oV)) := by
      rw [upd_same]
      unfold spotz
      rw [List.map_append, List.map_map]
      rfl
    have dt3 := (dt.sm s2).sm s3
    have s03 : Same H (upd (upd H2 t (.lst [.non])) sd (.lst (ys2.map V.str ++ [.non]))) := fun b o e => s3 _ _ (s2 _ _ (s1 _ _ e))
    generalize upd (upd H2 t (.lst [.non])) sd (.lst (ys2.map V.str ++ [.non])) = H3 at hsd dt3 s03 ⊢
    have inZ : ∀ a b c, (a, b, c) ∈ R → a ∈ spotz ys2 ∧ b ∈ spotz ys2 := fun a b c h => let ⟨x, y⟩ := hn2.mem a b c h; ⟨spotz_mem.mpr x, spotz_mem.mpr y⟩
    have lZ : (spotz ys2).length ≤ 61 := by rw [spotz_len]; omega
    have okZ := ok_spotz hn2 okn
    generalize hS : spotz ys2 = S at hsd inZ lZ cl okZ
    obtain ⟨ks, pd, hv⟩ := dt3
    refine ⟨sd, rfl, ⟨_, SqL.of hsd⟩, fun R1 nR => lc_list (K := K) (a := sd) (xs := S.map oV) (fun i H' => Same H3 H' ∧ H' R1 = some (.lst (((S.take i).filter fun s => match D s s with | some z => decide (z < 0) | none => false).map oV))) ⟨same_upd nR, upd_same⟩ (fun i H' _ z => SqL.of (z.1 _ _ hsd)) ?_ ?_⟩
    · rintro i xv H4 hi ⟨s4, hR⟩
      obtain ⟨o, ho, rfl⟩ := spot_map hi
      have mo := List.mem_of_getElem? ho
      obtain ⟨z, hz⟩ := cl.dia o mo
      have stp : (S.take (i + 1)).filter (fun s => match D s s with | some z => decide (z < 0) | none => false) = (S.take i).filter (fun s => match D s s with | some z => decide (z < 0) | none => false) ++ if decide (z < 0) = true then [o] else [] := by
        rw [List.take_add_one, ho, List.filter_append]
        congr 1
        show List.filter _ [o] = _
        rw [List.filter_cons]
        rw [hz]
        rfl
      refine ⟨rfl, _, rfl, _, rfl, _, rfl, by show 2 ≤ sizeLine; decide, fun t nt => ?_⟩
      have s5 := same_upd (o := .tup [oV o, oV o]) nt
      have s35 : Same H3 (upd H4 t (.tup [oV o, oV o])) := fun b x e => s5 _ _ (s4 _ _ e)
      refine ⟨cq, ks, (o, o), t, .int z, rfl, pd.sm s35, rfl, upd_same, by rw [hv, hz]; rfl, _, _, rfl, rfl, _, rfl, ?_⟩
      have hR5 := s5 _ _ hR
      by_cases lz : z < 0
      · rw [decide_eq_true lz] at stp ⊢
        refine iteT ⟨_, rfl, _, hR5, ?_, same_put s35 nR, ?_⟩
        · have h1 : ((S.take i).filter fun s => match D s s with | some z => decide (z < 0) | none => false).length ≤ (S.take i).length := List.length_filter_le _ _
          have h2 : (S.take i).length ≤ S.length := by rw [List.length_take]; omega
          exact small1000 (by rw [List.length_map]; omega)
        · rw [upd_same, stp, List.map_append]
          rfl
      · rw [decide_eq_false lz] at stp ⊢
        refine iteF ⟨s35, ?_⟩
        rw [stp]
        show _ = some (HO.lst ((_ ++ []).map oV))
        rw [List.append_nil]
        exact hR5
    · rintro H4 ⟨s4, hR⟩
      rw [show (S.map oV).length = S.length from List.length_map .., List.take_length] at hR
      refine ⟨Nat.zero_le _, fun b nb => ?_⟩
      have s5 := same_upd (o := .lst []) nb
      have s05 : Same H (upd H4 b (.lst [])) := fun c x e => s5 _ _ (s4 _ _ (s03 _ _ e))
      have lay := lay_spots (S.filter fun s => match D s s with | some z => decide (z < 0) | none => false) fun o ho => okZ o (List.mem_filter.mp ho).1
      refine ne_nil_r (SqL.of (s5 _ _ hR)) (dp_spots _) lay.1 lay.2 upd_same ?_
      rcases cl.pot inZ with ⟨ring, ⟨a, ha, z, hz, lz⟩⟩ | ⟨pot, good⟩
      · have ne : ((S.filter fun s => match D s s with | some z => decide (z < 0) | none => false).map oD).isEmpty = false := by
          have m : a ∈ S.filter fun s => match D s s with | some z => decide (z < 0) | none => false := List.mem_filter.mpr ⟨ha, by rw [hz]; exact decide_eq_true lz⟩
          cases e : S.filter fun s => match D s s with | some z => decide (z < 0) | none => false with
          | nil => rw [e] at m; cases m
          | cons _ _ => rfl
        rw [ne]
        exact q1 _ ring s05
      · have em : (S.filter fun s => match D s s with | some z => decide (z < 0) | none => false) = [] := List.filter_eq_nil_iff.mpr fun s hs => by
          rw [good.dia s hs]
          decide
        rw [em]
        exact q2 _ pot s05
/-! ### the sum of a way -/
def sumR (R : Rws) (l : List Nat) : Int := (l.map fun k => match R[k]? with | some r => r.2.2 | none => 0).sum
theorem sum_way {R : Rws} {a b : Spot} {l : List Nat} {z : Int} (h : Wy.Way R a l b z) : sumR R l = z := by
  induction h with
  | nil => rfl
  | cons hr _ ih =>
    unfold sumR at ih ⊢
    rw [List.map_cons, List.sum_cons, ih, hr]
abbrev sSm : Stmt := topS 46
def nSm : List Str := ["rows", "way", "turn"]
theorem scSm : FnScope nSm ["rows", "way"] (defScope sSm) := ⟨rfl, rfl, rfl, by decide +kernel, rfl, by decide +kernel, by decide +kernel⟩
theorem cr_sumK {X : Cx} (K : PySem.W.Frag) (hc : X.calm = true) (hK : X.K = K := by rfl) : CallR X (.builtin "sum") (rSum K) := by
  subst hK
  exact cr_sum hc
def spSm : Sp := fun vs H Q _ => ∃ (p wq : Addr) (R : Rws) (l : List Nat), vs = [.ref p, .ref wq] ∧ RLs H p R ∧ H wq = some (.lst (natL l)) ∧ (∀ k ∈ l, k < R.length) ∧ l.length ≤ 1000 ∧ ∀ H', Same H H' → Q (.int (sumR R l)) H'
theorem ok_sm {f : Addr} {fd : FuncData} (F : Fun K "_law_sum_of" "_law_sum_of" sSm f fd) (hsum : mg "sum" = none) : FnOk P w K mg base CX0 1 f fd ["rows", "way"] spSm := by
  refine F.ok scSm (fun vs H Q E h => ?_) (fun cdv A outer s H vs Q E hr h => ?_)
  · obtain ⟨p, wq, R, l, rfl, _⟩ := h
    rfl
  · obtain ⟨p, wq, R, l, rfl, ⟨us, hp, lu, hu', ne, l30, okn⟩, hw, lt, ll, q⟩ := h
    refine ⟨_, pss_one (ps_ret (pe_callB (cr_sumK K rfl) (by rfl) hsum (by decide +kernel) (pa_cons (pe_lc (own := [("turn", 2)]) (g := gName 2) (tt := tYes) rfl scSm.nd (pi_listK K (pv 1)) (blkOk_by (own := [("turn", 2)]) (N := nSm) (sc := defScope sSm) (by decide +kernel))
          (fun _ _ _ _ _ => pg_name (i := 2) scSm.nd rfl (Or.inl rfl)) (fun _ _ _ _ _ => pts_nil) (fun _ _ _ _ _ => pe_ix (ix_tupK K) (pe_ix (ix_listK K) (pv 0) (pv 2) (fun _ _ => rfl)) pe_int (fun _ _ => rfl))) pa_nil))), ?_⟩
    refine ⟨_, rfl, wq, rfl, ⟨_, SqL.of hw⟩, fun D nD => lc_list (K := K) (a := wq) (xs := natL l) (fun i H' => Same H H' ∧ H' D = some (.lst (((l.take i).map fun k => match R[k]? with | some r => r.2.2 | none => 0).map V.int))) ⟨same_upd nD, upd_same⟩ (fun i H' _ z => SqL.of (z.1 _ _ hw)) ?_ ?_⟩
    · rintro i xv H1 hi ⟨s1, hD⟩
      unfold natL at hi
      rw [List.getElem?_map] at hi
      obtain ⟨k, hk, rfl⟩ : ∃ k, l[i]? = some k ∧ xv = .int ((k : Nat) : Int) := by
        cases e : l[i]? with
        | none => rw [e] at hi; cases hi
        | some k => rw [e] at hi; exact ⟨k, rfl, (Option.some.inj hi).symm⟩
      have hl := lt k (List.mem_of_getElem? hk)
      have li : i < l.length := (List.getElem?_eq_some_iff.mp hk).1
      obtain ⟨u, hu1⟩ : ∃ u, us[k]? = some u := ⟨us[k], List.getElem?_eq_getElem (by omega)⟩
      obtain ⟨⟨a, b, c⟩, hr', q0, rfl, hq0⟩ := hu' k u hu1
      refine ⟨rfl, _, rfl, _, rfl, p, us, _, _, rfl, rfl, SqL.of (s1 _ _ hp), atI_nat hu1, q0, _, 2, _, rfl, rfl, SqT.of (s1 _ _ hq0), atI_nat (j := 2) rfl, _, hD, by rw [List.length_map, List.length_map, List.length_take]; exact small1000 (by omega), same_put s1 nD, ?_⟩
      rw [upd_same, List.take_add_one, hk, List.map_append, List.map_append]
      show _ = some (HO.lst (_ ++ [V.int (match R[k]? with | some r => r.2.2 | none => 0)]))
      rw [hr']
    · rintro H1 ⟨s1, hD⟩
      rw [show (natL l).length = l.length from List.length_map .., List.take_length] at hD
      exact ⟨D, _, rfl, SqL.of hD, q H1 s1⟩
end
end Lm
/-! _law_ways. -/
namespace Lm
open PySem PySem.Spec PyProof.Rows L2
/-- a way with its end, as a tuple -/
def LnX (H : Hp) (D : Addr) (x : V) (e : List Nat × Spot) : Prop := ∃ t l, x = .ref t ∧ H t = some (.tup [.ref l, oV e.2]) ∧ H l = some (.lst (natL e.1)) ∧ t ≠ D ∧ l ≠ D
theorem LnX.but {H H' : Hp} {D : Addr} {x : V} {e : List Nat × Spot} (h : LnX H D x e) (s : ∀ b o, b ≠ D → H b = some o → H' b = some o) : LnX H' D x e := let ⟨t, l, e1, h1, h2, n1, n2⟩ := h; ⟨t, l, e1, s _ _ n1 h1, s _ _ n2 h2, n1, n2⟩
def LnAt (H : Hp) (x : V) (e : List Nat × Spot) : Prop := ∃ t l, x = .ref t ∧ H t = some (.tup [.ref l, oV e.2]) ∧ H l = some (.lst (natL e.1))
theorem LnAt.sm {H H' : Hp} {x : V} {e : List Nat × Spot} (h : LnAt H x e) (s : Same H H') : LnAt H' x e := let ⟨t, l, e1, h1, h2⟩ := h; ⟨t, l, e1, s _ _ h1, s _ _ h2⟩
def WyX (H : Hp) (D : Addr) (x : V) (e : List Nat) : Prop := ∃ l, x = .ref l ∧ H l = some (.lst (natL e)) ∧ l ≠ D
def WyAt (H : Hp) (x : V) (e : List Nat) : Prop := ∃ l, x = .ref l ∧ H l = some (.lst (natL e))
theorem WyAt.sm {H H' : Hp} {x : V} {e : List Nat} (h : WyAt H x e) (s : Same H H') : WyAt H' x e := let ⟨l, e1, h1⟩ := h; ⟨l, e1, s _ _ h1⟩
theorem paired_app {α β : Type} {F : α → β → Prop} {l l' : List α} {m m' : List β} (h : Paired F l m) (k : Paired F l' m') : Paired F (l ++ l') (m ++ m') := by
  induction h with
  | nil => exact k
  | cons f _ ih => exact .cons f ih
theorem paired_get {α β : Type} {F : α → β → Prop} {l : List α} {m : List β} (h : Paired F l m) : ∀ {i : Nat} {x : α}, l[i]? = some x → ∃ y, m[i]? = some y ∧ F x y := by
  induction h with
  | nil => intro i x e; simp at e
  | cons f _ ih =>
    intro i x e
    cases i with
    | zero =>
      simp at e
      subst e
      exact ⟨_, rfl, f⟩
    | succ i =>
      obtain ⟨y, h1, h2⟩ := ih (i := i) (by simpa using e)
      exact ⟨y, by simpa using h1, h2⟩
theorem paired_len {α β : Type} {F : α → β → Prop} {l : List α} {m : List β} (h : Paired F l m) : l.length = m.length := by
  induction h with
  | nil => rfl
  | cons _ _ ih => rw [List.length_cons, List.length_cons, ih]
def extI (R : Rws) (x : List Nat × Spot) (i : Nat) : List (List Nat × Spot) := ((R.take i).zipIdx.filter fun r => decide (r.1.1 = x.2)).map fun r => (x.1 ++ [r.2], r.1.2.1)
theorem extI_all (R : Rws) (x : List Nat × Spot) : extI R x R.length = Wy.ext1 R x := by
  unfold extI Wy.ext1
  rw [List.take_length]
theorem extI_step {R : Rws} {x : List Nat × Spot} {i : Nat} {a b : Spot} {c : Int} (h : R[i]? = some (a, b, c)) : extI R x (i + 1) = extI R x i ++ if a = x.2 then [(x.1 ++ [i], b)] else [] := by
  have li : (R.take i).length = i := by
    have := (List.getElem?_eq_some_iff.mp h).1
    rw [List.length_take]
    omega
  unfold extI
  rw [List.take_add_one, h, List.zipIdx_append, List.filter_append, List.map_append]
  congr 1
  rw [li]
  show (List.filter _ [((a, b, c), 0 + i)]).map _ = _
  rw [List.filter_cons, Nat.zero_add]
  by_cases e : a = x.2
  · rw [if_pos e, if_pos (show decide (((a, b, c), i).1.1 = x.2) = true from decide_eq_true e)]
    rfl
  · rw [if_neg e, if_neg (show ¬ decide (((a, b, c), i).1.1 = x.2) = true from by rw [decide_eq_false e]; decide)]
    rfl
theorem ext1_len (R : Rws) (x : List Nat × Spot) : (Wy.ext1 R x).length ≤ R.length := by
  rw [← extI_all]
  unfold extI
  rw [List.length_map]
  refine Nat.le_trans (List.length_filter_le _ _) ?_
  rw [List.length_zipIdx, List.length_take]
  omega
theorem flat_len {R : Rws} : ∀ l : List (List Nat × Spot), (l.flatMap (Wy.ext1 R)).length ≤ l.length * R.length
  | [] => by simp
  | x :: l => by
    have h1 := ext1_len R x
    have h2 := flat_len (R := R) l
    rw [List.flatMap_cons, List.length_append, List.length_cons, Nat.add_mul]
    omega
theorem line_len {R : Rws} (h : R.length ≤ 7) (b : Spot) : ∀ k, (Wy.line R b k).length ≤ 7 ^ k
  | 0 => Nat.le_refl _
  | k + 1 => by
    have h1 := line_len h b k
    have h2 : (Wy.line R b (k + 1)).length ≤ (Wy.line R b k).length * R.length := flat_len _
    have h3 : (Wy.line R b k).length * R.length ≤ 7 ^ k * 7 := Nat.mul_le_mul h1 h
    rw [Nat.pow_succ]
    omega
/-- the ways with fewer than k rows -/
def upto (R : Rws) (b e : Spot) : Nat → List (List Nat)
  | 0 => []
  | k + 1 => upto R b e k ++ ((Wy.line R b k).filter fun x => decide (x.2 = e)).map (·.1)
theorem upto_ways (R : Rws) (b e : Spot) : ∀ k, upto R b e (k + 1) = Wy.waysTo R b e k
  | 0 => by
    show [] ++ _ = _
    rw [List.nil_append]
    rfl
  | k + 1 => by
    show upto R b e (k + 1) ++ _ = Wy.waysTo R b e k ++ _
    rw [upto_ways R b e k]
theorem upto_len {R : Rws} (h : R.length ≤ 7) (b e : Spot) : ∀ k, (upto R b e k).length ≤ k * 7 ^ k
  | 0 => Nat.le_refl _
  | k + 1 => by
    have h1 := upto_len h b e k
    have h2 := line_len h b k
    show (upto R b e k ++ _).length ≤ _
    rw [List.length_append, List.length_map]
    have h3 : ((Wy.line R b k).filter fun x => decide (x.2 = e)).length ≤ (Wy.line R b k).length := List.length_filter_le _ _
    rw [Nat.pow_succ, Nat.add_mul]
    have h4 : k * (7 ^ k * 7) = 7 * (k * 7 ^ k) := by rw [← Nat.mul_assoc, Nat.mul_comm]
    omega
section
variable {P : Program} {w : World} {K : PySem.W.Frag} {mg : Str → Option Value} {base : Heap}
abbrev sWs : Stmt := topS 47
def nWs : List Str := ["rows", "begin", "end", "size_here", "found", "line", "turn", "way", "here", "longer", "spot", "row"]
theorem scWs : FnScope nWs ["rows", "begin", "end", "size_here"] (defScope sWs) := ⟨rfl, rfl, rfl, by decide +kernel, rfl, by decide +kernel, by decide +kernel⟩
def spWs : Sp := fun vs H Q _ => ∃ (p : Addr) (R : Rws) (b e : Spot) (n : Nat), vs = [.ref p, oV b, oV e, .int ((n : Nat) : Int)] ∧ RLs H p R ∧ R.length ≤ 7 ∧ n ≤ 4 ∧ ∀ (H' : Hp) (q : Addr) (us : List V), H' q = some (.lst us) → Paired (WyAt H') us (Wy.waysTo R b e n) → Same H H' → H q = none → Q (.ref q) H'
theorem ok_ws {f : Addr} {fd : FuncData} (F : Fun K "_law_ways" "_law_ways" sWs f fd) (N : Bl mg) : FnOk P w K mg base CX0 1 f fd ["rows", "begin", "end", "size_here"] spWs := by
  refine F.ok scWs (fun vs H Q E h => ?_) (fun cdv A outer s H vs Q E hr h => ?_)
  · obtain ⟨p, R, b, e, n, rfl, _⟩ := h
    rfl
  · obtain ⟨p, R, b, e, n, rfl, ⟨us, hp, lu, hu', ne, l30, okn⟩, l7, n4, q⟩ := h
    refine ⟨_, pss_cons (ps_par (i := 4) (j := 5) rfl scWs.nd rfl rfl (by decide) rfl rfl (pa_cons (pe_lst pa_nil) (pa_cons (pe_lst (pa_cons (pe_tup (pa_cons (pe_lst pa_nil) (pa_cons (pv 1) pa_nil))) pa_nil)) pa_nil)) rfl)
      (pss_cons (ps_for PassesOwn.never rfl (pi_range1 (by rfl) N.brng (pa_cons (pe_op op_add (pv 3) pe_int) pa_nil)) (pg_name (i := 6) scWs.nd rfl (.inl rfl))
        (pss_cons (ps_set (i := 4) scWs.nd rfl (.inl rfl) (pe_op op_cat (pv 4) (pe_lc (own := [("way", 7), ("here", 8)]) (g := gTup K 2 (gCons (gName 7) (gCons (gName 8) gNil))) rfl scWs.nd (pi_listK K (pv 5)) (blkOk_by (own := [("way", 7), ("here", 8)]) (N := nWs) (sc := defScope sWs) (by decide +kernel))
            (fun _ _ _ _ _ => pg_tup rfl (pgs_cons (pg_name (i := 7) scWs.nd rfl (.inl rfl)) (pgs_cons (pg_name (i := 8) scWs.nd rfl (.inl rfl)) pgs_nil))) (fun _ _ _ _ _ => pts_one (pt_cmpR op_eq (pv 8) (pv 2) (nomark _))) (fun _ _ _ _ _ => pv 7))))
        (pss_cons (ps_set (i := 9) scWs.nd rfl (.inl rfl) (pe_lst pa_nil))
        (pss_cons (ps_for PassesOwn.never rfl (pi_listK K (pv 5)) (pg_tup rfl (pgs_cons (pg_name (i := 7) scWs.nd rfl (.inr rfl)) (pgs_cons (pg_name (i := 8) scWs.nd rfl (.inr rfl)) pgs_nil)))
          (pss_one (ps_set (i := 9) scWs.nd rfl (.inl rfl) (pe_op op_cat (pv 9) (pe_lc (own := [("spot", 10), ("row", 11)]) (g := gTup K 2 (gCons (gName 10) (gCons (gName 11) gNil))) rfl scWs.nd (pi_enumK K (by rfl) N.benu (pa_cons (pv 0) pa_nil)) (blkOk_by (own := [("spot", 10), ("row", 11)]) (N := nWs) (sc := defScope sWs) (by decide +kernel))
            (fun _ _ _ _ _ => pg_tup rfl (pgs_cons (pg_name (i := 10) scWs.nd rfl (.inl rfl)) (pgs_cons (pg_name (i := 11) scWs.nd rfl (.inl rfl)) pgs_nil))) (fun _ _ _ _ _ => pts_one (pt_cmpR op_eq (pe_ix (ix_tupK K) (pv 11) pe_int (fun _ _ => rfl)) (pv 8) (nomark _)))
            (fun _ _ _ _ _ => pe_tup (pa_cons (pe_op op_cat (pv 7) (pe_lst (pa_cons (pv 10) pa_nil))) (pa_cons (pe_ix (ix_tupK K) (pv 11) pe_int (fun _ _ => rfl)) pa_nil))))))))
        (pss_one (ps_set (i := 5) scWs.nd rfl (.inl rfl) (pe_ifExp (pt_cmpR op_lt (pv 6) (pv 3) (nomark _)) (pv 9) (pe_lst pa_nil))))))))
      (pss_one (ps_ret (pv 4)))), ?_⟩
    have hst : us.length = R.length := lu
    refine ⟨Nat.zero_le _, fun f0 nf0 => ⟨Nat.zero_le _, fun e0 ne0 => ⟨_, rfl, by show 2 ≤ sizeLine; decide, fun t0 nt0 => ⟨by show 1 ≤ sizeLine; decide, fun l0 nl0 => ?_⟩⟩⟩⟩
    have sA := same_upd (o := .lst []) nf0
    have sB := same_upd (o := .lst []) ne0
    have sC := same_upd (o := .tup [.ref e0, oV b]) nt0
    have sD := same_upd (o := .lst [.ref t0]) nl0
    have s1 : Same H (upd (upd (upd (upd H f0 (.lst [])) e0 (.lst [])) t0 (.tup [.ref e0, oV b])) l0 (.lst [.ref t0])) := fun x y z => sD _ _ (sC _ _ (sB _ _ (sA _ _ z)))
    have hf1 : (upd (upd (upd (upd H f0 (.lst [])) e0 (.lst [])) t0 (.tup [.ref e0, oV b])) l0 (.lst [.ref t0])) f0 = some (.lst []) := sD _ _ (sC _ _ (sB _ _ upd_same))
    have hl1 : (upd (upd (upd (upd H f0 (.lst [])) e0 (.lst [])) t0 (.tup [.ref e0, oV b])) l0 (.lst [.ref t0])) l0 = some (.lst [.ref t0]) := upd_same
    have ln1 : LnAt (upd (upd (upd (upd H f0 (.lst [])) e0 (.lst [])) t0 (.tup [.ref e0, oV b])) l0 (.lst [.ref t0])) (.ref t0) ([], b) := ⟨t0, e0, rfl, sD _ _ upd_same, sD _ _ (sC _ _ upd_same)⟩
    generalize upd (upd (upd (upd H f0 (.lst [])) e0 (.lst [])) t0 (.tup [.ref e0, oV b])) l0 (.lst [.ref t0]) = H1 at s1 hf1 hl1 ln1 ⊢
    have en : ((n : Int) + 1).toNat = n + 1 := by omega
    have np : ∀ {k : Nat}, k ≤ 5 → 7 ^ k ≤ 16807 := fun {k} hk => Nat.le_trans (Nat.pow_le_pow_right (by decide) hk) (by decide)
    have big : ∀ {m : Nat}, m ≤ 10000000 → m ≤ sizeLine := fun h => Nat.le_trans h (by rw [sizeLine_eq]; decide)
    refine ⟨_, _, rfl, _, rfl, _, _, rfl, rfl, (n : Int) + 1, rfl, by omega, by omega, for_range (fun k σ H' => ∃ (f ln : Addr) (fs ls : List V) (x6 x7 x8 x9 : Option V), σ = [some (.ref p), some (oV b), some (oV e), some (.int (n : Nat)), some (.ref f), some (.ref ln), x6, x7, x8, x9, none, none] ∧ Same H H' ∧ H' f = some (.lst fs) ∧ Paired (WyAt H') fs (upto R b e k) ∧ H f = none ∧ H' ln = some (.lst ls) ∧ (k ≤ n → Paired (LnAt H') ls (Wy.line R b k)))
      ⟨f0, l0, [], _, none, none, none, none, rfl, s1, hf1, .nil, nf0, hl1, fun _ => .cons ln1 .nil⟩ ?_ ?_⟩
    · rintro k σ H2 hk ⟨f, ln, fs, ls, x6, x7, x8, x9, rfl, s2, hf, pf, nf, hl, pl⟩
      rw [en] at hk
      have pl := pl (by omega)
      have hk5 : k ≤ 5 := by omega
      have lline : (Wy.line R b k).length ≤ 16807 := Nat.le_trans (line_len l7 b k) (np hk5)
      have lls := paired_len pl
      have lfs : fs.length ≤ 5 * 16807 := by
        have h1 := upto_len l7 b e k
        have h2 := np hk5
        have h3 : k * 7 ^ k ≤ 5 * 16807 := Nat.mul_le_mul hk5 h2
        rw [paired_len pf]
        omega
      generalize hL : Wy.line R b k = L at pl lline lls
      -- the ways that end at e
      refine ⟨_, rfl, _, rfl, ln, rfl, ⟨_, SqL.of hl⟩, fun D nD => lc_list (K := K) (a := ln) (xs := ls) (fun i H' => Same H2 H' ∧ ∃ acc, H' D = some (.lst acc) ∧ Paired (WyX H' D) acc (((L.take i).filter fun x => decide (x.2 = e)).map (·.1))) ⟨same_upd nD, [], upd_same, .nil⟩ (fun i H' _ z => SqL.of (z.1 _ _ hl)) ?_ ?_⟩
      · rintro i xv H3 hi ⟨s3, acc, hD, pa⟩
        obtain ⟨⟨wv, h⟩, hli, t, l, rfl, ht, hl2⟩ := paired_get pl hi
        have stp : ((L.take (i + 1)).filter fun x => decide (x.2 = e)).map (·.1) = ((L.take i).filter fun x => decide (x.2 = e)).map (·.1) ++ if h = e then [wv] else [] := by
          rw [List.take_add_one, hli, List.filter_append, List.map_append]
          congr 1
          show (List.filter _ [(wv, h)]).map _ = _
          rw [List.filter_cons]
          by_cases q : h = e
          · rw [if_pos q, if_pos (show decide ((wv, h).2 = e) = true from decide_eq_true q)]
            rfl
          · rw [if_neg q, if_neg (show ¬ decide ((wv, h).2 = e) = true from by rw [decide_eq_false q]; decide)]
            rfl
        refine ⟨t, _, rfl, SqT.of (s3 _ _ ht), rfl, _, _, rfl, _, _, rfl, rfl, rfl, _, rfl, _, rfl, oV_scal _ _, _, rfl, ?_⟩
        rw [oV_eq]
        by_cases q : h = e
        · rw [decide_eq_true q]
          rw [if_pos q] at stp
          have lD : l ≠ D := ne_of_none hl2 nD
          refine iteT ⟨_, rfl, acc, hD, ?_, same_put s3 nD, acc ++ [.ref l], upd_same, ?_⟩
          · have := paired_len pa
            rw [List.length_map] at this
            have h1 : ((L.take i).filter fun x => decide (x.2 = e)).length ≤ (L.take i).length := List.length_filter_le _ _
            have h2 : (L.take i).length ≤ L.length := by rw [List.length_take]; omega
            have := big (m := acc.length + 1) (by omega)
            omega
          · rw [stp]
            refine paired_app (paired_imp pa fun x y _ ⟨l', e1, h1, n1⟩ => ⟨l', e1, by rw [upd_ne n1]; exact h1, n1⟩) (.cons ⟨l, rfl, by rw [upd_ne lD]; exact s3 _ _ hl2, lD⟩ .nil)
        · rw [decide_eq_false q]
          rw [if_neg q, List.append_nil] at stp
          exact iteF ⟨s3, acc, hD, by rw [stp]; exact pa⟩
      · rintro H3 ⟨s3, acc, hD, pa⟩
        have ll : ls.length = L.length := lls
        rw [ll, List.take_length] at pa
        have la := paired_len pa
        rw [List.length_map] at la
        have h1 : (L.filter fun x => decide (x.2 = e)).length ≤ L.length := List.length_filter_le _ _
        refine ⟨f, D, fs, acc, rfl, rfl, s3 _ _ hf, hD, big (by omega), fun r nr => ?_⟩
        have s4 := same_upd (o := .lst (fs ++ acc)) nr
        have s23 : Same H2 (upd H3 r (.lst (fs ++ acc))) := fun x y z => s4 _ _ (s3 _ _ z)
        have hr4 : (upd H3 r (.lst (fs ++ acc))) r = some (.lst (fs ++ acc)) := upd_same
        have pf4 : Paired (WyAt (upd H3 r (.lst (fs ++ acc)))) (fs ++ acc) (upto R b e (k + 1)) := by
          show Paired _ _ (upto R b e k ++ _)
          rw [hL]
          exact paired_app (paired_imp pf fun x y _ h => h.sm s23) (paired_imp pa fun x y _ ⟨l', e1, h1, n1⟩ => ⟨l', e1, s4 _ _ h1⟩)
        have nr0 : H r = none := none_of s2 (none_of s3 nr)
        generalize upd H3 r (.lst (fs ++ acc)) = H4 at s23 hr4 pf4 ⊢
        clear s4 pa hD
        refine ⟨Nat.zero_le _, fun g ng => ?_⟩
        have s5 := same_upd (o := .lst []) ng
        have hg5 : (upd H4 g (.lst [])) g = some (.lst []) := upd_same
        have s25 : Same H2 (upd H4 g (.lst [])) := fun x y z => s5 _ _ (s23 _ _ z)
        have hr5 := s5 _ _ hr4
        have pf5 := paired_imp pf4 fun x y _ h => WyAt.sm h s5
        generalize upd H4 g (.lst []) = H5 at s25 hg5 hr5 pf5 ⊢
        -- the lines that go on
        refine ⟨_, rfl, ln, rfl, ⟨_, SqL.of (s25 _ _ hl)⟩, for_list (K := K) (a := ln) (xs := ls) (fun i σ H' => ∃ (lg : Addr) (lgs : List V) (x7 x8 : Option V), σ = [some (.ref p), some (oV b), some (oV e), some (.int (n : Nat)), some (.ref r), some (.ref ln), some (.int (0 + (k : Nat))), x7, x8, some (.ref lg), none, none] ∧ Same H5 H' ∧ H' lg = some (.lst lgs) ∧ Paired (LnAt H') lgs ((L.take i).flatMap (Wy.ext1 R)))
          ⟨g, [], x7, x8, rfl, fun _ _ z => z, hg5, .nil⟩ (fun i σ H' _ ⟨_, _, _, _, _, z, _⟩ => SqL.of (z _ _ (s25 _ _ hl))) ?_ ?_⟩
        · rintro i xv σ H6 hi ⟨lg, lgs, x7, x8, rfl, s6, hlg, pg⟩
          obtain ⟨⟨wv, h⟩, hli, t, l, rfl, ht, hl2⟩ := paired_get pl hi
          have s26 : Same H2 H6 := fun x y z => s6 _ _ (s25 _ _ z)
          have sH6 : Same H H6 := fun x y z => s26 _ _ (s2 _ _ z)
          have hl6 := s26 _ _ hl2
          have lwv : wv.length = k := (Wy.mem_line.mp (by rw [hL]; exact List.mem_of_getElem? hli)).1
          refine ⟨t, _, rfl, SqT.of (s26 _ _ ht), rfl, _, _, rfl, _, _, rfl, rfl, ?_⟩
          refine ⟨_, rfl, ?_⟩
          refine enum_it (fun Q q => ⟨_, rfl, q⟩) (.inl hp) sH6 fun J G hG wk => fun D nD => lc_it wk (fun i' H' => Same H6 H' ∧ ∃ acc, H' D = some (.lst acc) ∧ Paired (LnX H' D) acc (extI R (wv, h) i')) ⟨same_upd nD, [], upd_same, .nil⟩ (fun i' H' _ z => hG _ fun x y q => z.1 _ _ (sH6 _ _ q)) ?_ ?_
          · rintro j x H7 H8 hj ⟨s7, acc, hD, pa⟩ ⟨U, xv, rfl, nU, rfl, hxv⟩
            obtain ⟨⟨a, bb, c⟩, hr', q0, rfl, hq0⟩ := hu' j xv hxv
            have stp := extI_step (x := (wv, h)) hr'
            have s8 := same_upd (o := .tup [.int (j : Nat), .ref q0]) nU
            have hU : (upd H7 U (.tup [.int (j : Nat), .ref q0])) U = some (.tup [.int (j : Nat), .ref q0]) := upd_same
            have s68 : Same H6 (upd H7 U (.tup [.int (j : Nat), .ref q0])) := fun x y z => s8 _ _ (s7 _ _ z)
            have hD8 := s8 _ _ hD
            have pa8 := paired_imp pa fun x y _ h => LnX.but h fun b o _ z => s8 b o z
            generalize upd H7 U (.tup [.int (j : Nat), .ref q0]) = H8 at hU s68 hD8 pa8 ⊢
            have hq8 := s68 _ _ (sH6 _ _ hq0)
            refine ⟨U, _, rfl, SqT.of hU, rfl, _, _, rfl, _, _, rfl, rfl, rfl, _, rfl, q0, _, 0, _, rfl, rfl, SqT.of hq8, atI_nat (j := 0) rfl, _, rfl, oV_scal _ _, _, rfl, ?_⟩
            rw [oV_eq]
            by_cases q : a = h
            · rw [decide_eq_true q]
              rw [if_pos q] at stp
              refine iteT ⟨_, rfl, _, rfl, by show 1 ≤ sizeLine; decide, fun z nz => ⟨l, z, _, _, rfl, rfl, same_upd nz _ _ (s68 _ _ hl6), upd_same, ?_, fun r2 nr2 => ?_⟩⟩
              · unfold natL
                rw [List.length_map, lwv]
                exact big (by show k + 1 ≤ _; omega)
              have s9 : Same H8 (upd (upd H8 z (.lst [.int (j : Nat)])) r2 (.lst (natL wv ++ [.int (j : Nat)]))) := fun x y q => same_upd nr2 _ _ (same_upd nz _ _ q)
              have hr9 : (upd (upd H8 z (.lst [.int (j : Nat)])) r2 (.lst (natL wv ++ [.int (j : Nat)]))) r2 = some (.lst (natL (wv ++ [j]))) := by rw [upd_same, natL_app]
              have n2 : r2 ≠ D := (ne_of_none hD8 (none_of (same_upd nz) nr2)).symm
              generalize upd (upd H8 z (.lst [.int (j : Nat)])) r2 (.lst (natL wv ++ [.int (j : Nat)])) = H9 at s9 hr9 ⊢
              refine ⟨_, rfl, q0, _, 1, _, rfl, rfl, SqT.of (s9 _ _ hq8), atI_nat (j := 1) rfl, by show 2 ≤ sizeLine; decide, fun tt ntt => ?_⟩
              have s10 := same_upd (o := .tup [.ref r2, oV bb]) ntt
              have ht10 : (upd H9 tt (.tup [.ref r2, oV bb])) tt = some (.tup [.ref r2, oV bb]) := upd_same
              have hD10 := s10 _ _ (s9 _ _ hD8)
              have n3 : tt ≠ D := (ne_of_none (s9 _ _ hD8) ntt).symm
              have hr10 := s10 _ _ hr9
              have s610 : Same H6 (upd H9 tt (.tup [.ref r2, oV bb])) := fun x y q => s10 _ _ (s9 _ _ (s68 _ _ q))
              have pa10 := paired_imp pa8 fun x y _ h => LnX.but h fun b o _ q => s10 b o (s9 b o q)
              generalize upd H9 tt (.tup [.ref r2, oV bb]) = H10 at ht10 hD10 hr10 s610 pa10 ⊢
              refine ⟨acc, hD10, ?_, same_put s610 nD, acc ++ [.ref tt], upd_same, ?_⟩
              · have h1 := paired_len pa
                have h2 : (extI R (wv, h) j).length ≤ 30 := by
                  unfold extI
                  rw [List.length_map]
                  refine Nat.le_trans (List.length_filter_le _ _) ?_
                  rw [List.length_zipIdx, List.length_take]
                  omega
                exact small1000 (by omega)
              · rw [stp]
                exact paired_app (paired_imp pa10 fun x y _ h => LnX.but h fun b o n q => by rw [upd_ne n]; exact q) (.cons ⟨tt, r2, rfl, by rw [upd_ne n3]; exact ht10, by rw [upd_ne n2]; exact hr10, n3, n2⟩ .nil)
            · rw [decide_eq_false q]
              rw [if_neg q, List.append_nil] at stp
              exact iteF ⟨s68, acc, hD8, by rw [stp]; exact pa8⟩
          · rintro H7 ⟨s7, acc, hD, pa⟩
            rw [lu, extI_all] at pa
            have la := paired_len pa
            have lx := ext1_len R (wv, h)
            have lgl : lgs.length ≤ 16807 * 30 := by
              rw [paired_len pg]
              have h1 := flat_len (R := R) (L.take i)
              have h2 : (L.take i).length ≤ 16807 := by rw [List.length_take]; omega
              have h3 : (L.take i).length * R.length ≤ 16807 * 30 := Nat.mul_le_mul h2 l30
              omega
            refine ⟨lg, D, lgs, acc, rfl, rfl, s7 _ _ hlg, hD, big (by omega), fun r2 nr2 => ?_⟩
            have s8 := same_upd (o := .lst (lgs ++ acc)) nr2
            refine ⟨r2, _, _, _, rfl, fun x y z => s8 _ _ (s7 _ _ (s6 _ _ z)), upd_same, ?_⟩
            rw [List.take_add_one, hli, List.flatMap_append]
            refine paired_app (paired_imp pg fun x y _ h => (h.sm s7).sm s8) ?_
            show Paired _ acc ([(wv, h)].flatMap (Wy.ext1 R))
            rw [List.flatMap_cons, List.flatMap_nil, List.append_nil]
            exact paired_imp pa fun x y _ ⟨t, l, e1, h1, h2, _, _⟩ => ⟨t, l, e1, s8 _ _ h1, s8 _ _ h2⟩
        · rintro σ H6 ⟨lg, lgs, x7, x8, rfl, s6, hlg, pg⟩
          rw [ll, List.take_length] at pg
          have s26 : Same H2 H6 := fun x y z => s6 _ _ (s25 _ _ z)
          have sH6 : Same H H6 := fun x y z => s26 _ _ (s2 _ _ z)
          have pf6 := paired_imp pf5 fun x y _ h => WyAt.sm h s6
          refine ⟨_, rfl, _, rfl, _, _, rfl, rfl, _, rfl, ite2 (fun _ => ?_) (fun lt => ?_)⟩
          · refine ⟨_, rfl, r, lg, _, lgs, _, _, _, _, rfl, sH6, s6 _ _ hr5, pf6, nr0, hlg, fun _ => ?_⟩
            show Paired _ _ ((Wy.line R b k).flatMap (Wy.ext1 R))
            rw [hL]
            exact pg
          · refine ⟨Nat.zero_le _, fun z nz => ?_⟩
            have s7 := same_upd (o := .lst []) nz
            refine ⟨r, z, _, [], _, _, _, _, rfl, fun x y q => s7 _ _ (sH6 _ _ q), s7 _ _ (s6 _ _ hr5), paired_imp pf6 fun x y _ h => WyAt.sm h s7, nr0, upd_same, fun h => ?_⟩
            exact absurd (decide_eq_true (show (0 + (k : Nat) : Int) < (n : Nat) by omega)) lt
    · rintro σ H2 ⟨f, ln, fs, ls, x6, x7, x8, x9, rfl, s2, hf, pf, nf, hl, pl⟩
      rw [en, upto_ways] at pf
      exact ⟨_, rfl, q H2 f fs hf pf s2 nf⟩
end
end Lm
/-! sorted of a list of lists of numbers. -/
namespace Lm
open PySem PySem.Spec PyProof.Rows L2
def natI (l : List Nat) : List Int := l.map fun k => ((k : Nat) : Int)
theorem natI_lt : ∀ {x y : List Nat}, x.length = y.length → (natI x < natI y ↔ Wy.lx x y)
  | [], [], _ => by
    constructor
    · intro h
      exact absurd h (by simp [natI])
    · intro h
      exact h.elim
  | a :: x, b :: y, h => by
    have ih := natI_lt (x := x) (y := y) (by simpa using h)
    show ((a : Int) :: natI x < (b : Int) :: natI y) ↔ _
    rw [List.cons_lt_cons_iff, ih]
    show _ ↔ (a < b ∨ a = b ∧ Wy.lx x y)
    constructor
    · rintro (h | ⟨h, k⟩)
      · exact .inl (by omega)
      · exact .inr ⟨by omega, k⟩
    · rintro (h | ⟨h, k⟩)
      · exact .inl (by omega)
      · exact .inr ⟨by omega, k⟩
def rSortedW (K : PySem.W.Frag) : List V → Hp → VK → Prop := fun vs H Q => ∃ (a : Addr) (xs : List V) (bs : List (List Nat)), vs = [.ref a] ∧ SqL K H a xs ∧ Paired (WyAt H) xs bs ∧
  ∀ (ys : List V) (cs : List (List Nat)) (p : Addr), cs.Perm bs → cs.Pairwise (fun x y => natI x ≤ natI y) → Paired (WyAt H) ys cs → H p = none → Q (.ref p) (upd H p (.lst ys))
def encW (b : List Nat) : PyData := .list ((natI b).map .int)
theorem dp_way {K : PySem.W.Frag} {H : Hp} {v : V} {b : List Nat} (h : WyAt H v b) : Dp K H v (encW b) := by
  obtain ⟨l, rfl, hl⟩ := h
  refine .lst (SqL.of hl) ?_
  have : natL b = (natI b).map V.int := by unfold natL natI; rw [List.map_map]; rfl
  rw [this]
  exact dp_ints _
theorem paired_each {α β : Type} {F : α → β → Prop} {l : List α} {m : List β} (h : Paired F l m) : PySem.W.EachIs F l m := by
  induction h with
  | nil => exact .nil
  | cons f _ ih => exact .cons f ih
theorem each_paired {α β : Type} {F : α → β → Prop} {l : List α} {m : List β} (h : PySem.W.EachIs F l m) : Paired F l m := by
  induction h with
  | nil => exact .nil
  | cons f _ ih => exact .cons f ih
theorem cr_sortedW {X : Cx} (K : PySem.W.Frag) (hu : X.A.units + 64 < cLine) (hK : X.K = K := by rfl) : CallR X (.builtin "sorted") (rSortedW K) := by
  subst hK
  intro pins s σ H vs us Q I r h
  obtain ⟨a, xs, bs, rfl, hs, pr, q⟩ := h
  obtain ⟨its, rv, hl, hz⟩ := I.list hs
  rw [Vals.ref1 r]
  have both : ∀ {xs : List V} {its : List Value} {bs : List (List Nat)}, Vals xs its → Paired (WyAt H) xs bs → PySem.W.EachIs (fun v b => ∃ x : Addr, v = Value.ref x ∧ H x = some (.lst (natL b))) its bs ∧ PySem.W.EachIs (fun v b => ∃ as, Reads s.heap v (encW b) as) its bs := by
    intro xs its bs rv pr
    induction pr generalizing its with
    | nil =>
      cases rv
      exact ⟨.nil, .nil⟩
    | cons f _ ih =>
      cases rv with
      | cons r1 rv =>
        obtain ⟨h1, h2⟩ := ih rv
        obtain ⟨l, e, hl⟩ := id f
        subst e
        have e : _ = Value.ref l := r1
        exact ⟨.cons ⟨l, e, hl⟩ h1, .cons (Dp.reads I _ _ _ (dp_way f) r1) h2⟩
  obtain ⟨e1, e2⟩ := both rv pr
  have lb : xs.length = bs.length := paired_len pr
  have le_rows : PySem.W.dataLe false encW = fun p q => decide (natI p ≤ natI q) := PySem.W.dataLe_rows natI
  refine PySem.W.sorted_data (β := List Nat) (enc := encW) hl.isList e1 e2 (PySem.W.AllAlike.of fun b b' => by
      show PySem.W.alike (.list ((natI b).map .int)) (.list ((natI b').map .int)) = true
      unfold PySem.W.alike
      exact PySem.W.alike_ints _ _) (PySem.W.Sortable.others fun b => ⟨(fun z => by cases z), (fun xs z => by cases z)⟩) (by rw [← lb]; exact hz) (fun b _ => by
      have : (encW b).depth = 1 := by
        unfold encW
        simp [PyData.depth, PySem.W.depth_ints]
      omega) fun out hout hsort => ?_
  obtain ⟨ep, he'⟩ := PyProof.Rows.sortedAll_at s.heap its out.toArray
  have back : ∀ {out : List Value} {cs : List (List Nat)}, PySem.W.EachIs (fun v b => ∃ x : Addr, v = Value.ref x ∧ H x = some (.lst (natL b))) out cs → ∃ ys : List V, Vals ys out ∧ Paired (WyAt H) ys cs := by
    intro out cs e
    induction e with
    | nil => exact ⟨[], .nil, .nil⟩
    | cons f _ ih =>
      obtain ⟨ys, h1, h2⟩ := ih
      obtain ⟨x, rfl, hx⟩ := f
      exact ⟨.ref x :: ys, .cons rfl h1, .cons ⟨x, rfl, hx⟩ h2⟩
  obtain ⟨ys, h1, h2⟩ := back hsort
  have hlen : ys.length ≤ sizeLine := by
    rw [h1.length, hout, ← lb]
    exact hz
  refine ⟨.ref _, upd H (s.heap.objs.size + 1) (.lst ys), I.laid (t' := s.toks) (fun _ _ => PyProof.Rows.sortedAll_old) (Nat.le_succ _) ⟨hlen, out, ep, h1, he'⟩, rfl, q ys _ _ (List.mergeSort_perm _ _) ?_ h2 (I.hok.fresh (Nat.le_succ _))⟩
  have st := List.pairwise_mergeSort (le := PySem.W.dataLe false encW) (fun a b c h1 h2 => by
    rw [le_rows] at h1 h2 ⊢
    exact decide_eq_true (List.le_trans (of_decide_eq_true h1) (of_decide_eq_true h2))) (fun a b => by
    rw [le_rows]
    show (decide (natI a ≤ natI b) || decide (natI b ≤ natI a)) = true
    rcases List.le_total (natI a) (natI b) with h | h
    · rw [decide_eq_true h]; rfl
    · rw [decide_eq_true h, Bool.or_true]) bs
  exact st.imp fun {x y} h => by
    rw [le_rows] at h
    exact of_decide_eq_true h
end Lm
/-! _law_first_way, _law_first_ring. -/
namespace Lm
open PySem PySem.Spec PyProof.Rows L2
theorem dp_ways {K : PySem.W.Frag} {H : Hp} {us : List V} {fl : List (List Nat)} (h : Paired (WyAt H) us fl) : DpAll K H us (fl.map encW) := by
  induction h with
  | nil => exact .nil
  | cons f _ ih => exact .cons (dp_way f) ih
theorem lay_way (l : List Nat) : PyData.canLayAll0 ((natI l).map PyData.int) = true ∧ PyData.depthAll ((natI l).map PyData.int) ≤ 50 := by
  obtain ⟨h1, h2⟩ := lay_ints (natI l)
  exact ⟨h1, by omega⟩
theorem lay_ways : ∀ fl : List (List Nat), PyData.canLayAll0 (fl.map encW) = true ∧ PyData.depthAll (fl.map encW) ≤ 50
  | [] => by simp [PyData.canLayAll0, PyData.depthAll]
  | l :: r => by
    obtain ⟨h1, h2⟩ := lay_ways r
    obtain ⟨h3, h4⟩ := lay_ints (natI l)
    simp [PyData.canLayAll0, PyData.canLay0, PyData.depthAll, PyData.depth, encW, h1, h2, h3, h4]
    omega
theorem filter_one {α : Type} {f : α → Bool} {l : List α} {i : Nat} {x : α} (h : l[i]? = some x) : (l.take (i + 1)).filter f = (l.take i).filter f ++ if f x = true then [x] else [] := by
  rw [List.take_add_one, h, List.filter_append]
  congr 1
  show List.filter f [x] = _
  rw [List.filter_cons]
  split <;> rfl
theorem ways_bound {R : Rws} (l7 : R.length ≤ 7) (b e : Spot) {n : Nat} (hn : n ≤ 4) : (Wy.waysTo R b e n).length ≤ 84035 := by
  rw [← upto_ways]
  have h1 := upto_len l7 b e (n + 1)
  have h2 : 7 ^ (n + 1) ≤ 16807 := Nat.le_trans (Nat.pow_le_pow_right (by decide) (by omega : n + 1 ≤ 5)) (by decide)
  have h3 : (n + 1) * 7 ^ (n + 1) ≤ 5 * 16807 := Nat.mul_le_mul (by omega) h2
  omega
theorem big10 {m : Nat} (h : m ≤ 10000000) : m ≤ sizeLine := Nat.le_trans h (by rw [sizeLine_eq]; decide)
theorem big10' {m : Nat} (h : m < 10000000) : m < sizeLine := Nat.lt_of_lt_of_le h (by rw [sizeLine_eq]; decide)
section
variable {P : Program} {w : World} {K : PySem.W.Frag} {mg : Str → Option Value} {base : Heap}
abbrev sFW : Stmt := topS 50
def nFW : List Str := ["rows", "begin", "end", "limit", "some", "way"]
theorem scFW : FnScope nFW ["rows", "begin", "end", "limit"] (defScope sFW) := ⟨rfl, rfl, rfl, by decide +kernel, rfl, by decide +kernel, by decide +kernel⟩
def spFW : Sp := fun vs H Q _ => ∃ (p : Addr) (R : Rws) (b e : Spot) (m : Int) (w : List Nat), vs = [.ref p, oV b, oV e, .int m] ∧ RLs H p R ∧ R.length ≤ 7 ∧ (∀ ys, NmsOf R ys → ys.length ≤ 3 ∧ w.length ≤ ys.length + 1) ∧ Wy.IsFirst R b e m w ∧
  ∀ (H' : Hp) (q : Addr), H' q = some (.lst (natL w)) → Same H H' → Q (.ref q) H'
theorem ok_fw {f : Addr} {fd : FuncData} (F : Fun K "_law_first_way" "_law_first_way" sFW f fd) (N : Bl mg) (GS : Has P w K mg base CX0 1 "_law_sides" ["rows"] spSd) (GW : Has P w K mg base CX0 1 "_law_ways" ["rows", "begin", "end", "size_here"] spWs) (GM : Has P w K mg base CX0 1 "_law_sum_of" ["rows", "way"] spSm) :
    FnOk P w K mg base CX0 2 f fd ["rows", "begin", "end", "limit"] spFW := by
  refine F.ok scFW (fun vs H Q E h => ?_) (fun cdv A outer s H vs Q E hr h => ?_)
  · obtain ⟨p, R, b, e, m, w', rfl, _⟩ := h
    rfl
  · obtain ⟨p, R, b, e, m, w', rfl, rl, l7, hys, isf, q⟩ := h
    have hu := hr.units
    refine ⟨_, pss_cons (ps_setLc (i := 4) (own := [("way", 5)]) (g := gName 5) (by rfl) scFW.nd rfl rfl (sw_true rfl rfl rfl (by decide +kernel)) (pi_listK K (pe_h GW hr (by decide) (by rfl) pass0 (pa_cons (pv 0) (pa_cons (pv 1) (pa_cons (pv 2) (pa_cons (pe_op op_add (pe_callB call_len_seq (by rfl) N.blen PySem.boot_len (pa_cons (pe_h GS hr (by decide) (by rfl) pass0 (pa_cons (pv 0) pa_nil)) pa_nil)) pe_int) pa_nil))))))
        (blkOk_by (own := [("way", 5)]) (N := nFW) (sc := defScope sFW) (by decide +kernel)) (fun _ _ _ _ _ => pg_name (i := 5) scFW.nd rfl (Or.inl rfl)) (fun _ _ _ _ _ => pts_one (pt_cmpR op_le (pe_h GM hr (by decide) (by rfl) pass0 (pa_cons (pv 0) (pa_cons (pv 5) pa_nil))) (pv 3) (nomark _))) (fun _ _ _ _ _ => pv 5))
      (pss_one (ps_ret (pe_ifExp (pt_cmpR (show OpR _ _ (rNeD K) from op_neD hu) (pv 4) (pe_lst pa_nil) (nomark _)) (pe_ix (ix_listK K) (pv 4) pe_int (fun _ _ => rfl)) pe_non))), ?_⟩
    refine ⟨_, rfl, _, rfl, _, rfl, _, rfl, p, R, rfl, rl, fun H1 sq ys hn nsq hsq s1 => ?_⟩
    obtain ⟨l3, lw⟩ := hys ys hn
    refine ⟨sq, _, rfl, .inl (SqL.of hsq), _, _, rfl, rfl, ?_⟩
    refine ⟨p, R, b, e, ys.length + 1, by rw [List.length_map]; rfl, rl.sm s1, l7, by omega, fun H2 wq us hw pw s2 nw => ?_⟩
    have s02 : Same H H2 := fun x y z => s2 _ _ (s1 _ _ z)
    have rl2 := rl.sm s02
    have lb := ways_bound l7 b e (n := ys.length + 1) (by omega)
    have lus := paired_len pw
    have mem : ∀ v ∈ Wy.waysTo R b e (ys.length + 1), v.length ≤ 1000 ∧ ∃ z, Wy.Way R b v e z := fun v hv => by
      obtain ⟨h1, h2⟩ := Wy.mem_ways.mp hv
      exact ⟨by omega, h2⟩
    have fst : ((Wy.waysTo R b e (ys.length + 1)).filter fun v => decide (sumR R v ≤ m)).head? = some w' := Wy.first_of (fun v z hv => by rw [sum_way hv]; exact ⟨of_decide_eq_true, fun h => decide_eq_true h⟩) isf lw
    generalize Wy.waysTo R b e (ys.length + 1) = L at pw lb lus mem fst
    refine ⟨wq, rfl, ⟨_, SqL.of hw⟩, fun D nD => lc_list (K := K) (a := wq) (xs := us) (fun i H' => Same H2 H' ∧ ∃ acc, H' D = some (.lst acc) ∧ Paired (WyX H' D) acc ((L.take i).filter fun v => decide (sumR R v ≤ m))) ⟨same_upd nD, [], upd_same, .nil⟩ (fun i H' _ z => SqL.of (z.1 _ _ hw)) ?_ ?_⟩
    · rintro i xv H3 hi ⟨s3, acc, hD, pa⟩
      obtain ⟨v, hv, l, rfl, hl⟩ := paired_get pw hi
      obtain ⟨lv, z, wz⟩ := mem v (List.mem_of_getElem? hv)
      have stp := filter_one (f := fun v => decide (sumR R v ≤ m)) hv
      refine ⟨rfl, _, rfl, _, rfl, p, l, R, v, rfl, rl2.sm s3, s3 _ _ hl, way_lt wz, lv, fun H4 s4 => ⟨_, rfl, _, _, rfl, rfl, _, rfl, ?_⟩⟩
      have s24 : Same H2 H4 := fun x y z => s4 _ _ (s3 _ _ z)
      have pa4 := paired_imp pa fun x y _ ⟨l', e1, h1, n1⟩ => (⟨l', e1, s4 _ _ h1, n1⟩ : WyX H4 D x y)
      by_cases c : sumR R v ≤ m
      · rw [decide_eq_true c] at stp ⊢
        have lD : l ≠ D := ne_of_none hl nD
        refine iteT ⟨_, rfl, acc, s4 _ _ hD, ?_, same_put s24 nD, acc ++ [.ref l], upd_same, ?_⟩
        · have h1 := paired_len pa
          have h2 : ((L.take i).filter fun v => decide (sumR R v ≤ m)).length ≤ (L.take i).length := List.length_filter_le _ _
          have h3 : (L.take i).length ≤ L.length := by rw [List.length_take]; omega
          exact big10' (by omega)
        · rw [stp]
          exact paired_app (paired_imp pa4 fun x y _ ⟨l', e1, h1, n1⟩ => ⟨l', e1, by rw [upd_ne n1]; exact h1, n1⟩) (.cons ⟨l, rfl, by rw [upd_ne lD]; exact s24 _ _ hl, lD⟩ .nil)
      · rw [decide_eq_false c] at stp ⊢
        exact iteF ⟨s24, acc, s4 _ _ hD, by rw [stp]; show Paired _ _ (_ ++ []); rw [List.append_nil]; exact pa4⟩
    · rintro H3 ⟨s3, acc, hD, pa⟩
      rw [lus, List.take_length] at pa
      refine ⟨_, rfl, Nat.zero_le _, fun z nz => ?_⟩
      have s4 := same_upd (o := .lst []) nz
      have pa4 := paired_imp pa fun x y _ ⟨l', e1, h1, n1⟩ => (⟨l', e1, s4 _ _ h1⟩ : WyAt (upd H3 z (.lst [])) x y)
      generalize L.filter (fun v => decide (sumR R v ≤ m)) = FL at fst pa4
      have lay := lay_ways FL
      refine ne_nil_r (SqL.of (s4 _ _ hD)) (dp_ways pa4) lay.1 lay.2 upd_same ?_
      cases pa4 with
      | nil => cases fst
      | @cons u v us' vs' f1 f2 =>
        have e : v = w' := Option.some.inj fst
        subst e
        obtain ⟨l, rfl, hl⟩ := f1
        exact ⟨_, rfl, iteT ⟨_, rfl, D, _, 0, _, rfl, rfl, SqL.of (s4 _ _ hD), atI_nat (j := 0) rfl, q _ l hl fun x y z => s4 _ _ (s3 _ _ (s02 _ _ z))⟩⟩
end
end Lm
/-! _law_first_ring. -/
namespace Lm
open PySem PySem.Spec PyProof.Rows L2
/-! ### the least rings are short -/
def endV (R : Rws) : Spot → List Nat → Spot
  | a, [] => a
  | a, i :: r => match R[i]? with
    | some row => endV R row.2.1 r
    | none => a
theorem endV_way {R : Rws} {a b : Spot} {w : List Nat} {z : Int} (h : Wy.Way R a w b z) : endV R a w = b := by
  induction h with
  | nil => rfl
  | cons hr _ ih =>
    unfold endV
    rw [hr]
    exact ih
theorem way_cut {R : Rws} {a b : Spot} {w : List Nat} {z : Int} (h : Wy.Way R a w b z) (i : Nat) : ∃ x y, Wy.Way R a (w.take i) (endV R a (w.take i)) x ∧ Wy.Way R (endV R a (w.take i)) (w.drop i) b y ∧ z = x + y := by
  rw [← List.take_append_drop i w] at h
  obtain ⟨m, x, y, h1, h2, e⟩ := h.app_inv
  rw [endV_way h1]
  exact ⟨x, y, h1, h2, e⟩
theorem way_ends {R : Rws} {S : List Spot} (hS : ∀ a b c, (a, b, c) ∈ R → a ∈ S ∧ b ∈ S) {a b : Spot} {w : List Nat} {z : Int} (h : Wy.Way R a w b z) (hne : w ≠ []) : a ∈ S ∧ b ∈ S := by
  induction h with
  | nil => exact absurd rfl hne
  | @cons a m b i c z w hr hw ih =>
    have h1 := hS _ _ _ (List.mem_of_getElem? hr)
    by_cases e : w = []
    · subst e
      obtain ⟨rfl, _⟩ := hw.nil_inv
      exact h1
    · exact ⟨h1.1, (ih e).2⟩
theorem ring_short {R : Rws} {S : List Spot} (hS : ∀ a b c, (a, b, c) ∈ R → a ∈ S ∧ b ∈ S) : ∀ (n : Nat) (w : List Nat), w.length ≤ n → Wy.Ring R w → ∃ v, Wy.Ring R v ∧ v.length ≤ S.length
  | 0, w, l, h => absurd (List.length_eq_zero_iff.mp (Nat.le_zero.mp l)) h.ne
  | n + 1, w, l, ⟨a, z, h, lz⟩ => by
    by_cases c : w.length ≤ S.length
    · exact ⟨w, ⟨a, z, h, lz⟩, c⟩
    · have hne : w ≠ [] := fun e => by
        rw [e] at c
        exact c (Nat.zero_le _)
      have aS := (way_ends hS h hne).1
      obtain ⟨i, j, ij, jn, e⟩ := Wy.pig_two (f := fun i => endV R a (w.take i)) (S := S) (n := w.length - 1) (fun i _ => by
        obtain ⟨x, y, h1, _⟩ := way_cut h i
        by_cases q : w.take i = []
        · show endV R a (w.take i) ∈ S
          rw [q]
          exact aS
        · exact (way_ends hS h1 q).2) (by omega)
      have e : endV R a (w.take i) = endV R a (w.take j) := e
      obtain ⟨x, y, h1, h2, e2⟩ := way_cut h j
      obtain ⟨x1, x2, k1, k2, e3⟩ := way_cut h1 i
      have tt : (w.take j).take i = w.take i := by rw [List.take_take, Nat.min_eq_left (by omega)]
      rw [tt, e] at k1 k2
      have l1 : ((w.take j).drop i).length = j - i := by rw [List.length_drop, List.length_take]; omega
      have l2 : (w.take i ++ w.drop j).length = w.length - (j - i) := by rw [List.length_append, List.length_take, List.length_drop]; omega
      by_cases q : x2 < 0
      · exact ring_short hS n _ (by omega) ⟨_, x2, k2, q⟩
      · exact ring_short hS n _ (by omega) ⟨a, x1 + y, k1.app h2, by omega⟩
theorem first_short {R : Rws} {ys : List Str} (hn : NmsOf R ys) {l : List Nat} (h : Wy.FirstRing R l) : l.length ≤ ys.length + 1 := by
  obtain ⟨v, hv, lv⟩ := ring_short (S := spots ys) hn.mem _ l (Nat.le_refl _) h.1
  have e : (spots ys).length = ys.length + 1 := by show (none :: ys.map some).length = _; rw [List.length_cons, List.length_map]
  rcases Nat.lt_or_ge (ys.length + 1) l.length with c | c
  · exact absurd (.inl (by omega)) (h.2 v hv)
  · exact c
def rLenZ (K : PySem.W.Frag) : List V → Hp → VK → Prop := fun xs H Q => ∃ p ys, xs = [V.ref p] ∧ (SqL K H p ys ∨ SqT K H p ys) ∧ Q (V.int (ys.length : Nat)) H
theorem call_lenZ {X : Cx} (K : PySem.W.Frag) (hK : X.K = K := by rfl) : CallR X (.builtin "len") (rLenZ K) := by
  subst hK
  exact call_len_seq
section
variable {P : Program} {w : World} {K : PySem.W.Frag} {mg : Str → Option Value} {base : Heap}
abbrev sFRl : Stmt := topS 51
def nFRl : List Str := ["rows", "found", "side", "some", "least", "way"]
theorem scFRl : FnScope nFRl ["rows"] (defScope sFRl) := ⟨rfl, rfl, rfl, by decide +kernel, rfl, by decide +kernel, by decide +kernel⟩
theorem cr_minK {X : Cx} (K : PySem.W.Frag) (hc : X.calm = true) (hK : X.K = K := by rfl) : CallR X (.builtin "min") (rMin K) := by
  subst hK
  exact cr_min hc
def isRg (R : Rws) (v : List Nat) : Bool := !v.isEmpty && decide (sumR R v < 0)
def spFRl : Sp := fun vs H Q _ => ∃ (p : Addr) (R : Rws) (l : List Nat), vs = [.ref p] ∧ RLs H p R ∧ R.length ≤ 7 ∧ (∀ ys, NmsOf R ys → ys.length ≤ 3) ∧ Wy.FirstRing R l ∧ ∀ (H' : Hp) (q : Addr), H' q = some (.lst (natL l)) → Same H H' → Q (.ref q) H'
theorem ok_frl {f : Addr} {fd : FuncData} (F : Fun K "_law_first_ring" "_law_first_ring" sFRl f fd) (N : Bl mg) (GS : Has P w K mg base CX0 1 "_law_sides" ["rows"] spSd) (GW : Has P w K mg base CX0 1 "_law_ways" ["rows", "begin", "end", "size_here"] spWs) (GM : Has P w K mg base CX0 1 "_law_sum_of" ["rows", "way"] spSm) :
    FnOk P w K mg base CX0 2 f fd ["rows"] spFRl := by
  refine F.ok scFRl (fun vs H Q E h => ?_) (fun cdv A outer s H vs Q E hr h => ?_)
  · obtain ⟨p, R, l, rfl, _⟩ := h
    rfl
  · obtain ⟨p, R, l, rfl, rl, l7, hys, fr, q⟩ := h
    have hu := hr.units
    refine ⟨_, pss_cons (ps_set (i := 1) scFRl.nd rfl (.inl rfl) (pe_lst pa_nil))
      (pss_cons (ps_for PassesOwn.never rfl (pi_listK K (pe_op op_cat (pe_h GS hr (by decide) (by rfl) pass0 (pa_cons (pv 0) pa_nil)) (pe_lst (pa_cons pe_non pa_nil)))) (pg_name (i := 2) scFRl.nd rfl (.inl rfl))
        (pss_cons (ps_set (i := 3) scFRl.nd rfl (.inl rfl) (pe_h GW hr (by decide) (by rfl) pass0 (pa_cons (pv 0) (pa_cons (pv 2) (pa_cons (pv 2) (pa_cons (pe_op op_add (pe_callB call_len_seq (by rfl) N.blen PySem.boot_len (pa_cons (pe_h GS hr (by decide) (by rfl) pass0 (pa_cons (pv 0) pa_nil)) pa_nil)) pe_int) pa_nil))))))
        (pss_one (ps_set (i := 1) scFRl.nd rfl (.inl rfl) (pe_op op_cat (pv 1) (pe_lc (own := [("way", 5)]) (g := gName 5) rfl scFRl.nd (pi_listK K (pv 3)) (blkOk_by (own := [("way", 5)]) (N := nFRl) (sc := defScope sFRl) (by decide +kernel)) (fun _ _ _ _ _ => pg_name (i := 5) scFRl.nd rfl (Or.inl rfl))
          (fun _ _ _ _ _ => pts_one (pw_and (pt_cmpR (show OpR _ _ (rNeD K) from op_neD hu) (pv 5) (pe_lst pa_nil) (nomark _)) (pw_and1 (pt_cmpR op_lt (pe_h GM hr (by decide) (by rfl) pass0 (pa_cons (pv 0) (pa_cons (pv 5) pa_nil))) pe_int (nomark _)))).pt) (fun _ _ _ _ _ => pv 5)))))))
      (pss_cons (ps_set (i := 4) scFRl.nd rfl (.inr rfl) (pe_ifExp (pt_cmpR (show OpR _ _ (rNeD K) from op_neD hu) (pv 1) (pe_lst pa_nil) (nomark _)) (pe_callB (cr_minK K rfl) (by rfl) N.bmin (by decide +kernel) (pa_cons (pe_lc (own := [("way", 5)]) (g := gName 5) (tt := tYes) rfl scFRl.nd (pi_listK K (pv 1)) (blkOk_by (own := [("way", 5)]) (N := nFRl) (sc := defScope sFRl) (by decide +kernel)) (fun _ _ _ _ _ => pg_name (i := 5) scFRl.nd rfl (Or.inl rfl))
          (fun _ _ _ _ _ => pts_nil) (fun _ _ _ _ _ => pe_callB (call_lenZ K) (by rfl) N.blen PySem.boot_len (pa_cons (pv 5) pa_nil))) pa_nil)) pe_int))
      (pss_one (ps_ret (pe_ifExp (pt_cmpR (show OpR _ _ (rNeD K) from op_neD hu) (pv 1) (pe_lst pa_nil) (nomark _)) (pe_ix (ix_listK K) (pe_callB (cr_sortedW K hu) (by rfl) N.bsrt (by decide +kernel) (pa_cons (pe_lc (own := [("way", 5)]) (g := gName 5) rfl scFRl.nd (pi_listK K (pv 1)) (blkOk_by (own := [("way", 5)]) (N := nFRl) (sc := defScope sFRl) (by decide +kernel)) (fun _ _ _ _ _ => pg_name (i := 5) scFRl.nd rfl (Or.inl rfl))
          (fun _ _ _ _ _ => pts_one (pt_cmpR op_eq (pe_callB (call_lenZ K) (by rfl) N.blen PySem.boot_len (pa_cons (pv 5) pa_nil)) (pv 4) (nomark _))) (fun _ _ _ _ _ => pv 5)) pa_nil)) pe_int (fun _ _ => rfl)) pe_non))))), ?_⟩
    refine ⟨Nat.zero_le _, fun f0 nf0 => ?_⟩
    have s0 := same_upd (o := .lst []) nf0
    have hf0 : (upd H f0 (.lst [])) f0 = some (.lst ([] : List V)) := upd_same
    generalize upd H f0 (.lst []) = H0 at s0 hf0 ⊢
    refine ⟨_, rfl, p, R, rfl, rl.sm s0, fun H1 sq ys hn nsq hsq s1 => ?_⟩
    have l3 := hys ys hn
    refine ⟨by show 1 ≤ sizeLine; decide, fun t nt => ⟨sq, t, _, _, rfl, rfl, same_upd nt _ _ hsq, upd_same, small10000 (by rw [List.length_map]; show ys.length + 1 ≤ 10000; omega), fun sd nsd => ?_⟩⟩
    have s2 : Same H0 (upd (upd H1 t (.lst [.non])) sd (.lst (ys.map V.str ++ [.non]))) := fun b o e => same_upd nsd _ _ (same_upd nt _ _ (s1 _ _ e))
    have hsd : (upd (upd H1 t (.lst [.non])) sd (.lst (ys.map V.str ++ [.non]))) sd = some (.lst ((spotz ys).map oV)) := by
      rw [upd_same]
      unfold spotz
      rw [List.map_append, List.map_map]
      rfl
    generalize upd (upd H1 t (.lst [.non])) sd (.lst (ys.map V.str ++ [.non])) = H2 at s2 hsd ⊢
    have inZ : ∀ a b c, (a, b, c) ∈ R → a ∈ spotz ys ∧ b ∈ spotz ys := fun a b c h => let ⟨x, y⟩ := hn.mem a b c h; ⟨spotz_mem.mpr x, spotz_mem.mpr y⟩
    have lZ : (spotz ys).length ≤ 4 := by rw [spotz_len]; omega
    have lfr := first_short hn fr
    generalize hS : spotz ys = S at hsd inZ lZ
    have s02 : Same H H2 := fun x y z => s2 _ _ (s0 _ _ z)
    refine ⟨sd, rfl, ⟨_, SqL.of hsd⟩, for_list (K := K) (a := sd) (xs := S.map oV) (fun i σ H' => ∃ (f : Addr) (fs : List V) (fl : List (List Nat)) (x2 x3 : Option V), σ = [some (.ref p), some (.ref f), x2, x3, none, none] ∧ Same H2 H' ∧ H' f = some (.lst fs) ∧ Paired (WyAt H') fs fl ∧ (∀ v ∈ fl, Wy.Ring R v ∧ v.length ≤ 4) ∧ (∀ v a z, a ∈ S.take i → Wy.Way R a v a z → z < 0 → v.length ≤ ys.length + 1 → v ∈ fl) ∧ fl.length ≤ i * 84035)
      ⟨f0, [], [], none, none, rfl, fun _ _ z => z, s2 _ _ hf0, .nil, (fun v hv => absurd hv (by simp)), (fun v a z ha => absurd ha (by simp)), Nat.zero_le _⟩ (fun i σ H' _ ⟨_, _, _, _, _, _, z, _⟩ => SqL.of (z _ _ hsd)) ?_ ?_⟩
    · rintro i xv σ H3 hi ⟨f, fs, fl, x2, x3, rfl, s3, hf, pf, good, all, lfl⟩
      obtain ⟨o, ho, rfl⟩ := spot_map hi
      have li : i < S.length := (List.getElem?_eq_some_iff.mp ho).1
      have s03 : Same H H3 := fun x y z => s3 _ _ (s02 _ _ z)
      refine ⟨_, rfl, _, rfl, _, rfl, _, rfl, p, R, rfl, rl.sm s03, fun H4 sq2 ys2 hn2 nsq2 hsq2 s4 => ?_⟩
      have e := AscOf.uniq hn2 hn fun _ => Iff.rfl
      subst e
      refine ⟨sq2, _, rfl, .inl (SqL.of hsq2), _, _, rfl, rfl, ?_⟩
      have s04 : Same H H4 := fun x y z => s4 _ _ (s03 _ _ z)
      refine ⟨p, R, o, o, ys2.length + 1, by rw [List.length_map]; rfl, rl.sm s04, l7, by omega, fun H5 wq us hw pw s5 nw => ?_⟩
      have s05 : Same H H5 := fun x y z => s5 _ _ (s04 _ _ z)
      have s35 : Same H3 H5 := fun x y z => s5 _ _ (s4 _ _ z)
      have rl5 := rl.sm s05
      have lb := ways_bound l7 o o (n := ys2.length + 1) (by omega)
      have lus := paired_len pw
      have mem : ∀ v, v ∈ Wy.waysTo R o o (ys2.length + 1) ↔ v.length ≤ ys2.length + 1 ∧ ∃ z, Wy.Way R o v o z := fun v => Wy.mem_ways
      generalize Wy.waysTo R o o (ys2.length + 1) = L at pw lb lus mem
      refine ⟨_, rfl, _, rfl, wq, rfl, ⟨_, SqL.of hw⟩, fun D nD => lc_list (K := K) (a := wq) (xs := us) (fun j H' => Same H5 H' ∧ ∃ acc, H' D = some (.lst acc) ∧ Paired (WyX H' D) acc ((L.take j).filter (isRg R))) ⟨same_upd nD, [], upd_same, .nil⟩ (fun j H' _ z => SqL.of (z.1 _ _ hw)) ?_ ?_⟩
      · rintro j xv H6 hj ⟨s6, acc, hD, pa⟩
        obtain ⟨v, hv, lq, rfl, hl⟩ := paired_get pw hj
        obtain ⟨lv, z, wz⟩ := (mem v).mp (List.mem_of_getElem? hv)
        have stp := filter_one (f := isRg R) hv
        refine ⟨rfl, _, rfl, Nat.zero_le _, fun b nb => ?_⟩
        have s7 := same_upd (o := .lst []) nb
        have s57 : Same H5 (upd H6 b (.lst [])) := fun x y z => s7 _ _ (s6 _ _ z)
        have hD7 := s7 _ _ hD
        have pa7 := paired_imp pa fun x y _ ⟨l', e1, h1, n1⟩ => (⟨l', e1, s7 _ _ h1, n1⟩ : WyX (upd H6 b (.lst [])) D x y)
        have hb7 : (upd H6 b (.lst [])) b = some (.lst ([] : List V)) := upd_same
        generalize upd H6 b (.lst []) = H7 at s57 hD7 pa7 hb7 ⊢
        have hl7 := s57 _ _ hl
        have hl7' : H7 lq = some (.lst ((natI v).map V.int)) := by
          have : natL v = (natI v).map V.int := by unfold natL natI; rw [List.map_map]; rfl
          rw [← this]
          exact hl7
        have lay := lay_way v
        have no : isRg R v = false → (Same H5 H7 ∧ ∃ acc, H7 D = some (.lst acc) ∧ Paired (WyX H7 D) acc ((L.take (j + 1)).filter (isRg R))) := fun h => by
          rw [h] at stp
          refine ⟨s57, acc, hD7, ?_⟩
          rw [stp]
          show Paired _ _ (_ ++ [])
          rw [List.append_nil]
          exact pa7
        refine ne_nil_r (SqL.of hl7') (dp_ints (natI v)) lay.1 lay.2 hb7 ⟨_, rfl, ?_⟩
        cases v with
        | nil => exact iteF (iteF (no rfl))
        | cons v0 vr =>
          refine iteT ⟨_, rfl, _, rfl, p, lq, R, v0 :: vr, rfl, rl5.sm s57, hl7, way_lt wz, by omega, fun H8 s8 => ⟨_, _, rfl, rfl, _, rfl, ?_⟩⟩
          have pa8 := paired_imp pa7 fun x y _ ⟨l', e1, h1, n1⟩ => (⟨l', e1, s8 _ _ h1, n1⟩ : WyX H8 D x y)
          have s58 : Same H5 H8 := fun x y z => s8 _ _ (s57 _ _ z)
          by_cases c : sumR R (v0 :: vr) < 0
          · have k : isRg R (v0 :: vr) = true := by
              show (!(v0 :: vr).isEmpty && decide (sumR R (v0 :: vr) < 0)) = true
              rw [decide_eq_true c]
              rfl
            rw [k] at stp
            rw [decide_eq_true c]
            have lD : lq ≠ D := ne_of_none hl nD
            refine iteT ⟨_, rfl, acc, s8 _ _ hD7, ?_, same_put s58 nD, acc ++ [.ref lq], upd_same, ?_⟩
            · have h1 := paired_len pa
              have h2 : ((L.take j).filter (isRg R)).length ≤ (L.take j).length := List.length_filter_le _ _
              have h3 : (L.take j).length ≤ L.length := by rw [List.length_take]; omega
              exact big10' (by omega)
            · rw [stp]
              exact paired_app (paired_imp pa8 fun x y _ ⟨l', e1, h1, n1⟩ => ⟨l', e1, by rw [upd_ne n1]; exact h1, n1⟩) (.cons ⟨lq, rfl, by rw [upd_ne lD]; exact s58 _ _ hl, lD⟩ .nil)
          · have k : isRg R (v0 :: vr) = false := by
              show (!(v0 :: vr).isEmpty && decide (sumR R (v0 :: vr) < 0)) = false
              rw [decide_eq_false c]
              rfl
            rw [decide_eq_false c]
            obtain ⟨_, acc', h1, h2⟩ := no k
            rw [hD7] at h1
            cases h1
            exact iteF ⟨s58, acc, s8 _ _ hD7, paired_imp h2 fun x y _ ⟨l', e1, h1, n1⟩ => ⟨l', e1, s8 _ _ h1, n1⟩⟩
      · rintro H6 ⟨s6, acc, hD, pa⟩
        rw [lus, List.take_length] at pa
        have la := paired_len pa
        have lf2 := paired_len pf
        have h2 : (L.filter (isRg R)).length ≤ L.length := List.length_filter_le _ _
        have i4 : i * 84035 ≤ 4 * 84035 := Nat.mul_le_mul_right _ (by omega)
        refine ⟨f, D, fs, acc, rfl, rfl, s6 _ _ (s35 _ _ hf), hD, big10 (by omega), fun r nr => ?_⟩
        have s7 := same_upd (o := .lst (fs ++ acc)) nr
        have s37 : Same H3 (upd H6 r (.lst (fs ++ acc))) := fun x y z => s7 _ _ (s6 _ _ (s35 _ _ z))
        refine ⟨r, _, fl ++ L.filter (isRg R), _, _, rfl, fun x y z => s37 _ _ (s3 _ _ z), upd_same, paired_app (paired_imp pf fun x y _ h => h.sm s37) (paired_imp pa fun x y _ ⟨l', e1, h1, n1⟩ => ⟨l', e1, s7 _ _ h1⟩), fun v hv => ?_, fun v a z ha hw hz hl => ?_, by rw [List.length_append, Nat.add_mul]; omega⟩
        · rcases List.mem_append.mp hv with k | k
          · exact good v k
          · obtain ⟨k1, k2⟩ := List.mem_filter.mp k
            obtain ⟨lv, z, wz⟩ := (mem v).mp k1
            unfold isRg at k2
            rw [Bool.and_eq_true] at k2
            have := of_decide_eq_true k2.2
            rw [sum_way wz] at this
            exact ⟨⟨o, z, wz, this⟩, by omega⟩
        · rw [List.take_add_one, ho] at ha
          rcases List.mem_append.mp ha with k | k
          · exact List.mem_append_left _ (all v a z k hw hz hl)
          · have ea : a = o := by simpa using k
            subst ea
            refine List.mem_append_right _ (List.mem_filter.mpr ⟨(mem v).mpr ⟨hl, z, hw⟩, ?_⟩)
            unfold isRg
            rw [sum_way hw, decide_eq_true hz]
            cases v with
            | nil =>
              have := hw.nil_inv.2
              omega
            | cons _ _ => rfl
    · rintro σ H3 ⟨f, fs, fl, x2, x3, rfl, s3, hf, pf, good, all, lfl⟩
      rw [show (S.map oV).length = S.length from List.length_map .., List.take_length] at all
      have lfl : fl.length ≤ S.length * 84035 := by
        have : (S.map oV).length = S.length := List.length_map ..
        rw [this] at lfl
        exact lfl
      have lS4 : S.length * 84035 ≤ 4 * 84035 := Nat.mul_le_mul_right _ lZ
      have lff := paired_len pf
      obtain ⟨⟨a, z, hw, lz⟩, hmin⟩ := id fr
      have ml : l ∈ fl := all l a z (way_ends inZ hw (Wy.Ring.ne ⟨a, z, hw, lz⟩)).1 hw lz lfr
      have lmin : ∀ v ∈ fl, l.length ≤ v.length := fun v hv => by
        rcases Nat.lt_or_ge v.length l.length with c | c
        · exact absurd (.inl c) (hmin v (good v hv).1)
        · exact c
      -- found != []
      refine ⟨_, rfl, Nat.zero_le _, fun b nb => ?_⟩
      have s4 := same_upd (o := .lst []) nb
      have hb4 : (upd H3 b (.lst [])) b = some (.lst ([] : List V)) := upd_same
      have pf4 := paired_imp pf fun x y _ h => WyAt.sm h s4
      have hf4 := s4 _ _ hf
      have s24 : Same H2 (upd H3 b (.lst [])) := fun x y z => s4 _ _ (s3 _ _ z)
      generalize upd H3 b (.lst []) = H4 at hb4 pf4 hf4 s24 ⊢
      have lay := lay_ways fl
      have ne : (!(fl.map encW).isEmpty) = true := by
        cases fl with
        | nil => cases ml
        | cons _ _ => rfl
      refine ne_nil_r (SqL.of hf4) (dp_ways pf4) lay.1 lay.2 hb4 ⟨_, rfl, ?_⟩
      rw [ne]
      refine iteT ⟨_, rfl, f, rfl, ⟨_, SqL.of hf4⟩, fun D nD => lc_list (K := K) (a := f) (xs := fs) (fun i H' => Same H4 H' ∧ H' D = some (.lst (((fl.take i).map fun v => ((v.length : Nat) : Int)).map V.int))) ⟨same_upd nD, upd_same⟩ (fun i H' _ z => SqL.of (z.1 _ _ hf4)) ?_ ?_⟩
      · rintro i xv H5 hi ⟨s5, hD⟩
        obtain ⟨v, hv, lq, rfl, hl⟩ := paired_get pf4 hi
        have li : i < fl.length := (List.getElem?_eq_some_iff.mp hv).1
        refine ⟨rfl, _, rfl, lq, _, rfl, .inl (SqL.of (s5 _ _ hl)), _, hD, by rw [List.length_map, List.length_map, List.length_take]; exact big10' (by omega), same_put s5 nD, ?_⟩
        rw [upd_same, List.take_add_one, hv, List.map_append, List.map_append]
        show _ = some (HO.lst (_ ++ [V.int ((v.length : Nat) : Int)]))
        unfold natL
        rw [List.length_map]
      · rintro H5 ⟨s5, hD⟩
        rw [lff, List.take_length] at hD
        refine ⟨D, _, rfl, SqL.of hD, by rw [List.length_map]; exact List.length_pos_of_mem ml, fun m hm mm => ?_⟩
        have em : m = ((l.length : Nat) : Int) := by
          obtain ⟨v, hv, rfl⟩ := List.mem_map.mp hm
          have h1 := lmin v hv
          have h2 := mm _ (List.mem_map.mpr ⟨l, ml, rfl⟩)
          omega
        subst em
        have hf5 := s5 _ _ hf4
        have pf5 := paired_imp pf4 fun x y _ h => WyAt.sm h s5
        have s25 : Same H2 H5 := fun x y z => s5 _ _ (s24 _ _ z)
        refine ⟨_, rfl, Nat.zero_le _, fun b2 nb2 => ?_⟩
        have s6 := same_upd (o := .lst []) nb2
        have hb6 : (upd H5 b2 (.lst [])) b2 = some (.lst ([] : List V)) := upd_same
        have pf6 := paired_imp pf5 fun x y _ h => WyAt.sm h s6
        have hf6 := s6 _ _ hf5
        have s26 : Same H2 (upd H5 b2 (.lst [])) := fun x y z => s6 _ _ (s25 _ _ z)
        generalize upd H5 b2 (.lst []) = H6 at hb6 pf6 hf6 s26 ⊢
        refine ne_nil_r (SqL.of hf6) (dp_ways pf6) lay.1 lay.2 hb6 ⟨_, rfl, ?_⟩
        rw [ne]
        refine iteT ⟨_, rfl, f, rfl, ⟨_, SqL.of hf6⟩, fun D2 nD2 => lc_list (K := K) (a := f) (xs := fs) (fun i H' => Same H6 H' ∧ ∃ acc, H' D2 = some (.lst acc) ∧ Paired (WyX H' D2) acc ((fl.take i).filter fun v => decide (v.length = l.length))) ⟨same_upd nD2, [], upd_same, .nil⟩ (fun i H' _ z => SqL.of (z.1 _ _ hf6)) ?_ ?_⟩
        · rintro i xv H7 hi ⟨s7, acc, hD2, pa⟩
          obtain ⟨v, hv, lq, rfl, hl⟩ := paired_get pf6 hi
          have li : i < fl.length := (List.getElem?_eq_some_iff.mp hv).1
          have stp := filter_one (f := fun v : List Nat => decide (v.length = l.length)) hv
          refine ⟨rfl, _, rfl, lq, _, rfl, .inl (SqL.of (s7 _ _ hl)), _, rfl, rfl, _, rfl, ?_⟩
          have en : decide (V.int (((natL v).length : Nat) : Int) = V.int ((l.length : Nat) : Int)) = decide (v.length = l.length) := by
            unfold natL
            rw [List.length_map]
            by_cases c : v.length = l.length
            · rw [c]
              simp
            · rw [decide_eq_false c, decide_eq_false]
              intro e
              injection e with e
              omega
          rw [en]
          by_cases c : v.length = l.length
          · rw [decide_eq_true c] at stp ⊢
            have lD : lq ≠ D2 := ne_of_none hl nD2
            refine iteT ⟨_, rfl, acc, hD2, ?_, same_put s7 nD2, acc ++ [.ref lq], upd_same, ?_⟩
            · have h1 := paired_len pa
              have h2 : ((fl.take i).filter fun v => decide (v.length = l.length)).length ≤ (fl.take i).length := List.length_filter_le _ _
              have h3 : (fl.take i).length ≤ fl.length := by rw [List.length_take]; omega
              exact big10' (by omega)
            · rw [stp]
              exact paired_app (paired_imp pa fun x y _ ⟨l', e1, h1, n1⟩ => ⟨l', e1, by rw [upd_ne n1]; exact h1, n1⟩) (.cons ⟨lq, rfl, by rw [upd_ne lD]; exact s7 _ _ hl, lD⟩ .nil)
          · rw [decide_eq_false c] at stp ⊢
            exact iteF ⟨s7, acc, hD2, by rw [stp]; show Paired _ _ (_ ++ []); rw [List.append_nil]; exact pa⟩
        · rintro H7 ⟨s7, acc, hD2, pa⟩
          rw [lff, List.take_length] at pa
          refine ⟨D2, acc, _, rfl, SqL.of hD2, paired_imp pa fun x y _ ⟨l', e1, h1, n1⟩ => ⟨l', e1, h1⟩, fun zs cs r pm srt pz nr => ?_⟩
          have mlf : l ∈ fl.filter fun v => decide (v.length = l.length) := List.mem_filter.mpr ⟨ml, decide_eq_true rfl⟩
          have mlc : l ∈ cs := pm.mem_iff.mpr mlf
          cases pz with
          | nil => cases mlc
          | @cons u c us' cs' f1 f2 =>
            obtain ⟨mc1, mc2⟩ := List.mem_filter.mp (pm.mem_iff.mp (List.mem_cons_self ..))
            have lc : c.length = l.length := of_decide_eq_true mc2
            have ec : c = l := by
              rcases List.mem_cons.mp mlc with k | k
              · exact k.symm
              · have h1 := (List.pairwise_cons.mp srt).1 l k
                rcases Wy.lx_tri lc with h | h | h
                · exact absurd (.inr ⟨lc, h⟩) (hmin c (good c mc1).1)
                · exact h
                · exact absurd ((natI_lt lc.symm).mpr h) (List.not_lt.mpr h1)
            subst ec
            obtain ⟨lq, rfl, hl⟩ := f1
            have s8 := same_upd (o := .lst (.ref lq :: us')) nr
            exact ⟨r, _, 0, _, rfl, rfl, SqL.of upd_same, atI_nat (j := 0) rfl, q _ lq (s8 _ _ hl) fun x y z => s8 _ _ (s7 _ _ (s26 _ _ (s02 _ _ z)))⟩
end
end Lm
/-! _law_keeps, _law_lifted. -/
namespace Lm
open PySem PySem.Spec PyProof.Rows L2
/-- the very dict of a point -/
def ptK (ys : List Str) (p : Str → Int) : List (Key × V) := ys.map fun x => (Sum.inr x, V.int (p x))
def PtL (H : Hp) (d : Addr) (ys : List Str) (p : Str → Int) : Prop := H d = some (.dK (ptK ys p))
theorem ptK_val {ys : List Str} {p : Str → Int} {x : Str} (h : x ∈ ys) : valV (ptK ys p) (.inr x) = some (.int (p x)) := by
  induction ys with
  | nil => cases h
  | cons y r ih =>
    by_cases e : y = x
    · subst e
      exact valV_pos rfl
    · refine (valV_neg (show ¬ (Sum.inr y : Key) = .inr x from fun z => e (by injection z))).trans ?_
      exact ih ((List.mem_cons.mp h).resolve_left fun z => e z.symm)
theorem PtL.at_ {H : Hp} {d : Addr} {ys : List Str} {p : Str → Int} (h : PtL H d ys p) : PtAt H d ys p := ⟨_, h, by unfold ptK; rw [List.map_map]; rfl, fun x hx => ptK_val hx⟩
/-- the dict of a point with None -/
def fullK (ys : List Str) (p : Str → Int) : SK := putK (ys.map fun x => (some x, V.int (p x))) none (.int 0)
theorem fullK_val {ys : List Str} {p : Str → Int} {o : Spot} (h : o ∈ spots ys) : valV (fullK ys p) o = some (.int (ptV p o)) := by
  unfold fullK
  rw [valV_put]
  cases o with
  | none => exact if_pos rfl
  | some x =>
    have hx : x ∈ ys := by
      rcases List.mem_cons.mp h with z | z
      · cases z
      · obtain ⟨y, hy, e⟩ := List.mem_map.mp z
        cases e
        exact hy
    rw [if_neg (by intro z; cases z)]
    clear h
    induction ys with
    | nil => cases hx
    | cons y r ih =>
      by_cases e : y = x
      · subst e
        exact valV_pos rfl
      · refine (valV_neg (show ¬ (some y : Spot) = some x from fun z => e (by injection z))).trans ?_
        exact ih ((List.mem_cons.mp hx).resolve_left fun z => e z.symm)
def sPutO (P : Program) (w : World) (td ty tv : TE) : TS := fun D σ H => tv σ H fun v H1 => td σ H1 fun x H2 => ty σ H2 fun y H3 => ∃ (a : Addr) (ys : List Str) (p : Str → Int), x = .ref a ∧ PtL H3 a ys p ∧ y = .non ∧ v = .int 0 ∧ ys.length ≤ 1000 ∧ D.nx σ (upd H3 a (NS P w a (fullK ys p)))
theorem ps_putO {X : Cx} {o i value : Expr} {td ty tv : TE} {pos pos' : Pos} (P : Program) (w : World) (ho : PE X o td) (hi : PE X i ty) (hv : PE X value tv) (hs : swapsWith value (some (.Subscript o i pos')) pos.line X.env = pure false) (hP : X.prog = P := by rfl) (hw : X.w = w := by rfl) : PS X (.Assign [.Subscript o i pos'] value pos) (sPutO P w td ty tv) := by
  subst hP hw
  refine ⟨fun pins s σ H D I h => ?_⟩
  refine wpAny_Assign_Subscript (thn (hv.run pins s σ H _ I h) fun r s1 ⟨v, H1, I1, rv, q1⟩ => thn (ho.run pins s1 σ H1 _ I1 q1) fun u s2 ⟨x, H2, I2, rx, q2⟩ => thn (hi.run pins s2 σ H2 _ I2 q2) fun iv s3 ⟨y, H3, I3, ry, a, ys, p, ex, g, ey, ev, hl, q3⟩ => ?_) hs
  subst ex ey ev
  obtain rfl : u = Value.ref a := rx
  obtain ⟨z, hd, vs, rel, dd⟩ := dk_of I3.hok g
  have dd := mix_n dd
  have rel : KV (upK (ys.map fun x => (some x, V.int (p x)))) (vs.map fun p => (some p.1, p.2)) := by
    have : ∀ {ys : List Str} {vs : List (Key × Value)}, KV (ptK ys p) vs → KV (upK (ys.map fun x => (some x, V.int (p x)))) (vs.map fun p => (some p.1, p.2)) := by
      intro ys
      induction ys with
      | nil =>
        intro vs r
        cases r
        exact .nil
      | cons y r ih =>
        intro vs rr
        cases rr with
        | cons r1 r2 => exact .cons ⟨congrArg some r1.1, r1.2⟩ (ih r2)
    exact this rel
  have lz : (vs.map fun p => ((some p.1 : Option Key), p.2)).length = ys.length := by
    rw [← rel.length, upK_len, List.length_map]
  have hz : (vs.map fun p => ((some p.1 : Option Key), p.2)).length ≤ sizeLine := by rw [lz]; exact small10000 (by omega)
  refine wpAny_setItem_pairs (knd := noneKind X.prog X.w) (hsz := hz) (kN_is (k := oK none) (by rw [kN_oK]; exact ry)) dd fun h' dd' hs' => ⟨σ, _, ?_, q3⟩
  have he : ∃ q, h'.get? a = some q := let ⟨q, _, _, hq, _⟩ := dd'; ⟨q, hq⟩
  have rel' := rel.put (oK none) rv
  rw [putK_up] at rel'
  refine d_write (t' := s3.toks + 1) I3 (by rw [g]; exact True.intro) hs' he (nx_ok ?_ hd rel' dd')
  rw [upK_len]
  refine Nat.le_trans (length_putK _ _ _) ?_
  rw [List.length_map]
  exact small10000 (by omega)
theorem eq_nil_r {K : PySem.W.Frag} {H : Hp} {a b : Addr} {xs : List V} {ds : List PyData} {Q : VK} (hs : SqL K H a xs) (hd : DpAll K H xs ds) (lay : PyData.canLayAll0 ds = true) (dep : PyData.depthAll ds ≤ 50) (hb : H b = some (.lst [])) (q : Q (.bl ds.isEmpty) H) : rEqD K (.ref a) (.ref b) H Q :=
  ⟨.list ds, .list [], .lst hs hd, .lst (SqL.of hb) .nil, shaped_lay lay dep, by decide +kernel, by rw [eqv_nil]; exact q⟩
theorem dp_side {K : PySem.W.Frag} {H : Hp} (o : Spot) : Dp K H (oV o) (oD o) := by
  cases o with
  | none => exact .non
  | some x => exact .str x
theorem dp_rows {K : PySem.W.Frag} {H : Hp} {us : List V} {R : Rws} (h : Paired (RwAt H) us R) : DpAll K H us (R.map rwD) := by
  induction h with
  | nil => exact .nil
  | cons f _ ih =>
    obtain ⟨q, rfl, hq⟩ := f
    exact .cons (.tup (SqT.of hq) (.cons (dp_side _) (.cons (dp_side _) (.cons (.int _) .nil)))) ih
theorem lay_rows : ∀ R : Rws, (∀ o ∈ sidesR R, ∀ x, o = some x → PyData.strOk x = true) → PyData.canLayAll0 (R.map rwD) = true ∧ PyData.depthAll (R.map rwD) ≤ 50
  | [], _ => by simp [PyData.canLayAll0, PyData.depthAll]
  | (a, b, c) :: R, h => by
    obtain ⟨h1, h2⟩ := lay_rows R fun o ho => h o (List.mem_append_right _ ho)
    have one : ∀ o : Spot, (∀ x, o = some x → PyData.strOk x = true) → (oD o).canLay0 = true ∧ (oD o).depth = 0 := fun o ho => by
      cases o with
      | none => simp [oD, PyData.canLay0, PyData.depth]
      | some x => simp [oD, PyData.canLay0, PyData.depth, ho x rfl]
    obtain ⟨a1, a2⟩ := one a fun x e => h a (List.mem_append_left _ (List.mem_cons_self ..)) x e
    obtain ⟨b1, b2⟩ := one b fun x e => h b (List.mem_append_left _ (List.mem_cons_of_mem _ (List.mem_cons_self ..))) x e
    simp [rwD, PyData.canLayAll0, PyData.canLay0, PyData.depthAll, PyData.depth, h1, h2, a1, a2, b1, b2]
    omega
section
variable {P : Program} {w : World} {K : PySem.W.Frag} {mg : Str → Option Value} {base : Heap}
abbrev sKp : Stmt := topS 45
def nKp : List Str := ["rows", "point_here", "full", "row"]
theorem scKp : FnScope nKp ["rows", "point_here"] (defScope sKp) := ⟨rfl, rfl, rfl, by decide +kernel, rfl, by decide +kernel, by decide +kernel⟩
def spKp : Sp := fun vs H Q _ => ∃ (p d : Addr) (R : Rws) (ys : List Str) (f : Str → Int), vs = [.ref p, .ref d] ∧ RLs H p R ∧ NmsOf R ys ∧ PtL H d ys f ∧ (∀ H', Wy.Pot R (ptV f) → Same H H' → Q (.bl true) H') ∧ (∀ H', ¬ Wy.Pot R (ptV f) → Same H H' → Q (.bl false) H')
theorem ok_kp {f : Addr} {fd : FuncData} (F : Fun K "_law_keeps" "_law_keeps" sKp f fd) (hdict : mg "dict" = none) : FnOk P w K mg base CX0 1 f fd ["rows", "point_here"] spKp := by
  refine F.ok scKp (fun vs H Q E h => ?_) (fun cdv A outer s H vs Q E hr h => ?_)
  · obtain ⟨p, d, R, ys, f, rfl, _⟩ := h
    rfl
  · obtain ⟨p, d, R, ys, f, rfl, ⟨us, hp, lu, hu', ne, l30, okn⟩, hn, hd, q1, q2⟩ := h
    have hu := hr.units
    refine ⟨_, pss_cons (ps_set (i := 2) scKp.nd rfl (.inr rfl) (pe_callTy call_dictD (by rfl) hdict (by decide +kernel) (pa_cons (pv 1) pa_nil)))
      (pss_cons (ps_putO P w (pv 2) pe_non pe_int rfl)
      (pss_one (ps_ret (pe_cmpR (show OpR _ _ (rEqD K) from op_eqD hu) (pe_lc (own := [("row", 3)]) (g := gName 3) rfl scKp.nd (pi_listK K (pv 0)) (blkOk_by (own := [("row", 3)]) (N := nKp) (sc := defScope sKp) (by decide +kernel)) (fun _ _ _ _ _ => pg_name (i := 3) scKp.nd rfl (Or.inl rfl))
          (fun _ _ _ _ _ => pts_one (pt_cmpR op_gt (pe_op op_sub (pe_dgetSP P w (pv 2) (pe_ix (ix_tupK K) (pv 3) pe_int (fun _ _ => rfl)) (fun _ _ => rfl)) (pe_dgetSP P w (pv 2) (pe_ix (ix_tupK K) (pv 3) pe_int (fun _ _ => rfl)) (fun _ _ => rfl))) (pe_ix (ix_tupK K) (pv 3) pe_int (fun _ _ => rfl)) (nomark _))) (fun _ _ _ _ _ => pv 3)) (pe_lst pa_nil) (nomark _))))), ?_⟩
    have lys := hn.len l30
    refine ⟨_, rfl, d, _, rfl, .inl hd, fun fq nf => ?_⟩
    refine ⟨_, rfl, fq, ys, f, rfl, upd_same, rfl, rfl, by omega, ?_⟩
    rw [upd_upd]
    have s1 : Same H (upd H fq (NS P w fq (fullK ys f))) := same_upd nf
    have hf1 : (upd H fq (NS P w fq (fullK ys f))) fq = some (NS P w fq (fullK ys f)) := upd_same
    generalize upd H fq (NS P w fq (fullK ys f)) = H1 at s1 hf1 ⊢
    let bad : Wy.Rw Spot → Bool := fun r => decide (r.2.2 < ptV f r.1 - ptV f r.2.1)
    refine ⟨_, rfl, p, rfl, ⟨_, SqL.of (s1 _ _ hp)⟩, fun D nD => lc_list (K := K) (a := p) (xs := us) (fun i H' => Same H1 H' ∧ ∃ acc, H' D = some (.lst acc) ∧ Paired (fun u r => RwAt H' u r) acc ((R.take i).filter bad)) ⟨same_upd nD, [], upd_same, .nil⟩ (fun i H' _ z => SqL.of (z.1 _ _ (s1 _ _ hp))) ?_ ?_⟩
    · rintro i xv H2 hi ⟨s2, acc, hD, pa⟩
      obtain ⟨⟨a, b, c⟩, hr', q0, rfl, hq0⟩ := hu' i xv hi
      have li : i < R.length := (List.getElem?_eq_some_iff.mp hr').1
      obtain ⟨ma, mb⟩ := hn.mem _ _ _ (List.mem_of_getElem? hr')
      have hq2 := s2 _ _ (s1 _ _ hq0)
      have hf2 := s2 _ _ hf1
      have stp := filter_one (f := bad) hr'
      refine ⟨rfl, _, rfl, _, rfl, q0, _, 0, _, rfl, rfl, SqT.of hq2, atI_nat (j := 0) rfl, fq, fullK ys f, a, _, rfl, .inl hf2, rfl, fullK_val ma, _, rfl, _, rfl, q0, _, 1, _, rfl, rfl, SqT.of hq2, atI_nat (j := 1) rfl, fq, fullK ys f, b, _, rfl, .inl hf2, rfl, fullK_val mb, _, _, rfl, rfl, ?_⟩
      refine ⟨_, rfl, q0, _, 2, _, rfl, rfl, SqT.of hq2, atI_nat (j := 2) rfl, _, _, rfl, rfl, _, rfl, ?_⟩
      have k : bad (a, b, c) = decide (c < ptV f a - ptV f b) := rfl
      rw [k] at stp
      by_cases e : c < ptV f a - ptV f b
      · rw [decide_eq_true e] at stp ⊢
        refine iteT ⟨_, rfl, acc, hD, ?_, same_put s2 nD, acc ++ [.ref q0], upd_same, ?_⟩
        · have h1 := paired_len pa
          have h2 : ((R.take i).filter bad).length ≤ (R.take i).length := List.length_filter_le _ _
          rw [List.length_take] at h2
          exact small1000 (by omega)
        · rw [stp]
          have nt : ∀ {q : Addr} {ys : List V}, H2 q = some (.tup ys) → q ≠ D := fun h z => by rw [z, hD] at h; cases h
          refine paired_app (paired_imp pa fun x y _ h => h.at2 fun q ys e => by rw [upd_ne (nt e)]; exact e) (.cons ⟨q0, rfl, by rw [upd_ne (nt hq2)]; exact hq2⟩ .nil)
      · rw [decide_eq_false e] at stp ⊢
        exact iteF ⟨s2, acc, hD, by rw [stp]; show Paired _ _ (_ ++ []); rw [List.append_nil]; exact pa⟩
    · rintro H2 ⟨s2, acc, hD, pa⟩
      rw [lu, List.take_length] at pa
      refine ⟨Nat.zero_le _, fun b nb => ?_⟩
      have s3 := same_upd (o := .lst []) nb
      have s03 : Same H (upd H2 b (.lst [])) := fun x y z => s3 _ _ (s2 _ _ (s1 _ _ z))
      have lay := lay_rows (R.filter bad) fun o ho x e => okn o (by
        obtain ⟨r, hr, hx⟩ := List.mem_flatMap.mp ho
        exact List.mem_flatMap.mpr ⟨r, (List.mem_filter.mp hr).1, hx⟩) x e
      refine eq_nil_r (SqL.of (s3 _ _ hD)) (dp_rows (paired_imp pa fun x y _ h => h.sm s3)) lay.1 lay.2 upd_same ?_
      by_cases c : Wy.Pot R (ptV f)
      · have em : R.filter bad = [] := List.filter_eq_nil_iff.mpr fun r hr => by
          have := c r hr
          show ¬ decide (r.2.2 < ptV f r.1 - ptV f r.2.1) = true
          rw [decide_eq_false (by omega)]
          decide
        rw [em]
        exact q1 _ c s03
      · have em : ((R.filter bad).map rwD).isEmpty = false := by
          cases e : R.filter bad with
          | cons _ _ => rfl
          | nil =>
            refine absurd (fun r hr => ?_) c
            have := List.filter_eq_nil_iff.mp e r hr
            have this : ¬ decide (r.2.2 < ptV f r.1 - ptV f r.2.1) = true := this
            rw [decide_eq_true_iff] at this
            omega
        rw [em]
        exact q2 _ c s03
end
end Lm
/-! _law_lifted. -/
namespace Lm
open PySem PySem.Spec PyProof.Rows L2
theorem sides_snoc (R : Rws) (e b : Spot) (c : Int) : sidesR (R ++ [(e, b, c)]) = sidesR R ++ [e, b] := by
  unfold sidesR
  rw [List.flatMap_append]
  rfl
theorem nms_snoc {R : Rws} {ys ys2 : List Str} (hn : NmsOf R ys) {e b : Spot} {c : Int} (he : e ∈ spots ys) (hb : b ∈ spots ys) (h2 : NmsOf (R ++ [(e, b, c)]) ys2) : ys2 = ys := by
  refine AscOf.uniq h2 hn fun k => ?_
  rw [sides_snoc, List.filterMap_append, List.mem_append]
  constructor
  · rintro (h | h)
    · exact h
    · obtain ⟨o, ho, e2⟩ := List.mem_filterMap.mp h
      have e2 : o = some k := e2
      subst e2
      have : (some k : Spot) ∈ spots ys := by
        rcases List.mem_cons.mp ho with z | z
        · rw [z]; exact he
        · rw [List.mem_singleton] at z
          rw [z]; exact hb
      rcases List.mem_cons.mp this with z | z
      · cases z
      · obtain ⟨y, hy, e3⟩ := List.mem_map.mp z
        cases e3
        exact (hn.2.2 k).mp hy
  · exact .inl
section
variable {P : Program} {w : World} {K : PySem.W.Frag} {mg : Str → Option Value} {base : Heap}
abbrev sLf : Stmt := topS 55
def nLf : List Str := ["rows", "titles", "begin", "end", "number", "more", "closest", "base", "title", "some", "side"]
theorem scLf : FnScope nLf ["rows", "titles", "begin", "end", "number"] (defScope sLf) := ⟨rfl, rfl, rfl, by decide +kernel, rfl, by decide +kernel, by decide +kernel⟩
def spLf : Sp := fun vs H Q _ => ∃ (p tq : Addr) (R : Rws) (ys : List Str) (b e : Spot) (num : Int), vs = [.ref p, .ref tq, oV b, oV e, .int num] ∧ RLs H p R ∧ NmsOf R ys ∧ H tq = some (.lst (ys.map V.str)) ∧ b ∈ spots ys ∧ e ∈ spots ys ∧ b ≠ e ∧ R.length ≤ 29 ∧
  (HasRing (R ++ [(e, b, 0 - num)]) → ∀ H', Same H H' → Q .non H') ∧ (HasPot (R ++ [(e, b, 0 - num)]) → ∀ H' q, Same H H' → Q (.ref q) H')
theorem ok_lf {f : Addr} {fd : FuncData} (F : Fun K "_law_lifted" "_law_lifted" sLf f fd) (GC : Has P w K mg base CX0 2 "_law_closest" ["rows"] (spCl P w)) : FnOk P w K mg base CX0 3 f fd ["rows", "titles", "begin", "end", "number"] spLf := by
  refine F.ok scLf (fun vs H Q E h => ?_) (fun cdv A outer s H vs Q E hr h => ?_)
  · obtain ⟨p, tq, R, ys, b, e, num, rfl, _⟩ := h
    rfl
  · obtain ⟨p, tq, R, ys, b, e, num, rfl, ⟨us, hp, lu, hu', ne, l30, okn⟩, hn, htq, mb, me, bne, l29, q1, q2⟩ := h
    have hu := hr.units
    have hu1 := hu_of hr
    refine ⟨_, pss_cons (ps_set (i := 5) scLf.nd rfl (.inl rfl) (pe_op op_cat (pv 0) (pe_ifExp (pt_cmpR op_ne (pv 2) (pv 3) (nomark _)) (pe_lst (pa_cons (pe_tup (pa_cons (pv 3) (pa_cons (pv 2) (pa_cons (pe_op op_sub pe_int (pv 4)) pa_nil)))) pa_nil)) (pe_lst pa_nil))))
      (pss_cons (ps_asg (pe_tup (pa_cons (pe_h GC hr (by decide) (by rfl) pass0 (pa_cons (pv 5) pa_nil)) (pa_cons pe_dnewK pa_nil))) (pg_tup rfl (pgs_cons (pg_name (i := 6) scLf.nd rfl (.inr rfl)) (pgs_cons (pg_name (i := 7) scLf.nd rfl (.inl rfl)) pgs_nil))))
      (pss_cons (ps_if (pt_cmpR (show OpR _ _ (rNeD K) from op_neD hu) (pe_lc (own := [("side", 10)]) (g := gName 10) rfl scLf.nd (pi_listK K (pe_op op_cat (pv 1) (pe_lst (pa_cons pe_non pa_nil)))) (blkOk_by (own := [("side", 10)]) (N := nLf) (sc := defScope sLf) (by decide +kernel))
          (fun _ _ _ _ _ => pg_name (i := 10) scLf.nd rfl (Or.inl rfl)) (fun _ _ _ _ _ => pts_one (pt_cmpR op_lt (pe_dgetXP P w hu (pv 6) (pe_tup (pa_cons (pv 10) (pa_cons (pv 10) pa_nil))) (fun _ _ => rfl)) pe_int (nomark _))) (fun _ _ _ _ _ => pv 10)) (pe_lst pa_nil) (nomark _)) (pss_one (ps_ret pe_non)) pss_nil)
      (pss_cons (ps_for PassesOwn.never rfl (pi_listK K (pv 1)) (pg_name (i := 8) scLf.nd rfl (.inl rfl))
        (pss_cons (ps_set (i := 9) scLf.nd rfl (.inl rfl) (pe_ifExp (pt_cmp (pc_dinXP P w hu (pe_tup (pa_cons pe_non (pa_cons (pv 8) pa_nil))) (pv 6))) (pe_lst (pa_cons (pe_op op_sub pe_int (pe_dgetXP P w hu (pv 6) (pe_tup (pa_cons pe_non (pa_cons (pv 8) pa_nil))) (fun _ _ => rfl))) pa_nil)) (pe_lst pa_nil)))
        (pss_one (ps_dput hu1 (pv 7) (pv 8) (pe_ifExp (pt_cmpR (show OpR _ _ (rNeD K) from op_neD hu) (pv 9) (pe_lst pa_nil) (nomark _)) (pe_ix (ix_listK K) (pv 9) pe_int (fun _ _ => rfl)) pe_non) rfl))))
      (pss_one (ps_ret (pv 7)))))), ?_⟩
    have lys := hn.len l30
    refine ⟨_, rfl, _, rfl, _, rfl, oV_scal _ _, _, rfl, ?_⟩
    rw [oV_eq, decide_eq_false bne]
    refine iteT ⟨_, rfl, _, rfl, _, rfl, _, _, rfl, rfl, by show 3 ≤ sizeLine; decide, fun t nt => ⟨by show 1 ≤ sizeLine; decide, fun l1 nl1 => ?_⟩⟩
    have s1 : Same H (upd (upd H t (.tup [oV e, oV b, .int (0 - num)])) l1 (.lst [.ref t])) := fun x y z => same_upd nl1 _ _ (same_upd nt _ _ z)
    have ht1 : (upd (upd H t (.tup [oV e, oV b, .int (0 - num)])) l1 (.lst [.ref t])) t = some (.tup [oV e, oV b, .int (0 - num)]) := same_upd nl1 _ _ upd_same
    have hl1 : (upd (upd H t (.tup [oV e, oV b, .int (0 - num)])) l1 (.lst [.ref t])) l1 = some (.lst [.ref t]) := upd_same
    generalize upd (upd H t (.tup [oV e, oV b, .int (0 - num)])) l1 (.lst [.ref t]) = H1 at s1 ht1 hl1 ⊢
    refine ⟨p, l1, us, _, rfl, rfl, s1 _ _ hp, hl1, small10000 (by show us.length + 1 ≤ 10000; omega), fun m nm => ?_⟩
    have s2 := same_upd (o := .lst (us ++ [.ref t])) nm
    have s02 : Same H (upd H1 m (.lst (us ++ [.ref t]))) := fun x y z => s2 _ _ (s1 _ _ z)
    have rl2 : RLs (upd H1 m (.lst (us ++ [.ref t]))) m (R ++ [(e, b, 0 - num)]) := by
      refine ⟨_, upd_same, by rw [List.length_append, List.length_append, lu]; rfl, fun i u hi => ?_, fun a' b' c' h => ?_, by rw [List.length_append]; show R.length + 1 ≤ 30; omega, fun o ho x ex => ?_⟩
      · by_cases c : i < us.length
        · rw [List.getElem?_append_left c] at hi
          obtain ⟨r, h1, h2⟩ := hu' i u hi
          exact ⟨r, by rw [List.getElem?_append_left (by omega)]; exact h1, h2.sm s02⟩
        · rw [List.getElem?_append_right (by omega)] at hi
          have ci : i - us.length = 0 := by
            have := (List.getElem?_eq_some_iff.mp hi).1
            have this : i - us.length < 1 := this
            omega
          rw [ci] at hi
          cases hi
          exact ⟨(e, b, 0 - num), by rw [List.getElem?_append_right (by omega), ← lu, ci]; rfl, t, rfl, s2 _ _ ht1⟩
      · rcases List.mem_append.mp h with z | z
        · exact ne a' b' c' z
        · rw [List.mem_singleton] at z
          cases z
          exact bne.symm
      · rw [sides_snoc] at ho
        have bad : ∀ o', o' ∈ spots ys → ∀ x, o' = some x → PyData.strOk x = true := fun o' h x e' => by
          subst e'
          rcases List.mem_cons.mp h with z | z
          · cases z
          · obtain ⟨y, hy, e3⟩ := List.mem_map.mp z
            cases e3
            exact okn _ ((hn.iff x).mp hy) x rfl
        rcases List.mem_append.mp ho with z | z
        · exact okn o z x ex
        · rcases List.mem_cons.mp z with z | z
          · exact bad o (z ▸ me) x ex
          · rw [List.mem_singleton] at z
            exact bad o (z ▸ mb) x ex
    generalize upd H1 m (.lst (us ++ [.ref t])) = H2 at s02 rl2 ⊢
    refine ⟨_, rfl, m, _, rfl, rl2, fun H3 cq ys2 D hn2 cl dt ncq s3 => ?_⟩
    have e2 := nms_snoc hn me mb hn2
    subst e2
    refine fun bq nb => ⟨by show 2 ≤ sizeLine; decide, fun t2 nt2 => ?_⟩
    have s4 : Same H3 (upd (upd H3 bq (.dK [])) t2 (.tup [.ref cq, .ref bq])) := fun x y z => same_upd nt2 _ _ (same_upd nb _ _ z)
    have ht2 : (upd (upd H3 bq (.dK [])) t2 (.tup [.ref cq, .ref bq])) t2 = some (.tup [.ref cq, .ref bq]) := upd_same
    have hb4 : (upd (upd H3 bq (.dK [])) t2 (.tup [.ref cq, .ref bq])) bq = some (.dK []) := same_upd nt2 _ _ upd_same
    have dt4 := dt.sm s4
    have s04 : Same H (upd (upd H3 bq (.dK [])) t2 (.tup [.ref cq, .ref bq])) := fun x y z => s4 _ _ (s3 _ _ (s02 _ _ z))
    have nb0 := none_of s02 (none_of s3 nb)
    generalize upd (upd H3 bq (.dK [])) t2 (.tup [.ref cq, .ref bq]) = H4 at ht2 hb4 dt4 s04 ⊢
    refine ⟨t2, _, rfl, SqT.of ht2, rfl, _, _, rfl, _, _, rfl, rfl, ?_⟩
    refine ⟨_, rfl, by show 1 ≤ sizeLine; decide, fun t3 nt3 => ⟨tq, t3, _, _, rfl, rfl, same_upd nt3 _ _ (s04 _ _ htq), upd_same, small10000 (by rw [List.length_map]; show ys2.length + 1 ≤ 10000; omega), fun sd nsd => ?_⟩⟩
    have s5 : Same H4 (upd (upd H4 t3 (.lst [.non])) sd (.lst (ys2.map V.str ++ [.non]))) := fun x y z => same_upd nsd _ _ (same_upd nt3 _ _ z)
    have hsd : (upd (upd H4 t3 (.lst [.non])) sd (.lst (ys2.map V.str ++ [.non]))) sd = some (.lst ((spotz ys2).map oV)) := by
      rw [upd_same]
      unfold spotz
      rw [List.map_append, List.map_map]
      rfl
    have dt5 := dt4.sm s5
    have hb5 := s5 _ _ hb4
    have s05 : Same H (upd (upd H4 t3 (.lst [.non])) sd (.lst (ys2.map V.str ++ [.non]))) := fun x y z => s5 _ _ (s04 _ _ z)
    generalize upd (upd H4 t3 (.lst [.non])) sd (.lst (ys2.map V.str ++ [.non])) = H5 at hsd dt5 hb5 s05 ⊢
    have inZ : ∀ a' b' c', (a', b', c') ∈ R ++ [(e, b, 0 - num)] → a' ∈ spotz ys2 ∧ b' ∈ spotz ys2 := fun a' b' c' h => let ⟨x, y⟩ := hn2.mem a' b' c' h; ⟨spotz_mem.mpr x, spotz_mem.mpr y⟩
    have lZ : (spotz ys2).length ≤ 61 := by rw [spotz_len]; omega
    have okZ := ok_spotz hn okn
    generalize hS : spotz ys2 = S at hsd inZ lZ cl okZ
    obtain ⟨ks, pd, hv⟩ := dt5
    refine ⟨sd, rfl, ⟨_, SqL.of hsd⟩, fun R1 nR => lc_list (K := K) (a := sd) (xs := S.map oV) (fun i H' => Same H5 H' ∧ H' R1 = some (.lst (((S.take i).filter fun s => match D s s with | some z => decide (z < 0) | none => false).map oV))) ⟨same_upd nR, upd_same⟩ (fun i H' _ z => SqL.of (z.1 _ _ hsd)) ?_ ?_⟩
    · rintro i xv H6 hi ⟨s6, hR⟩
      obtain ⟨o, ho, rfl⟩ := spot_map hi
      have mo := List.mem_of_getElem? ho
      obtain ⟨z, hz⟩ := cl.dia o mo
      have stp := filter_one (f := fun s => match D s s with | some z => decide (z < 0) | none => false) ho
      have hk : (match D o o with | some z => decide (z < 0) | none => false) = decide (z < 0) := by rw [hz]
      rw [hk] at stp
      refine ⟨rfl, _, rfl, _, rfl, _, rfl, by show 2 ≤ sizeLine; decide, fun t nt => ?_⟩
      have s7 := same_upd (o := .tup [oV o, oV o]) nt
      have s57 : Same H5 (upd H6 t (.tup [oV o, oV o])) := fun b x e => s7 _ _ (s6 _ _ e)
      refine ⟨cq, ks, (o, o), t, .int z, rfl, pd.sm s57, rfl, upd_same, by rw [hv, hz]; rfl, _, _, rfl, rfl, _, rfl, ?_⟩
      have hR7 := s7 _ _ hR
      by_cases lz : z < 0
      · rw [decide_eq_true lz] at stp ⊢
        refine iteT ⟨_, rfl, _, hR7, ?_, same_put s57 nR, ?_⟩
        · have h1 : ((S.take i).filter fun s => match D s s with | some z => decide (z < 0) | none => false).length ≤ (S.take i).length := List.length_filter_le _ _
          have h2 : (S.take i).length ≤ S.length := by rw [List.length_take]; omega
          exact small1000 (by rw [List.length_map]; omega)
        · rw [upd_same, stp, List.map_append]
          rfl
      · rw [decide_eq_false lz] at stp ⊢
        refine iteF ⟨s57, ?_⟩
        rw [stp]
        show _ = some (HO.lst ((_ ++ []).map oV))
        rw [List.append_nil]
        exact hR7
    · rintro H6 ⟨s6, hR⟩
      rw [show (S.map oV).length = S.length from List.length_map .., List.take_length] at hR
      refine ⟨Nat.zero_le _, fun z nz => ?_⟩
      have s7 := same_upd (o := .lst []) nz
      have s57 : Same H5 (upd H6 z (.lst [])) := fun c x e => s7 _ _ (s6 _ _ e)
      have s07 : Same H (upd H6 z (.lst [])) := fun c x e => s57 _ _ (s05 _ _ e)
      have lay := lay_spots (S.filter fun s => match D s s with | some z => decide (z < 0) | none => false) fun o ho => okZ o (List.mem_filter.mp ho).1
      refine ne_nil_r (SqL.of (s7 _ _ hR)) (dp_spots _) lay.1 lay.2 upd_same ⟨_, rfl, ?_⟩
      rcases cl.pot inZ with ⟨ring, ⟨a, ha, z', hz, lz⟩⟩ | ⟨pot, good⟩
      · have ne : ((S.filter fun s => match D s s with | some z => decide (z < 0) | none => false).map oD).isEmpty = false := by
          have m : a ∈ S.filter fun s => match D s s with | some z => decide (z < 0) | none => false := List.mem_filter.mpr ⟨ha, by rw [hz]; exact decide_eq_true lz⟩
          cases e : S.filter fun s => match D s s with | some z => decide (z < 0) | none => false with
          | nil => rw [e] at m; cases m
          | cons _ _ => rfl
        rw [ne]
        exact iteT (q1 ring _ s07)
      · have em : (S.filter fun s => match D s s with | some z => decide (z < 0) | none => false) = [] := List.filter_eq_nil_iff.mpr fun s hs => by
          rw [good.dia s hs]
          decide
        rw [em]
        have pd7 := pd.sm s57
        have hb7 := s57 _ _ hb5
        generalize upd H6 z (.lst []) = H7 at s07 pd7 hb7 ⊢
        have tb : tq ≠ bq := ne_of_none htq nb0
        refine iteF ⟨_, rfl, tq, rfl, ⟨_, SqL.of (s07 _ _ htq)⟩, for_list (K := K) (a := tq) (xs := ys2.map V.str) (fun i σ H' => ∃ (x8 x9 : Option V) (kvs : List (Key × V)), σ = [some (.ref p), some (.ref tq), some (oV b), some (oV e), some (.int num), some (.ref m), some (.ref cq), some (.ref bq), x8, x9, none] ∧ (∀ c o, c ≠ bq → H c = some o → H' c = some o) ∧ PDat P w H' cq ks ∧ H' bq = some (.dK kvs) ∧ kvs.length ≤ i)
          ⟨none, none, [], rfl, fun c o _ h => s07 _ _ h, pd7, hb7, Nat.zero_le _⟩ (fun i σ H' _ ⟨_, _, _, _, sb, _⟩ => SqL.of (sb _ _ tb htq)) ?_ ?_⟩
        · rintro i xv σ H8 hi ⟨x8, x9, kvs, rfl, sb, pd8, hb8, lk⟩
          obtain ⟨y, hy, rfl⟩ := str_map hi
          have li : i < ys2.length := (List.getElem?_eq_some_iff.mp hy).1
          refine ⟨_, rfl, by show 2 ≤ sizeLine; decide, fun t1 n1 => ?_⟩
          have s9 := same_upd (o := .tup [oV none, oV (some y)]) n1
          have h1 : (upd H8 t1 (.tup [oV none, oV (some y)])) t1 = some (.tup [oV none, oV (some y)]) := upd_same
          have pd9 := pd8.sm s9
          have hb9 := s9 _ _ hb8
          have sb9 : ∀ c o, c ≠ bq → H c = some o → (upd H8 t1 (.tup [oV none, oV (some y)])) c = some o := fun c o n h => s9 _ _ (sb c o n h)
          have pdfr : ∀ (H' : Hp) (o : HO), Same (upd H8 t1 (.tup [oV none, oV (some y)])) H' → PDat P w (upd H' bq o) cq ks := fun H' o s => by
            have hb' := s _ _ hb9
            refine (pd9.sm s).fr (fun o' e' => ?_) fun q ys' e' => ?_
            · rw [upd_ne]
              · exact e'
              · rintro rfl
                obtain ⟨kv, g1, _⟩ := pd9.sm s
                rw [hb'] at g1
                cases g1
            · rw [upd_ne]
              · exact e'
              · rintro rfl
                rw [hb'] at e'
                cases e'
          have post : ∀ (H' : Hp) (v x9 : V), Same (upd H8 t1 (.tup [oV none, oV (some y)])) H' → ∃ (x8' x9' : Option V) (kvs' : List (Key × V)), ([some (.ref p), some (.ref tq), some (oV b), some (oV e), some (.int num), some (.ref m), some (.ref cq), some (.ref bq), some (.str y), some x9, none] : L2.St) = [some (.ref p), some (.ref tq), some (oV b), some (oV e), some (.int num), some (.ref m), some (.ref cq), some (.ref bq), x8', x9', none] ∧
              (∀ c o, c ≠ bq → H c = some o → (upd H' bq (.dK (putK kvs (.inr y) v))) c = some o) ∧ PDat P w (upd H' bq (.dK (putK kvs (.inr y) v))) cq ks ∧ (upd H' bq (.dK (putK kvs (.inr y) v))) bq = some (.dK kvs') ∧ kvs'.length ≤ i + 1 := fun H' v x9 s =>
            ⟨_, _, _, rfl, fun c o n h => by rw [upd_ne n]; exact s _ _ (sb9 c o n h), pdfr H' _ s, upd_same, Nat.le_trans (length_putK _ _ _) (by omega)⟩
          have lkv : kvs.length < sizeLine := small1000 (by omega)
          refine ⟨_, rfl, cq, ks, (none, some y), t1, rfl, pd9, rfl, h1, _, rfl, ?_⟩
          rw [hv]
          cases hz : D none (some y) with
          | none =>
            refine iteF ⟨Nat.zero_le _, fun z nz => ⟨_, rfl, Nat.zero_le _, fun z2 nz2 => ?_⟩⟩
            have sA := same_upd (o := .lst []) nz
            have sB := same_upd (o := .lst []) nz2
            refine ne_nil_r (SqL.of (sB _ _ upd_same)) .nil (by decide) (by decide) upd_same ⟨_, rfl, ?_⟩
            refine iteF ⟨_, rfl, _, rfl, bq, _, rfl, .inl ⟨kvs, .inr y, sB _ _ (sA _ _ hb9), rfl, lkv, rfl⟩, post _ _ _ fun x' y' z' => sB _ _ (sA _ _ z')⟩
          | some z0 =>
            refine iteT ⟨_, rfl, _, rfl, by show 2 ≤ sizeLine; decide, fun t4 n4 => ?_⟩
            have sA := same_upd (o := .tup [oV none, oV (some y)]) n4
            refine ⟨cq, ks, (none, some y), t4, .int z0, rfl, pd9.sm sA, rfl, upd_same, by rw [hv, hz]; rfl, _, _, rfl, rfl, by show 1 ≤ sizeLine; decide, fun z nz => ?_⟩
            have sB := same_upd (o := .lst [.int (0 - z0)]) nz
            refine ⟨_, rfl, Nat.zero_le _, fun z2 nz2 => ?_⟩
            have sC := same_upd (o := .lst []) nz2
            refine ne_nil_r (SqL.of (sC _ _ upd_same)) (.cons (.int _) .nil) (by simp [PyData.canLayAll0, PyData.canLay0]) (by simp [PyData.depthAll, PyData.depth]) upd_same ⟨_, rfl, ?_⟩
            refine iteT ⟨_, rfl, z, _, 0, _, rfl, rfl, SqL.of (sC _ _ upd_same), atI_nat (j := 0) rfl, _, rfl, _, rfl, bq, _, rfl, .inl ⟨kvs, .inr y, sC _ _ (sB _ _ (sA _ _ hb9)), rfl, lkv, rfl⟩, post _ _ _ fun x' y' z' => sC _ _ (sB _ _ (sA _ _ z'))⟩
        · rintro σ H8 ⟨x8, x9, kvs, rfl, sb, pd8, hb8, lk⟩
          exact ⟨_, rfl, q2 pot H8 bq fun c o h => sb _ _ (fun z => by rw [z, nb0] at h; cases h) h⟩
end
end Lm
/-! _law_box, _law_reached. -/
namespace Lm
open PySem PySem.Spec PyProof.Rows L2
def DcX (H : Hp) (D : Addr) (ys : List Str) (u : V) (f : Str → Int) : Prop := ∃ d, u = .ref d ∧ PtL H d ys f ∧ d ≠ D
def DcAt (H : Hp) (ys : List Str) (u : V) (f : Str → Int) : Prop := ∃ d, u = .ref d ∧ PtL H d ys f
theorem ptK_none {ys : List Str} {p : Str → Int} {x : Str} (h : x ∉ ys) : valV (ptK ys p) (.inr x) = none := by
  induction ys with
  | nil => rfl
  | cons y r ih =>
    have h1 : ¬ y = x := fun e => h (e ▸ List.mem_cons_self ..)
    refine (valV_neg (show ¬ (Sum.inr y : Key) = .inr x from fun z => h1 (by injection z))).trans ?_
    exact ih fun z => h (List.mem_cons_of_mem _ z)
theorem ptK_put {ys : List Str} {p : Str → Int} {x : Str} (h : x ∉ ys) (z : Int) : putK (ptK ys p) (.inr x) (.int z) = ptK (ys ++ [x]) (Wy.upf p x z) := by
  rw [putK_new _ (ptK_none h)]
  unfold ptK
  rw [List.map_append]
  congr 1
  · refine List.map_congr_left fun y hy => ?_
    rw [Wy.upf_ne]
    exact fun e => h (e ▸ hy)
  · show [((Sum.inr x : Key), V.int z)] = [(Sum.inr x, V.int (Wy.upf p x z x))]
    rw [Wy.upf_self]
theorem merge_pt (p : Str → Int) : ∀ (xs acc : List Str), (acc ++ xs).Nodup → mergeK (ptK acc p) (ptK xs p) = ptK (acc ++ xs) p
  | [], acc, _ => by rw [List.append_nil]; rfl
  | x :: xs, acc, h => by
    have hx : x ∉ acc := fun m => by
      have := (List.nodup_append.mp h).2.2 x m x (List.mem_cons_self ..)
      exact this rfl
    show mergeK (putK (ptK acc p) (.inr x) (.int (p x))) (ptK xs p) = _
    rw [ptK_put hx]
    have e : Wy.upf p x (p x) = p := by
      funext y
      unfold Wy.upf
      split
      · rename_i q; rw [q]
      · rfl
    rw [e, merge_pt p xs (acc ++ [x]) (by rw [List.append_assoc]; exact h), List.append_assoc]
    rfl
def Zero (f : Str → Int) : Prop := ∀ x, f x = 0
section
variable {P : Program} {w : World} {K : PySem.W.Frag} {mg : Str → Option Value} {base : Heap}
abbrev sBx : Stmt := topS 53
def nBx : List Str := ["titles", "low", "high", "found", "title", "longer", "each", "number", "more"]
theorem scBx : FnScope nBx ["titles", "low", "high"] (defScope sBx) := ⟨rfl, rfl, rfl, by decide +kernel, rfl, by decide +kernel, by decide +kernel⟩
def spBx : Sp := fun vs H Q _ => ∃ (tq : Addr) (ys : List Str), vs = [.ref tq, .int (-5), .int 5] ∧ H tq = some (.lst (ys.map V.str)) ∧ ys.Nodup ∧ ys.length ≤ 2 ∧
  ∀ (H' : Hp) (q : Addr) (us : List V) (fs : List (Str → Int)), H' q = some (.lst us) → Paired (DcAt H' ys) us fs → (∃ f ∈ fs, Zero f) → Same H H' → Q (.ref q) H'
theorem ok_bx {f : Addr} {fd : FuncData} (F : Fun K "_law_box" "_law_box" sBx f fd) (N : Bl mg) (hdict : mg "dict" = none) : FnOk P w K mg base CX0 1 f fd ["titles", "low", "high"] spBx := by
  refine F.ok scBx (fun vs H Q E h => ?_) (fun cdv A outer s H vs Q E hr h => ?_)
  · obtain ⟨tq, ys, rfl, _⟩ := h
    rfl
  · obtain ⟨tq, ys, rfl, htq, nd, l2, q⟩ := h
    have hu1 := hu_of hr
    refine ⟨_, pss_cons (ps_set (i := 3) scBx.nd rfl (.inl rfl) (pe_lst (pa_cons pe_dnewK pa_nil)))
      (pss_cons (ps_for PassesOwn.never rfl (pi_listK K (pv 0)) (pg_name (i := 4) scBx.nd rfl (.inl rfl))
        (pss_cons (ps_set (i := 5) scBx.nd rfl (.inl rfl) (pe_lst pa_nil))
        (pss_cons (ps_for PassesOwn.never rfl (pi_listK K (pv 3)) (pg_name (i := 6) scBx.nd rfl (.inl rfl))
          (pss_one (ps_for PassesOwn.never rfl (pi_range2 (by rfl) N.brng (pa_cons (pv 1) (pa_cons (pe_op op_add (pv 2) pe_int) pa_nil))) (pg_name (i := 7) scBx.nd rfl (.inl rfl))
            (pss_cons (ps_set (i := 8) scBx.nd rfl (.inl rfl) (pe_callTy call_dictD (by rfl) hdict (by decide +kernel) (pa_cons (pv 6) pa_nil)))
            (pss_cons (ps_dput hu1 (pv 8) (pv 4) (pv 7) rfl)
            (pss_one (ps_expr (pe_bm PySem.F.plainAttrs_list PySem.F.slot_list_append PySem.F.type_list_append mt_append (pv 5) (pa_cons (pv 8) pa_nil)))))))))
        (pss_one (ps_set (i := 3) scBx.nd rfl (.inl rfl) (pv 5))))))
      (pss_one (ps_ret (pv 3)))), ?_⟩
    refine fun d0 nd0 => ⟨by show 1 ≤ sizeLine; decide, fun f0 nf0 => ?_⟩
    have s1 : Same H (upd (upd H d0 (.dK [])) f0 (.lst [.ref d0])) := fun x y z => same_upd nf0 _ _ (same_upd nd0 _ _ z)
    have hf1 : (upd (upd H d0 (.dK [])) f0 (.lst [.ref d0])) f0 = some (.lst [.ref d0]) := upd_same
    have hd1 : (upd (upd H d0 (.dK [])) f0 (.lst [.ref d0])) d0 = some (.dK []) := same_upd nf0 _ _ upd_same
    generalize upd (upd H d0 (.dK [])) f0 (.lst [.ref d0]) = H1 at s1 hf1 hd1 ⊢
    refine ⟨_, rfl, tq, rfl, ⟨_, SqL.of (s1 _ _ htq)⟩, for_list (K := K) (a := tq) (xs := ys.map V.str) (fun i σ H' => ∃ (fq : Addr) (us : List V) (fs : List (Str → Int)) (x4 x5 x6 x7 x8 : Option V), σ = [some (.ref tq), some (.int (-5)), some (.int 5), some (.ref fq), x4, x5, x6, x7, x8] ∧ Same H H' ∧ H' fq = some (.lst us) ∧ Paired (DcAt H' (ys.take i)) us fs ∧ (∃ f ∈ fs, Zero f) ∧ fs.length ≤ 11 ^ i)
      ⟨f0, _, [fun _ => 0], none, none, none, none, none, rfl, s1, hf1, .cons ⟨d0, rfl, hd1⟩ .nil, ⟨_, List.mem_cons_self .., fun _ => rfl⟩, Nat.le_refl _⟩ (fun i σ H' _ ⟨_, _, _, _, _, _, _, _, _, z, _⟩ => SqL.of (z _ _ htq)) ?_ ?_⟩
    · rintro i xv σ H2 hi ⟨fq, us, fs, x4, x5, x6, x7, x8, rfl, s2, hf, pf, ⟨f0', mf0, zf0⟩, lf⟩
      obtain ⟨y, hy, rfl⟩ := str_map hi
      have li : i < ys.length := (List.getElem?_eq_some_iff.mp hy).1
      have ty : ys.take (i + 1) = ys.take i ++ [y] := by rw [List.take_add_one, hy]; rfl
      have yn : y ∉ ys.take i := fun m => by
        have := List.nodup_append.mp (show (ys.take i ++ [y]).Nodup by rw [← ty]; exact nd.sublist (List.take_sublist _ _))
        exact this.2.2 y m y (List.mem_singleton.mpr rfl) rfl
      have lf121 : fs.length ≤ 11 := by
        have h1 : 11 ^ i ≤ 11 ^ 1 := Nat.pow_le_pow_right (by decide) (by omega)
        exact Nat.le_trans lf h1
      refine ⟨Nat.zero_le _, fun lg nlg => ?_⟩
      have s3 := same_upd (o := .lst []) nlg
      have hlg : (upd H2 lg (.lst [])) lg = some (.lst ([] : List V)) := upd_same
      have nlg0 := none_of s2 nlg
      generalize upd H2 lg (.lst []) = H3 at s3 hlg ⊢
      refine ⟨_, rfl, fq, rfl, ⟨_, SqL.of (s3 _ _ hf)⟩, for_list (K := K) (a := fq) (xs := us) (fun j σ H' => ∃ (ls : List V) (gs : List (Str → Int)) (x6 x7 x8 : Option V), σ = [some (.ref tq), some (.int (-5)), some (.int 5), some (.ref fq), some (.str y), some (.ref lg), x6, x7, x8] ∧ (∀ b o, H2 b = some o → H' b = some o) ∧ H' lg = some (.lst ls) ∧ Paired (DcX H' lg (ys.take (i + 1))) ls gs ∧ (f0' ∈ fs.take j → ∃ g ∈ gs, Zero g) ∧ gs.length = j * 11)
        ⟨[], [], x6, x7, x8, rfl, s3, hlg, .nil, (fun h => by simp at h), rfl⟩ (fun j σ H' _ ⟨_, _, _, _, _, _, z, _⟩ => SqL.of (z _ _ hf)) ?_ ?_⟩
      · rintro j xv σ H4 hj ⟨ls, gs, x6, x7, x8, rfl, s4, hl4, pg, zg, lg4⟩
        obtain ⟨g0, hg0, d, rfl, hd⟩ := paired_get pf hj
        have lj : j < fs.length := (List.getElem?_eq_some_iff.mp hg0).1
        refine ⟨_, rfl, _, rfl, _, _, rfl, rfl, -5, 5 + 1, rfl, ⟨by decide, by decide, by decide, by decide⟩, ?_⟩
        refine for_range (fun n σ H' => ∃ (ls : List V) (gs : List (Str → Int)) (x7 x8 : Option V), σ = [some (.ref tq), some (.int (-5)), some (.int 5), some (.ref fq), some (.str y), some (.ref lg), some (.ref d), x7, x8] ∧ (∀ b o, H2 b = some o → H' b = some o) ∧ H' lg = some (.lst ls) ∧ Paired (DcX H' lg (ys.take (i + 1))) ls gs ∧ ((f0' ∈ fs.take j ∨ (f0' = g0 ∧ 6 ≤ n)) → ∃ g ∈ gs, Zero g) ∧ gs.length = j * 11 + n)
          ⟨ls, gs, x7, x8, rfl, s4, hl4, pg, fun h => zg (h.resolve_right fun z => absurd z.2 (by decide)), lg4⟩ ?_ ?_
        · rintro n σ H5 hn ⟨ls, gs, x7, x8, rfl, s5, hl5, pg, zg, lg5⟩
          have hn : n < 11 := hn
          refine ⟨_, rfl, d, _, rfl, .inl (s5 _ _ hd), fun mr nm => ?_⟩
          refine ⟨_, rfl, _, rfl, _, rfl, mr, _, rfl, .inl ⟨_, .inr y, upd_same, rfl, ?_, rfl⟩, ?_⟩
          · unfold ptK
            rw [List.length_map, List.length_take]
            exact small1000 (by omega)
          rw [upd_upd, ptK_put yn, ← ty]
          have s6 := same_upd (o := .dK (ptK (ys.take (i + 1)) (Wy.upf g0 y (-5 + (n : Nat))))) nm
          have hm6 : (upd H5 mr (.dK (ptK (ys.take (i + 1)) (Wy.upf g0 y (-5 + (n : Nat)))))) mr = some (.dK (ptK (ys.take (i + 1)) (Wy.upf g0 y (-5 + (n : Nat))))) := upd_same
          have hl6 := s6 _ _ hl5
          have ml : mr ≠ lg := (ne_of_none hl5 nm).symm
          have pg6 := paired_imp pg fun x g _ ⟨d', e1, h1, n1⟩ => (⟨d', e1, s6 _ _ h1, n1⟩ : DcX (upd H5 mr (.dK (ptK (ys.take (i + 1)) (Wy.upf g0 y (-5 + (n : Nat)))))) lg (ys.take (i + 1)) x g)
          have s26 : ∀ b o, H2 b = some o → (upd H5 mr (.dK (ptK (ys.take (i + 1)) (Wy.upf g0 y (-5 + (n : Nat)))))) b = some o := fun b o e => s6 _ _ (s5 b o e)
          generalize upd H5 mr (.dK (ptK (ys.take (i + 1)) (Wy.upf g0 y (-5 + (n : Nat))))) = H6 at hm6 hl6 pg6 s26 ⊢
          have lls := paired_len pg
          refine ⟨_, rfl, .inl ⟨rfl, _, SqL.of hl6⟩, _, rfl, lg, ls, _, rfl, rfl, hl6, small1000 (by omega), ?_⟩
          have lgn : ∀ b o, H2 b = some o → b ≠ lg := fun b o e z => by rw [z, nlg] at e; cases e
          refine ⟨_, gs ++ [Wy.upf g0 y (-5 + (n : Nat))], _, _, rfl, fun b o e => by rw [upd_ne (lgn b o e)]; exact s26 b o e, upd_same, ?_, fun h => ?_, by rw [List.length_append, lg5]; show _ + 1 = _; omega⟩
          · exact paired_app (paired_imp pg6 fun x g _ ⟨d', e1, h1, n1⟩ => ⟨d', e1, (upd_ne n1).trans h1, n1⟩) (.cons ⟨mr, rfl, (upd_ne ml).trans hm6, ml⟩ .nil)
          · by_cases c : f0' ∈ fs.take j ∨ (f0' = g0 ∧ 6 ≤ n)
            · obtain ⟨g, h1, h2⟩ := zg c
              exact ⟨g, List.mem_append_left _ h1, h2⟩
            · have hh : f0' = g0 ∧ n = 5 := by
                rcases h with h | h
                · exact absurd (.inl h) c
                · refine ⟨h.1, ?_⟩
                  rcases Nat.lt_or_ge n 6 with k | k
                  · omega
                  · exact absurd (.inr ⟨h.1, k⟩) c
              obtain ⟨rfl, rfl⟩ := hh
              refine ⟨_, List.mem_append_right _ (List.mem_singleton.mpr rfl), fun x => ?_⟩
              unfold Wy.upf
              split
              · rfl
              · exact zf0 x
        · rintro σ H5 ⟨ls, gs, x7, x8, rfl, s5, hl5, pg, zg, lg5⟩
          have lg5 : gs.length = j * 11 + 11 := lg5
          refine ⟨ls, gs, _, _, _, rfl, s5, hl5, pg, fun h => zg ?_, by omega⟩
          rw [List.take_add_one, hg0] at h
          rcases List.mem_append.mp h with z | z
          · exact .inl z
          · exact .inr ⟨by simpa using z, by decide⟩
      · rintro σ H4 ⟨ls, gs, x6, x7, x8, rfl, s4, hl4, pg, zg, lg4⟩
        have lu := paired_len pf
        rw [lu, List.take_length] at zg
        rw [lu] at lg4
        refine ⟨_, rfl, lg, ls, gs, _, _, _, _, _, rfl, fun b o e => s4 _ _ (s2 _ _ e), hl4, paired_imp pg fun x g _ ⟨d', e1, h1, _⟩ => ⟨d', e1, h1⟩, zg mf0, ?_⟩
        rw [lg4, Nat.pow_succ]
        exact Nat.mul_le_mul_right _ lf
    · rintro σ H2 ⟨fq, us, fs, x4, x5, x6, x7, x8, rfl, s2, hf, pf, zf, lf⟩
      rw [show (ys.map V.str).length = ys.length from List.length_map .., List.take_length] at pf
      exact ⟨_, rfl, q H2 fq us fs hf pf zf s2⟩
abbrev sRe : Stmt := topS 54
def nRe : List Str := ["rows", "titles", "point_here", "begin", "end", "number", "best", "steps", "other", "told", "title"]
theorem scRe : FnScope nRe ["rows", "titles", "point_here", "begin", "end", "number"] (defScope sRe) := ⟨rfl, rfl, rfl, by decide +kernel, rfl, by decide +kernel, by decide +kernel⟩
def spRe : Sp := fun vs H Q _ => ∃ (p tq d : Addr) (R : Rws) (ys : List Str) (f : Str → Int) (b e : Spot) (num : Int), vs = [.ref p, .ref tq, .ref d, oV b, oV e, .int num] ∧ RLs H p R ∧ NmsOf R ys ∧ H tq = some (.lst (ys.map V.str)) ∧ ys.length ≤ 2 ∧ PtL H d ys f ∧ Wy.Pot R (ptV f) ∧
  b ∈ spots ys ∧ e ∈ spots ys ∧ (∀ g, Wy.Pot R g → g b - g e ≤ num) ∧ ∀ H', Same H H' → Q (.bl true) H'
theorem ok_re {f : Addr} {fd : FuncData} (F : Fun K "_law_reached" "_law_reached" sRe f fd) (N : Bl mg) (hdict : mg "dict" = none) (GB : Has P w K mg base CX0 1 "_law_box" ["titles", "low", "high"] spBx) (GK : Has P w K mg base CX0 1 "_law_keeps" ["rows", "point_here"] spKp) :
    FnOk P w K mg base CX0 2 f fd ["rows", "titles", "point_here", "begin", "end", "number"] spRe := by
  refine F.ok scRe (fun vs H Q E h => ?_) (fun cdv A outer s H vs Q E hr h => ?_)
  · obtain ⟨p, tq, d, R, ys, f, b, e, num, rfl, _⟩ := h
    rfl
  · obtain ⟨p, tq, d, R, ys, f, b, e, num, rfl, rl, hn, htq, l2, hd, pot, mb, me, most, q⟩ := h
    have hu1 := hu_of hr
    refine ⟨_, pss_cons (ps_set (i := 6) scRe.nd rfl (.inl rfl) pe_non)
      (pss_cons (ps_for PassesOwn.never rfl (pi_listK K (pe_h GB hr (by decide) (by rfl) pass0 (pa_cons (pv 1) (pa_cons (pe_un un_neg pe_int) (pa_cons pe_int pa_nil))))) (pg_name (i := 7) scRe.nd rfl (.inr rfl))
        (pss_cons (ps_set (i := 8) scRe.nd rfl (.inl rfl) (pe_callTy (call_dictP rfl) (by rfl) hdict (by decide +kernel) (pa_cons (pe_lc (own := [("title", 10)]) (g := gName 10) (tt := tYes) rfl scRe.nd (pi_listK K (pv 1)) (blkOk_by (own := [("title", 10)]) (N := nRe) (sc := defScope sRe) (by decide +kernel)) (fun _ _ _ _ _ => pg_name (i := 10) scRe.nd rfl (Or.inl rfl))
            (fun _ _ _ _ _ => pts_nil) (fun _ _ _ _ _ => pe_tup (pa_cons (pv 10) (pa_cons (pe_op op_add (pe_dget hu1 (pv 2) (pv 10) (fun _ _ => rfl)) (pe_dget hu1 (pv 7) (pv 10) (fun _ _ => rfl))) pa_nil)))) pa_nil)))
        (pss_one (ps_if (pt_val (pe_h GK hr (by decide) (by rfl) pass0 (pa_cons (pv 0) (pa_cons (pv 8) pa_nil))))
          (pss_cons (ps_putO P w (pv 8) pe_non pe_int rfl)
          (pss_cons (ps_set (i := 9) scRe.nd rfl (.inl rfl) (pe_op op_sub (pe_dgetSP P w (pv 8) (pv 3) (fun _ _ => rfl)) (pe_dgetSP P w (pv 8) (pv 4) (fun _ _ => rfl))))
          (pss_one (ps_set (i := 6) scRe.nd rfl (.inl rfl) (pe_ifExp (pt_cmpR op_isN1 (pv 6) pe_non (nomark _)) (pv 9) (pe_callB (call_max2 rfl) (by rfl) N.bmax (by decide +kernel) (pa_cons (pv 6) (pa_cons (pv 9) pa_nil)))))))) pss_nil))))
      (pss_one (ps_ret (pe_and (pe_cmpR op_notN1 (pv 6) pe_non (nomark _)) (pe_one (pe_cmpR op_le (pv 6) (pv 5) (nomark _))))))), ?_⟩
    have nd := hn.2.1
    have tup : ∀ {x y : V}, x = y → x = y := fun h => h
    refine ⟨_, rfl, _, rfl, tq, ys, rfl, htq, nd, l2, fun H1 bq us fs hbq pf ⟨z0, mz0, zz0⟩ s1 => ?_⟩
    have lu := paired_len pf
    refine ⟨bq, rfl, ⟨_, SqL.of hbq⟩, for_list (K := K) (a := bq) (xs := us) (fun i σ H' => ∃ (x6 : V) (x7 x8 x9 : Option V), σ = [some (.ref p), some (.ref tq), some (.ref d), some (oV b), some (oV e), some (.int num), some x6, x7, x8, x9, none] ∧ Same H1 H' ∧ ((x6 = .non ∧ z0 ∉ fs.take i) ∨ ∃ m : Int, x6 = .int m ∧ m ≤ num))
      ⟨.non, none, none, none, rfl, fun _ _ z => z, .inl ⟨rfl, by simp⟩⟩ (fun i σ H' _ ⟨_, _, _, _, _, z, _⟩ => SqL.of (z _ _ hbq)) ?_ ?_⟩
    · rintro i xv σ H2 hi ⟨x6, x7, x8, x9, rfl, s2, hx6⟩
      obtain ⟨g0, hg0, sq, rfl, hsq⟩ := paired_get pf hi
      have s02 : Same H H2 := fun x y z => s2 _ _ (s1 _ _ z)
      have hsq2 := s2 _ _ hsq
      let g : Str → Int := fun x => f x + g0 x
      refine ⟨_, rfl, tq, rfl, ⟨_, SqL.of (s02 _ _ htq)⟩, fun D nD => lc_list (K := K) (a := tq) (xs := ys.map V.str) (fun j H' => Same H2 H' ∧ ∃ ps : List Addr, H' D = some (.lst (ps.map V.ref)) ∧ Paired (fun p kv => H' p = some (.tup [kV kv.1, kv.2])) ps (ptK (ys.take j) g)) ⟨same_upd nD, [], upd_same, .nil⟩ (fun j H' _ z => SqL.of (z.1 _ _ (s02 _ _ htq))) ?_ ?_⟩
      · rintro j xv H3 hj ⟨s3, ps, hD, pp⟩
        obtain ⟨y, hy, rfl⟩ := str_map hj
        have my := List.mem_of_getElem? hy
        have lj : j < ys.length := (List.getElem?_eq_some_iff.mp hy).1
        have hd3 : H3 d = some (.dK (ptK ys f)) := s3 _ _ (s02 _ _ hd)
        have hs3 : H3 sq = some (.dK (ptK ys g0)) := s3 _ _ hsq2
        refine ⟨rfl, _, rfl, _, rfl, _, rfl, d, _, rfl, .inl ⟨_, .inr y, .inl hd3, rfl, (ptK_val my).symm⟩, _, rfl, _, rfl, sq, _, rfl, .inl ⟨_, .inr y, .inl hs3, rfl, (ptK_val my).symm⟩, _, _, rfl, rfl, by show 2 ≤ sizeLine; decide, fun t nt => ?_⟩
        have s4 := same_upd (o := .tup [.str y, .int (f y + g0 y)]) nt
        have ht4 : (upd H3 t (.tup [.str y, .int (f y + g0 y)])) t = some (.tup [.str y, .int (f y + g0 y)]) := upd_same
        have hD4 := s4 _ _ hD
        have s24 : Same H2 (upd H3 t (.tup [.str y, .int (f y + g0 y)])) := fun x y z => s4 _ _ (s3 _ _ z)
        have pp4 := paired_imp pp fun a kv _ h => s4 a _ h
        generalize upd H3 t (.tup [.str y, .int (f y + g0 y)]) = H4 at ht4 hD4 s24 pp4 ⊢
        have nt : ∀ {q : Addr} {l : List V}, H4 q = some (.tup l) → q ≠ D := fun h z => by rw [z, hD4] at h; cases h
        have lps := paired_len pp
        refine ⟨_, hD4, ?_, same_put s24 nD, ps ++ [t], by rw [upd_same, List.map_append]; rfl, ?_⟩
        · unfold ptK at lps
          rw [List.length_map, List.length_take] at lps
          rw [List.length_map]
          exact small1000 (by omega)
        · rw [List.take_add_one, hy]
          unfold ptK
          rw [List.map_append]
          exact paired_app (paired_imp pp4 fun a kv _ h => (upd_ne (nt h)).trans h) (.cons ((upd_ne (nt ht4)).trans ht4) .nil)
      · rintro H3 ⟨s3, ps, hD, pp⟩
        rw [show (ys.map V.str).length = ys.length from List.length_map .., List.take_length] at pp
        refine ⟨D, ps, ptK ys g, rfl, SqL.of hD, paired_imp pp fun a kv _ h => SqT.of h, fun oq noq => ?_⟩
        have em : mergeK [] (ptK ys g) = ptK ys g := merge_pt g ys [] nd
        rw [em]
        have s4 := same_upd (o := .dK (ptK ys g)) noq
        have ho4 : PtL (upd H3 oq (.dK (ptK ys g))) oq ys g := upd_same
        have s14 : Same H1 (upd H3 oq (.dK (ptK ys g))) := fun x y z => s4 _ _ (s3 _ _ (s2 _ _ z))
        have noq1 : H1 oq = none := none_of s2 (none_of s3 noq)
        generalize upd H3 oq (.dK (ptK ys g)) = H4 at ho4 s14 ⊢
        have s04 : Same H H4 := fun x y z => s14 _ _ (s1 _ _ z)
        refine ⟨_, rfl, _, rfl, p, oq, R, ys, g, rfl, rl.sm s04, hn, ho4, fun H5 hp s5 => ⟨_, rfl, iteT ?_⟩, fun H5 hp s5 => ⟨_, rfl, iteF ?_⟩⟩
        · refine ⟨_, rfl, oq, ys, g, rfl, s5 _ _ ho4, rfl, rfl, by omega, ?_⟩
          have ho6 : (upd H5 oq (NS P w oq (fullK ys g))) oq = some (NS P w oq (fullK ys g)) := upd_same
          have s16 : Same H1 (upd H5 oq (NS P w oq (fullK ys g))) := same_put (fun x y z => s5 _ _ (s14 _ _ z)) noq1
          generalize upd H5 oq (NS P w oq (fullK ys g)) = H6 at ho6 s16 ⊢
          have ml := most _ hp
          refine ⟨_, rfl, _, rfl, oq, fullK ys g, b, _, rfl, .inl ho6, rfl, fullK_val mb, _, rfl, _, rfl, oq, fullK ys g, e, _, rfl, .inl ho6, rfl, fullK_val me, _, _, rfl, rfl, ?_⟩
          rcases hx6 with ⟨rfl, hx⟩ | ⟨m, rfl, hm⟩
          · exact ⟨_, rfl, rfl, _, rfl, iteT ⟨_, rfl, _, _, _, _, rfl, s16, .inr ⟨_, rfl, ml⟩⟩⟩
          · refine ⟨_, rfl, rfl, _, rfl, iteF ⟨_, rfl, _, rfl, _, _, rfl, _, _, _, _, rfl, s16, .inr ⟨_, rfl, ?_⟩⟩⟩
            split
            · exact ml
            · exact hm
        · refine ⟨_, _, _, _, rfl, fun x y z => s5 _ _ (s14 _ _ z), hx6.imp (fun ⟨e1, h1⟩ => ⟨e1, fun h => ?_⟩) id⟩
          rw [List.take_add_one, hg0] at h
          rcases List.mem_append.mp h with z | z
          · exact h1 z
          · have ez : z0 = g0 := by simpa using z
            subst ez
            refine hp ?_
            have eg : g = f := by
              funext x
              show f x + z0 x = f x
              rw [zz0 x]
              omega
            rw [eg]
            exact pot
    · rintro σ H2 ⟨x6, x7, x8, x9, rfl, s2, hx6⟩
      rw [lu, List.take_length] at hx6
      rcases hx6 with ⟨_, h⟩ | ⟨m, rfl, hm⟩
      · exact absurd mz0 h
      · refine ⟨_, rfl, rfl, true, rfl, iteT ⟨_, rfl, _, rfl, _, _, rfl, rfl, ?_⟩⟩
        show Q (.bl (decide (m ≤ num))) H2
        rw [decide_eq_true hm]
        exact q H2 fun x y z => s2 _ _ (s1 _ _ z)
end
end Lm
/-! _law_titles, _law_rows, _law_floors, _law_few. -/
namespace Lm
open PySem PySem.Spec PyProof.Rows L2
def pool : List Str := ["a", "b", "block 0", "turn t", "tiles n", "x", "Z", "0", "b b", "turn kk b", "zzzzzzzzzzzzzzzzzzzz", "aa"]
theorem pool_ok : ∀ x ∈ pool, rowNameD (.str x) = true ∧ PyData.strOk x = true ∧ x ≠ "other" ∧ x ≠ "" ∧ x.length ≤ 20 := by decide +kernel
theorem ne_of' {H : Hp} {a b : Addr} {x y : HO} (h : H a = some x) (k : H b = some y) (n : x ≠ y) : a ≠ b := fun z => by
  rw [z, k] at h
  exact n (Option.some.inj h).symm
theorem fr_tup {D : DrA} {n : Nat} {H H' : Hp} {q : Addr} {l : List V} (dr : DrawAt D n H) (f : Fr D H H') (h : H q = some (.tup l)) : H' q = some (.tup l) := by
  obtain ⟨ws, cs, r, t, h1, h2, _⟩ := dr
  exact f _ _ h (ne_of' h h1 fun z => by cases z) (ne_of' h h2 fun z => by cases z)
theorem fr_lst {D : DrA} {n : Nat} {H H' : Hp} {q : Addr} {l : List V} (dr : DrawAt D n H) (f : Fr D H H') (h : H q = some (.lst l)) (nw : q ≠ D.w) : H' q = some (.lst l) := by
  obtain ⟨ws, cs, r, t, h1, h2, _⟩ := dr
  exact f _ _ h (ne_of' h h1 fun z => by cases z) nw
theorem RwAt.fr {D : DrA} {n : Nat} {H H' : Hp} {u : V} {r : Wy.Rw Spot} (h : RwAt H u r) (dr : DrawAt D n H) (f : Fr D H H') : RwAt H' u r := h.at2 fun q ys e => fr_tup dr f e
theorem paired_perm {α β : Type} {F : α → β → Prop} {l l' : List α} (h : l.Perm l') : ∀ {m : List β}, Paired F l' m → ∃ m', Paired F l m' ∧ m'.Perm m := by
  induction h with
  | nil => exact fun p => ⟨_, p, .refl _⟩
  | cons x _ ih =>
    intro m p
    cases p with
    | cons f p =>
      obtain ⟨m', h1, h2⟩ := ih p
      exact ⟨_, .cons f h1, h2.cons _⟩
  | swap x y l =>
    intro m p
    cases p with
    | cons f p => cases p with
    | cons g p => exact ⟨_, .cons g (.cons f p), .swap ..⟩
  | trans _ _ ih1 ih2 =>
    intro m p
    obtain ⟨m1, h1, h2⟩ := ih2 p
    obtain ⟨m2, h3, h4⟩ := ih1 h1
    exact ⟨m2, h3, h4.trans h2⟩
theorem cut_take' (xs : List V) (k : Nat) : cutV xs none (some (k : Int)) = xs.take k := by
  unfold cutV
  rw [HT.sIx_none, HT.sIx_nat, List.drop_zero, Nat.sub_zero, ← List.take_eq_take_min]
theorem lay_spot {D : DrA} {H : Hp} {o : Spot} (h : ∀ x, o = some x → PyData.strOk x = true) : Lay D H (oV o) := by
  cases o with
  | none => exact ⟨.none, .non, by simp [PyData.canLay0], by simp [PyData.depth], rfl⟩
  | some x => exact ⟨.str x, .str x, by simp [PyData.canLay0, h x rfl], by simp [PyData.depth], rfl⟩
/-- the names of the drawn rows -/
structure Tts (ts : List Str) : Prop where
  len : 1 ≤ ts.length ∧ ts.length ≤ 3
  nd : ts.Nodup
  mem : ∀ x ∈ ts, x ∈ pool
/-- drawn rows -/
structure Rok (ts : List Str) (R : Rws) : Prop where
  ne : ∀ a b c, (a, b, c) ∈ R → a ≠ b
  inn : ∀ a b c, (a, b, c) ∈ R → a ∈ spots ts ∧ b ∈ spots ts
  small : ∀ a b c, (a, b, c) ∈ R → c.natAbs ≤ 100
theorem Tts.ok {ts : List Str} (h : Tts ts) {o : Spot} (ho : o ∈ spots ts) : ∀ x, o = some x → x ∈ pool := by
  rintro x rfl
  rcases List.mem_cons.mp ho with z | z
  · cases z
  · obtain ⟨y, hy, e⟩ := List.mem_map.mp z
    cases e
    exact h.mem _ hy
theorem side_pool {o : Spot} (h : ∀ x, o = some x → x ∈ pool) : sideD (oD o) = true := by
  cases o with
  | none => rfl
  | some x => exact (pool_ok x (h x rfl)).1
theorem rowD_of {r : Wy.Rw Spot} (h1 : ∀ x, r.1 = some x → x ∈ pool) (h2 : ∀ x, r.2.1 = some x → x ∈ pool) (ne : r.1 ≠ r.2.1) : rowD (rwD r) = true := by
  obtain ⟨a, b, c⟩ := r
  show (sideD (oD a) && sideD (oD b) && !sideEq (oD a) (oD b) && isNum (.int c)) = true
  rw [side_pool h1, side_pool h2]
  have : sideEq (oD a) (oD b) = false := by
    cases a with
    | none =>
      cases b with
      | none => exact absurd rfl ne
      | some y => rfl
    | some x =>
      cases b with
      | none => rfl
      | some y => exact decide_eq_false fun e => ne (by rw [e])
  rw [this]
  rfl
theorem Rok.row {ts : List Str} {R : Rws} (h : Rok ts R) (t : Tts ts) : ∀ r ∈ R, rowD (rwD r) = true := fun ⟨a, b, c⟩ hr =>
  let ⟨h1, h2⟩ := h.inn a b c hr
  rowD_of (t.ok h1) (t.ok h2) (h.ne a b c hr)
section
variable {P : Program} {w : World} {K : PySem.W.Frag} {mg : Str → Option Value} {base : Heap}
abbrev sTi : Stmt := topS 41
def nTi : List Str := ["state", "many_here", "some"]
theorem scTi : FnScope nTi ["state", "many_here"] (defScope sTi) := ⟨rfl, rfl, rfl, by decide +kernel, rfl, by decide +kernel, by decide +kernel⟩
def spTi : Sp := fun vs H Q _ => ∃ (D : DrA) (n k : Nat), vs = [.ref D.d, .int ((k : Nat) : Int)] ∧ DrawAt D n H ∧ n + 12 ≤ B ∧ 1 ≤ k ∧ k ≤ 3 ∧
  ∀ (H' : Hp) (p : Addr) (ts : List Str), Tts ts → H p = none → H' p = some (.lst (ts.map V.str)) → DrawAt D (n + 12) H' → Fr D H H' → Q (.ref p) H'
theorem ok_ti {f : Addr} {fd : FuncData} (F : Fun K "_law_titles" "_law_titles" sTi f fd) (GO : Has P w K mg base CX0 3 "_law_in_any_order" ["state", "several"] spShuf) : FnOk P w K mg base CX0 4 f fd ["state", "many_here"] spTi := by
  refine F.ok scTi (fun vs H Q E h => ?_) (fun cdv A outer s H vs Q E hr h => ?_)
  · obtain ⟨D, n, k, rfl, _⟩ := h
    rfl
  · obtain ⟨D, n, k, rfl, dr, hn, k1, k3, q⟩ := h
    refine ⟨_, pss_cons (ps_set (i := 2) scTi.nd rfl (.inl rfl) (pe_lst (pa_cons pe_str (pa_cons pe_str (pa_cons pe_str (pa_cons pe_str (pa_cons pe_str (pa_cons pe_str (pa_cons pe_str (pa_cons pe_str (pa_cons pe_str (pa_cons pe_str (pa_cons pe_str (pa_cons pe_str pa_nil))))))))))))))
      (pss_one (ps_ret (pe_slice sl_list (pe_h GO hr (by decide) (by rfl) pass0 (pa_cons (pv 0) (pa_cons (pv 2) pa_nil))) po_none (po_some (pv 1))))), ?_⟩
    refine ⟨by show 12 ≤ sizeLine; decide, fun l nl => ?_⟩
    have s1 := same_upd (o := .lst (pool.map V.str)) nl
    refine ⟨_, rfl, _, rfl, D, n, l, pool.map V.str, rfl, dr.sm s1, hn, upd_same, by show 12 ≤ 100; decide, fun u hu => ?_, fun H' p ys np hp pm dr' fr => ?_⟩
    · obtain ⟨x, hx, rfl⟩ := List.mem_map.mp hu
      exact lay_spot (o := some x) fun y e => by cases e; exact (pool_ok x hx).2.1
    · obtain ⟨zs, hz, e⟩ : ∃ zs : List Str, zs.Perm pool ∧ ys = zs.map V.str := by
        obtain ⟨m, h1, h2⟩ := paired_perm (F := fun v (x : Str) => v = V.str x) pm (m := pool) (by
          have : ∀ l : List Str, Paired (fun v (x : Str) => v = V.str x) (l.map V.str) l := fun l => by
            induction l with
            | nil => exact .nil
            | cons a r ih => exact .cons rfl ih
          exact this pool)
        refine ⟨m, h2, ?_⟩
        clear h2 pm hp
        induction h1 with
        | nil => rfl
        | cons f _ ih => rw [f, ih]; rfl
      subst e
      refine ⟨_, rfl, _, rfl, p, _, rfl, SqL.of hp, fun r nr => ?_⟩
      rw [cut_take', ← List.map_take]
      have lz := hz.length_eq
      have s2 := same_upd (o := .lst ((zs.take k).map V.str)) nr
      refine q _ r (zs.take k) ⟨?_, (hz.nodup_iff.mpr (by decide +kernel)).sublist (List.take_sublist _ _), fun x hx => hz.mem_iff.mp ((List.take_sublist _ _).mem hx)⟩ ?_ upd_same (dr'.sm s2) fun b o e n1 n2 => s2 _ _ (fr _ _ (s1 _ _ e) n1 n2)
      · have : pool.length = 12 := rfl
        rw [List.length_take]
        omega
      · cases e : H r with
        | none => rfl
        | some o =>
          have : H' r ≠ none := by
            by_cases e1 : r = D.d
            · obtain ⟨ws, cs, r1, t1, g1, g2, _⟩ := dr'
              rw [e1, g1]
              exact fun z => nomatch z
            · by_cases e2 : r = D.w
              · obtain ⟨ws, cs, r1, t1, g1, g2, _⟩ := dr'
                rw [e2, g2]
                exact fun z => nomatch z
              · rw [fr _ _ (s1 _ _ e) e1 e2]
                exact fun z => nomatch z
          exact absurd nr this
/-- what is new at the end was new at the beginning -/
theorem fr_none {D : DrA} {n : Nat} {H H' : Hp} {r : Addr} (dr' : DrawAt D n H') (fr : Fr D H H') (nr : H' r = none) : H r = none := by
  cases e : H r with
  | none => rfl
  | some o =>
    have : H' r ≠ none := by
      by_cases e1 : r = D.d
      · obtain ⟨ws, cs, r1, t1, g1, g2, _⟩ := dr'
        rw [e1, g1]
        exact fun z => nomatch z
      · by_cases e2 : r = D.w
        · obtain ⟨ws, cs, r1, t1, g1, g2, _⟩ := dr'
          rw [e2, g2]
          exact fun z => nomatch z
        · rw [fr _ _ e e1 e2]
          exact fun z => nomatch z
    exact absurd nr this
abbrev sFl : Stmt := topS 43
def nFl : List Str := ["state", "titles", "top", "title"]
theorem scFl : FnScope nFl ["state", "titles", "top"] (defScope sFl) := ⟨rfl, rfl, rfl, by decide +kernel, rfl, by decide +kernel, by decide +kernel⟩
def spFl : Sp := fun vs H Q _ => ∃ (D : DrA) (n : Nat) (tq : Addr) (ts : List Str), vs = [.ref D.d, .ref tq, .int 4] ∧ DrawAt D n H ∧ n + 3 ≤ B ∧ H tq = some (.lst (ts.map V.str)) ∧ tq ≠ D.w ∧ Tts ts ∧
  ∀ (H' : Hp) (p : Addr) (us : List V) (R : Rws), H p = none → H' p = some (.lst us) → Paired (RwAt H') us R → R.length ≤ 3 → Rok ts R → DrawAt D (n + 3) H' → Fr D H H' → Q (.ref p) H'
theorem ok_fl {f : Addr} {fd : FuncData} (F : Fun K "_law_floors" "_law_floors" sFl f fd) (GT : Has P w K mg base CX0 2 "_law_draw" ["state", "size_here"] spTake) : FnOk P w K mg base CX0 3 f fd ["state", "titles", "top"] spFl := by
  refine F.ok scFl (fun vs H Q E h => ?_) (fun cdv A outer s H vs Q E hr h => ?_)
  · obtain ⟨D, n, tq, ts, rfl, _⟩ := h
    rfl
  · obtain ⟨D, n, tq, ts, rfl, dr, hn, htq, nw, tt, q⟩ := h
    refine ⟨_, pss_one (ps_ret (pe_lc (own := [("title", 3)]) (g := gName 3) (tt := tYes) rfl scFl.nd (pi_listK K (pv 1)) (blkOk_by (own := [("title", 3)]) (N := nFl) (sc := defScope sFl) (by decide +kernel)) (fun _ _ _ _ _ => pg_name (i := 3) scFl.nd rfl (Or.inl rfl))
        (fun _ _ _ _ _ => pts_nil) (fun _ _ _ _ _ => pe_tup (pa_cons pe_non (pa_cons (pv 3) (pa_cons (pe_op op_sub (pe_h GT hr (by decide) (by rfl) pass0 (pa_cons (pv 0) (pa_cons (pe_op op_add (pv 2) pe_int) pa_nil))) (pe_op op_fdiv (pv 2) pe_int)) pa_nil)))))), ?_⟩
    refine ⟨_, rfl, tq, rfl, ⟨_, SqL.of htq⟩, fun L nL => ?_⟩
    have off := dr.off nL
    have s0 := same_upd (o := .lst []) nL
    refine lc_list (K := K) (a := tq) (xs := ts.map V.str) (fun i H' => DrawAt D (n + i) H' ∧ Fr D H H' ∧ ∃ (us : List V) (R : Rws), H' L = some (.lst us) ∧ Paired (RwAt H') us R ∧ R.length = i ∧ Rok ts R)
      ⟨dr.sm s0, .of s0, [], [], upd_same, .nil, rfl, ⟨(fun _ _ _ h => by cases h), (fun _ _ _ h => by cases h), (fun _ _ _ h => by cases h)⟩⟩ (fun i H' _ z => SqL.of (fr_lst dr z.2.1 htq nw)) ?_ ?_
    · rintro i xv H1 hi ⟨dr1, fr1, us, R, hL, pr, lR, ok⟩
      obtain ⟨y, hy, rfl⟩ := str_map hi
      have li : i < ts.length := (List.getElem?_eq_some_iff.mp hy).1
      have := tt.len
      refine ⟨rfl, _, rfl, _, rfl, _, rfl, _, _, rfl, rfl, ?_⟩
      refine ⟨D, n + i, 4 + 1, rfl, dr1, by omega, by decide, by decide, fun H2 v dr2 fr2 v0 v1 => ⟨_, rfl, _, _, rfl, rfl, ⟨by decide, by decide⟩, _, _, rfl, rfl, by show 3 ≤ sizeLine; decide, fun t nt => ?_⟩⟩
      have hL2 := fr_lst dr1 fr2 hL off.2
      have pr2 := paired_imp pr fun x r _ h => h.fr dr1 fr2
      have s3 := same_upd (o := .tup [.non, .str y, .int (v - 4 / 2)]) nt
      have ht3 : (upd H2 t (.tup [.non, .str y, .int (v - 4 / 2)])) t = some (.tup [oV none, oV (some y), .int (v - 4 / 2)]) := upd_same
      have hL3 := s3 _ _ hL2
      have pr3 := paired_imp pr2 fun x r _ h => h.sm s3
      have dr3 := dr2.sm s3
      have fr3 : Fr D H (upd H2 t (.tup [.non, .str y, .int (v - 4 / 2)])) := (fr1.trans fr2).trans (.of s3)
      generalize upd H2 t (.tup [.non, .str y, .int (v - 4 / 2)]) = H3 at ht3 hL3 pr3 dr3 fr3 ⊢
      have ntL : ∀ {q : Addr} {l : List V}, H3 q = some (.tup l) → q ≠ L := fun h z => by rw [z, hL3] at h; cases h
      have lus := paired_len pr
      have up : ∀ q l, H3 q = some (.tup l) → (upd H3 L (.lst (us ++ [.ref t]))) q = some (.tup l) := fun q l h => (upd_ne (ntL h)).trans h
      refine ⟨us, hL3, small1000 (by omega), draw_put dr nL dr3, fr_put fr3 nL, us ++ [.ref t], R ++ [(none, some y, v - 4 / 2)], upd_same, paired_app (paired_imp pr3 fun x r _ h => h.at2 up) (.cons ⟨t, rfl, up _ _ ht3⟩ .nil), by rw [List.length_append, lR]; rfl, fun a b c h => ?_, fun a b c h => ?_, fun a b c h => ?_⟩
      · rcases List.mem_append.mp h with z | z
        · exact ok.ne a b c z
        · rw [List.mem_singleton] at z
          cases z
          exact fun z => nomatch z
      · rcases List.mem_append.mp h with z | z
        · exact ok.inn a b c z
        · rw [List.mem_singleton] at z
          cases z
          exact ⟨List.mem_cons_self .., List.mem_cons_of_mem _ (List.mem_map.mpr ⟨y, List.mem_of_getElem? hy, rfl⟩)⟩
      · rcases List.mem_append.mp h with z | z
        · exact ok.small a b c z
        · rw [List.mem_singleton] at z
          cases z
          have e2 : (4 : Int) / 2 = 2 := by decide
          rw [e2]
          omega
    · rintro H1 ⟨dr1, fr1, us, R, hL, pr, lR, ok⟩
      have := tt.len
      rw [List.length_map] at lR dr1
      exact q H1 L us R nL hL pr (by omega) ok (dr1.mono (by omega)) fr1
abbrev sRo : Stmt := topS 42
def nRo : List Str := ["state", "titles", "many_here", "top", "found", "sides", "turn", "two"]
theorem scRo : FnScope nRo ["state", "titles", "many_here", "top"] (defScope sRo) := ⟨rfl, rfl, rfl, by decide +kernel, rfl, by decide +kernel, by decide +kernel⟩
def spRo : Sp := fun vs H Q _ => ∃ (D : DrA) (n k : Nat) (tq : Addr) (ts : List Str), vs = [.ref D.d, .ref tq, .int ((k : Nat) : Int), .int 4] ∧ DrawAt D n H ∧ n + 24 ≤ B ∧ k ≤ 4 ∧ H tq = some (.lst (ts.map V.str)) ∧ Tts ts ∧
  ∀ (H' : Hp) (p : Addr) (us : List V) (R : Rws), H p = none → H' p = some (.lst us) → Paired (RwAt H') us R → R.length ≤ 4 → Rok ts R → DrawAt D (n + 24) H' → Fr D H H' → Q (.ref p) H'
theorem ok_ro {f : Addr} {fd : FuncData} (F : Fun K "_law_rows" "_law_rows" sRo f fd) (N : Bl mg) (GT : Has P w K mg base CX0 2 "_law_draw" ["state", "size_here"] spTake) (GO : Has P w K mg base CX0 3 "_law_in_any_order" ["state", "several"] spShuf) : FnOk P w K mg base CX0 4 f fd ["state", "titles", "many_here", "top"] spRo := by
  refine F.ok scRo (fun vs H Q E h => ?_) (fun cdv A outer s H vs Q E hr h => ?_)
  · obtain ⟨D, n, k, tq, ts, rfl, _⟩ := h
    rfl
  · obtain ⟨D, n, k, tq, ts, rfl, dr, hn, k4, htq, tt, q⟩ := h
    refine ⟨_, pss_cons (ps_par (i := 4) (j := 5) rfl scRo.nd rfl rfl (by decide) rfl rfl (pa_cons (pe_lst pa_nil) (pa_cons (pe_op op_cat (pv 1) (pe_lst (pa_cons pe_non pa_nil))) pa_nil)) rfl)
      (pss_cons (ps_for PassesOwn.never rfl (pi_range1 (by rfl) N.brng (pa_cons (pv 2) pa_nil)) (pg_name (i := 6) scRo.nd rfl (.inl rfl))
        (pss_cons (ps_set (i := 7) scRo.nd rfl (.inl rfl) (pe_slice sl_list (pe_h GO hr (by decide) (by rfl) pass0 (pa_cons (pv 0) (pa_cons (pv 5) pa_nil))) po_none (po_some pe_int)))
        (pss_one (ps_expr (pe_bm PySem.F.plainAttrs_list PySem.F.slot_list_append PySem.F.type_list_append mt_append (pv 4) (pa_cons (pe_tup (pa_cons (pe_ix (ix_listK K) (pv 7) pe_int (fun _ _ => rfl)) (pa_cons (pe_ix (ix_listK K) (pv 7) pe_int (fun _ _ => rfl)) (pa_cons
          (pe_op op_add (pe_op op_sub (pe_h GT hr (by decide) (by rfl) pass0 (pa_cons (pv 0) (pa_cons (pe_op op_add (pe_op op_mul pe_int (pv 3)) pe_int) pa_nil))) (pv 3)) (pe_h GT hr (by decide) (by rfl) pass0 (pa_cons (pv 0) (pa_cons pe_int pa_nil)))) pa_nil)))) pa_nil))))))
      (pss_one (ps_ret (pv 4)))), ?_⟩
    have tl := tt.len
    refine ⟨Nat.zero_le _, fun f0 nf0 => ⟨_, rfl, by show 1 ≤ sizeLine; decide, fun t nt => ?_⟩⟩
    have sA := same_upd (o := .lst []) nf0
    have sB := same_upd (o := .lst [.non]) nt
    refine ⟨tq, t, _, _, rfl, rfl, sB _ _ (sA _ _ htq), upd_same, small10000 (by rw [List.length_map]; show ts.length + 1 ≤ 10000; omega), fun sd nsd => ?_⟩
    have s1 : Same H (upd (upd (upd H f0 (.lst [])) t (.lst [.non])) sd (.lst (ts.map V.str ++ [.non]))) := fun x y z => same_upd nsd _ _ (sB _ _ (sA _ _ z))
    have hsd : (upd (upd (upd H f0 (.lst [])) t (.lst [.non])) sd (.lst (ts.map V.str ++ [.non]))) sd = some (.lst ((spotz ts).map oV)) := by
      rw [upd_same]
      unfold spotz
      rw [List.map_append, List.map_map]
      rfl
    have hf1 : (upd (upd (upd H f0 (.lst [])) t (.lst [.non])) sd (.lst (ts.map V.str ++ [.non]))) f0 = some (.lst []) := same_upd nsd _ _ (sB _ _ upd_same)
    have nsd0 : H sd = none := none_of sA (none_of sB nsd)
    have offS := dr.off nsd0
    have offF := dr.off nf0
    generalize upd (upd (upd H f0 (.lst [])) t (.lst [.non])) sd (.lst (ts.map V.str ++ [.non])) = H1 at s1 hsd hf1 ⊢
    have dr1 := dr.sm s1
    have fsd : f0 ≠ sd := fun z => by
      rw [z, hsd] at hf1
      injection hf1 with hf1
      injection hf1 with hf1
      have := congrArg List.length hf1
      rw [List.length_map, spotz_len] at this
      cases this
    have okS : OkS (spotz ts) := fun o ho x e => (pool_ok x (tt.ok (spotz_mem.mp ho) x e)).2.1
    have lS : (spotz ts).length = ts.length + 1 := spotz_len ts
    have ndS : (spotz ts).Nodup := by
      unfold spotz
      refine List.nodup_append.mpr ⟨List.Pairwise.map _ (fun a b h e => h (Option.some.inj e)) tt.nd, by simp, fun a ha b hb e => ?_⟩
      obtain ⟨x, _, rfl⟩ := List.mem_map.mp ha
      rw [List.mem_singleton] at hb
      rw [hb] at e
      cases e
    have mS : ∀ {o}, o ∈ spotz ts ↔ o ∈ spots ts := spotz_mem
    generalize spotz ts = S at hsd okS lS ndS mS
    refine ⟨_, _, rfl, _, rfl, k, rfl, by omega, by omega, for_range (fun i σ H' => ∃ (us : List V) (R : Rws) (x6 x7 : Option V), σ = [some (.ref D.d), some (.ref tq), some (.int (k : Nat)), some (.int 4), some (.ref f0), some (.ref sd), x6, x7] ∧ DrawAt D (n + 6 * i) H' ∧ (∀ b o, H b = some o → b ≠ D.d → b ≠ D.w → H' b = some o) ∧ H' sd = some (.lst (S.map oV)) ∧ H' f0 = some (.lst us) ∧ Paired (RwAt H') us R ∧ R.length = i ∧ Rok ts R)
      ⟨[], [], none, none, rfl, dr1, fun b o e _ _ => s1 _ _ e, hsd, hf1, .nil, rfl, ⟨(fun _ _ _ h => by cases h), (fun _ _ _ h => by cases h), (fun _ _ _ h => by cases h)⟩⟩ ?_ ?_⟩
    · rintro i σ H2 hi ⟨us, R, x6, x7, rfl, dr2, fr2, hs2, hf2, pr, lR, ok⟩
      have hi : i < k := hi
      have lus := paired_len pr
      refine ⟨_, rfl, _, rfl, D, n + 6 * i, sd, S.map oV, rfl, dr2, by rw [List.length_map]; omega, hs2, by rw [List.length_map]; omega, fun u hu => ?_, fun H3 p ys np hp pm dr3 fr3 => ?_⟩
      · obtain ⟨o, ho, rfl⟩ := List.mem_map.mp hu
        exact lay_spot fun x e => okS o ho x e
      have hs3 := fr_lst dr2 fr3 hs2 offS.2
      have hf3 := fr_lst dr2 fr3 hf2 offF.2
      have pr3 := paired_imp pr fun x r _ h => h.fr dr2 fr3
      obtain ⟨zs, hz, e⟩ : ∃ zs : List Spot, zs.Perm S ∧ ys = zs.map oV := by
        obtain ⟨m, h1, h2⟩ := paired_perm (F := fun v (x : Spot) => v = oV x) pm (m := S) (by
          have : ∀ l : List Spot, Paired (fun v (x : Spot) => v = oV x) (l.map oV) l := fun l => by
            induction l with
            | nil => exact .nil
            | cons a r ih => exact .cons rfl ih
          exact this S)
        refine ⟨m, h2, ?_⟩
        clear h2 pm hp
        induction h1 with
        | nil => rfl
        | cons f _ ih => rw [f, ih]; rfl
      subst e
      have ndz := hz.nodup_iff.mpr ndS
      have lz := hz.length_eq
      have mz : ∀ o ∈ zs, o ∈ spots ts := fun o ho => mS.mp (hz.mem_iff.mp ho)
      rw [List.length_map] at dr3
      match zs, ndz, lz, mz, hp with
      | [], _, lz, _, _ => exact absurd lz (by show ¬ (0 = S.length); omega)
      | [_], _, lz, _, _ => exact absurd lz (by show ¬ (1 = S.length); omega)
      | a :: b :: zr, ndz, lz, mz, hp =>
        have ab : a ≠ b := fun e => (List.nodup_cons.mp ndz).1 (e ▸ List.mem_cons_self ..)
        refine ⟨_, rfl, p, _, rfl, SqL.of hp, fun r nr => ?_⟩
        have s4 := same_upd (o := .lst [oV a, oV b]) nr
        have er : cutV ((a :: b :: zr).map oV) none (some 2) = [oV a, oV b] := cut_take' _ 2
        rw [er]
        have hr4 : (upd H3 r (.lst [oV a, oV b])) r = some (.lst [oV a, oV b]) := upd_same
        have dr4 := dr3.sm s4
        have hs4 := s4 _ _ hs3
        have hf4 := s4 _ _ hf3
        have pr4 := paired_imp pr3 fun x r _ h => h.sm s4
        have fr4 : ∀ c o, H c = some o → c ≠ D.d → c ≠ D.w → (upd H3 r (.lst [oV a, oV b])) c = some o := fun c o e n1 n2 => s4 _ _ (fr3 _ _ (fr2 c o e n1 n2) n1 n2)
        have offR := dr3.off nr
        generalize upd H3 r (.lst [oV a, oV b]) = H4 at hr4 dr4 hs4 hf4 pr4 fr4 ⊢
        refine ⟨_, rfl, .inl ⟨rfl, _, SqL.of hf4⟩, _, rfl, r, _, 0, _, rfl, rfl, SqL.of hr4, atI_nat (j := 0) rfl, _, rfl, r, _, 1, _, rfl, rfl, SqL.of hr4, atI_nat (j := 1) rfl, ?_⟩
        refine ⟨_, rfl, _, rfl, _, _, rfl, rfl, .inl ⟨by decide, by decide⟩, _, _, rfl, rfl, D, _, _, rfl, dr4, by omega, by decide, by decide, fun H5 v dr5 fr5 v0 v1 => ⟨_, rfl, _, _, rfl, rfl, _, rfl, D, _, 2, rfl, dr5, by omega, by decide, by decide, fun H6 v2 dr6 fr6 w0 w1 => ⟨_, _, rfl, rfl, by show 3 ≤ sizeLine; decide, fun t nt => ?_⟩⟩⟩
        have hf6 := fr_lst dr5 fr6 (fr_lst dr4 fr5 hf4 offF.2) offF.2
        have hs6 := fr_lst dr5 fr6 (fr_lst dr4 fr5 hs4 offS.2) offS.2
        have pr6 := paired_imp pr4 fun x r _ h => (h.fr dr4 fr5).fr dr5 fr6
        have fr46 := fr5.trans fr6
        dsimp only
        generalize hz : (v - 4 + v2) = zz
        have s7 := same_upd (o := .tup [oV a, oV b, .int zz]) nt
        have ht7 : (upd H6 t (.tup [oV a, oV b, .int zz])) t = some (.tup [oV a, oV b, .int zz]) := upd_same
        have hf7 := s7 _ _ hf6
        have hs7 := s7 _ _ hs6
        have pr7 := paired_imp pr6 fun x r _ h => h.sm s7
        have dr7 := dr6.sm s7
        have fr7 : ∀ c o, H c = some o → c ≠ D.d → c ≠ D.w → (upd H6 t (.tup [oV a, oV b, .int zz])) c = some o := fun c o e n1 n2 => s7 _ _ (fr46 _ _ (fr4 c o e n1 n2) n1 n2)
        generalize upd H6 t (.tup [oV a, oV b, .int zz]) = H7 at ht7 hf7 hs7 pr7 dr7 fr7 ⊢
        refine ⟨f0, us, _, rfl, rfl, hf7, small1000 (by omega), ?_⟩
        have nt : ∀ {q : Addr} {l : List V}, H7 q = some (.tup l) → q ≠ f0 := fun h z => by rw [z, hf7] at h; cases h
        have up : ∀ q l, H7 q = some (.tup l) → (upd H7 f0 (.lst (us ++ [.ref t]))) q = some (.tup l) := fun q l h => (upd_ne (nt h)).trans h
        refine ⟨us ++ [.ref t], R ++ [(a, b, zz)], _, _, rfl, (draw_put dr nf0 dr7).mono (by omega), fun c o e n1 n2 => ?_, (upd_ne fsd.symm).trans hs7, upd_same, paired_app (paired_imp pr7 fun x r _ h => h.at2 up) (.cons ⟨t, rfl, up _ _ ht7⟩ .nil), by rw [List.length_append, lR]; rfl, fun a' b' c' h => ?_, fun a' b' c' h => ?_, fun a' b' c' h => ?_⟩
        · refine (upd_ne fun z => ?_).trans (fr7 c o e n1 n2)
          rw [z, nf0] at e
          cases e
        · rcases List.mem_append.mp h with z | z
          · exact ok.ne _ _ _ z
          · rw [List.mem_singleton] at z
            cases z
            exact ab
        · rcases List.mem_append.mp h with z | z
          · exact ok.inn _ _ _ z
          · rw [List.mem_singleton] at z
            cases z
            exact ⟨mz a (List.mem_cons_self ..), mz b (List.mem_cons_of_mem _ (List.mem_cons_self ..))⟩
        · rcases List.mem_append.mp h with z | z
          · exact ok.small _ _ _ z
          · rw [List.mem_singleton] at z
            cases z
            have v1 : v < 2 * 4 + 1 := v1
            omega
    · rintro σ H2 ⟨us, R, x6, x7, rfl, dr2, fr2, hs2, hf2, pr, lR, ok⟩
      have lR : R.length = k := lR
      exact ⟨_, rfl, q H2 f0 us R nf0 hf2 pr (by omega) ok (dr2.mono (by show n + 6 * k ≤ _; omega)) fr2⟩
end
end Lm
/-! _law_few. -/
namespace Lm
open PySem PySem.Spec PyProof.Rows L2
/-- a drawn system, as the law holds it -/
structure Few (D : DrA) (H : Hp) (p : Addr) (R : Rws) (ts : List Str) : Prop where
  at_ : ∃ us, H p = some (.lst us) ∧ Paired (RwAt H) us R
  offd : p ≠ D.d
  offw : p ≠ D.w
  len : R.length ≤ 7
  ok : Rok ts R
  tt : Tts ts
theorem Few.frT {D : DrA} {H H' : Hp} {p : Addr} {R : Rws} {ts : List Str} {n : Nat} (h : Few D H p R ts) (dr : DrawAt D n H) (f : FrT D H H') : Few D H' p R ts := by
  obtain ⟨us, h1, h2⟩ := h.at_
  obtain ⟨ws, cs, r, t, g1, g2, _⟩ := dr
  exact ⟨⟨us, f _ _ h1 h.offd h.offw (fun _ z => by cases z), paired_imp h2 fun x r _ k => k.at2 fun q ys e => f _ _ e (ne_of' e g1 fun z => by cases z) (ne_of' e g2 fun z => by cases z) (fun _ z => by cases z)⟩, h.offd, h.offw, h.len, h.ok, h.tt⟩
theorem Few.fr {D : DrA} {H H' : Hp} {p : Addr} {R : Rws} {ts : List Str} {n : Nat} (h : Few D H p R ts) (dr : DrawAt D n H) (f : Fr D H H') : Few D H' p R ts := h.frT dr f.t
theorem Few.sm {D : DrA} {H H' : Hp} {p : Addr} {R : Rws} {ts : List Str} (h : Few D H p R ts) (s : Same H H') : Few D H' p R ts := by
  obtain ⟨us, h1, h2⟩ := h.at_
  exact ⟨⟨us, s _ _ h1, paired_imp h2 fun x r _ k => k.sm s⟩, h.offd, h.offw, h.len, h.ok, h.tt⟩
theorem Few.sides {D : DrA} {H : Hp} {p : Addr} {R : Rws} {ts : List Str} (h : Few D H p R ts) : ∀ o ∈ sidesR R, o ∈ spots ts := fun o ho => by
  obtain ⟨⟨a, b, c⟩, hr, hx⟩ := List.mem_flatMap.mp ho
  obtain ⟨h1, h2⟩ := h.ok.inn a b c hr
  rcases List.mem_cons.mp hx with z | z
  · rw [z]; exact h1
  · rw [List.mem_singleton] at z
    rw [z]; exact h2
theorem Few.rls {D : DrA} {H : Hp} {p : Addr} {R : Rws} {ts : List Str} (h : Few D H p R ts) : RLs H p R := by
  obtain ⟨us, h1, h2⟩ := h.at_
  refine ⟨us, h1, paired_len h2, fun i u hu => paired_get h2 hu, h.ok.ne, by have := h.len; omega, fun o ho x e => (pool_ok x (h.tt.ok (h.sides o ho) x e)).2.1⟩
theorem da_sp {D : DrA} {H : Hp} (o : Spot) : Da D H (oV o) (oD o) := by
  cases o with
  | none => exact .non
  | some x => exact .str x
theorem da_row' {D : DrA} {n : Nat} {H : Hp} {u : V} {r : Wy.Rw Spot} (dr : DrawAt D n H) (h : RwAt H u r) : Da D H u (rwD r) := by
  obtain ⟨q, rfl, hq⟩ := h
  obtain ⟨ws, cs, r', t, g1, g2, _⟩ := dr
  exact .tup hq (ne_of' hq g1 fun z => by cases z) (ne_of' hq g2 fun z => by cases z) (.cons (da_sp _) (.cons (da_sp _) (.cons (.int _) .nil)))
theorem da_rows' {D : DrA} {n : Nat} {H : Hp} (dr : DrawAt D n H) {us : List V} {R : Rws} (h : Paired (RwAt H) us R) : DaAll D H us (R.map rwD) := by
  induction h with
  | nil => exact .nil
  | cons f _ ih => exact .cons (da_row' dr f) ih
theorem rows_all {ts : List Str} {R : Rws} (h : Rok ts R) (t : Tts ts) : (R.map rwD).all rowD = true := List.all_eq_true.mpr fun d hd => by
  obtain ⟨r, hr, rfl⟩ := List.mem_map.mp hd
  exact h.row t r hr
theorem Few.sy {D : DrA} {n : Nat} {H : Hp} {p : Addr} {R : Rws} {ts : List Str} (h : Few D H p R ts) (dr : DrawAt D n H) : Sy H (.ref p) R := by
  obtain ⟨us, h1, h2⟩ := h.at_
  exact ⟨D, n, .list (R.map rwD), dr, .lst h1 h.offd h.offw (da_rows' dr h2), rfl, rows_all h.ok h.tt, by have := h.len; omega⟩
/-- the same rows in a tuple -/
theorem Few.syT {D : DrA} {n : Nat} {H : Hp} {p t : Addr} {R : Rws} {ts : List Str} {us : List V} (h : Few D H p R ts) (dr : DrawAt D n H) (hp : H p = some (.lst us)) (ht : H t = some (.tup us)) : Sy H (.ref t) R := by
  obtain ⟨us', h1, h2⟩ := h.at_
  rw [hp] at h1
  cases h1
  obtain ⟨ws, cs, r', tt, g1, g2, _⟩ := id dr
  exact ⟨D, n, .tuple (R.map rwD), dr, .tup ht (ne_of' ht g1 fun z => by cases z) (ne_of' ht g2 fun z => by cases z) (da_rows' dr h2), rfl, rows_all h.ok h.tt, by have := h.len; omega⟩
theorem Few.names {D : DrA} {H : Hp} {p : Addr} {R : Rws} {ts ys : List Str} (h : Few D H p R ts) (hn : NmsOf R ys) : ys.length ≤ 3 ∧ ∀ x ∈ ys, x ∈ pool := by
  have sub : ∀ x ∈ ys, x ∈ ts := fun x hx => by
    rcases List.mem_cons.mp (h.sides _ ((hn.iff x).mp hx)) with z | z
    · cases z
    · obtain ⟨y, hy, e⟩ := List.mem_map.mp z
      cases e
      exact hy
  have := Wy.pig hn.2.1 sub
  have := h.tt.len
  exact ⟨by omega, fun x hx => h.tt.mem x (sub x hx)⟩
section
variable {P : Program} {w : World} {K : PySem.W.Frag} {mg : Str → Option Value} {base : Heap}
abbrev sFe : Stmt := topS 52
def nFe : List Str := ["state", "titles", "rows"]
theorem scFe : FnScope nFe ["state"] (defScope sFe) := ⟨rfl, rfl, rfl, by decide +kernel, rfl, by decide +kernel, by decide +kernel⟩
def spFe : Sp := fun vs H Q _ => ∃ (D : DrA) (n : Nat), vs = [.ref D.d] ∧ DrawAt D n H ∧ n + 60 ≤ B ∧ ∀ (H' : Hp) (p : Addr) (R : Rws) (ts : List Str), Few D H' p R ts → H p = none → DrawAt D (n + 60) H' → Fr D H H' → Q (.ref p) H'
theorem ok_fe {f : Addr} {fd : FuncData} (F : Fun K "_law_few" "_law_few" sFe f fd) (GT : Has P w K mg base CX0 2 "_law_draw" ["state", "size_here"] spTake) (GO : Has P w K mg base CX0 3 "_law_in_any_order" ["state", "several"] spShuf) (GP : Has P w K mg base CX0 3 "_law_pick" ["state", "several"] spPick)
    (GTi : Has P w K mg base CX0 4 "_law_titles" ["state", "many_here"] spTi) (GFl : Has P w K mg base CX0 3 "_law_floors" ["state", "titles", "top"] spFl) (GRo : Has P w K mg base CX0 4 "_law_rows" ["state", "titles", "many_here", "top"] spRo) : FnOk P w K mg base CX0 5 f fd ["state"] spFe := by
  refine F.ok scFe (fun vs H Q E h => ?_) (fun cdv A outer s H vs Q E hr h => ?_)
  · obtain ⟨D, n, rfl, _⟩ := h
    rfl
  · obtain ⟨D, n, rfl, dr, hn, q⟩ := h
    refine ⟨_, pss_cons (ps_set (i := 1) scFe.nd rfl (.inl rfl) (pe_h GTi hr (by decide) (by rfl) pass0 (pa_cons (pv 0) (pa_cons (pe_h GP hr (by decide) (by rfl) pass0 (pa_cons (pv 0) (pa_cons (pe_lst (pa_cons pe_int (pa_cons pe_int (pa_cons pe_int (pa_cons pe_int pa_nil))))) pa_nil))) pa_nil))))
      (C8.pss_cut (ps_set (i := 2) scFe.nd rfl (.inl rfl) (pe_ifExp (pt_cmpR op_gt (pe_h GT hr (by decide) (by rfl) pass0 (pa_cons (pv 0) (pa_cons pe_int pa_nil))) pe_int (nomark _)) (pe_h GFl hr (by decide) (by rfl) pass0 (pa_cons (pv 0) (pa_cons (pv 1) (pa_cons pe_int pa_nil)))) (pe_lst pa_nil)))
      (pss_cons (ps_set (i := 2) scFe.nd rfl (.inl rfl) (pe_op op_cat (pv 2) (pe_h GRo hr (by decide) (by rfl) pass0 (pa_cons (pv 0) (pa_cons (pv 1) (pa_cons (pe_op op_add pe_int (pe_h GT hr (by decide) (by rfl) pass0 (pa_cons (pv 0) (pa_cons pe_int pa_nil)))) (pa_cons pe_int pa_nil)))))))
      (pss_one (ps_ret (pe_h GO hr (by decide) (by rfl) pass0 (pa_cons (pv 0) (pa_cons (pv 2) pa_nil))))))), ?_⟩
    refine ⟨_, rfl, _, rfl, by show 4 ≤ sizeLine; decide, fun l nl => ?_⟩
    have s1 := same_upd (o := .lst [.int 1, .int 2, .int 2, .int 3]) nl
    have off := dr.off nl
    refine ⟨D, n, l, _, rfl, dr.sm s1, by omega, upd_same, off.2, (fun z => nomatch z), by show 4 < _; decide, fun H2 i v hv dr2 fr2 => ?_⟩
    obtain ⟨k, rfl, k1, k3⟩ : ∃ k : Nat, v = .int ((k : Nat) : Int) ∧ 1 ≤ k ∧ k ≤ 3 := by
      match i, hv with
      | 0, hv => cases hv; exact ⟨1, rfl, by decide, by decide⟩
      | 1, hv => cases hv; exact ⟨2, rfl, by decide, by decide⟩
      | 2, hv => cases hv; exact ⟨2, rfl, by decide, by decide⟩
      | 3, hv => cases hv; exact ⟨3, rfl, by decide, by decide⟩
      | j + 4, hv => simp at hv
    have fr02 : Fr D H H2 := (Fr.of s1).trans fr2
    refine ⟨D, n + 1, k, rfl, dr2, by omega, k1, k3, fun H3 tq ts tt ntq htq dr3 fr3 => ?_⟩
    have fr03 := fr02.trans fr3
    have offT := dr2.off ntq
    have tl := tt.len
    refine ⟨fun σ H' => ∃ (f1 : Addr) (us : List V) (R : Rws), σ = [some (.ref D.d), some (.ref tq), some (.ref f1)] ∧ DrawAt D (n + 17) H' ∧ Fr D H H' ∧ H' tq = some (.lst (ts.map V.str)) ∧ H' f1 = some (.lst us) ∧ f1 ≠ D.d ∧ f1 ≠ D.w ∧ Paired (RwAt H') us R ∧ R.length ≤ 3 ∧ Rok ts R, ?_, ?_⟩
    · refine ⟨_, rfl, D, _, 5, rfl, dr3, by omega, by decide, by decide, fun H4 v dr4 fr4 _ _ => ⟨_, _, rfl, rfl, _, rfl, ite2 (fun _ => ?_) (fun _ => ?_)⟩⟩
      · have htq4 := fr_lst dr3 fr4 htq offT.2
        refine ⟨_, rfl, _, rfl, D, _, tq, ts, rfl, dr4, by omega, htq4, offT.2, tt, fun H5 p us R np hp pr lR ok dr5 fr5 => ?_⟩
        have offP := dr4.off np
        exact ⟨p, us, R, rfl, dr5.mono (by omega), (fr03.trans fr4).trans fr5, fr_lst dr4 fr5 htq4 offT.2, hp, offP.1, offP.2, pr, lR, ok⟩
      · refine ⟨Nat.zero_le _, fun p np => ?_⟩
        have htq4 := fr_lst dr3 fr4 htq offT.2
        have s5 := same_upd (o := .lst []) np
        have offP := dr4.off np
        exact ⟨p, [], [], rfl, (dr4.sm s5).mono (by omega), (fr03.trans fr4).trans (.of s5), s5 _ _ htq4, upd_same, offP.1, offP.2, .nil, by decide, ⟨(fun _ _ _ h => by cases h), (fun _ _ _ h => by cases h), (fun _ _ _ h => by cases h)⟩⟩
    · rintro σ H5 ⟨f1, us, R, rfl, dr5, fr5, htq5, hf5, o1, o2, pr, lR, ok⟩
      refine ⟨_, rfl, _, rfl, _, rfl, _, rfl, D, _, 4, rfl, dr5, by omega, by decide, by decide, fun H6 v dr6 fr6 v0 v4 => ⟨_, _, rfl, rfl, ?_⟩⟩
      have htq6 := fr_lst dr5 fr6 htq5 offT.2
      have hf6 := fr_lst dr5 fr6 hf5 o2
      have pr6 := paired_imp pr fun x r _ h => h.fr dr5 fr6
      obtain ⟨k2, hk2⟩ : ∃ k2 : Nat, v = ((k2 : Nat) : Int) := ⟨v.toNat, by omega⟩
      refine ⟨D, _, k2 + 1, tq, ts, by rw [hk2]; show [_, _, V.int (1 + (k2 : Int)), _] = _; rw [Int.add_comm]; rfl, dr6, by omega, by omega, htq6, tt, fun H7 p us2 R2 np hp pr2 lR2 ok2 dr7 fr7 => ?_⟩
      have hf7 := fr_lst dr6 fr7 hf6 o2
      have pr7 := paired_imp pr6 fun x r _ h => h.fr dr6 fr7
      have l1 := paired_len pr
      have l2 := paired_len pr2
      refine ⟨f1, p, us, us2, rfl, rfl, hf7, hp, small10000 (by omega), fun r nr => ?_⟩
      have s8 := same_upd (o := .lst (us ++ us2)) nr
      have hr8 : (upd H7 r (.lst (us ++ us2))) r = some (.lst (us ++ us2)) := upd_same
      have pr8 := paired_app (paired_imp pr7 fun x r _ h => h.sm s8) (paired_imp pr2 fun x r _ h => h.sm s8)
      have dr8 := dr7.sm s8
      have fr8 : Fr D H (upd H7 r (.lst (us ++ us2))) := ((fr5.trans fr6).trans fr7).trans (.of s8)
      have offR := dr7.off nr
      have ok8 : Rok ts (R ++ R2) := ⟨fun a b c h => (List.mem_append.mp h).elim (ok.ne a b c) (ok2.ne a b c), fun a b c h => (List.mem_append.mp h).elim (ok.inn a b c) (ok2.inn a b c), fun a b c h => (List.mem_append.mp h).elim (ok.small a b c) (ok2.small a b c)⟩
      generalize upd H7 r (.lst (us ++ us2)) = H8 at hr8 pr8 dr8 fr8 ⊢
      have lus : (us ++ us2).length ≤ 7 := by rw [List.length_append]; omega
      refine ⟨_, rfl, _, rfl, D, _, r, us ++ us2, rfl, dr8, by omega, hr8, by omega, fun u hu => ?_, fun H9 p9 zs np9 hp9 pm dr9 fr9 => ?_⟩
      · obtain ⟨i, hi⟩ := List.mem_iff_getElem?.mp hu
        obtain ⟨rr, h1, h2⟩ := paired_get pr8 hi
        have mr := List.mem_of_getElem? h1
        have := lay_rows [rr] fun o ho x e => (pool_ok x (tt.ok (by
          obtain ⟨a, b, c⟩ := rr
          obtain ⟨h1, h2⟩ := ok8.inn a b c mr
          have ho : o ∈ [a, b] := by simpa [sidesR] using ho
          rcases List.mem_cons.mp ho with z | z
          · rw [z]; exact h1
          · rw [List.mem_singleton] at z
            rw [z]; exact h2) x e)).2.1
        obtain ⟨c1, c2⟩ := this
        refine ⟨rwD rr, da_row' dr8 h2, ?_, ?_, ?_⟩
        · have c1 : (rwD rr).canLay0 = true := by simpa [PyData.canLayAll0] using c1
          exact c1
        · have c2 : (rwD rr).depth ≤ 50 := by simpa [PyData.depthAll] using c2
          exact c2
        · obtain ⟨a, b, c⟩ := rr
          cases a <;> cases b <;> rfl
      · obtain ⟨R9, k1, k2⟩ := paired_perm pm (paired_imp pr8 fun x r _ h => h.fr dr8 fr9)
        refine q H9 p9 R9 ts ⟨⟨zs, hp9, k1⟩, (dr8.off np9).1, (dr8.off np9).2, ?_, ⟨fun a b c h => ok8.ne a b c (k2.mem_iff.mp h), fun a b c h => ok8.inn a b c (k2.mem_iff.mp h), fun a b c h => ok8.small a b c (k2.mem_iff.mp h)⟩, tt⟩ (fr_none dr8 fr8 np9) (dr9.mono (by omega)) (fr8.trans fr9)
        have := k2.length_eq
        rw [this, List.length_append]
        omega
end
end Lm
/-! Dicts whose keys are pairs: ==, clear; repr of data that holds them. -/
namespace Lm
open PySem PySem.Spec PyProof.Rows L2
/-! ### == -/
/-- the same keys in the same order, with the same numbers -/
def SameX (xs ys : List (NestedKey × Addr × Value)) : Prop := Paired (fun x y => x.1 = y.1 ∧ ∃ z t u, x.2.2 = Value.int z t ∧ y.2.2 = Value.int z u) xs ys
theorem samePairsX {prog : Program} {w : World} {A : Around} {E : Value → Shared → Prop} {s : Shared} {nm : String} {a b : Addr} {xs ys : List (NestedKey × Addr × Value)} {Q : Bool → Shared → Prop} (ha : (a == sysModules) = false) (hb : (b == sysModules) = false)
    (hu : (nestedKind prog w).room A) (da : s.heap.DictOfH (nestedKind prog w) a xs) (db : s.heap.DictOfH (nestedKind prog w) b ys) (sm : SameX xs ys) (h : Q true s) : wpAny (model prog w) A (Builtin.Dict.samePairs nm a b) Q E s := by
  obtain ⟨oa, es, ep, hoa, _, hda, hea, hisa, nda⟩ := da
  obtain ⟨ob, es', ep', hob, _, hdb, heb, hisb, ndb⟩ := db
  have hla : es.size = xs.length := by rw [← Array.length_toList, hea, List.length_map]
  have hlb : es'.size = ys.length := by rw [← Array.length_toList, heb, List.length_map]
  have hl : xs.length = ys.length := paired_len sm
  unfold Builtin.Dict.samePairs Builtin.Dict.showsAll
  rw [if_neg (show ¬ (a == sysModules) = true by rw [ha]; exact Bool.false_ne_true), if_neg (show ¬ (b == sysModules) = true by rw [hb]; exact Bool.false_ne_true)]
  refine wpAny_bind (wpAny_pure (wpAny_bind (wpAny_pure ?_)))
  refine wpAny_bind (wpAny_dictEntries hoa hda ?_)
  dsimp only
  refine wpAny_bind (wpAny_dictEntries hob hdb ?_)
  rw [if_neg (by rw [hla, hlb, hl]; simp)]
  refine wpAny_bind (wpAny_dictEpoch hoa hda ?_)
  refine wpAny_bind ?_
  rw [Std.Legacy.Range.forIn_eq_forIn_range']
  simp only [Std.Legacy.Range.size, Nat.sub_zero, Nat.add_sub_cancel, Nat.div_one]
  refine wpAny_forIn_list _ (fun rest q s' => s' = s ∧ q = (none, ()) ∧ ∃ i, rest = List.range' i (es.size - i) ∧ i ≤ es.size) _ ?_ ?_ _ _ ⟨rfl, rfl, 0, by simp, Nat.zero_le _⟩
  · rintro x rest q s' ⟨rfl, rfl, i, hr, hi⟩
    have hlt : i < es.size := by
      rcases Nat.lt_or_ge i es.size with h | h
      · exact h
      · rw [Nat.sub_eq_zero_of_le h] at hr; simp at hr
    obtain ⟨rfl, hrest⟩ : x = i ∧ rest = List.range' (i + 1) (es.size - (i + 1)) := by
      have e : es.size - i = (es.size - (i + 1)) + 1 := by omega
      rw [e, List.range'_succ] at hr
      injection hr with h1 h2
      exact ⟨h1, h2⟩
    refine wpAny_bind (wpAny_dictEntries hoa hda ?_)
    rw [Array.getElem?_eq_getElem hlt]
    have hx : xs[x]? = some xs[x] := List.getElem?_eq_getElem (by omega)
    obtain ⟨y, hy, hk, z, t, u, hv1, hv2⟩ := paired_get sm hx
    have hes : es[x] = entryOfKey (nestedKind prog w) xs[x] := by
      have e1 : es.toList[x]? = some es[x] := by rw [Array.getElem?_toList]; exact Array.getElem?_eq_getElem hlt
      rw [hea, List.getElem?_map, hx] at e1
      exact (Option.some.inj e1).symm
    show wpAny _ _ (holding [es[x].key, es[x].val] _ >>= _) _ _ _
    rw [hes]
    refine wpAny_bind (wpAny_holding (wpAny_bind (wpAny_dictFind_heap hu (hisa _ (List.mem_of_getElem? hx)) hob hdb heb hisb ndb (fun hno => ?_) fun j p hj => ?_)))
    · exact absurd (show ys[x]? = some (xs[x].1, y.2) by rw [hy, hk]) (hno x y.2)
    · have ej : j = x := by
        have m1 : (ys.map (·.1))[j]? = some xs[x].1 := by rw [List.getElem?_map, hj]; rfl
        have m2 : (ys.map (·.1))[x]? = some xs[x].1 := by rw [List.getElem?_map, hy]; exact congrArg some hk.symm
        exact (List.getElem?_inj (by rw [List.length_map]; omega) ndb).mp (m2.trans m1.symm) |>.symm
      subst ej
      refine wpAny_bind (wpAny_dictEntries hob hdb ?_)
      have hes' : es'[j]? = some (entryOfKey (nestedKind prog w) y) := by
        rw [← Array.getElem?_toList, heb, List.getElem?_map, hy]
        rfl
      rw [hes']
      show wpAny _ _ (holding [(entryOfKey (nestedKind prog w) y).val] (eqBool (entryOfKey (nestedKind prog w) xs[j]).val (entryOfKey (nestedKind prog w) y).val)) _ _ _
      refine wpAny_holding ?_
      show wpAny _ _ (eqBool xs[j].2.2 y.2.2) _ _ _
      rw [hv1, hv2]
      refine wpAny_eqBool_int ?_
      have e : (z == z) = true := by simp
      rw [e]
      show wpAny _ _ (if (!true) = true then _ else _) _ _ _
      rw [if_neg (by decide)]
      refine wpAny_bind (wpAny_dictEpoch hoa hda ?_)
      rw [if_neg (by simp)]
      exact wpAny_pure ⟨rfl, rfl, j + 1, hrest, hlt⟩
  · rintro q s' ⟨rfl, rfl, _⟩
    exact wpAny_pure h
theorem pd_same {X : Cx} {pins : List (Addr × Obj)} {σ : L2.St} {H : Hp} {s : Shared} (I : Inv X pins σ H s) {kvs lvs : PX} {xs ys : List (NestedKey × Addr × Value)} (p1 : Paired PR kvs xs) (p2 : Paired PR lvs ys) (e : plainX kvs = plainX lvs) (hz : ∀ p ∈ plainX kvs, ∃ z, p.2 = V.int z) : SameX xs ys := by
  induction p1 generalizing lvs ys with
  | nil =>
    cases p2 with
    | nil => exact .nil
    | cons _ _ => cases e
  | @cons k x ks xs' f _ ih =>
    cases p2 with
    | nil => cases e
    | @cons l y ls ys' g p2 =>
      have e : (k.1, k.2.2) :: plainX ks = (l.1, l.2.2) :: plainX ls := e
      injection e with e1 e2
      injection e1 with e3 e4
      refine .cons ⟨by rw [f.1, g.1, e3], ?_⟩ (ih p2 e2 fun p hp => hz p (List.mem_cons_of_mem _ hp))
      obtain ⟨z, hz1⟩ := hz (k.1, k.2.2) (List.mem_cons_self ..)
      have hz1 : k.2.2 = V.int z := hz1
      have r1 := f.2.2
      have r2 := g.2.2
      rw [← e4] at r2
      rw [hz1] at r1 r2
      obtain ⟨t, h1⟩ := r1
      obtain ⟨u, h2⟩ := r2
      exact ⟨z, t, u, h1, h2⟩
def rEqP (P : Program) (w : World) : R2 := fun x y H Q => ∃ a b ks, x = .ref a ∧ y = .ref b ∧ PDat P w H a ks ∧ PDat P w H b ks ∧ (∀ p ∈ ks, ∃ z, p.2 = V.int z) ∧ Q (.bl true) H
theorem op_eqP {X : Cx} (P : Program) (w : World) (hu : X.A.units + 64 < cLine) (hP : X.prog = P := by rfl) (hw : X.w = w := by rfl) : OpR X (compareOp .Eq) (rEqP P w) := by
  subst hP hw
  intro pins s σ H x y v u Q I rx ry h
  obtain ⟨a, b, ks, rfl, rfl, pa, pb, hz, q⟩ := h
  obtain rfl : v = Value.ref a := rx
  obtain rfl : u = Value.ref b := ry
  obtain ⟨ya, kvs, xs, _, p1, da, e1⟩ := pd_rd I pa
  obtain ⟨yb, lvs, ys, _, p2, db, e2⟩ := pd_rd I pb
  have sm := pd_same I p1 p2 (e1.symm.trans e2) (by rw [← e1]; exact hz)
  refine wpAny_richCompare_same_room (op := .Eq) da.typeIs db.typeIs PySem.F.slot_dict_eq (wpAny_call_entry PySem.F.slot_dict_eq da.typeIs PySem.F.entry_dict_eq ?_ (PySem.F.args_dict_eq_2 _ _)) (by omega)
  show wpAny _ _ (Builtin.Dict.dictSlotArgs "__eq__" ⟨[.ref a, .ref b], []⟩ >>= _) _ _ s
  refine wpAny_bind ?_
  unfold Builtin.Dict.dictSlotArgs
  refine wpAny_bind (wpAny_notOrdered_dict da.typeIs ?_)
  show wpAny _ _ (pure (Value.ref a, Value.ref b)) _ _ s
  refine wpAny_pure ?_
  refine wpAny_bind (wpAny_isInstance (T := "dict") db.typeIs PySem.F.sub_dict_dict ?_)
  simp only [Bool.not_true, Bool.false_eq_true, if_false]
  refine wpAny_bind (wpAny_pure (wpAny_bind (wpAny_pure ?_)))
  refine wpAny_bind (samePairsX ya yb (room8 hu) da db sm ?_)
  refine wpAny_pure ⟨_, rfl, ?_, ?_⟩
  · exact fun x => nomatch x
  · exact ⟨.bl true, H, I, rfl, q⟩
/-! ### clear -/
theorem mt_clearX {X : Cx} (P : Program) (w : World) (K : PySem.W.Frag) (hP : X.prog = P := by rfl) (hw : X.w = w := by rfl) : MtR X "dict.clear" (rClearX P w K) := by
  subst hP hw
  intro pins s σ H x xs v us Q I rx rxs h
  obtain ⟨a, ks, rfl, rfl, pd, q⟩ := h
  cases rx
  cases rxs
  obtain ⟨kvs, g1, g2, g3, g4⟩ := id pd
  obtain ⟨ya, kvs', ys, hl, p1, da, e1⟩ := pd_rd I pd
  have lk : ys.length ≤ sizeLine := by rw [← Paired.length p1]; exact hl
  refine PySem.clear_keyed (knd := nestedKind X.prog X.w) (kvs := pairsH ys) ⟨ys, da, rfl⟩ (fun h' dk sb => ?_) (by rw [pairsH_length]; exact lk)
  obtain ⟨zs, dz, ez⟩ := dk
  have ez : zs = [] := by
    cases zs with
    | nil => rfl
    | cons _ _ => cases ez
  subst ez
  have he : ∃ q, h'.get? a = some q := let ⟨q, _, _, hq, _⟩ := dz; ⟨q, hq⟩
  have ok := dpx_ok (X := X) (H := H) (a := a) (kvs := []) (xs := []) (Nat.zero_le _) ya .nil dz
  exact ⟨.non, upd H a (DPX X.prog X.w a []), d_write I (by rw [g1]; exact True.intro) sb he ok, rfl, q _ ⟨[], upd_same, fun e he => absurd he (by simp), by simp, rfl⟩ True.intro⟩
end Lm
/-! repr of data that may hold dicts whose keys are pairs (the sizes are made from T06 by mkv.py). -/
namespace Lm
open PySem PySem.Spec PyProof.Rows L2
def pkD (k : PK) : PyData := .tuple [oD k.1, oD k.2]
def vlD : V → PyData
  | .int z => .int z
  | _ => .none
def pdD (ks : List (PK × V)) : PyData := .dict (ks.map fun p => (pkD p.1, vlD p.2))
mutual
inductive Gx (P : Program) (w : World) (H : Hp) : V → PyData → Prop
  | non : Gx P w H .non .none
  | int (i : Int) : Gx P w H (.int i) (.int i)
  | str (x : Str) : Gx P w H (.str x) (.str x)
  | lst {a : Addr} {xs : List V} {ds : List PyData} : H a = some (.lst xs) → GxAll P w H xs ds → Gx P w H (.ref a) (.list ds)
  | tup {a : Addr} {xs : List V} {ds : List PyData} : H a = some (.tup xs) → GxAll P w H xs ds → Gx P w H (.ref a) (.tuple ds)
  | dic {a : Addr} {ks : List (PK × V)} : PDat P w H a ks → (∀ p ∈ ks, ∃ z, p.2 = V.int z) → Gx P w H (.ref a) (pdD ks)
inductive GxAll (P : Program) (w : World) (H : Hp) : List V → List PyData → Prop
  | nil : GxAll P w H [] []
  | cons {v : V} {vs : List V} {d : PyData} {ds : List PyData} : Gx P w H v d → GxAll P w H vs ds → GxAll P w H (v :: vs) (d :: ds)
end
section
variable {X : Cx} {pins : List (Addr × Obj)} {σ : L2.St} {H : Hp} {s : Shared}
/-- what is tracked is not the table of the modules -/
theorem not_mods (hm : ∃ o, X.base.get? sysModules = some o) (I : Inv X pins σ H s) {a : Addr} {o : HO} (h : H a = some o) : a ≠ sysModules := by
  rintro rfl
  obtain ⟨u, hu⟩ := hm
  have := (I.bs _ _ hu).2
  rw [h] at this
  cases this
theorem reads_spot {o : Spot} {u : Value} (h : Heap) (r : RelV (oV o) u) : Reads h u (oD o) [] := by
  cases o with
  | none =>
    obtain rfl : u = Value.none := r
    exact .none
  | some x =>
    obtain ⟨t, rfl⟩ := r
    exact .str x t
theorem reads_pk (I : Inv X pins σ H s) {b : Addr} {k : PK} (hb : H b = some (.tup [oV k.1, oV k.2])) : Reads s.heap (.ref b) (pkD k) [] := by
  obtain ⟨its, rv, ⟨o, ho, hc, n, hd⟩, _⟩ := I.tuple (SqT.of hb)
  obtain ⟨u, y, rfl, ru, ry⟩ := vals2 rv
  exact .tuple ho hc hd (.cons (reads_spot _ ru) (.cons (reads_spot _ ry) .nil))
theorem reads_pd (I : Inv X pins σ H s) {kvs : PX} {xs : List (NestedKey × Addr × Value)} (pr : Paired PR kvs xs) (ka : KA H kvs) (hz : ∀ p ∈ plainX kvs, ∃ z, p.2 = V.int z) : ReadsAll s.heap (xs.map fun x => Value.ref x.2.1) ((plainX kvs).map fun p => pkD p.1) [] ∧ ReadsAll s.heap (xs.map fun x => x.2.2) ((plainX kvs).map fun p => vlD p.2) [] := by
  induction pr with
  | nil => exact ⟨.nil, .nil⟩
  | @cons e x es xs' f _ ih =>
    obtain ⟨h1, h2⟩ := ih (fun e he => ka e (List.mem_cons_of_mem _ he)) fun p hp => hz p (List.mem_cons_of_mem _ hp)
    obtain ⟨z, hz1⟩ := hz (e.1, e.2.2) (List.mem_cons_self ..)
    have hz1 : e.2.2 = V.int z := hz1
    have r := f.2.2
    have k := reads_pk I (ka e (List.mem_cons_self ..))
    rw [← f.2.1] at k
    refine ⟨.cons k h1, ?_⟩
    show ReadsAll s.heap (x.2.2 :: _) (vlD e.2.2 :: _) []
    rw [hz1] at r ⊢
    obtain ⟨t, ht⟩ := r
    rw [ht]
    exact .cons (.int z t) h2
mutual
theorem Gx.reads (hm : ∃ o, X.base.get? sysModules = some o) (I : Inv X pins σ H s) : ∀ {d : PyData} {v : V} {u : Value}, Gx X.prog X.w H v d → RelV v u → ∃ as, Reads s.heap u d as ∧ sysModules ∉ as
  | _, _, _, .non, r => by
    cases r
    exact ⟨_, .none, by simp⟩
  | _, _, _, .int i, r => by
    obtain ⟨t, rfl⟩ := r
    exact ⟨_, .int i t, by simp⟩
  | _, _, _, .str x, r => by
    obtain ⟨t, rfl⟩ := r
    exact ⟨_, .str x t, by simp⟩
  | _, _, _, .lst h ha, r => by
    cases r
    obtain ⟨its, rv, ⟨o, n, ho, hc, _, hd⟩, _⟩ := I.list (SqL.of h)
    obtain ⟨as, hr, hn⟩ := GxAll.reads hm I ha rv
    refine ⟨_, .list ho hc hd hr, fun z => ?_⟩
    rcases List.mem_cons.mp z with z | z
    · exact not_mods hm I h z.symm
    · exact hn z
  | _, _, _, .tup h ha, r => by
    cases r
    obtain ⟨its, rv, ⟨o, ho, hc, n, hd⟩, _⟩ := I.tuple (SqT.of h)
    obtain ⟨as, hr, hn⟩ := GxAll.reads hm I ha rv
    exact ⟨_, .tuple ho hc hd hr, hn⟩
  | _, _, _, .dic h hz, r => by
    cases r
    obtain ⟨kvs, g1, g2, g3, rfl⟩ := h
    obtain ⟨_, ne, xs, pr, o, es, ep, h1, h2, h3, h4, _⟩ := dpx_of I g1 g2 g3
    obtain ⟨r1, r2⟩ := reads_pd I pr g2 hz
    refine ⟨_, .dict (as := []) (bs := []) h1 h2.1 h3 ?_ ?_, fun z => ?_⟩
    · rw [h4, List.map_map, List.map_map]
      exact r1
    · rw [h4, List.map_map, List.map_map]
      exact r2
    · have z : sysModules ∈ [_] := z
      rw [List.mem_singleton] at z
      exact beq_eq_false_iff_ne.mp ne z.symm
theorem GxAll.reads (hm : ∃ o, X.base.get? sysModules = some o) (I : Inv X pins σ H s) : ∀ {ds : List PyData} {vs : List V} {us : List Value}, GxAll X.prog X.w H vs ds → Vals vs us → ∃ as, ReadsAll s.heap us ds as ∧ sysModules ∉ as
  | _, _, _, .nil, r => by
    cases r
    exact ⟨_, .nil, by simp⟩
  | _, _, _, .cons h ha, r => by
    cases r with
    | cons r1 r2 =>
      obtain ⟨as, q1, n1⟩ := Gx.reads hm I h r1
      obtain ⟨bs, q2, n2⟩ := GxAll.reads hm I ha r2
      refine ⟨_, .cons q1 q2, fun z => ?_⟩
      rcases List.mem_append.mp z with z | z
      · exact n1 z
      · exact n2 z
end
end
/-! ### what repr can tell -/
structure Sz (N m : Nat) (d : PyData) : Prop where
  w : d.weight ≤ N
  p : d.depth ≤ m
  l : d.leavesShort 13 = true
  s : d.showable = true
  sh : shortD d = true
  la : d.canLay0 = true
structure SzA (N m : Nat) (ds : List PyData) : Prop where
  w : PyData.weightAll ds ≤ N
  p : PyData.depthAll ds ≤ m
  l : PyData.leavesShortAll 13 ds = true
  s : PyData.showableAll ds = true
  sh : shortAll ds = true
  la : PyData.canLayAll0 ds = true
theorem Sz.mono {N m N' m' : Nat} {d : PyData} (h : Sz N m d) (a : N ≤ N') (b : m ≤ m') : Sz N' m' d := ⟨Nat.le_trans h.w a, Nat.le_trans h.p b, h.l, h.s, h.sh, h.la⟩
theorem SzA.mono {N m N' m' : Nat} {d : List PyData} (h : SzA N m d) (a : N ≤ N') (b : m ≤ m') : SzA N' m' d := ⟨Nat.le_trans h.w a, Nat.le_trans h.p b, h.l, h.s, h.sh, h.la⟩
theorem szA_nil {m : Nat} : SzA 0 m [] := ⟨Nat.le_refl _, Nat.zero_le _, rfl, rfl, rfl, by simp [PyData.canLayAll0]⟩
theorem szA_cons {N M m : Nat} {d : PyData} {ds : List PyData} (h : Sz N m d) (t : SzA M m ds) : SzA (N + 1 + M) m (d :: ds) := by
  refine ⟨?_, ?_, ?_, ?_, ?_, ?_⟩
  · show d.weight + 1 + PyData.weightAll ds ≤ _
    have := h.w
    have := t.w
    omega
  · show max d.depth (PyData.depthAll ds) ≤ _
    have := h.p
    have := t.p
    omega
  · show (d.leavesShort 13 && PyData.leavesShortAll 13 ds) = true
    rw [h.l, t.l]
    rfl
  · show (d.showable && PyData.showableAll ds) = true
    rw [h.s, t.s]
    rfl
  · show (shortD d && shortAll ds) = true
    rw [h.sh, t.sh]
    rfl
  · simp only [PyData.canLayAll0, h.la, t.la, Bool.and_self]
theorem sz_tup {N m : Nat} {ds : List PyData} (h : SzA N m ds) : Sz N (m + 1) (.tuple ds) := by
  refine ⟨h.w, ?_, h.l, h.s, h.sh, by simpa only [PyData.canLay0] using h.la⟩
  show PyData.depthAll ds + 1 ≤ m + 1
  have := h.p
  omega
theorem sz_lst {N m : Nat} {ds : List PyData} (h : SzA N m ds) : Sz N (m + 1) (.list ds) := by
  refine ⟨h.w, ?_, h.l, h.s, h.sh, by simpa only [PyData.canLay0] using h.la⟩
  show PyData.depthAll ds + 1 ≤ m + 1
  have := h.p
  omega
theorem szA_all {N m : Nat} : ∀ {ds : List PyData}, (∀ d ∈ ds, Sz N m d) → SzA (ds.length * (N + 1)) m ds
  | [], _ => by rw [List.length_nil, Nat.zero_mul]; exact szA_nil
  | d :: r, h => by
    have := szA_cons (h d (List.mem_cons_self ..)) (szA_all fun x hx => h x (List.mem_cons_of_mem _ hx))
    rw [List.length_cons, Nat.succ_mul, Nat.add_comm]
    exact this
theorem sz_non : Sz 0 0 .none := ⟨Nat.le_refl _, Nat.le_refl _, rfl, rfl, rfl, by simp [PyData.canLay0]⟩
theorem sz_bool (b : Bool) : Sz 0 0 (.bool b) := ⟨Nat.le_refl _, Nat.le_refl _, rfl, rfl, rfl, by simp [PyData.canLay0]⟩
theorem sz_str {x : Str} {L : Nat} (ok : PyData.strOk x = true) (hl : x.length ≤ L) (h1 : L ≤ 1000) : Sz L 0 (.str x) := by
  refine ⟨hl, Nat.le_refl _, ?_, rfl, decide_eq_true (by omega), by simpa only [PyData.canLay0] using ok⟩
  show (x.cps.toList.all fun c => decide (c < 16 ^ 8)) = true
  have ok : (x.cps.all fun c => decide (c < 1114112)) = true := ok
  rw [← Array.all_toList, List.all_eq_true] at ok
  rw [List.all_eq_true]
  intro c hc
  have h := of_decide_eq_true (ok c hc)
  have : (16 : Nat) ^ 8 = 4294967296 := by decide
  exact decide_eq_true (by omega)
theorem sz_int {i : Int} (h : i.natAbs < 10 ^ 12) : Sz 40 0 (.int i) := by
  have e : (10 : Nat) ^ 12 = 1000000000000 := by decide
  have h40 : i.natAbs < 2 ^ 40 := Nat.lt_of_lt_of_le h (by decide)
  have lg : i.natAbs ≠ 0 → i.natAbs.log2 < 40 := fun z => (Nat.log2_lt z).mpr h40
  refine ⟨?_, Nat.le_refl _, ?_, ?_, rfl, by simp [PyData.canLay0]⟩
  · show (if i == 0 then 0 else i.natAbs.log2 + 1) ≤ 40
    split
    · exact Nat.zero_le _
    · rename_i z
      have : i.natAbs ≠ 0 := fun q => z (by simpa using Int.natAbs_eq_zero.mp q)
      have := lg this
      omega
  · refine decide_eq_true ?_
    have := int_text_length_le10 (a := i) (k := 12) (by decide) h
    show (Str.ofString (toString i)).length ≤ 13
    rw [PySem.ofString_length]
    exact this
  · refine decide_eq_true ?_
    by_cases z : i.natAbs = 0
    · rw [z]
      decide
    · have := lg z
      omega
theorem sz_dic {A B m : Nat} : ∀ {kvs : List (PyData × PyData)}, (∀ p ∈ kvs, Sz A m p.1 ∧ Sz B m p.2) → PyData.weightKv kvs ≤ kvs.length * (A + B + 2) ∧ PyData.depthKv kvs ≤ m ∧ PyData.leavesShortKv 13 kvs = true ∧ PyData.showableKv kvs = true
  | [], _ => ⟨by simp [PyData.weightKv], Nat.zero_le _, rfl, rfl⟩
  | (k, v) :: r, h => by
    obtain ⟨hk, hv⟩ := h (k, v) (List.mem_cons_self ..)
    obtain ⟨a, b, c, d⟩ := sz_dic (A := A) (B := B) (m := m) fun p hp => h p (List.mem_cons_of_mem _ hp)
    refine ⟨?_, ?_, ?_, ?_⟩
    · show k.weight + v.weight + 2 + PyData.weightKv r ≤ (r.length + 1) * (A + B + 2)
      have := hk.w
      have := hv.w
      rw [Nat.succ_mul]
      dsimp only at *
      omega
    · show max (max k.depth v.depth) (PyData.depthKv r) ≤ m
      have := hk.p
      have := hv.p
      dsimp only at *
      omega
    · show (k.leavesShort 13 && v.leavesShort 13 && PyData.leavesShortKv 13 r) = true
      rw [hk.l, hv.l, c]
      rfl
    · show (k.showable && v.showable && PyData.showableKv r) = true
      rw [hk.s, hv.s, d]
      rfl
structure Sh (N m : Nat) (d : PyData) : Prop where
  w : d.weight ≤ N
  p : d.depth ≤ m
  l : d.leavesShort 13 = true
  s : d.showable = true
theorem Sz.to {N m : Nat} {d : PyData} (h : Sz N m d) (a : N ≤ 2 ^ 20) (b : m ≤ 60) : Sh (2 ^ 20) 60 d := ⟨Nat.le_trans h.w a, Nat.le_trans h.p b, h.l, h.s⟩
theorem sh_dict {A B m : Nat} {kvs : List (PyData × PyData)} (h : ∀ p ∈ kvs, Sz A m p.1 ∧ Sz B m p.2) (hl : kvs.length * (A + B + 2) ≤ 2 ^ 20) (hm : m + 1 ≤ 60) : Sh (2 ^ 20) 60 (.dict kvs) := by
  obtain ⟨a, b, c, d⟩ := sz_dic h
  refine ⟨Nat.le_trans a hl, ?_, c, d⟩
  show PyData.depthKv kvs + 1 ≤ 60
  omega
theorem Sh.fits {N m : Nat} {d : PyData} (h : Sh N m d) (hN : N ≤ 2 ^ 20) : d.shown.length ≤ sizeLine := PyData.shown_fits (B := 13) (by decide) (by decide) h.l (Nat.le_trans h.w hN)
def rReprX (P : Program) (w : World) : List V → Hp → VK → Prop := fun xs H Q => ∃ (a : Addr) (d : PyData), xs = [.ref a] ∧ Gx P w H (.ref a) d ∧ Sh (2 ^ 20) 60 d ∧ Q (.str d.shown) H
theorem cr_reprX {X : Cx} (P : Program) (w : World) (hg : X.A.guards = some []) (hu : X.A.units + 64 < cLine) (hm : ∃ o, X.base.get? sysModules = some o) (hP : X.prog = P := by rfl) (hw : X.w = w := by rfl) : CallR X (.builtin "repr") (rReprX P w) := by
  subst hP hw
  intro pins s σ H xs us Q I r h
  obtain ⟨a, d, rfl, hd, sh, q⟩ := h
  obtain ⟨u, rfl, rx⟩ := vals1 r
  obtain ⟨as, rd, hn⟩ := hd.reads hm I rx
  have hp := sh.p
  cases rx
  exact repr_of_reads' rd sh.s (fun _ => hn) hg (by omega) (fun _ _ e => e) (fun h' u tk hk => ⟨.str d.shown, H, I.kept (t' := tk) hk, ⟨_, rfl⟩, q⟩) (sh.fits (Nat.le_refl _))
end Lm
/-! A def that is called where no repr is under way; _law_caught (made from L06t by mkt.py). -/
namespace Lm
open PySem PySem.Spec PyProof.Rows L2 LamX
/-! ### a def that is called where no guard stands -/
def FnG (P : Program) (w : World) (K : PySem.W.Frag) (mg : Str → Option Value) (base : Heap) (CX : CXT) (k : Nat) (f : Addr) (fd : FuncData) (ps : List Str) (sp : Sp) : Prop :=
  (∀ vs H Q E, sp vs H Q E → vs.length = ps.length) ∧ ∀ (A : Around) (outer : List Env) (s : Shared) (H : Hp) (args : Args) (us : List Value) (vs : List V) (Q : VK) (E : XK), A.guards = some [] → Room k A → Env0 P w K mg base A outer s H → BindsTo s fd args (ps.zip us) → Vals vs us → sp vs H Q E →
    codeAny (model P w) A (.call (.ref f) args) (CR CX outer P w H s Q E) s
def HasG (P : Program) (w : World) (K : PySem.W.Frag) (mg : Str → Option Value) (base : Heap) (CX : CXT) (k : Nat) (x : Str) (ps : List Str) (sp : Sp) : Prop :=
  ∃ (f : Addr) (fd : FuncData), mg x = some (.ref f) ∧ PySem.W.keepIn K (.ref f) = true ∧ L2.Binds K fd ps [] ∧ FnG P w K mg base CX k f fd ps sp
theorem fn_ofG {CX : CXT} {P : Program} {w : World} {K : PySem.W.Frag} {mg : Str → Option Value} {base : Heap} {k : Nat} {f : Addr} {name qual : Str} {params : Arguments} {body : List Stmt} {scope : Scope} {dV kV doc pm cdv ct oc : Value} {an od : Option Addr} {osl : Array (Option Value)} {N ps : List Str} {sp : Sp}
    (lk : K.lookup f = some ⟨oc, od, .func (PySem.W.fnOf name qual params body scope dV kV doc pm an cdv ct), osl⟩) (hcd : PySem.W.codeIn K cdv qual = true) (S : FnScope N ps scope) (len : ∀ vs H Q E, sp vs H Q E → vs.length = ps.length)
    (hbody : ∀ (A : Around) (outer : List Env) (s : Shared) (H : Hp) (vs : List V) (Q : VK) (E : XK), A.guards = some [] → Room k (A.deeper (envOfC qual scope s.heap.objs.size f cdv)) → sp vs H Q E →
      ∃ t, PSs (cxOf CX P w K mg base N qual scope f cdv A outer s H E) body t ∧ t { nx := fun _ H' => Q .non H', rt := Q } (L2.start N vs) H) :
    FnG P w K mg base CX (k + 1) f (PySem.W.fnOf name qual params body scope dV kV doc pm an cdv ct) ps sp :=
  ⟨len, fun A outer s H _ _ vs Q E hg hr e0 hb r hsp => run_ofS lk hcd S hr e0 hb r (len vs H Q E hsp) fun hr' => hbody A outer s H vs Q E hg hr' hsp⟩
theorem pe_hG {X : Cx} {CX : CXT} {x : Str} {ps : List Str} {sp : Sp} {E : XK} {j k : Nat} {p pos : Pos} {e : Expr} {es : List Expr} {t : TA} (c : HasG X.prog X.w X.K X.mg X.base CX k x ps sp) (hgd : X.A.guards = some []) (hr : Room j X.A) (hk : k ≤ j) (hg : Gl X x) (hx : Passes CX X E) (ha : PA X (e :: es) t) (hdb : (x == ("__debug__" : Str)) = false := by decide)
    (he : starEach (e :: es) X.env = (false, eval e X.env) :: starEach es X.env := by rfl) (hpl : (backTo pos (starEach es X.env)).any (·.1) = false := by rfl) : PE X (.Call (.Name x p) (e :: es) [] pos) (tH sp E t) := by
  obtain ⟨f, fd, hm, kp, b, len, run⟩ := c
  constructor
  intro pins s σ H Q I h
  refine wpAny_Call_Name_kw (ld_glob I hg hm ?_ hdb)
  refine PySem.W.callWith_K (h₀ := X.base) I.ok.mod.kin kp (thn (ha.run pos pins s σ H _ I h) ?_) he hpl
  rintro us s1 ⟨vs, H1, I1, r, q⟩
  refine ⟨I1.kIn, ?_⟩
  have nv : us.length = ps.length := r.length.symm.trans (len _ _ _ _ q)
  have hb := b s1 us I1.kIn (by rw [List.append_nil]; exact nv)
  rw [List.append_nil] at hb
  have R := run X.A X.stack s1 H1 ⟨us, []⟩ us vs Q E hgd (hr.mono hk) I1.env0 hb r q
  refine wpAny_call (codeAny_mono R ?_)
  intro r' s' hq
  match r', hq with
  | .error e', hq => exact hx pins σ H1 s1 e' s' I1 hq
  | .ok (.ret u), hq => exact I1.after hq
  | .ok .next, hq => exact hq.elim
  | .ok .brk, hq => exact hq.elim
  | .ok .cont, hq => exact hq.elim
/-! ### _law_caught: what is raised, or None -/
abbrev sCaught : Stmt := topS 37
def nCaught : List Str := ["work", "error"]
theorem scCaught : FnScope nCaught ["work"] (defScope sCaught) := ⟨rfl, rfl, rfl, by decide +kernel, rfl, by decide +kernel, by decide +kernel⟩
def TCaught (K : PySem.W.Frag) (CS : Addr) : (XK → Hp → VK → Prop) → Hp → VK → Prop := fun tl H Q =>
  tl (fun cls d H' => PySem.W.exmOne K cls (.ref CS) = some true ∧ ∀ a, H' a = none → Q (.ref a) (upd H' a (ExI a cls d))) H (fun _ H' => Q .non H')
theorem caught_gives {X : Cx} {g CS : Addr} {cdg : Value} {q : Str} (hme : X.mg "LaneError" = some (.ref CS)) :
    GivesTo X nCaught "_law_caught" (defScope sCaught) g cdg (defBody sCaught) "work" q (TCaught X.K CS) := by
  intro f c' s H Q tl act hc h
  refine ⟨_, pss_cons (ps_tryT (X := (cxOf C8.CX0 X.prog X.w X.K X.mg X.base nCaught "_law_caught" (defScope sCaught) g cdg X.A X.stack s H C8.E0).nox) (c := .ref CS) (i := 1)
      (tb := fun W D σ H => ∃ Ech : XK, (∀ cls d σ' H', Ech cls d H' → W cls d σ' H') ∧ σ[0]? = some (some (.ref f)) ∧ H c' = some (CodeO c' q) ∧ tl Ech H fun _ H' => D.nx σ H')
      rfl rfl scCaught.nd rfl rfl ⟨rfl, by decide, .inl hme⟩ (fun W pn xe tk _ => ?_) (fun a pn => pss_one (ps_ret (pv 1))))
    (pss_one (ps_ret pe_non)), ?_⟩
  · refine ⟨fun pins s' σ H' D I h' => ?_⟩
    obtain ⟨Ech, hW, h1, h2, h3⟩ := h'
    exact (pss_one (ps_expr (act W pn xe Ech _ _ tk hW))).run pins s' σ H' D I ⟨h1, h2, h3⟩
  · refine ⟨fun cls d H' => PySem.W.exmOne X.K cls (.ref CS) = some true ∧ ∀ a, H' a = none → Q (.ref a) (upd H' a (ExI a cls d)), ?_, rfl, hc, ?_⟩
    · rintro cls d σ' H' ⟨e, k⟩
      refine ⟨e, fun a hl na => ?_⟩
      have hl : σ'.length = 2 := hl
      match σ', hl with
      | [x0, x1], _ => exact ⟨_, rfl, k a na⟩
    · exact h
def CaughtAt (K : PySem.W.Frag) (mg : Str → Option Value) : Prop := ∃ (g : Addr) (fd : FuncData), mg "_law_caught" = some (.ref g) ∧ PySem.W.keepIn K (.ref g) = true ∧ L2.Binds K fd ["work"] [] ∧ Fun K "_law_caught" "_law_caught" sCaught g fd
theorem pe_caught {CS : Addr} {X : Cx} {T : List (Addr × Str)} {c Pt : Addr} {k : Nat} {params : Arguments} {body : Expr} {scope : Scope} {t : XK → TE} {p lpos pos : Pos} (hca : CaughtAt X.K X.mg)
    (hme : X.mg "LaneError" = some (.ref CS)) (TB : LamX.TabB X.base X.mg c Pt) (hcode : X.env.code = .ref c) (hmT : (Pt, X.env.qual ++ "<lambda>") ∈ T) (hu : ∀ p ∈ T, p.1 = Pt → p.2 = X.env.qual ++ "<lambda>") (hr : Room (k + 2) X.A) (hg : Gl X "_law_caught") (L : LamS X.env.scope scope) (hdef : defaultsOf params X.env = ([], []))
    (hbind : ∀ (q : Str) (cl : List (Str × Addr)) (pm cv ctv : Value), bindArgs (PySem.W.kla_fn "<lambda>" q params body scope cl pm cv ctv) ⟨[], []⟩ = pure [])
    (hbody : ∀ (A : Around) (outer : List Env) (s : Shared) (H : Hp) (E : XK) (f c' : Addr), Room k (A.deeper (lamEnv X scope s.heap.objs.size f c')) → PE (lamCx X A outer s H E scope f c') body (t E)) :
    PE X (.Call (.Name "_law_caught" p) [.Lambda params body scope lpos] [] pos) (tLam T (TCaught X.K CS) t) := by
  obtain ⟨g, fd, hm, hk, hb, F⟩ := hca
  obtain ⟨oc, od, kV, doc, pm, an, cdv, ct, osl, rfl, lk, hcd⟩ := F.ex
  exact pe_lamcall (Ng := nCaught) hg hm hk lk hcd hb scCaught rfl (.inl rfl) (caught_gives hme) TB hcode hmT hu hr L hdef hbind hbody
theorem passLam {X : Cx} {A : Around} {outer : List Env} {s : Shared} {H : Hp} {E : XK} {scope : Scope} {f c' : Addr} : Passes (L2.CX X.prog X.w) (lamCx X A outer s H E scope f c') E := by
  have tk : Takes (lamCx X A outer s H E scope f c') (fun cls d _ H => E cls d H) := takes_of (E := E) rfl rfl rfl rfl
  exact passes_call tk (fun _ _ _ _ h => h)
theorem Tabs.fr {T : List (Addr × Str)} {D : DrA} {n : Nat} {H H' : Hp} (t : Tabs T H) (dr : DrawAt D n H) (f : Fr D H H') : Tabs T H' := by
  obtain ⟨ws, cs, r, tt, h1, h2, _⟩ := id dr
  intro p hp
  obtain ⟨ps, e1, e2, e3⟩ := t p hp
  refine ⟨ps, f _ _ e1 (ne_of e1 h1 (fun z => by cases z)) (ne_of e1 h2 (fun z => by cases z)), e2, fun pos cv hc => ?_⟩
  obtain ⟨c, a, b⟩ := e3 pos cv hc
  exact ⟨c, a, f _ _ b (ne_of b h1 (fun z => by unfold CodeO at z; cases z)) (ne_of b h2 (fun z => by unfold CodeO at z; cases z))⟩
theorem DrawAt.ext {D : DrA} {n : Nat} {H H' : Hp} (h : DrawAt D n H) (e : ExtN H H') : DrawAt D n H' := h.same e
theorem extN_frT {D : DrA} {H H' : Hp} (e : ExtN H H') : FrT D H H' := fun b o h _ _ n => e b o h n
def rIsX (K : PySem.W.Frag) (D : Addr) : List V → Hp → VK → Prop := fun xs H Q => ∃ (a : Addr) (c : V) (cv : Value) (b : Bool), xs = [.ref a, c] ∧ H a = some (ExI a (.ref D) none) ∧ (∀ u, RelV c u → u = cv) ∧ PySem.W.kitOne K (.ref D) cv = some b ∧ Q (.bl b) H
theorem call_isXK {X : Cx} (K : PySem.W.Frag) {D : Addr} (C : ExcC K D) (hK : X.K = K := by rfl) : CallR X (.builtin "isinstance") (rIsX K D) := by
  subst hK
  exact call_isX C
theorem no_ne {X Y : Prop} {v : V} (h : Y) : (if (!decide (v = v)) = true then X else Y) := by
  rw [decide_eq_true rfl]
  exact iteF h
/-- an own exception class: where it stands, what isinstance and except tell of it -/
structure XCls (K : PySem.W.Frag) (mg : Str → Option Value) (CS : Addr) (x : Str) (C : Addr) : Prop where
  at_ : mg x = some (.ref C)
  ex : ExcC K C
  kit : PySem.W.kitOne K (.ref C) (.ref C) = some true
  exm : PySem.W.exmOne K (.ref C) (.ref CS) = some true
end Lm
/-! _law_pairs_right: the mathematics, the pieces. -/
namespace Lm
open PySem PySem.Spec PyProof.Rows L2
/-! ### d.clear() -/
def tClearX (P : Program) (w : World) (K : PySem.W.Frag) (to : TE) : TE := fun σ H Q => to σ H fun x H1 => rClearX P w K x [] H1 Q
theorem pe_clearX {X : Cx} (P : Program) (w : World) (K : PySem.W.Frag) {o : Expr} {to : TE} {apos cpos : Pos} (ho : PE X o to) (hP : X.prog = P := by rfl) (hw : X.w = w := by rfl)
    (hbase : attributeBase o "clear" X.env (eval o X.env) = eval o X.env := by rfl) (hline : (apos.endLine == cpos.line) = true := by rfl) : PE X (.Call (.Attribute o "clear" apos) [] [] cpos) (tClearX P w K to) := by
  subst hP hw
  refine ⟨fun pins s σ H Q I h => ?_⟩
  refine wpAny_Call_method0_late hbase hline (thn (ho.run pins s σ H _ I h) fun v s1 ⟨x, H1, I1, r1, q1⟩ => ?_)
  obtain ⟨a, ks, e, _, pd, q⟩ := id q1
  subst e
  obtain rfl : v = Value.ref a := r1
  obtain ⟨h1, h2⟩ := pd_at I1 pd
  exact ⟨"dict", "dict.clear", PySem.F.plainAttrs_dict, PySem.F.slot_dict_clear, PySem.F.type_dict_clear, h1, h2, Calls.callWith_builtin rfl (PySem.evalArgs_none ((mt_clearX (X := X) X.prog X.w K) pins s1 σ H1 (V.ref a) [] _ [] Q I1 rfl .nil q1))⟩
/-! ### what the table tells -/
theorem least_good {R : Rws} {ys : List Str} {D : Wy.Tb Spot} (hn : NmsOf R ys) (cl : ClIs R (spotz ys) D) (G : Wy.Good R (spotz ys) (spotz ys) D) : ∀ a ∈ spots ys, Wy.Least R (spots ys) a (D a) := fun a ha => by
  have hS : ∀ a b c, (a, b, c) ∈ R → a ∈ spotz ys ∧ b ∈ spotz ys := fun a b c h => let ⟨x, y⟩ := hn.mem a b c h; ⟨spotz_mem.mpr x, spotz_mem.mpr y⟩
  have ha' := spotz_mem.mpr ha
  exact ⟨G.dia a ha', fun b z e => ⟨spotz_mem.mp (cl.inS a b z e).2, cl.real a b z e⟩, fun b w z h => G.lo hS h ha'⟩
theorem first_len {R : Rws} {S : List Spot} (hS : ∀ a b c, (a, b, c) ∈ R → a ∈ S ∧ b ∈ S) {p : Spot → Int} (P : Wy.Pot R p) {a b : Spot} (ha : a ∈ S) {z : Int} {l : List Nat} (h : Wy.IsFirst R a b z l) : l.length ≤ S.length := by
  obtain ⟨⟨y, hw, ly⟩, hno⟩ := h
  rcases Nat.lt_or_ge S.length l.length with c | c
  · obtain ⟨i, j, ij, jn, e⟩ := Wy.pig_two (f := fun i => endV R a (l.take i)) (S := S) (n := l.length) (fun i _ => by
      obtain ⟨x, y, h1, _⟩ := way_cut hw i
      by_cases q : l.take i = []
      · show endV R a (l.take i) ∈ S
        rw [q]
        exact ha
      · exact (way_ends hS h1 q).2) (by omega)
    have e : endV R a (l.take i) = endV R a (l.take j) := e
    obtain ⟨x, y', h1, h2, e2⟩ := way_cut hw j
    obtain ⟨x1, x2, k1, k2, e3⟩ := way_cut h1 i
    have tt : (l.take j).take i = l.take i := by rw [List.take_take, Nat.min_eq_left (by omega)]
    rw [tt, e] at k1 k2
    have l2 : (l.take i ++ l.drop j).length = l.length - (j - i) := by rw [List.length_append, List.length_take, List.length_drop]; omega
    have x20 := P.le k2
    exact absurd (.inl (by omega)) (hno _ _ (k1.app h2) (by omega))
  · exact c
theorem way_small {R : Rws} (h : ∀ a b c, (a, b, c) ∈ R → c.natAbs ≤ 100) {a b : Spot} {l : List Nat} {z : Int} (w : Wy.Way R a l b z) : z.natAbs ≤ 100 * l.length := by
  induction w with
  | nil => exact Nat.le_refl _
  | cons hr _ ih =>
    have := h _ _ _ (List.mem_of_getElem? hr)
    rw [List.length_cons]
    omega
/-- the first way of a pair, as the table tells it -/
structure PrIs (R : Rws) (ys : List Str) (a b : Spot) (z : Int) (l : List Nat) : Prop where
  way : Wy.Way R a l b z
  fst : Wy.IsFirst R a b z l
  low : ∀ w z', Wy.Way R a w b z' → z ≤ z'
  len : l.length ≤ ys.length + 1
  num : z.natAbs ≤ 400
  idx : ∀ k ∈ l, k < 1000
theorem first_way_sum {R : Rws} {a b : Spot} {z : Int} {l : List Nat} (f : Wy.IsFirst R a b z l) (low : ∀ w z', Wy.Way R a w b z' → z ≤ z') : Wy.Way R a l b z := by
  obtain ⟨⟨y, hw, ly⟩, _⟩ := f
  have := low _ _ hw
  have e : y = z := by omega
  rw [← e]
  exact hw
theorem pair_is {R : Rws} {ys : List Str} {D : Wy.Tb Spot} (hn : NmsOf R ys) (l3 : ys.length ≤ 3) (lR : R.length ≤ 30) (sm : ∀ a b c, (a, b, c) ∈ R → c.natAbs ≤ 100) (pot : HasPot R) {a b : Spot} {z : Int} (le : Wy.Least R (spots ys) a (D a)) (ha : a ∈ spots ys) (hz : D a b = some z) : ∃ l, PrIs R ys a b z l := by
  obtain ⟨p, P⟩ := pot
  obtain ⟨w, hw⟩ := Wy.LW.has le hz
  obtain ⟨l, hl, _⟩ := Wy.FW.has le hw
  have f := hl.isFirst le hz
  have low : ∀ w z', Wy.Way R a w b z' → z ≤ z' := fun w z' h => by
    obtain ⟨y, e, k⟩ := le.low b w z' h
    rw [hz] at e
    cases e
    exact k
  have wy := first_way_sum f low
  have len := first_len (S := spots ys) hn.mem P ha f
  have e : (spots ys).length = ys.length + 1 := by show (none :: ys.map some).length = _; rw [List.length_cons, List.length_map]
  have ll : l.length ≤ 4 := by omega
  have := way_small sm wy
  exact ⟨l, wy, f, low, by omega, by omega, fun k hk => by have := way_lt wy k hk; omega⟩
theorem gx_way {P : Program} {w : World} {H : Hp} {q : Addr} {l : List Nat} (hq : H q = some (.lst (natL l))) : Gx P w H (.ref q) (encW l) := by
  refine .lst hq ?_
  unfold natL natI
  clear hq
  induction l with
  | nil => exact .nil
  | cons k r ih => exact .cons (.int _) ih
/-- what most told of a pair that the table holds -/
theorem mo_data {P : Program} {w : World} {R : Rws} {ys : List Str} {a b : Spot} {z : Int} {l : List Nat} {H : Hp} {r : V} (h : PrIs R ys a b z l) (m : MoIs R a b H r) : ∃ t, r = .ref t ∧ Gx P w H (.ref t) (.tuple [.int z, encW l]) := by
  rcases m with ⟨_, no⟩ | ⟨t, q, z', l', rfl, ht, hq, ⟨w', hw'⟩, low', f', _⟩
  · exact absurd h.way (no _ _)
  · have e1 : z' = z := Int.le_antisymm (low' _ _ h.way) (h.low _ _ hw')
    subst e1
    have e2 := f'.uniq h.fst
    subst e2
    exact ⟨t, rfl, .tup ht (.cons (.int _) (.cons (gx_way hq) .nil))⟩
theorem sz_way {l : List Nat} (h : ∀ k ∈ l, k < 1000) : Sz (l.length * 41) 1 (encW l) := by
  have := szA_all (N := 40) (m := 0) (ds := (natI l).map PyData.int) fun d hd => by
    obtain ⟨i, hi, rfl⟩ := List.mem_map.mp hd
    obtain ⟨k, hk, rfl⟩ := List.mem_map.mp hi
    refine sz_int ?_
    have := h k hk
    have e : (10 : Nat) ^ 12 = 1000000000000 := by decide
    omega
  have l1 : ((natI l).map PyData.int).length = l.length := by unfold natI; rw [List.length_map, List.length_map]
  rw [l1] at this
  exact sz_lst this
theorem PrIs.sh {R : Rws} {ys : List Str} {a b : Spot} {z : Int} {l : List Nat} (h : PrIs R ys a b z l) (l3 : ys.length ≤ 3) : Sh (2 ^ 20) 60 (.list [.tuple [.int z, encW l], .tuple [.int z, encW l]]) := by
  have one : Sz 1000 2 (.tuple [.int z, encW l]) := by
    have h1 : Sz 40 0 (.int z) := sz_int (by
      have := h.num
      have e : (10 : Nat) ^ 12 = 1000000000000 := by decide
      omega)
    have h2 := sz_way h.idx
    have := sz_tup (szA_cons (h1.mono (Nat.le_refl _) (Nat.zero_le 1)) (szA_cons h2 (szA_nil (m := 1))))
    exact this.mono (by have := h.len; omega) (Nat.le_refl _)
  exact (sz_lst (szA_cons one (szA_cons one (szA_nil (m := 2))))).to (by decide) (by decide)
/-! ### the closure -/
theorem putK_mem {ks : List (PK × V)} {k : PK} {v : V} {p : PK × V} (h : p ∈ putK ks k v) : p ∈ ks ∨ p = (k, v) := by
  unfold putK at h
  split at h
  · obtain ⟨q, hq, rfl⟩ := List.mem_map.mp h
    by_cases e : q.1 = k
    · rw [if_pos e, e]
      exact .inr rfl
    · rw [if_neg e]
      exact .inl hq
  · rcases List.mem_append.mp h with z | z
    · exact .inl z
    · exact .inr (List.mem_singleton.mp z)
def AllK (S : List Spot) (ks : List (PK × V)) : Prop := ∀ p ∈ ks, p.1.1 ∈ S ∧ p.1.2 ∈ S ∧ ∃ z : Int, p.2 = .int z ∧ z.natAbs ≤ 400
theorem allK_step {S : List Spot} {cl : Spot → Spot → Option Int} (sm : ∀ a b z, a ∈ S → cl a b = some z → z.natAbs ≤ 400) {a b : Spot} (ha : a ∈ S) (hb : b ∈ S) {acc : List (PK × V)} (h : AllK S acc) : AllK S (stepK cl a acc b) := by
  unfold stepK
  split
  · exact h
  · split
    · rename_i z hz
      intro p hp
      rcases putK_mem hp with q | q
      · exact h p q
      · subst q
        exact ⟨ha, hb, z, rfl, sm a b z ha hz⟩
    · exact h
theorem fold_keep {α β : Type} {f : β → α → β} {Pr : β → Prop} : ∀ {l : List α} {b : β}, Pr b → (∀ b x, x ∈ l → Pr b → Pr (f b x)) → Pr (l.foldl f b)
  | [], _, h, _ => h
  | x :: l, b, h, k => fold_keep (l := l) (k b x (List.mem_cons_self ..) h) fun b y hy => k b y (List.mem_cons_of_mem _ hy)
theorem fold_len {α : Type} {f : List (PK × V) → α → List (PK × V)} {c : Nat} (k : ∀ b x, (f b x).length ≤ b.length + c) : ∀ (l : List α) (b : List (PK × V)), (l.foldl f b).length ≤ b.length + l.length * c
  | [], b => by show b.length ≤ _; omega
  | x :: l, b => by
    have h1 := fold_len k l (f b x)
    have h2 := k b x
    show (l.foldl f (f b x)).length ≤ _
    rw [List.length_cons, Nat.add_mul]
    omega
theorem allK_closed {S : List Spot} {cl : Spot → Spot → Option Int} (sm : ∀ a b z, a ∈ S → cl a b = some z → z.natAbs ≤ 400) : AllK S (closedK S cl) :=
  fold_keep (Pr := AllK S) (fun p hp => nomatch hp) fun acc a ha h => fold_keep (Pr := AllK S) h fun acc b hb h => allK_step sm ha hb h
theorem closed_len (S : List Spot) (cl : Spot → Spot → Option Int) : (closedK S cl).length ≤ S.length * S.length := by
  have := fold_len (f := rowK cl S) (c := S.length) (fun b x => by
    have := fold_len (f := stepK cl x) (c := 1) (fun b y => stepK_len cl x y b) S b
    rw [Nat.mul_one] at this
    exact this) S []
  rw [List.length_nil, Nat.zero_add] at this
  exact this
theorem sh_pd {S : List Spot} (ok : OkS S) (sl : ∀ o ∈ S, ∀ x, o = some x → x.length ≤ 20) (lS : S.length ≤ 4) {ks : List (PK × V)} (h : AllK S ks) (lk : ks.length ≤ 16) : Sh (2 ^ 20) 60 (.list [pdD ks, pdD ks]) := by
  have each : ∀ p ∈ ks.map (fun p => (pkD p.1, vlD p.2)), Sz 60 1 p.1 ∧ Sz 40 1 p.2 := fun p hp => by
    obtain ⟨q, hq, rfl⟩ := List.mem_map.mp hp
    obtain ⟨h1, h2, z, hz, lz⟩ := h q hq
    have one : ∀ o ∈ S, Sz 20 0 (oD o) := fun o ho => by
      cases o with
      | none => exact sz_non.mono (by decide) (Nat.le_refl _)
      | some x => exact sz_str (ok _ ho x rfl) (sl _ ho x rfl) (by decide)
    refine ⟨(sz_tup (szA_cons (one _ h1) (szA_cons (one _ h2) (szA_nil (m := 0))))).mono (by decide) (Nat.le_refl _), ?_⟩
    show Sz 40 1 (vlD q.2)
    rw [hz]
    exact (sz_int (by
      have e : (10 : Nat) ^ 12 = 1000000000000 := by decide
      omega)).mono (Nat.le_refl _) (by decide)
  obtain ⟨a, b, c, d⟩ := sz_dic each
  rw [List.length_map] at a
  have a' : PyData.weightKv (ks.map fun p => (pkD p.1, vlD p.2)) ≤ 1632 := by omega
  show Sh (2 ^ 20) 60 (.list [.dict (ks.map fun p => (pkD p.1, vlD p.2)), .dict (ks.map fun p => (pkD p.1, vlD p.2))])
  generalize ks.map (fun p => (pkD p.1, vlD p.2)) = kv at a' b c d ⊢
  refine ⟨?_, ?_, ?_, ?_⟩
  · show PyData.weightKv kv + 1 + (PyData.weightKv kv + 1 + 0) ≤ 2 ^ 20
    have e : (2 : Nat) ^ 20 = 1048576 := by decide
    omega
  · show max (PyData.depthKv kv + 1) (max (PyData.depthKv kv + 1) 0) + 1 ≤ 60
    omega
  · show (PyData.leavesShortKv 13 kv && (PyData.leavesShortKv 13 kv && true)) = true
    rw [c]
    rfl
  · show (PyData.showableKv kv && (PyData.showableKv kv && true)) = true
    rw [d]
    rfl
end Lm
/-! _law_pairs_right. -/
namespace Lm
open PySem PySem.Spec PyProof.Rows L2 LamX
def rTupZ (K : PySem.W.Frag) : List V → Hp → VK → Prop := fun xs H Q => ∃ p ys, xs = [V.ref p] ∧ ((SqL K H p ys ∧ ∀ l, H l = none → Q (.ref l) (upd H l (.tup ys))) ∨ (SqT K H p ys ∧ Q (.ref p) H))
theorem call_tupZ {X : Cx} (K : PySem.W.Frag) (hK : X.K = K := by rfl) : CallR X (.type "tuple") (rTupZ K) := by
  subst hK
  exact call_tuple_of
theorem PDat.but {P : Program} {w : World} {H H' : Hp} {a d : Addr} {ks : List (PK × V)} (h : PDat P w H a ks) (ad : a ≠ d) (hd : ∀ l, H d ≠ some (.tup l)) (s : ∀ b o, b ≠ d → H b = some o → H' b = some o) : PDat P w H' a ks :=
  h.fr (fun o e => s _ _ ad e) fun b ys e => s _ _ (fun z => by rw [z] at e; exact hd _ e) e
theorem PDat.noTup {P : Program} {w : World} {H : Hp} {a : Addr} {ks : List (PK × V)} (h : PDat P w H a ks) : ∀ l, H a ≠ some (.tup l) := fun l e => by
  obtain ⟨kvs, h1, _⟩ := h
  rw [e] at h1
  cases h1
theorem first_nil {R : Rws} (a : Spot) : Wy.IsFirst R a a 0 [] := ⟨⟨0, .nil _, Int.le_refl _⟩, fun v z _ _ h => by
  rcases h with h | h
  · exact absurd h (Nat.not_lt_zero _)
  · have : v = [] := List.length_eq_zero_iff.mp h.1
    rw [this] at h
    exact Wy.lx_irr _ h.2⟩
/-- the defs that the law calls here -/
structure CalP (P : Program) (w : World) (K : PySem.W.Frag) (mg : Str → Option Value) (base : Heap) (BS BN RG : Addr) : Prop where
  N : Bl mg
  mo : Has P w K mg base (L2.CX P w) 6 "most" ["system", "a", "b"] (spMo BS BN RG)
  mok : HasK P w K mg base (L2.CX P w) 6 "most" ["system", "a", "b"] ["b", "a", "system"] List.reverse (spMo BS BN RG)
  cl : Has P w K mg base (L2.CX P w) 6 "closed" ["system"] (spClo P w BS RG)
  clk : HasK P w K mg base (L2.CX P w) 6 "closed" ["system"] ["system"] List.reverse (spClo P w BS RG)
  ct : Has P w K mg base CX0 2 "_law_closest" ["rows"] (spCl P w)
  fw : Has P w K mg base CX0 2 "_law_first_way" ["rows", "begin", "end", "limit"] spFW
  lf : Has P w K mg base CX0 3 "_law_lifted" ["rows", "titles", "begin", "end", "number"] spLf
  mods : ∃ o, base.get? sysModules = some o
section
variable {P : Program} {w : World} {K : PySem.W.Frag} {mg : Str → Option Value} {base : Heap} {BS BN RG : Addr}
abbrev sPR : Stmt := topS 56
def nPR : List Str := ["state", "rows", "titles", "closest", "due", "begin", "end", "number", "told"]
theorem scPR : FnScope nPR ["state", "rows", "titles"] (defScope sPR) := ⟨rfl, rfl, rfl, by decide +kernel, rfl, by decide +kernel, by decide +kernel⟩
def spPR : Sp := fun vs H Q _ => ∃ (D : DrA) (n : Nat) (p tq : Addr) (R : Rws) (ts ys : List Str), vs = [.ref D.d, .ref p, .ref tq] ∧ DrawAt D n H ∧ Few D H p R ts ∧ NmsOf R ys ∧ H tq = some (.lst (ys.map V.str)) ∧ HasPot R ∧ ∀ H', Same H H' → Q (.bl true) H'
theorem ok_pr {f c : Addr} {oc kV doc pm ct : Value} {od an : Option Addr} {osl : Array (Option Value)} (lk : K.lookup f = some ⟨oc, od, .func (PySem.W.fnOf "_law_pairs_right" "_law_pairs_right" (defArgs sPR) (defBody sPR) (defScope sPR) .none kV doc pm an (.ref c) ct), osl⟩) (hcd : PySem.W.codeIn K (.ref c) "_law_pairs_right" = true)
    (C : CalP P w K mg base BS BN RG) : FnG P w K mg base CX0 8 f (PySem.W.fnOf "_law_pairs_right" "_law_pairs_right" (defArgs sPR) (defBody sPR) (defScope sPR) .none kV doc pm an (.ref c) ct) ["state", "rows", "titles"] spPR := by
  refine fn_ofG lk hcd scPR (fun vs H Q E h => ?_) fun A outer s H vs Q E hg hr h => ?_
  · obtain ⟨D, n, p, tq, R, ts, ys, rfl, _⟩ := h
    rfl
  · obtain ⟨D, n, p, tq, R, ts, ys, rfl, dr, few, hn, htq, pot, q⟩ := h
    have hgg : (A.deeper (envOfC "_law_pairs_right" (defScope sPR) s.heap.objs.size f (.ref c))).guards = some [] := hg
    have hu : (A.deeper (envOfC "_law_pairs_right" (defScope sPR) s.heap.objs.size f (.ref c))).units + 64 < cLine := by
      have := hr.un
      omega
    have N := C.N
    suffices hh : ∃ t, PSs (cxOf CX0 P w K mg base nPR "_law_pairs_right" (defScope sPR) f (.ref c) A outer s H E).nox (defBody sPR) t ∧ t { nx := fun _ H' => Q .non H', rt := Q } (L2.start nPR [.ref D.d, .ref p, .ref tq]) H by
      obtain ⟨t, h1, h2⟩ := hh
      exact ⟨t, h1.nox, h2⟩
    refine ⟨_, pss_cons (ps_par (i := 3) (j := 4) rfl scPR.nd rfl rfl (by decide) rfl rfl (pa_cons (pe_h C.ct hr (by decide) (by rfl) (E := C8.E0) pass0 (pa_cons (pv 1) pa_nil)) (pa_cons (pe_dnewXP P w) pa_nil)) rfl)
      (pss_cons (ps_for PassesOwn.never rfl (pi_listK K (pe_op op_cat (pe_lst (pa_cons pe_non pa_nil)) (pv 2))) (pg_name (i := 5) scPR.nd rfl (.inl rfl))
        (pss_one (ps_for PassesOwn.never rfl (pi_listK K (pe_op op_cat (pe_lst (pa_cons pe_non pa_nil)) (pv 2))) (pg_name (i := 6) scPR.nd rfl (.inl rfl))
          (pss_cons (ps_if (pt_cmp (pc_dnotinXP P w hu (pe_tup (pa_cons (pv 5) (pa_cons (pv 6) pa_nil))) (pv 3))) (pss_cons (ps_if (pt_cmpR op_notN1 (pe_h C.mo hr (by decide) (by rfl) passL (pa_cons (pv 1) (pa_cons (pv 5) (pa_cons (pv 6) pa_nil)))) pe_non (nomark _)) (pss_one (ps_ret pe_bl)) pss_nil) (pss_one ps_continue)) pss_nil)
          (pss_cons (ps_set (i := 7) scPR.nd rfl (.inl rfl) (pe_dgetXP P w hu (pv 3) (pe_tup (pa_cons (pv 5) (pa_cons (pv 6) pa_nil))) (fun _ _ => rfl)))
          (pss_cons (ps_set (i := 8) scPR.nd rfl (.inl rfl) (pe_tup (pa_cons (pv 7) (pa_cons (pe_h C.fw hr (by decide) (by rfl) (E := C8.E0) pass0 (pa_cons (pv 1) (pa_cons (pv 5) (pa_cons (pv 6) (pa_cons (pv 7) pa_nil))))) pa_nil))))
          (pss_cons (ps_if (pt_cmpR op_ne (pe_callB (cr_reprX P w hgg hu C.mods) (by rfl) N.brep (by decide +kernel) (pa_cons (pe_lst (pa_cons (pe_h C.mo hr (by decide) (by rfl) passL (pa_cons (pv 1) (pa_cons (pv 5) (pa_cons (pv 6) pa_nil))))
                (pa_cons (pe_hK C.mok hr (by decide) (by rfl) passL (pk_cons (pv 6) (pk_cons (pv 5) (pk_cons (pe_callTy (call_tupZ K) (by rfl) N.btup (by decide +kernel) (pa_cons (pv 1) pa_nil)) pk_nil)))) pa_nil))) pa_nil))
              (pe_callB (cr_reprX P w hgg hu C.mods) (by rfl) N.brep (by decide +kernel) (pa_cons (pe_lst (pa_cons (pv 8) (pa_cons (pv 8) pa_nil))) pa_nil)) (nomark _)) (pss_one (ps_ret pe_bl)) pss_nil)
          (pss_one (ps_if (pt_cmpR op_ne (pv 5) (pv 6) (nomark _))
            (pss_cons (ps_dputXP P w hu (pv 4) (pe_tup (pa_cons (pv 5) (pa_cons (pv 6) pa_nil))) (pv 7) rfl)
            (pss_cons (ps_if (pt_cmpR op_notN1 (pe_h C.lf hr (by decide) (by rfl) (E := C8.E0) pass0 (pa_cons (pv 1) (pa_cons (pv 2) (pa_cons (pv 5) (pa_cons (pv 6) (pa_cons (pe_op op_add (pv 7) pe_int) pa_nil)))))) pe_non (nomark _)) (pss_one (ps_ret pe_bl)) pss_nil)
            (pss_one (ps_if (pt_cmpR op_isN1 (pe_h C.lf hr (by decide) (by rfl) (E := C8.E0) pass0 (pa_cons (pv 1) (pa_cons (pv 2) (pa_cons (pv 5) (pa_cons (pv 6) (pa_cons (pv 7) pa_nil)))))) pe_non (nomark _)) (pss_one (ps_ret pe_bl)) pss_nil))))
            (pss_one (ps_if (pt_cmpR (show OpR _ _ (rNeD K) from op_neD hu) (pv 8) (pe_tup (pa_cons pe_int (pa_cons (pe_lst pa_nil) pa_nil))) (nomark _)) (pss_one (ps_ret pe_bl)) pss_nil)))))))))))
      (pss_cons (ps_if (pt_cmpR op_ne (pe_callB (cr_reprX P w hgg hu C.mods) (by rfl) N.brep (by decide +kernel) (pa_cons (pe_lst (pa_cons (pe_h C.cl hr (by decide) (by rfl) passL (pa_cons (pv 1) pa_nil)) (pa_cons (pe_hK C.clk hr (by decide) (by rfl) passL (pk_cons (pe_callTy (call_tupZ K) (by rfl) N.btup (by decide +kernel) (pa_cons (pv 1) pa_nil)) pk_nil)) pa_nil))) pa_nil))
          (pe_callB (cr_reprX P w hgg hu C.mods) (by rfl) N.brep (by decide +kernel) (pa_cons (pe_lst (pa_cons (pv 4) (pa_cons (pv 4) pa_nil))) pa_nil)) (nomark _)) (pss_one (ps_ret pe_bl)) pss_nil)
      (pss_cons (ps_expr (pe_clearX P w K (pe_h C.cl hr (by decide) (by rfl) passL (pa_cons (pv 1) pa_nil))))
      (pss_one (ps_ret (pe_cmpR (show OpR _ _ (rEqP P w) from op_eqP P w hu) (pe_h C.cl hr (by decide) (by rfl) passL (pa_cons (pv 1) pa_nil)) (pv 4) (nomark _))))))), ?_⟩
    have rl := few.rls
    obtain ⟨l3, pl⟩ := few.names hn
    have sm := few.ok.small
    have l7 := few.len
    have memN := @spots_mem R ys hn
    have inS := hn.mem
    refine ⟨_, rfl, p, R, rfl, rl, fun H1 cq ys1 Dt hn1 cl dt ncq s1 => ?_⟩
    have e := AscOf.uniq hn1 hn fun _ => Iff.rfl
    subst e
    refine fun dq od ndq pd0 _ => ⟨_, _, rfl, ?_⟩
    have inZ : ∀ a b c, (a, b, c) ∈ R → a ∈ spotz ys1 ∧ b ∈ spotz ys1 := fun a b c h => let ⟨x, y⟩ := inS a b c h; ⟨spotz_mem.mpr x, spotz_mem.mpr y⟩
    obtain ⟨pp, Pp⟩ := id pot
    have G : Wy.Good R (spotz ys1) (spotz ys1) Dt := by
      rcases cl.pot inZ with ⟨⟨w0, hw0⟩, _⟩ | ⟨_, G⟩
      · exact absurd hw0 (Pp.noRing w0)
      · exact G
    have le := least_good hn cl G
    have e4 : (spots ys1).length = ys1.length + 1 := by show (none :: ys1.map some).length = _; rw [List.length_cons, List.length_map]
    have small : ∀ a b z, a ∈ spots ys1 → Dt a b = some z → z.natAbs ≤ 400 := fun a b z ha hz => by
      obtain ⟨l, h⟩ := pair_is hn l3 (by omega) sm pot (le a ha) ha hz
      exact h.num
    have s12 := same_upd (o := od) ndq
    have ndq0 : H dq = none := none_of s1 ndq
    obtain ⟨ks, pdc, hv⟩ := dt
    have cdq : cq ≠ dq := by
      rintro rfl
      obtain ⟨kvs, g1, _⟩ := pdc
      rw [ndq] at g1
      cases g1
    have pdc2 := pdc.sm s12
    have s02 : Same H (upd H1 dq od) := fun x y z => s12 _ _ (s1 _ _ z)
    generalize upd H1 dq od = H2 at pd0 s02 pdc2
    refine ⟨by show 1 ≤ sizeLine; decide, fun t nt => ⟨_, rfl, t, tq, _, _, rfl, rfl, upd_same, same_upd nt _ _ (s02 _ _ htq), small10000 (by rw [List.length_map]; show 1 + ys1.length ≤ 10000; omega), fun sd nsd => ?_⟩⟩
    have sA : Same H2 (upd (upd H2 t (.lst [.non])) sd (.lst ([.non] ++ ys1.map V.str))) := fun x y z => same_upd nsd _ _ (same_upd nt _ _ z)
    have hsd : (upd (upd H2 t (.lst [.non])) sd (.lst ([.non] ++ ys1.map V.str))) sd = some (.lst ((spots ys1).map oV)) := by
      rw [upd_same]
      unfold spots
      rw [List.map_cons, List.map_map]
      rfl
    have pd3 := pd0.sm sA
    have pdc3 := pdc2.sm sA
    have s03 : Same H (upd (upd H2 t (.lst [.non])) sd (.lst ([.non] ++ ys1.map V.str))) := fun x y z => sA _ _ (s02 _ _ z)
    generalize upd (upd H2 t (.lst [.non])) sd (.lst ([.non] ++ ys1.map V.str)) = H3 at hsd pd3 pdc3 s03 ⊢
    have sdq : sd ≠ dq := by
      rintro rfl
      obtain ⟨kvs, g1, _⟩ := pd3
      rw [hsd] at g1
      cases g1
    have old : ∀ {H' : Hp}, (∀ b o, b ≠ dq → H3 b = some o → H' b = some o) → Same H H' := fun sb b o e => sb _ _ (fun z => by rw [z, ndq0] at e; cases e) (s03 _ _ e)
    have pdcB : ∀ {H' : Hp}, (∀ b o, b ≠ dq → H3 b = some o → H' b = some o) → PDat P w H' cq ks := fun sb => pdc3.but cdq pd3.noTup sb
    have syOf : ∀ {H' : Hp}, Same H H' → Sy H' (.ref p) R := fun s => (few.sm s).sy (dr.sm s)
    refine ⟨sd, rfl, ⟨_, SqL.of hsd⟩, for_list (K := K) (a := sd) (xs := (spots ys1).map oV) (fun i σ H' => ∃ (x5 x6 x7 x8 : Option V), σ = [some (.ref D.d), some (.ref p), some (.ref tq), some (.ref cq), some (.ref dq), x5, x6, x7, x8] ∧ (∀ b o, b ≠ dq → H3 b = some o → H' b = some o) ∧ PDat P w H' dq (((spots ys1).take i).foldl (rowK Dt (spots ys1)) []))
      ⟨none, none, none, none, rfl, fun _ _ _ z => z, pd3⟩ (fun i σ H' _ ⟨_, _, _, _, _, sb, _⟩ => SqL.of (sb _ _ sdq hsd)) ?_ ?_⟩
    · rintro i xv σ H4 hi ⟨x5, x6, x7, x8, rfl, sb4, pd4⟩
      obtain ⟨a, ha, rfl⟩ := spot_map hi
      have ma := List.mem_of_getElem? ha
      have s04 := old sb4
      refine ⟨by show 1 ≤ sizeLine; decide, fun t nt => ⟨_, rfl, t, tq, _, _, rfl, rfl, upd_same, same_upd nt _ _ (s04 _ _ htq), small10000 (by rw [List.length_map]; show 1 + ys1.length ≤ 10000; omega), fun se nse => ?_⟩⟩
      have sB : Same H4 (upd (upd H4 t (.lst [.non])) se (.lst ([.non] ++ ys1.map V.str))) := fun x y z => same_upd nse _ _ (same_upd nt _ _ z)
      have hse : (upd (upd H4 t (.lst [.non])) se (.lst ([.non] ++ ys1.map V.str))) se = some (.lst ((spots ys1).map oV)) := by
        rw [upd_same]
        unfold spots
        rw [List.map_cons, List.map_map]
        rfl
      have pd5 := pd4.sm sB
      have sb5 : ∀ b o, b ≠ dq → H3 b = some o → (upd (upd H4 t (.lst [.non])) se (.lst ([.non] ++ ys1.map V.str))) b = some o := fun b o n e => sB _ _ (sb4 b o n e)
      generalize upd (upd H4 t (.lst [.non])) se (.lst ([.non] ++ ys1.map V.str)) = H5 at hse pd5 sb5 ⊢
      have sedq : se ≠ dq := by
        rintro rfl
        obtain ⟨kvs, g1, _⟩ := pd5
        rw [hse] at g1
        cases g1
      have lacc : (((spots ys1).take i).foldl (rowK Dt (spots ys1)) []).length ≤ 16 := by
        have := fold_len (f := rowK Dt (spots ys1)) (c := (spots ys1).length) (fun b x => by
          have := fold_len (f := stepK Dt x) (c := 1) (fun b y => stepK_len Dt x y b) (spots ys1) b
          rw [Nat.mul_one] at this
          exact this) ((spots ys1).take i) []
        rw [List.length_nil, Nat.zero_add, List.length_take] at this
        have h2 : min i (spots ys1).length * (spots ys1).length ≤ 4 * 4 := Nat.mul_le_mul (by omega) (by omega)
        omega
      generalize hacc : ((spots ys1).take i).foldl (rowK Dt (spots ys1)) [] = acc at pd5 lacc
      refine ⟨se, rfl, ⟨_, SqL.of hse⟩, for_list (K := K) (a := se) (xs := (spots ys1).map oV) (fun j σ H' => ∃ (x6 x7 x8 : Option V), σ = [some (.ref D.d), some (.ref p), some (.ref tq), some (.ref cq), some (.ref dq), some (oV a), x6, x7, x8] ∧ (∀ b o, b ≠ dq → H5 b = some o → H' b = some o) ∧ PDat P w H' dq (((spots ys1).take j).foldl (stepK Dt a) acc))
        ⟨x6, x7, x8, rfl, fun _ _ _ z => z, pd5⟩ (fun j σ H' _ ⟨_, _, _, _, sb, _⟩ => SqL.of (sb _ _ sedq hse)) ?_ ?_⟩
      · rintro j xv σ H6 hj ⟨x6, x7, x8, rfl, sb6, pd6⟩
        obtain ⟨b, hb, rfl⟩ := spot_map hj
        have mb := List.mem_of_getElem? hb
        have stp := foldl_one (stepK Dt a) acc hb
        have lac2 : (((spots ys1).take j).foldl (stepK Dt a) acc).length ≤ 100 := by
          have := fold_len (f := stepK Dt a) (c := 1) (fun b y => stepK_len Dt a y b) ((spots ys1).take j) acc
          rw [List.length_take] at this
          omega
        generalize ((spots ys1).take j).foldl (stepK Dt a) acc = ac2 at stp pd6 lac2
        have sb36 : ∀ b o, b ≠ dq → H3 b = some o → H6 b = some o := fun b o n e => sb6 _ _ n (sb5 b o n e)
        -- (a, b) not in closest
        refine ⟨_, rfl, _, rfl, by show 2 ≤ sizeLine; decide, fun t nt => ?_⟩
        have s7 := same_upd (o := .tup [oV a, oV b]) nt
        have ht7 : (upd H6 t (.tup [oV a, oV b])) t = some (.tup [oV a, oV b]) := upd_same
        have sb7 : ∀ b' o, b' ≠ dq → H5 b' = some o → (upd H6 t (.tup [oV a, oV b])) b' = some o := fun b' o n e => s7 _ _ (sb6 b' o n e)
        have sb37 : ∀ b' o, b' ≠ dq → H3 b' = some o → (upd H6 t (.tup [oV a, oV b])) b' = some o := fun b' o n e => s7 _ _ (sb36 b' o n e)
        have pd7 := pd6.sm s7
        generalize upd H6 t (.tup [oV a, oV b]) = H7 at ht7 sb7 sb37 pd7 ⊢
        have s07 := old sb37
        refine ⟨_, rfl, cq, ks, (a, b), t, rfl, pdcB sb37, rfl, ht7, _, rfl, ?_⟩
        rw [hv]
        cases hz : Dt a b with
        | none =>
          have st2 : ((spots ys1).take (j + 1)).foldl (stepK Dt a) acc = ac2 := by
            rw [stp]
            unfold stepK
            split
            · rfl
            · rw [hz]
          refine iteT ⟨_, rfl, _, rfl, _, rfl, .ref p, oV a, oV b, rfl, .inr ⟨R, syOf s07, .inr ⟨a, rfl, memN.mp ma, .inr ⟨b, rfl, memN.mp mb, .inr ⟨pot, fun H8 r s8 mo => ?_⟩⟩⟩⟩⟩
          have e : r = .non := by
            rcases mo with ⟨e, _⟩ | ⟨_, _, z', _, _, _, _, ⟨w', hw'⟩, _⟩
            · exact e
            · obtain ⟨y, e2, _⟩ := (le a ma).low b w' z' hw'
              rw [hz] at e2
              cases e2
          subst e
          exact ⟨rfl, _, rfl, iteF ⟨_, _, _, rfl, fun b' o n e => s8 _ _ (sb7 b' o n e), by rw [st2]; exact pd7.sm s8⟩⟩
        | some z =>
          obtain ⟨l, pr⟩ := pair_is hn l3 (by omega) sm pot (le a ma) ma hz
          refine iteF ⟨_, rfl, _, rfl, _, rfl, by show 2 ≤ sizeLine; decide, fun t2 nt2 => ?_⟩
          have s8 := same_upd (o := .tup [oV a, oV b]) nt2
          have s08 : Same H (upd H7 t2 (.tup [oV a, oV b])) := fun x y z => s8 _ _ (s07 _ _ z)
          refine ⟨cq, ks, (a, b), t2, .int z, rfl, (pdcB sb37).sm s8, rfl, upd_same, by rw [hv, hz]; rfl, ?_⟩
          refine ⟨_, rfl, _, rfl, _, rfl, _, rfl, _, rfl, p, R, a, b, z, l, rfl, rl.sm s08, l7, fun ys2 h2 => ?_, pr.fst, fun H9 lq hlq s9 => ⟨by show 2 ≤ sizeLine; decide, fun tt ntt => ?_⟩⟩
          · have e := AscOf.uniq h2 hn fun _ => Iff.rfl
            subst e
            exact ⟨l3, pr.len⟩
          have s10 := same_upd (o := .tup [.int z, .ref lq]) ntt
          have htt : (upd H9 tt (.tup [.int z, .ref lq])) tt = some (.tup [.int z, .ref lq]) := upd_same
          have hlq10 := s10 _ _ hlq
          have s710 : Same H7 (upd H9 tt (.tup [.int z, .ref lq])) := fun x y z => s10 _ _ (s9 _ _ (s8 _ _ z))
          generalize upd H9 tt (.tup [.int z, .ref lq]) = H10 at htt hlq10 s710 ⊢
          have s010 : Same H H10 := fun x y z => s710 _ _ (s07 _ _ z)
          -- most, twice
          refine ⟨_, rfl, _, rfl, _, rfl, .ref p, oV a, oV b, rfl, .inr ⟨R, syOf s010, .inr ⟨a, rfl, memN.mp ma, .inr ⟨b, rfl, memN.mp mb, .inr ⟨pot, fun H11 r1 s11 m1 => ?_⟩⟩⟩⟩⟩
          have s011 : Same H H11 := fun x y z => s11 _ _ (s010 _ _ z)
          obtain ⟨us, hp, pus⟩ := (few.sm s011).at_
          refine ⟨_, rfl, _, rfl, _, rfl, p, us, rfl, .inl ⟨SqL.of hp, fun tu ntu => ?_⟩⟩
          have s12 := same_upd (o := .tup us) ntu
          have htu : (upd H11 tu (.tup us)) tu = some (.tup us) := upd_same
          have s012 : Same H (upd H11 tu (.tup us)) := fun x y z => s12 _ _ (s011 _ _ z)
          have s1012 : Same H10 (upd H11 tu (.tup us)) := fun x y z => s12 _ _ (s11 _ _ z)
          have hp12 := s12 _ _ hp
          have m12 := m1.sm s12
          generalize upd H11 tu (.tup us) = H12 at htu s012 s1012 hp12 m12 ⊢
          refine ⟨rfl, .ref tu, oV a, oV b, rfl, .inr ⟨R, (few.sm s012).syT (dr.sm s012) hp12 htu, .inr ⟨a, rfl, memN.mp ma, .inr ⟨b, rfl, memN.mp mb, .inr ⟨pot, fun H13 r2 s13 m2 => ?_⟩⟩⟩⟩⟩
          have m13 := m12.sm s13
          refine ⟨by show 2 ≤ sizeLine; decide, fun l1 nl1 => ?_⟩
          have s14 := same_upd (o := .lst [r1, r2]) nl1
          have hl1 : (upd H13 l1 (.lst [r1, r2])) l1 = some (.lst [r1, r2]) := upd_same
          have m14 := m13.sm s14
          have m24 := m2.sm s14
          have s1014 : Same H10 (upd H13 l1 (.lst [r1, r2])) := fun x y z => s14 _ _ (s13 _ _ (s1012 _ _ z))
          generalize upd H13 l1 (.lst [r1, r2]) = H14 at hl1 m14 m24 s1014 ⊢
          obtain ⟨q1, rfl, g1⟩ := mo_data (P := P) (w := w) pr m14
          obtain ⟨q2, rfl, g2⟩ := mo_data (P := P) (w := w) pr m24
          refine ⟨l1, _, rfl, .lst hl1 (.cons g1 (.cons g2 .nil)), pr.sh l3, ?_⟩
          refine ⟨_, rfl, _, rfl, by show 2 ≤ sizeLine; decide, fun l2 nl2 => ?_⟩
          have s15 := same_upd (o := .lst [.ref tt, .ref tt]) nl2
          have gt : Gx P w (upd H14 l2 (.lst [.ref tt, .ref tt])) (.ref tt) (.tuple [.int z, encW l]) := .tup (s15 _ _ (s1014 _ _ htt)) (.cons (.int _) (.cons (gx_way (s15 _ _ (s1014 _ _ hlq10))) .nil))
          refine ⟨l2, _, rfl, .lst upd_same (.cons gt (.cons gt .nil)), pr.sh l3, rfl, _, rfl, no_ne ?_⟩
          have s715 : Same H7 (upd H14 l2 (.lst [.ref tt, .ref tt])) := fun x y z => s15 _ _ (s1014 _ _ (s710 _ _ z))
          have htt15 := s15 _ _ (s1014 _ _ htt)
          have hlq15 := s15 _ _ (s1014 _ _ hlq10)
          generalize upd H14 l2 (.lst [.ref tt, .ref tt]) = H15 at s715 htt15 hlq15 ⊢
          clear gt g1 g2 m14 m24 hl1
          have sb15 : ∀ b' o, b' ≠ dq → H5 b' = some o → H15 b' = some o := fun b' o n e => s715 _ _ (sb7 b' o n e)
          have s015 : Same H H15 := fun x y z => s715 _ _ (s07 _ _ z)
          refine ⟨_, rfl, _, rfl, oV_scal _ _, _, rfl, ?_⟩
          rw [oV_eq]
          by_cases ab : a = b
          · subst ab
            rw [decide_eq_true rfl]
            have ez : z = 0 := by
              have := G.dia a (spotz_mem.mpr ma)
              rw [hz] at this
              exact Option.some.inj this
            subst ez
            have el : l = [] := pr.fst.uniq (first_nil a)
            subst el
            have st2 : ((spots ys1).take (j + 1)).foldl (stepK Dt a) acc = ac2 := by
              rw [stp]
              exact if_pos rfl
            refine iteF ⟨_, rfl, Nat.zero_le _, fun zq nz => ⟨by show 2 ≤ sizeLine; decide, fun t3 nt3 => ?_⟩⟩
            have sC := same_upd (o := .lst []) nz
            have sD := same_upd (o := .tup [.int 0, .ref zq]) nt3
            refine ⟨.tuple [.int 0, .list []], .tuple [.int 0, .list []], .tup (SqT.of (sD _ _ (sC _ _ htt15))) (.cons (.int _) (.cons (.lst (SqL.of (sD _ _ (sC _ _ hlq15))) .nil) .nil)), .tup (SqT.of upd_same) (.cons (.int _) (.cons (.lst (SqL.of (sD _ _ upd_same)) .nil) .nil)), by decide +kernel, by decide +kernel, _, rfl, ?_⟩
            have e : PyData.eqv (.tuple [.int 0, .list []]) (.tuple [.int 0, .list []]) = true := by simp [PyData.eqv, PyData.eqvAll]
            rw [e]
            exact iteF ⟨_, _, _, rfl, fun b' o n e => sD _ _ (sC _ _ (sb15 b' o n e)), by rw [st2]; exact ((pd7.sm s715).sm sC).sm sD⟩
          · rw [decide_eq_false ab]
            have st2 : ((spots ys1).take (j + 1)).foldl (stepK Dt a) acc = putK ac2 (a, b) (.int z) := by
              rw [stp]
              unfold stepK
              rw [if_neg ab, hz]
            refine iteT ⟨_, rfl, _, rfl, _, rfl, _, rfl, by show 2 ≤ sizeLine; decide, fun t3 nt3 => ?_⟩
            have sC := same_upd (o := .tup [oV a, oV b]) nt3
            refine ⟨dq, ac2, (a, b), t3, rfl, (pd7.sm s715).sm sC, rfl, upd_same, small1000 (by omega), fun o pd16 _ => ?_⟩
            have sb16 : ∀ b' o', b' ≠ dq → H5 b' = some o' → (upd (upd H15 t3 (.tup [oV a, oV b])) dq o) b' = some o' := fun b' o' n e => by rw [upd_ne n]; exact sC _ _ (sb15 b' o' n e)
            generalize upd (upd H15 t3 (.tup [oV a, oV b])) dq o = H16 at pd16 sb16 ⊢
            have s016 : Same H H16 := old fun b' o' n e => sb16 b' o' n (sb5 b' o' n e)
            have rg : HasRing (R ++ [(b, a, 0 - (z + 1))]) := by
              refine ⟨l ++ [R.length], a, z + (0 - (z + 1)), (pr.way.more (S := [(b, a, 0 - (z + 1))])).snoc (by rw [List.getElem?_append_right (Nat.le_refl _), Nat.sub_self]; rfl), by omega⟩
            refine ⟨_, rfl, _, rfl, _, rfl, _, rfl, _, rfl, _, _, rfl, rfl, p, tq, R, ys1, a, b, z + 1, rfl, rl.sm s016, hn, s016 _ _ htq, ma, mb, ab, by omega, fun _ H17 s17 => ?_, fun ⟨p2, P2⟩ => ?_⟩
            · refine ⟨rfl, _, rfl, iteF ?_⟩
              have s017 : Same H H17 := fun x y z => s17 _ _ (s016 _ _ z)
              have hp2 : HasPot (R ++ [(b, a, 0 - z)]) := Wy.lift_pot G inZ cl.real Pp (spotz_mem.mpr mb) hz
              refine ⟨_, rfl, _, rfl, _, rfl, _, rfl, _, rfl, p, tq, R, ys1, a, b, z, rfl, rl.sm s017, hn, s017 _ _ htq, ma, mb, ab, by omega, fun ⟨w2, hw2⟩ => ?_, fun _ H18 q18 s18 => ?_⟩
              · obtain ⟨p2, P2⟩ := hp2
                exact absurd hw2 (P2.noRing w2)
              · exact ⟨rfl, _, rfl, iteF ⟨_, _, _, rfl, fun b' o' n e => s18 _ _ (s17 _ _ (sb16 b' o' n e)), by rw [st2]; exact (pd16.sm s17).sm s18⟩⟩
            · obtain ⟨w2, hw2⟩ := rg
              exact absurd hw2 (P2.noRing w2)
      · rintro σ H6 ⟨x6, x7, x8, rfl, sb6, pd6⟩
        rw [show ((spots ys1).map oV).length = (spots ys1).length from List.length_map .., List.take_length] at pd6
        have stp := foldl_one (rowK Dt (spots ys1)) [] ha
        rw [hacc] at stp
        refine ⟨_, _, _, _, rfl, fun b o n e => sb6 _ _ n (sb5 b o n e), ?_⟩
        rw [stp]
        exact pd6
    · rintro σ H4 ⟨x5, x6, x7, x8, rfl, sb4, pd4⟩
      rw [show ((spots ys1).map oV).length = (spots ys1).length from List.length_map .., List.take_length] at pd4
      have pd4 : PDat P w H4 dq (closedK (spots ys1) Dt) := pd4
      have s04 := old sb4
      have clS : ∀ ys2, NmsOf R ys2 → ∀ a ∈ spots ys2, Wy.Least R (spots ys2) a (Dt a) := fun ys2 h2 => by
        have e := AscOf.uniq h2 hn fun _ => Iff.rfl
        subst e
        exact le
      have allk : AllK (spots ys1) (closedK (spots ys1) Dt) := allK_closed small
      have inum : ∀ p ∈ closedK (spots ys1) Dt, ∃ z, p.2 = V.int z := fun p hp => let ⟨_, _, z, e, _⟩ := allk p hp; ⟨z, e⟩
      have okS : OkS (spots ys1) := fun o ho x e => (pool_ok x (by
        subst e
        rcases List.mem_cons.mp ho with z | z
        · cases z
        · obtain ⟨y, hy, e⟩ := List.mem_map.mp z
          cases e
          exact pl _ hy)).2.1
      have sl : ∀ o ∈ spots ys1, ∀ x, o = some x → x.length ≤ 20 := fun o ho x e => (pool_ok x (by
        subst e
        rcases List.mem_cons.mp ho with z | z
        · cases z
        · obtain ⟨y, hy, e⟩ := List.mem_map.mp z
          cases e
          exact pl _ hy)).2.2.2.2
      have l16 : (closedK (spots ys1) Dt).length ≤ 16 := by
        have h1 := closed_len (spots ys1) Dt
        have h2 : (spots ys1).length * (spots ys1).length ≤ 4 * 4 := Nat.mul_le_mul (by omega) (by omega)
        omega
      have shp := sh_pd okS sl (by omega) allk l16
      refine ⟨_, rfl, .ref p, rfl, .inr ⟨R, syOf s04, .inr ⟨Dt, pot, clS, fun H5 q1 ysA hnA pdA s5 _ => ?_⟩⟩⟩
      have eA := AscOf.uniq hnA hn fun _ => Iff.rfl
      subst eA
      have s05 : Same H H5 := fun x y z => s5 _ _ (s04 _ _ z)
      obtain ⟨us, hp, pus⟩ := (few.sm s05).at_
      refine ⟨_, rfl, p, us, rfl, .inl ⟨SqL.of hp, fun tu ntu => ?_⟩⟩
      have s6 := same_upd (o := .tup us) ntu
      have htu : (upd H5 tu (.tup us)) tu = some (.tup us) := upd_same
      have s06 : Same H (upd H5 tu (.tup us)) := fun x y z => s6 _ _ (s05 _ _ z)
      have hp6 := s6 _ _ hp
      have pdA6 := pdA.sm s6
      have s46 : Same H4 (upd H5 tu (.tup us)) := fun x y z => s6 _ _ (s5 _ _ z)
      generalize upd H5 tu (.tup us) = H6 at htu s06 hp6 pdA6 s46 ⊢
      refine ⟨rfl, .ref tu, rfl, .inr ⟨R, (few.sm s06).syT (dr.sm s06) hp6 htu, .inr ⟨Dt, pot, clS, fun H7 q2 ysB hnB pdB s7 _ => ?_⟩⟩⟩
      have eB := AscOf.uniq hnB hn fun _ => Iff.rfl
      subst eB
      refine ⟨by show 2 ≤ sizeLine; decide, fun l1 nl1 => ?_⟩
      have s8 := same_upd (o := .lst [.ref q1, .ref q2]) nl1
      have s48 : Same H4 (upd H7 l1 (.lst [.ref q1, .ref q2])) := fun x y z => s8 _ _ (s7 _ _ (s46 _ _ z))
      refine ⟨l1, _, rfl, .lst upd_same (.cons (.dic ((pdA6.sm s7).sm s8) inum) (.cons (.dic (pdB.sm s8) inum) .nil)), shp, ?_⟩
      refine ⟨_, rfl, _, rfl, by show 2 ≤ sizeLine; decide, fun l2 nl2 => ?_⟩
      have s9 := same_upd (o := .lst [.ref dq, .ref dq]) nl2
      have s49 : Same H4 (upd (upd H7 l1 (.lst [.ref q1, .ref q2])) l2 (.lst [.ref dq, .ref dq])) := fun x y z => s9 _ _ (s48 _ _ z)
      have gd : Gx P w (upd (upd H7 l1 (.lst [.ref q1, .ref q2])) l2 (.lst [.ref dq, .ref dq])) (.ref dq) (pdD (closedK (spots ysB) Dt)) := .dic (pd4.sm s49) inum
      refine ⟨l2, _, rfl, .lst upd_same (.cons gd (.cons gd .nil)), shp, rfl, _, rfl, no_ne ?_⟩
      generalize upd (upd H7 l1 (.lst [.ref q1, .ref q2])) l2 (.lst [.ref dq, .ref dq]) = H9 at s49 gd ⊢
      clear gd s9 s8
      have s09 : Same H H9 := fun x y z => s49 _ _ (s04 _ _ z)
      refine ⟨_, rfl, .ref p, rfl, .inr ⟨R, syOf s09, .inr ⟨Dt, pot, clS, fun H10 q3 ysC hnC pdC s10 nq3 => ?_⟩⟩⟩
      have eC := AscOf.uniq hnC hn fun _ => Iff.rfl
      subst eC
      refine ⟨q3, _, rfl, rfl, pdC, fun o _ _ => ?_⟩
      have s911 : Same H9 (upd H10 q3 o) := same_put s10 nq3
      generalize upd H10 q3 o = H11 at s911 ⊢
      have s011 : Same H H11 := fun x y z => s911 _ _ (s09 _ _ z)
      refine ⟨_, rfl, .ref p, rfl, .inr ⟨R, syOf s011, .inr ⟨Dt, pot, clS, fun H12 q4 ysD hnD pdDD s12 _ => ?_⟩⟩⟩
      have eD := AscOf.uniq hnD hn fun _ => Iff.rfl
      subst eD
      exact ⟨_, rfl, q4, dq, _, rfl, rfl, pdDD, ((pd4.sm s49).sm s911).sm s12, inum, q H12 fun x y z => s12 _ _ (s011 _ _ z)⟩
end
end Lm
/-! The law of k02: what it calls, its statements 0 to 5 (the first lemmas are made from OwnR, OwnH, L06x, L06y by mkn.py). -/
namespace Lm
open PySem PySem.Spec PyProof.Rows L2 LamX
def repS (z : Str) (k : Int) : Str := ⟨(List.replicate k.toNat z.cps).foldl (· ++ ·) #[]⟩
def rRepS : R2 := fun x y H Q => ∃ (z : Str) (k : Int), x = .str z ∧ y = .int k ∧ (1 < k ∧ k ≤ 1000) ∧ (z.length = 1 ∧ (repS z k).length ≤ sizeLine) ∧ Builtin.Str.tooLong (z.length * k.toNat) = false ∧ Q (.str (repS z k)) H
theorem op_repS {X : Cx} : OpR X (binaryOp .Mult) rRepS := by
  intro pins s σ H x y v u Q I rx ry h
  obtain ⟨z, k, rfl, rfl, ⟨k1, k2⟩, ⟨z1, z2⟩, hl, q⟩ := h
  obtain ⟨t, rfl⟩ := rx
  obtain ⟨t2, rfl⟩ := ry
  have e1 : ¬ k < -(2 ^ 63 : Int) := by omega
  have e2 : ¬ k ≥ 2 ^ 63 := by omega
  have e3 : (k == 1 || z.length == 0) = false := by
    rw [z1]
    have : (k == 1) = false := by simpa using (show k ≠ 1 by omega)
    rw [this]
    rfl
  refine PySem.P.mul_str (by rw [decide_eq_false e1, decide_eq_false e2]; rfl) (fun _ _ => ?_) (fun _ _ => hl) ?_
  · rw [z1]
    intro h
    have h3 : (1 : Int) * k ≤ 2 ^ 63 - 1 := by omega
    have : (1 : Int) ≤ (2 ^ 63 - 1) / k := Int.le_ediv_of_mul_le (by omega) h3
    have h : (2 ^ 63 - 1) / k < ((1 : Nat) : Int) := h
    omega
  · rw [if_neg (by omega), e3, if_neg (by decide)]
    exact ⟨z2, .str (repS z k), H, I.tok _, ⟨_, rfl⟩, q⟩
def Step (X : Cx) (st : Stmt) (I J : L2.St → Hp → Prop) : Prop := ∃ t, PS X st t ∧ ∀ D σ H, I σ H → (∀ σ' H', J σ' H' → D.nx σ' H') → t D σ H
def StepS (X : Cx) (st : List Stmt) (I J : L2.St → Hp → Prop) : Prop := ∃ t, PSs X st t ∧ ∀ D σ H, I σ H → (∀ σ' H', J σ' H' → D.nx σ' H') → t D σ H
theorem steps_nil {X : Cx} {I : L2.St → Hp → Prop} : StepS X [] I I := ⟨_, pss_nil, fun D σ H h q => q σ H h⟩
theorem steps_cons {X : Cx} {st : Stmt} {r : List Stmt} {I J L : L2.St → Hp → Prop} (h1 : Step X st I J) (h2 : StepS X r J L) : StepS X (st :: r) I L := by
  obtain ⟨t1, p1, q1⟩ := h1
  obtain ⟨t2, p2, q2⟩ := h2
  exact ⟨_, pss_cons p1 p2, fun D σ H h q => q1 _ σ H h fun σ' H' h' => q2 _ σ' H' h' q⟩
theorem steps_all {ι : Type} {X : Cx} {st : List Stmt} {I J : ι → L2.St → Hp → Prop} (h : ∀ i, StepS X st (I i) (J i)) :
    ∃ t, PSs X st t ∧ ∀ i D σ H, I i σ H → (∀ σ' H', J i σ' H' → D.nx σ' H') → t D σ H :=
  ⟨fun D σ H => ∃ i, Classical.choose (h i) D σ H, ⟨fun pins s σ H D I ⟨i, q⟩ => (Classical.choose_spec (h i)).1.run pins s σ H D I q⟩, fun i D σ H hI hN => ⟨i, (Classical.choose_spec (h i)).2 D σ H hI hN⟩⟩
def rIsY (K : PySem.W.Frag) (D : Addr) : List V → Hp → VK → Prop := fun xs H Q => ∃ (a dd : Addr) (fs : List (Str × V)) (c : V) (cv : Value) (b : Bool), xs = [.ref a, c] ∧ H a = some (ExI a (.ref D) (some dd)) ∧ H dd = some (.xd fs) ∧ (∀ u, RelV c u → u = cv) ∧ PySem.W.kitOne K (.ref D) cv = some b ∧ Q (.bl b) H
theorem call_isYK {X : Cx} (K : PySem.W.Frag) {D : Addr} (C : ExcC K D) (hK : X.K = K := by rfl) : CallR X (.builtin "isinstance") (rIsY K D) := by
  subst hK
  exact call_isY C
theorem pe_xatK {X : Cx} (K : PySem.W.Frag) {e : Expr} {te : TE} {pos : Pos} {f : Str} (he : PE X e te) (hK : X.K = K := by rfl) (hb : attributeBase e f X.env (eval e X.env) = eval e X.env := by rfl) : PE X (.Attribute e f pos) (tXat K f te) := by
  subst hK
  exact pe_xat he hb
abbrev sLaw : Stmt := topS 57
def nLaw : List Str := ["script", "state", "turn", "shown", "titles", "due", "several", "closest", "base", "told", "begin", "end", "odd", "rows", "error", "title"]
theorem scLaw : FnScope nLaw ["script"] (defScope sLaw) := ⟨rfl, rfl, rfl, by decide +kernel, rfl, by decide +kernel, by decide +kernel⟩
def forBody : Stmt → List Stmt
  | .For (body := b) .. => b
  | _ => []
def lawSt (i : Nat) : Stmt := (forBody ((defBody sLaw).getD 1 (.Pass ⟨0, 0, 0, 0⟩))).getD i (.Pass ⟨0, 0, 0, 0⟩)
def S (x : Nat → Option V) : L2.St := [x 0, x 1, x 2, x 3, x 4, x 5, x 6, x 7, x 8, x 9, x 10, x 11, x 12, x 13, x 14, x 15]
def sx (x : Nat → Option V) (i : Nat) (v : Option V) : Nat → Option V := fun j => if j = i then v else x j
structure Callees (P : Program) (w : World) (K : PySem.W.Frag) (mg : Str → Option Value) (base : Heap) (CS BS BN RG : Addr) : Prop where
  N : Bl mg
  c : CalP P w K mg base BS BN RG
  pr : HasG P w K mg base CX0 8 "_law_pairs_right" ["state", "rows", "titles"] spPR
  GB : Has P w K mg base CX0 1 "_law_begun" ["script"] (spBegun K)
  GP : Has P w K mg base CX0 3 "_law_pick" ["state", "several"] spPick
  fe : Has P w K mg base CX0 5 "_law_few" ["state"] spFe
  sd : Has P w K mg base CX0 1 "_law_sides" ["rows"] spSd
  hr : Has P w K mg base CX0 3 "_law_has_ring" ["rows"] spHr
  fr : Has P w K mg base CX0 2 "_law_first_ring" ["rows"] spFRl
  re : Has P w K mg base CX0 2 "_law_reached" ["rows", "titles", "point_here", "begin", "end", "number"] spRe
  pt : Has P w K mg base (L2.CX P w) 6 "is_point" ["system", "thing"] spPt
  caught : CaughtAt K mg
  lane : mg "LaneError" = some (.ref CS)
  bs : XCls K mg CS "BadSystem" BS
  bn : XCls K mg CS "BadName" BN
  rg : XCls K mg CS "Ringed" RG
  xf : XfC K RG
  no : PySem.W.findIn K (.ref RG) "ring" = some none
  dict : mg "dict" = none
abbrev XL (P : Program) (w : World) (K : PySem.W.Frag) (mg : Str → Option Value) (base : Heap) (f : Addr) (cdv : Value) (A : Around) (outer : List Env) (s : Shared) (H : Hp) (E : XK) : Cx := (cxOf C8.CX0 P w K mg base nLaw "law" (defScope sLaw) f cdv A outer s H E).nox
abbrev LX (P : Program) (w : World) (K : PySem.W.Frag) (mg : Str → Option Value) (base : Heap) (f : Addr) (cdv : Value) (A : Around) (outer : List Env) (s : Shared) (H : Hp) (E : XK) (i : Nat) (I J : L2.St → Hp → Prop) : Prop := Step (XL P w K mg base f cdv A outer s H E) (lawSt i) I J
abbrev RL (A : Around) (s : Shared) (f : Addr) (cdv : Value) : Prop := Room 30 (A.deeper (envOfC "law" (defScope sLaw) s.heap.objs.size f cdv))
def TOk (T : List (Addr × Str)) (Pt : Addr) : Prop := (Pt, (envOfC "law" (defScope sLaw) 0 0 .none).qual ++ "<lambda>") ∈ T ∧ ∀ p ∈ T, p.1 = Pt → p.2 = (envOfC "law" (defScope sLaw) 0 0 .none).qual ++ "<lambda>"
/-- the state, the rows -/
structure RI (T : List (Addr × Str)) (D : DrA) (n : Nat) (p : Addr) (R : Rws) (ts : List Str) (x : Nat → Option V) (H : Hp) : Prop where
  x1 : x 1 = some (.ref D.d)
  x13 : x 13 = some (.ref p)
  few : Few D H p R ts
  dr : DrawAt D n H
  tb : Tabs T H
/-- and the titles -/
structure KI (T : List (Addr × Str)) (D : DrA) (n : Nat) (p tq : Addr) (R : Rws) (ts ys : List Str) (x : Nat → Option V) (H : Hp) : Prop where
  r : RI T D n p R ts x H
  x3 : x 3 = some (.str (PyData.list (R.map rwD)).shown)
  x4 : x 4 = some (.ref tq)
  ht : H tq = some (.lst (ys.map V.str))
  td : tq ≠ D.d
  tw : tq ≠ D.w
  nm : NmsOf R ys
/-- and the two sides -/
structure BI (T : List (Addr × Str)) (D : DrA) (n : Nat) (p tq : Addr) (R : Rws) (ts ys : List Str) (b e : Spot) (x : Nat → Option V) (H : Hp) : Prop where
  k : KI T D n p tq R ts ys x H
  x10 : x 10 = some (oV b)
  x11 : x 11 = some (oV e)
  mb : b ∈ spots ys
  me : e ∈ spots ys
section
variable {T : List (Addr × Str)} {D : DrA} {n : Nat} {p tq : Addr} {R : Rws} {ts ys : List Str} {b e : Spot} {x : Nat → Option V} {H H' : Hp}
theorem RI.set (h : RI T D n p R ts x H) (i : Nat) (v : Option V) (hi : i ≠ 1 ∧ i ≠ 13 := by decide) : RI T D n p R ts (sx x i v) H := ⟨(if_neg hi.1.symm).trans h.x1, (if_neg hi.2.symm).trans h.x13, h.few, h.dr, h.tb⟩
theorem RI.frT {n' : Nat} (h : RI T D n p R ts x H) (f : FrT D H H') (d : DrawAt D n' H') (t : Tabs T H') : RI T D n' p R ts x H' := ⟨h.x1, h.x13, h.few.frT h.dr f, d, t⟩
theorem KI.set (h : KI T D n p tq R ts ys x H) (i : Nat) (v : Option V) (hi : i ≠ 1 ∧ i ≠ 13 ∧ i ≠ 3 ∧ i ≠ 4 := by decide) : KI T D n p tq R ts ys (sx x i v) H := ⟨h.r.set i v ⟨hi.1, hi.2.1⟩, (if_neg hi.2.2.1.symm).trans h.x3, (if_neg hi.2.2.2.symm).trans h.x4, h.ht, h.td, h.tw, h.nm⟩
theorem KI.frT {n' : Nat} (h : KI T D n p tq R ts ys x H) (f : FrT D H H') (d : DrawAt D n' H') (t : Tabs T H') : KI T D n' p tq R ts ys x H' := ⟨h.r.frT f d t, h.x3, h.x4, f _ _ h.ht h.td h.tw (fun _ z => by cases z), h.td, h.tw, h.nm⟩
theorem BI.set (h : BI T D n p tq R ts ys b e x H) (i : Nat) (v : Option V) (hi : (i ≠ 1 ∧ i ≠ 13 ∧ i ≠ 3 ∧ i ≠ 4) ∧ i ≠ 10 ∧ i ≠ 11 := by decide) : BI T D n p tq R ts ys b e (sx x i v) H := ⟨h.k.set i v hi.1, (if_neg hi.2.1.symm).trans h.x10, (if_neg hi.2.2.symm).trans h.x11, h.mb, h.me⟩
theorem BI.frT {n' : Nat} (h : BI T D n p tq R ts ys b e x H) (f : FrT D H H') (d : DrawAt D n' H') (t : Tabs T H') : BI T D n' p tq R ts ys b e x H' := ⟨h.k.frT f d t, h.x10, h.x11, h.mb, h.me⟩
theorem BI.fr {n' : Nat} (h : BI T D n p tq R ts ys b e x H) (f : Fr D H H') (d : DrawAt D n' H') : BI T D n' p tq R ts ys b e x H' := h.frT f.t d (Tabs.fr h.k.r.tb h.k.r.dr f)
theorem BI.sm (h : BI T D n p tq R ts ys b e x H) (s : Same H H') : BI T D n p tq R ts ys b e x H' := h.fr (.of s) (h.k.r.dr.sm s)
theorem BI.ext (h : BI T D n p tq R ts ys b e x H) (g : ExtN H H') (t : Tabs T H') : BI T D n p tq R ts ys b e x H' := h.frT (extN_frT g) (h.k.r.dr.ext g) t
theorem BI.sy (h : BI T D n p tq R ts ys b e x H) : Sy H (.ref p) R := h.k.r.few.sy h.k.r.dr
/-- what is neither None nor a name -/
def Od (D : DrA) (H : Hp) (v : V) : Prop := (∃ y : Str, v = .str y ∧ y ∉ pool) ∨ ∃ d, Da D H v d ∧ isStr d = false ∧ v ≠ .non
theorem Od.frT (h : Od D H v) (f : FrT D H H') : Od D H' v := h.imp id fun ⟨d, a, r⟩ => ⟨d, a.fr f, r⟩
theorem Od.no {v : V} (h : Od D H v) (few : Few D H p R ts) : NoSp H v R := by
  rcases h with ⟨y, rfl, hy⟩ | ⟨d, a, h1, h2⟩
  · exact .inl ⟨y, rfl, fun z => hy (few.tt.ok (few.sides _ z) y rfl)⟩
  · exact .inr ⟨D, d, a, h1, h2⟩
end
theorem rows_sh {R : Rws} {ts : List Str} (ok : Rok ts R) (tt : Tts ts) (l : R.length ≤ 7) : Sh (2 ^ 20) 60 (.list (R.map rwD)) := by
  have one : ∀ d ∈ R.map rwD, Sz 200 1 d := fun d hd => by
    obtain ⟨⟨a, b, c⟩, hr, rfl⟩ := List.mem_map.mp hd
    obtain ⟨h1, h2⟩ := ok.inn a b c hr
    have h3 := ok.small a b c hr
    have sd : ∀ o ∈ spots ts, Sz 20 0 (oD o) := fun o ho => by
      cases o with
      | none => exact sz_non.mono (by decide) (Nat.le_refl _)
      | some x =>
        have := pool_ok x (tt.ok ho x rfl)
        exact sz_str this.2.1 this.2.2.2.2 (by decide)
    have h4 : Sz 40 0 (.int c) := sz_int (by
      have e : (10 : Nat) ^ 12 = 1000000000000 := by decide
      omega)
    exact (sz_tup (szA_cons (sd a h1) (szA_cons (sd b h2) (szA_cons h4 (szA_nil (m := 0)))))).mono (by decide) (Nat.le_refl _)
  have := sz_lst (szA_all one)
  rw [List.length_map] at this
  exact this.to (by
    have e : (2 : Nat) ^ 20 = 1048576 := by decide
    omega) (by decide)
theorem gx_rows {P : Program} {w : World} {D : DrA} {H : Hp} {p : Addr} {R : Rws} {ts : List Str} (h : Few D H p R ts) : Gx P w H (.ref p) (.list (R.map rwD)) := by
  obtain ⟨us, h1, h2⟩ := h.at_
  refine .lst h1 ?_
  clear h1
  have sp : ∀ o : Spot, Gx P w H (oV o) (oD o) := fun o => by
    cases o with
    | none => exact .non
    | some x => exact .str x
  clear h
  induction h2 with
  | nil => exact .nil
  | cons f _ ih =>
    obtain ⟨q, rfl, hq⟩ := f
    exact .cons (.tup hq (.cons (sp _) (.cons (sp _) (.cons (.int _) .nil)))) ih
section
variable {P : Program} {w : World} {K : PySem.W.Frag} {mg : Str → Option Value} {base : Heap} {CS BS BN RG f c Pt : Addr} {A : Around} {outer : List Env} {s : Shared} {H0 : Hp} {E : XK} {cdv : Value} {T : List (Addr × Str)} {D : DrA} {n : Nat}
def J0 (T : List (Addr × Str)) (D : DrA) (n : Nat) : L2.St → Hp → Prop := fun σ H => ∃ x, σ = S x ∧ x 1 = some (.ref D.d) ∧ DrawAt D n H ∧ Tabs T H
def J1 (T : List (Addr × Str)) (D : DrA) (n : Nat) : L2.St → Hp → Prop := fun σ H => ∃ x p R ts, σ = S x ∧ RI T D n p R ts x H
def J2 (T : List (Addr × Str)) (D : DrA) (n : Nat) : L2.St → Hp → Prop := fun σ H => ∃ x p tq R ts ys, σ = S x ∧ KI T D n p tq R ts ys x H
def J3 (T : List (Addr × Str)) (D : DrA) (n : Nat) : L2.St → Hp → Prop := fun σ H => ∃ x p tq R ts ys b e, σ = S x ∧ BI T D n p tq R ts ys b e x H
def J4 (T : List (Addr × Str)) (D : DrA) (n : Nat) : L2.St → Hp → Prop := fun σ H => ∃ x p tq R ts ys b e v, σ = S x ∧ BI T D n p tq R ts ys b e x H ∧ x 12 = some v ∧ Od D H v
theorem st0 (C : Callees P w K mg base CS BS BN RG) (hr : RL A s f cdv) (hn : n + 60 ≤ B) : LX P w K mg base f cdv A outer s H0 E 0 (J0 T D n) (J1 T D (n + 60)) := by
  refine ⟨_, ps_set (i := 13) scLaw.nd rfl (.inr rfl) (pe_h C.fe hr (by decide) (by rfl) (E := C8.E0) pass0 (pa_cons (pv 1) pa_nil)), ?_⟩
  rintro Dn σ H ⟨x, rfl, h1, dr, tb⟩ hN
  exact ⟨_, congrArg some h1, D, n, rfl, dr, hn, fun H1 p R ts few _ dr1 f1 => hN _ _ ⟨sx x 13 (some (.ref p)), p, R, ts, rfl, h1, rfl, few, dr1, Tabs.fr tb dr f1⟩⟩
theorem st1 (C : Callees P w K mg base CS BS BN RG) (hr : RL A s f cdv) (hg : A.guards = some []) : LX P w K mg base f cdv A outer s H0 E 1 (J1 T D n) (J2 T D n) := by
  have hgg : (A.deeper (envOfC "law" (defScope sLaw) s.heap.objs.size f cdv)).guards = some [] := hg
  refine ⟨_, ps_par (i := 3) (j := 4) rfl scLaw.nd rfl rfl (by decide) rfl rfl (pa_cons (pe_callB (cr_reprX P w hgg hr.units C.c.mods) (by rfl) C.N.brep (by decide +kernel) (pa_cons (pv 13) pa_nil)) (pa_cons (pe_h C.sd hr (by decide) (by rfl) (E := C8.E0) pass0 (pa_cons (pv 13) pa_nil)) pa_nil)) rfl, ?_⟩
  rintro Dn σ H ⟨x, p, R, ts, rfl, I⟩ hN
  refine ⟨_, congrArg some I.x13, p, _, rfl, gx_rows I.few, rows_sh I.few.ok I.few.tt I.few.len, ?_⟩
  refine ⟨_, congrArg some I.x13, p, R, rfl, I.few.rls, fun H1 tq ys hn nq ht s1 => ⟨_, _, rfl, ?_⟩⟩
  have off := I.dr.off nq
  have I1 := I.frT (Fr.t (.of s1)) (I.dr.sm s1) (Tabs.fr I.tb I.dr (.of s1))
  exact hN _ _ ⟨sx (sx x 3 (some (.str (PyData.list (R.map rwD)).shown))) 4 (some (.ref tq)), p, tq, R, ts, ys, rfl, (I1.set 3 _).set 4 _, rfl, rfl, ht, off.1, off.2, hn⟩
theorem cat_sides {tq : Addr} {ys : List Str} {H : Hp} {Q : VK} (ht : H tq = some (.lst (ys.map V.str))) (l : ys.length ≤ 1000) {t : Addr} (h1 : H t = some (.lst [.non])) (q : ∀ sd, H sd = none → Q (.ref sd) (upd H sd (.lst ((spotz ys).map oV)))) : rCat (.ref tq) (.ref t) H Q := by
  refine ⟨tq, t, _, _, rfl, rfl, ht, h1, small10000 (by rw [List.length_map]; show ys.length + 1 ≤ 10000; omega), fun sd nsd => ?_⟩
  have e : (spotz ys).map oV = ys.map V.str ++ [.non] := by
    unfold spotz
    rw [List.map_append, List.map_map]
    rfl
  have := q sd nsd
  rw [e] at this
  exact this
theorem st2 (C : Callees P w K mg base CS BS BN RG) (hr : RL A s f cdv) (hn : n + 2 ≤ B) : LX P w K mg base f cdv A outer s H0 E 2 (J2 T D n) (J3 T D (n + 2)) := by
  refine ⟨_, ps_asg (pe_tup (pa_cons (pe_h C.GP hr (by decide) (by rfl) (E := C8.E0) pass0 (pa_cons (pv 1) (pa_cons (pe_op op_cat (pv 4) (pe_lst (pa_cons pe_non pa_nil))) pa_nil))) (pa_cons (pe_h C.GP hr (by decide) (by rfl) (E := C8.E0) pass0 (pa_cons (pv 1) (pa_cons (pe_op op_cat (pv 4) (pe_lst (pa_cons pe_non pa_nil))) pa_nil))) pa_nil)))
    (pg_tup rfl (pgs_cons (pg_name (i := 10) scLaw.nd rfl (.inr rfl)) (pgs_cons (pg_name (i := 11) scLaw.nd rfl (.inr rfl)) pgs_nil))), ?_⟩
  rintro Dn σ H ⟨x, p, tq, R, ts, ys, rfl, I⟩ hN
  have lys := (I.r.few.names I.nm).1
  have e4 : (spotz ys).length = ys.length + 1 := spotz_len ys
  have step : ∀ {n : Nat} {H : Hp}, KI T D n p tq R ts ys x H → ∀ {t sd : Addr}, H t = none → (upd H t (.lst [.non])) sd = none → KI T D n p tq R ts ys x (upd (upd H t (.lst [.non])) sd (.lst ((spotz ys).map oV))) ∧ sd ≠ D.w := fun {n H} I {t sd} nt nsd => by
    have s1 := same_upd (o := .lst [.non]) nt
    have s2 := same_upd (o := .lst ((spotz ys).map oV)) nsd
    have s02 : Same H (upd (upd H t (.lst [.non])) sd (.lst ((spotz ys).map oV))) := fun x y z => s2 _ _ (s1 _ _ z)
    exact ⟨I.frT (Fr.t (.of s02)) (I.r.dr.sm s02) (Tabs.fr I.r.tb I.r.dr (.of s02)), (I.r.dr.off (none_of s1 nsd)).2⟩
  refine ⟨_, congrArg some I.r.x1, _, congrArg some I.x4, by show 1 ≤ sizeLine; decide, fun t nt => cat_sides (same_upd nt _ _ I.ht) (by omega) upd_same fun sd nsd => ?_⟩
  obtain ⟨I1, w1⟩ := step I nt nsd
  have h1 : (upd (upd H t (.lst [.non])) sd (.lst ((spotz ys).map oV))) sd = some (.lst ((spotz ys).map oV)) := upd_same
  refine ⟨D, n, sd, _, rfl, I1.r.dr, by omega, h1, w1, fun z => ?_, by rw [List.length_map]; omega, fun H2 i v hv d2 f2 => ?_⟩
  · have := congrArg List.length z
    rw [List.length_map, e4] at this
    cases this
  obtain ⟨b, hb, rfl⟩ := spot_map hv
  have mb := spotz_mem.mp (List.mem_of_getElem? hb)
  have I2 : KI T D (n + 1) p tq R ts ys x H2 := I1.frT f2.t d2 (Tabs.fr I1.r.tb I1.r.dr f2)
  refine ⟨_, congrArg some I2.r.x1, _, congrArg some I2.x4, by show 1 ≤ sizeLine; decide, fun t nt => cat_sides (same_upd nt _ _ I2.ht) (by omega) upd_same fun sd nsd => ?_⟩
  obtain ⟨I3, w3⟩ := step I2 nt nsd
  have h3 : (upd (upd H2 t (.lst [.non])) sd (.lst ((spotz ys).map oV))) sd = some (.lst ((spotz ys).map oV)) := upd_same
  refine ⟨D, n + 1, sd, _, rfl, I3.r.dr, by omega, h3, w3, fun z => ?_, by rw [List.length_map]; omega, fun H4 i v hv d4 f4 => ?_⟩
  · have := congrArg List.length z
    rw [List.length_map, e4] at this
    cases this
  obtain ⟨e, he, rfl⟩ := spot_map hv
  have me := spotz_mem.mp (List.mem_of_getElem? he)
  have I4 : KI T D (n + 2) p tq R ts ys x H4 := I3.frT f4.t d4 (Tabs.fr I3.r.tb I3.r.dr f4)
  refine ⟨by show 2 ≤ sizeLine; decide, fun t5 n5 => ?_⟩
  have s5 := same_upd (o := .tup [oV b, oV e]) n5
  refine ⟨t5, _, rfl, SqT.of upd_same, rfl, _, _, rfl, _, _, rfl, rfl, ?_⟩
  exact hN _ _ ⟨sx (sx x 10 (some (oV b))) 11 (some (oV e)), p, tq, R, ts, ys, b, e, rfl, ((I4.frT (Fr.t (.of s5)) (d4.sm s5) (Tabs.fr I4.r.tb d4 (.of s5))).set 10 _).set 11 _, rfl, rfl, mb, me⟩
theorem st3 (C : Callees P w K mg base CS BS BN RG) (hr : RL A s f cdv) (hn : n + 1 ≤ B) : LX P w K mg base f cdv A outer s H0 E 3 (J3 T D n) (J4 T D (n + 1)) := by
  refine ⟨_, ps_set (i := 12) scLaw.nd rfl (.inr rfl) (pe_h C.GP hr (by decide) (by rfl) (E := C8.E0) pass0 (pa_cons (pv 1) (pa_cons (pe_lst (pa_cons pe_str (pa_cons pe_str (pa_cons pe_int (pa_cons pe_bl (pa_cons (pe_tup (pa_cons pe_str pa_nil)) (pa_cons (pe_lst pa_nil) (pa_cons (pe_op op_repS pe_str pe_int) pa_nil)))))))) pa_nil))), ?_⟩
  rintro Dn σ H ⟨x, p, tq, R, ts, ys, b, e, rfl, I⟩ hN
  refine ⟨_, congrArg some I.k.r.x1, by show 1 ≤ sizeLine; decide, fun t nt => ⟨Nat.zero_le _, fun l nl => ?_⟩⟩
  have s1 := same_upd (o := .tup [.str "a"]) nt
  have I1 := I.sm s1
  have ht : (upd H t (.tup [.str "a"])) t = some (.tup [.str "a"]) := upd_same
  have o1 := I.k.r.dr.off nt
  generalize upd H t (.tup [.str "a"]) = H1 at s1 I1 ht nl ⊢
  have s2 := same_upd (o := .lst []) nl
  have I2 := I1.sm s2
  have hl : (upd H1 l (.lst [])) l = some (.lst ([] : List V)) := upd_same
  have o2 := I1.k.r.dr.off nl
  have ht2 := s2 _ _ ht
  generalize upd H1 l (.lst []) = H2 at s2 I2 hl ht2 ⊢
  refine ⟨_, _, rfl, rfl, ⟨by decide, by decide⟩, ⟨rfl, by decide +kernel⟩, by decide +kernel, by show 7 ≤ sizeLine; decide, fun q nq => ?_⟩
  have s3 := same_upd (o := .lst [.str "other", .str "", .int 0, .bl true, .ref t, .ref l, .str (repS "y" 21)]) nq
  have I3 := I2.sm s3
  have o3 := I2.k.r.dr.off nq
  refine ⟨D, n, q, _, rfl, I3.k.r.dr, by omega, upd_same, o3.2, (fun z => nomatch z), by show 7 < _; decide, fun H4 i v hv d4 f4 => ?_⟩
  have I4 := I3.fr f4 d4
  have ht4 := f4 _ _ (s3 _ _ ht2) o1.1 o1.2
  have hl4 := f4 _ _ (s3 _ _ hl) o2.1 o2.2
  have od : Od D H4 v := by
    match i, hv with
    | 0, hv => cases hv; exact .inl ⟨_, rfl, by decide +kernel⟩
    | 1, hv => cases hv; exact .inl ⟨_, rfl, by decide +kernel⟩
    | 2, hv => cases hv; exact .inr ⟨.int 0, .int 0, rfl, fun z => by cases z⟩
    | 3, hv => cases hv; exact .inr ⟨.bool true, .bl true, rfl, fun z => by cases z⟩
    | 4, hv => cases hv; exact .inr ⟨.tuple [.str "a"], .tup ht4 o1.1 o1.2 (.cons (.str _) .nil), rfl, fun z => by cases z⟩
    | 5, hv => cases hv; exact .inr ⟨.list [], .lst hl4 o2.1 o2.2 .nil, rfl, fun z => by cases z⟩
    | 6, hv => cases hv; exact .inl ⟨_, rfl, by decide +kernel⟩
    | j + 7, hv => simp at hv
  exact hN _ _ ⟨sx x 12 (some v), p, tq, R, ts, ys, b, e, v, rfl, I4.set 12 _, rfl, od⟩
theorem st4 (C : Callees P w K mg base CS BS BN RG) (hr : RL A s f (.ref c)) (TB : LamX.TabB base mg c Pt) (hT : TOk T Pt) : LX P w K mg base f (.ref c) A outer s H0 E 4 (J4 T D n) (J4 T D n) := by
  refine ⟨_, ps_if (pt_not (pt_val (pe_callB (call_isXK K C.bn.ex) (by rfl) C.N.bisi (by decide +kernel) (pa_cons (pe_caught (T := T) C.caught C.lane TB rfl (by exact hT.1) (by exact hT.2) (hr.mono (by decide : 22 ≤ 30)) (by rfl) (show LamS (defScope sLaw) _ from lamS_by (by decide +kernel)) rfl (fun _ _ _ _ _ => rfl)
      (fun A outer s H E f c' hr => pe_h C.c.mo hr (by decide) (by rfl) passLam (pa_cons (pv 13) (pa_cons (pv 12) (pa_cons (pv 12) pa_nil))))) (pa_cons (pe_glob (v := V.ref BN) (by rfl) C.bn.at_ rfl) pa_nil))))) (pss_one (ps_ret pe_bl)) pss_nil, ?_⟩
  rintro Dn σ H ⟨x, p, tq, R, ts, ys, b, e, v, rfl, I, h12, od⟩ hN
  refine ⟨I.k.r.tb, fun H1 e1 T1 => ?_⟩
  have I1 := I.ext e1 T1
  have od1 := od.frT (extN_frT e1)
  refine ⟨_, congrArg some I.k.r.x13, _, congrArg some h12, _, congrArg some h12, .ref p, v, v, rfl, .inr ⟨R, I1.sy, .inl ⟨od1.no I1.k.r.few, fun H2 s2 => ⟨C.bn.exm, fun a na => ?_⟩⟩⟩⟩
  have s3 := same_upd (o := ExI a (.ref BN) none) na
  have I3 := (I1.sm s2).sm s3
  exact ⟨a, .ref BN, .ref BN, true, rfl, upd_same, fun _ r => r, C.bn.kit, true, rfl, iteF (hN _ _ ⟨x, p, tq, R, ts, ys, b, e, v, rfl, I3, h12, (od1.frT (Fr.t (.of s2))).frT (Fr.t (.of s3))⟩)⟩
theorem st5 (C : Callees P w K mg base CS BS BN RG) (hr : RL A s f (.ref c)) (TB : LamX.TabB base mg c Pt) (hT : TOk T Pt) : LX P w K mg base f (.ref c) A outer s H0 E 5 (J4 T D n) (J3 T D n) := by
  refine ⟨_, ps_if (pt_not (pt_val (pe_callB (call_isXK K C.bn.ex) (by rfl) C.N.bisi (by decide +kernel) (pa_cons (pe_caught (T := T) C.caught C.lane TB rfl (by exact hT.1) (by exact hT.2) (hr.mono (by decide : 22 ≤ 30)) (by rfl) (show LamS (defScope sLaw) _ from lamS_by (by decide +kernel)) rfl (fun _ _ _ _ _ => rfl)
      (fun A outer s H E f c' hr => pe_h C.c.mo hr (by decide) (by rfl) passLam (pa_cons (pv 13) (pa_cons (pv 10) (pa_cons (pv 12) pa_nil))))) (pa_cons (pe_glob (v := V.ref BN) (by rfl) C.bn.at_ rfl) pa_nil))))) (pss_one (ps_ret pe_bl)) pss_nil, ?_⟩
  rintro Dn σ H ⟨x, p, tq, R, ts, ys, b, e, v, rfl, I, h12, od⟩ hN
  refine ⟨I.k.r.tb, fun H1 e1 T1 => ?_⟩
  have I1 := I.ext e1 T1
  have od1 := od.frT (extN_frT e1)
  refine ⟨_, congrArg some I.k.r.x13, _, congrArg some I.x10, _, congrArg some h12, .ref p, oV b, v, rfl, .inr ⟨R, I1.sy, .inr ⟨b, rfl, (spots_mem I.k.nm).mp I.mb, .inl ⟨od1.no I1.k.r.few, fun H2 s2 => ⟨C.bn.exm, fun a na => ?_⟩⟩⟩⟩⟩
  have s3 := same_upd (o := ExI a (.ref BN) none) na
  have I3 := (I1.sm s2).sm s3
  exact ⟨a, .ref BN, .ref BN, true, rfl, upd_same, fun _ r => r, C.bn.kit, true, rfl, iteF (hN _ _ ⟨x, p, tq, R, ts, ys, b, e, rfl, I3⟩)⟩
end
end Lm
/-! The law of k02: the ringed rows. -/
namespace Lm
open PySem PySem.Spec PyProof.Rows L2 LamX
theorem nat_min {p : Nat → Prop} : ∀ (n : Nat), p n → ∃ k, p k ∧ ∀ j, j < k → ¬ p j := fun n => by
  induction n using Nat.strongRecOn with
  | ind n ih =>
    intro h
    by_cases c : ∃ j, j < n ∧ p j
    · obtain ⟨j, lj, pj⟩ := c
      exact ih j lj pj
    · exact ⟨n, h, fun j lj pj => c ⟨j, lj, pj⟩⟩
theorem lex_min : ∀ (L : Nat) (P : List Nat → Prop), (∃ l, P l ∧ l.length = L) → ∃ l, P l ∧ l.length = L ∧ ∀ l', P l' → l'.length = L → ¬ Wy.lx l' l
  | 0, P, ⟨l, h, e⟩ => by
    have : l = [] := List.length_eq_zero_iff.mp e
    subst this
    refine ⟨[], h, rfl, fun l' _ e' k => ?_⟩
    have : l' = [] := List.length_eq_zero_iff.mp e'
    subst this
    exact Wy.lx_irr _ k
  | L + 1, P, ⟨l, h, e⟩ => by
    cases l with
    | nil => cases e
    | cons k0 t0 =>
      obtain ⟨k, ⟨t, ht, lt⟩, mn⟩ := nat_min (p := fun k => ∃ t, P (k :: t) ∧ t.length = L) k0 ⟨t0, h, Nat.succ.inj e⟩
      obtain ⟨t', h1, h2, h3⟩ := lex_min L (fun t => P (k :: t)) ⟨t, ht, lt⟩
      refine ⟨k :: t', h1, by rw [List.length_cons, h2], fun l' hl e' q => ?_⟩
      cases l' with
      | nil => cases e'
      | cons k2 t2 =>
        have q2 : k2 < k ∨ k2 = k ∧ Wy.lx t2 t' := q
        rcases q2 with q2 | ⟨e2, q2⟩
        · exact mn k2 q2 ⟨t2, hl, Nat.succ.inj e'⟩
        · subst e2
          exact h3 t2 hl (Nat.succ.inj e') q2
theorem first_ex {R : Rws} (h : HasRing R) : ∃ l, Wy.FirstRing R l := by
  obtain ⟨w, hw⟩ := h
  obtain ⟨L, ⟨l0, h0, e0⟩, mn⟩ := nat_min (p := fun L => ∃ l, Wy.Ring R l ∧ l.length = L) w.length ⟨w, hw, rfl⟩
  obtain ⟨l, h1, h2, h3⟩ := lex_min L (Wy.Ring R) ⟨l0, h0, e0⟩
  refine ⟨l, h1, fun v hv q => ?_⟩
  rcases q with q | ⟨q1, q2⟩
  · exact mn _ (by omega) ⟨v, hv, rfl⟩
  · exact h3 v hv (q1.trans h2) q2
/-- what is raised for a ring, held -/
def RgV (RG : Addr) (l : List Nat) (H : Hp) (e : V) : Prop := ∃ a dx q, e = .ref a ∧ H a = some (ExI a (.ref RG) (some dx)) ∧ H dx = some (.xd [("ring", .ref q)]) ∧ H q = some (.lst (natL l))
theorem RgV.ext {RG : Addr} {l : List Nat} {H H' : Hp} {e : V} (h : RgV RG l H e) (s : ExtN H H') : RgV RG l H' e := by
  obtain ⟨a, dx, q, rfl, h1, h2, h3⟩ := h
  exact ⟨a, dx, q, rfl, s _ _ h1 (fun _ z => by unfold ExI at z; cases z), s _ _ h2 (fun _ z => by cases z), s _ _ h3 (fun _ z => by cases z)⟩
theorem RgV.sm {RG : Addr} {l : List Nat} {H H' : Hp} {e : V} (h : RgV RG l H e) (s : Same H H') : RgV RG l H' e := h.ext fun b o e _ => s _ _ e
theorem sh_way {R : Rws} {l : List Nat} (h : ∀ k ∈ l, k < 1000) (ll : l.length ≤ 8) : Sh (2 ^ 20) 60 (encW l) := (sz_way h).to (by
  have e : (2 : Nat) ^ 20 = 1048576 := by decide
  omega) (by decide)
def thenBody : Stmt → List Stmt
  | .If (body := b) .. => b
  | _ => []
def elseBody : Stmt → List Stmt
  | .If (orelse := b) .. => b
  | _ => []
def SameBut (t : Addr) (H H' : Hp) : Prop := ∀ b o, b ≠ t → H b = some o → H' b = some o
theorem Tabs.but {T : List (Addr × Str)} {H H' : Hp} {t : Addr} {o : HO} (tb : Tabs T H) (ht : H t = some o) (h1 : ∀ ps, o ≠ .tbl ps) (h2 : ∀ c q, o ≠ CodeO c q) (s : SameBut t H H') : Tabs T H' := by
  intro p hp
  obtain ⟨ps, e1, e2, e3⟩ := tb p hp
  refine ⟨ps, s _ _ (ne_of' e1 ht (fun z => h1 _ z.symm)) e1, e2, fun pos cv hc => ?_⟩
  obtain ⟨c, a, b⟩ := e3 pos cv hc
  exact ⟨c, a, s _ _ (ne_of' b ht (fun z => h2 _ _ z.symm)) b⟩
theorem BI.put {T : List (Addr × Str)} {D : DrA} {n : Nat} {p tq sv : Addr} {R : Rws} {ts ys : List Str} {b e : Spot} {x : Nat → Option V} {H : Hp} {es es' : List V} (h : BI T D n p tq R ts ys b e x H) (hs : H sv = some (.lst es)) (n1 : sv ≠ p) (n2 : sv ≠ tq) (n3 : sv ≠ D.d) (n4 : sv ≠ D.w) (n5 : sv ≠ D.c) : BI T D n p tq R ts ys b e x (upd H sv (.lst es')) := by
  have sb : SameBut sv H (upd H sv (.lst es')) := fun b o ne e => by rw [upd_ne ne]; exact e
  obtain ⟨ws, cs, r, t, k1, k2, k3, k4⟩ := h.k.r.dr
  obtain ⟨us, hp, pu⟩ := h.k.r.few.at_
  exact ⟨⟨⟨h.k.r.x1, h.k.r.x13, ⟨⟨us, sb _ _ n1.symm hp, paired_imp pu fun x r _ k => k.at2 fun q ys e => sb _ _ (fun z => by rw [z, hs] at e; cases e) e⟩, h.k.r.few.offd, h.k.r.few.offw, h.k.r.few.len, h.k.r.few.ok, h.k.r.few.tt⟩, ⟨ws, cs, r, t, sb _ _ n3.symm k1, sb _ _ n4.symm k2, sb _ _ n5.symm k3, k4⟩,
    Tabs.but h.k.r.tb hs (fun _ z => by cases z) (fun _ _ z => by unfold CodeO at z; cases z) sb⟩, h.k.x3, h.k.x4, sb _ _ n2.symm h.k.ht, h.k.td, h.k.tw, h.k.nm⟩, h.x10, h.x11, h.mb, h.me⟩
section
variable {P : Program} {w : World} {K : PySem.W.Frag} {mg : Str → Option Value} {base : Heap} {CS BS BN RG f c Pt : Addr} {A : Around} {outer : List Env} {s : Shared} {H0 : Hp} {E : XK} {cdv : Value} {T : List (Addr × Str)} {D : DrA} {n : Nat}
def JR (T : List (Addr × Str)) (D : DrA) (n : Nat) : L2.St → Hp → Prop := fun σ H => ∃ x p tq R ts ys b e, σ = S x ∧ BI T D n p tq R ts ys b e x H ∧ HasRing R
def JR1 (T : List (Addr × Str)) (D : DrA) (n : Nat) : L2.St → Hp → Prop := fun σ H => ∃ x p tq R ts ys b e l, σ = S x ∧ BI T D n p tq R ts ys b e x H ∧ Wy.FirstRing R l ∧ x 5 = some (.str (encW l).shown)
def JR2 (RG : Addr) (T : List (Addr × Str)) (D : DrA) (n : Nat) : L2.St → Hp → Prop := fun σ H => ∃ x p tq R ts ys b e l sv e1, σ = S x ∧ BI T D n p tq R ts ys b e x H ∧ Wy.FirstRing R l ∧ x 5 = some (.str (encW l).shown) ∧ x 6 = some (.ref sv) ∧ H sv = some (.lst [e1]) ∧ RgV RG l H e1 ∧ sv ≠ p ∧ sv ≠ tq ∧ sv ≠ D.d ∧ sv ≠ D.w ∧ sv ≠ D.c
def JR3 (RG : Addr) (T : List (Addr × Str)) (D : DrA) (n : Nat) : L2.St → Hp → Prop := fun σ H => ∃ x p tq R ts ys b e l sv e1 e2, σ = S x ∧ BI T D n p tq R ts ys b e x H ∧ Wy.FirstRing R l ∧ x 5 = some (.str (encW l).shown) ∧ x 6 = some (.ref sv) ∧ H sv = some (.lst [e1, e2]) ∧ RgV RG l H e1 ∧ RgV RG l H e2
theorem ring_facts {R : Rws} {ts ys : List Str} {p : Addr} {H : Hp} {l : List Nat} (few : Few D H p R ts) (hn : NmsOf R ys) (fr : Wy.FirstRing R l) : (∀ k ∈ l, k < 1000) ∧ l.length ≤ 8 := by
  obtain ⟨a, z, hw, _⟩ := fr.1
  have h1 := first_short hn fr
  have h2 := (few.names hn).1
  have h3 := few.len
  exact ⟨fun k hk => by have := way_lt hw k hk; omega, by omega⟩
theorem str0 (C : Callees P w K mg base CS BS BN RG) (hr : RL A s f cdv) (hg : A.guards = some []) : Step (XL P w K mg base f cdv A outer s H0 E) ((thenBody (lawSt 6)).getD 0 (.Pass ⟨0, 0, 0, 0⟩)) (JR T D n) (JR1 T D n) := by
  have hgg : (A.deeper (envOfC "law" (defScope sLaw) s.heap.objs.size f cdv)).guards = some [] := hg
  refine ⟨_, ps_set (i := 5) scLaw.nd rfl (.inr rfl) (pe_callB (cr_reprX P w hgg hr.units C.c.mods) (by rfl) C.N.brep (by decide +kernel) (pa_cons (pe_h C.fr hr (by decide) (by rfl) (E := C8.E0) pass0 (pa_cons (pv 13) pa_nil)) pa_nil)), ?_⟩
  rintro Dn σ H ⟨x, p, tq, R, ts, ys, b, e, rfl, I, ring⟩ hN
  obtain ⟨l, fr⟩ := first_ex ring
  obtain ⟨k1, k2⟩ := ring_facts I.k.r.few I.k.nm fr
  refine ⟨_, congrArg some I.k.r.x13, p, R, l, rfl, I.k.r.few.rls, I.k.r.few.len, fun ys2 h2 => (I.k.r.few.names h2).1, fr, fun H1 q hq s1 => ?_⟩
  exact ⟨q, _, rfl, gx_way hq, sh_way (R := R) k1 k2, hN _ _ ⟨sx x 5 (some (.str (encW l).shown)), p, tq, R, ts, ys, b, e, l, rfl, (I.sm s1).set 5 _, fr, rfl⟩⟩
theorem str1 (C : Callees P w K mg base CS BS BN RG) (hr : RL A s f (.ref c)) (TB : LamX.TabB base mg c Pt) (hT : TOk T Pt) : Step (XL P w K mg base f (.ref c) A outer s H0 E) ((thenBody (lawSt 6)).getD 1 (.Pass ⟨0, 0, 0, 0⟩)) (JR1 T D n) (JR2 RG T D n) := by
  refine ⟨_, ps_set (i := 6) scLaw.nd rfl (.inl rfl) (pe_lst (pa_cons (pe_caught (T := T) C.caught C.lane TB rfl (by exact hT.1) (by exact hT.2) (hr.mono (by decide : 22 ≤ 30)) (by rfl) (show LamS (defScope sLaw) _ from lamS_by (by decide +kernel)) rfl (fun _ _ _ _ _ => rfl)
      (fun A outer s H E f c' hr => pe_h C.c.mo hr (by decide) (by rfl) passLam (pa_cons (pv 13) (pa_cons (pv 10) (pa_cons (pv 11) pa_nil))))) pa_nil)), ?_⟩
  rintro Dn σ H ⟨x, p, tq, R, ts, ys, b, e, l, rfl, I, fr, h5⟩ hN
  refine ⟨I.k.r.tb, fun H1 e1 T1 => ?_⟩
  have I1 := I.ext e1 T1
  refine ⟨_, congrArg some I.k.r.x13, _, congrArg some I.x10, _, congrArg some I.x11, .ref p, oV b, oV e, rfl, .inr ⟨R, I1.sy, .inr ⟨b, rfl, (spots_mem I.k.nm).mp I.mb, .inr ⟨e, rfl, (spots_mem I.k.nm).mp I.me, .inl ⟨⟨l, fr.1⟩, fun H2 q dx l2 hf hq _ _ s2 ndx => ⟨C.rg.exm, fun a na => ⟨by show 1 ≤ sizeLine; decide, fun sv nsv => ?_⟩⟩⟩⟩⟩⟩⟩
  have el := hf.uniq fr
  subst el
  have s3 := same_upd (o := .xd [("ring", .ref q)]) ndx
  have hdx : (upd H2 dx (.xd [("ring", .ref q)])) dx = some (.xd [("ring", .ref q)]) := upd_same
  have hq3 := s3 _ _ hq
  have I3 := (I1.sm s2).sm s3
  generalize upd H2 dx (.xd [("ring", .ref q)]) = H3 at s3 hdx hq3 I3 na nsv ⊢
  have s4 := same_upd (o := ExI a (.ref RG) (some dx)) na
  have rv : RgV RG l2 (upd H3 a (ExI a (.ref RG) (some dx))) (.ref a) := ⟨a, dx, q, rfl, upd_same, s4 _ _ hdx, s4 _ _ hq3⟩
  have I4 := I3.sm s4
  generalize upd H3 a (ExI a (.ref RG) (some dx)) = H4 at rv I4 nsv ⊢
  have s5 := same_upd (o := .lst [.ref a]) nsv
  have I5 := I4.sm s5
  obtain ⟨us, hp, _⟩ := I4.k.r.few.at_
  have oc : sv ≠ D.c := fun z => by
    obtain ⟨_, _, _, _, _, _, k3, _⟩ := I4.k.r.dr
    rw [z, k3] at nsv
    cases nsv
  exact hN _ _ ⟨sx x 6 (some (.ref sv)), p, tq, R, ts, ys, b, e, l2, sv, .ref a, rfl, I5.set 6 _, fr, h5, rfl, upd_same, rv.sm s5, (ne_of_none hp nsv).symm, (ne_of_none I4.k.ht nsv).symm, (I4.k.r.dr.off nsv).1, (I4.k.r.dr.off nsv).2, oc⟩
theorem str2 (C : Callees P w K mg base CS BS BN RG) (hr : RL A s f (.ref c)) (TB : LamX.TabB base mg c Pt) (hT : TOk T Pt) : Step (XL P w K mg base f (.ref c) A outer s H0 E) ((thenBody (lawSt 6)).getD 2 (.Pass ⟨0, 0, 0, 0⟩)) (JR2 RG T D n) (JR3 RG T D n) := by
  refine ⟨_, ps_expr (pe_bm PySem.F.plainAttrs_list PySem.F.slot_list_append PySem.F.type_list_append mt_append (pv 6) (pa_cons (pe_caught (T := T) C.caught C.lane TB rfl (by exact hT.1) (by exact hT.2) (hr.mono (by decide : 22 ≤ 30)) (by rfl) (show LamS (defScope sLaw) _ from lamS_by (by decide +kernel)) rfl (fun _ _ _ _ _ => rfl)
      (fun A outer s H E f c' hr => pe_h C.c.cl hr (by decide) (by rfl) passLam (pa_cons (pv 13) pa_nil))) pa_nil)), ?_⟩
  rintro Dn σ H ⟨x, p, tq, R, ts, ys, b, e, l, sv, e1, rfl, I, fr, h5, h6, hsv, rv, n1, n2, n3, n4, n5⟩ hN
  refine ⟨_, congrArg some h6, .inl ⟨rfl, _, SqL.of hsv⟩, I.k.r.tb, fun H1 g1 T1 => ?_⟩
  have I1 := I.ext g1 T1
  have rv1 := rv.ext g1
  have hsv1 := g1 _ _ hsv (fun _ z => by cases z)
  refine ⟨_, congrArg some I.k.r.x13, .ref p, rfl, .inr ⟨R, I1.sy, .inl ⟨⟨l, fr.1⟩, fun H2 q dx l2 hf hq _ _ s2 ndx => ⟨C.rg.exm, fun a na => ?_⟩⟩⟩⟩
  have el := hf.uniq fr
  subst el
  have s3 := same_upd (o := .xd [("ring", .ref q)]) ndx
  have hdx : (upd H2 dx (.xd [("ring", .ref q)])) dx = some (.xd [("ring", .ref q)]) := upd_same
  have hq3 := s3 _ _ hq
  have I3 := (I1.sm s2).sm s3
  have rv3 := (rv1.sm s2).sm s3
  have hsv3 := s3 _ _ (s2 _ _ hsv1)
  generalize upd H2 dx (.xd [("ring", .ref q)]) = H3 at s3 hdx hq3 I3 na rv3 hsv3 ⊢
  have s4 := same_upd (o := ExI a (.ref RG) (some dx)) na
  have r2 : RgV RG l2 (upd H3 a (ExI a (.ref RG) (some dx))) (.ref a) := ⟨a, dx, q, rfl, upd_same, s4 _ _ hdx, s4 _ _ hq3⟩
  have I4 := I3.sm s4
  have rv4 := rv3.sm s4
  have hsv4 := s4 _ _ hsv3
  generalize upd H3 a (ExI a (.ref RG) (some dx)) = H4 at r2 I4 rv4 hsv4 ⊢
  refine ⟨sv, _, _, rfl, rfl, hsv4, by show 1 < sizeLine; decide, ?_⟩
  have keep : ∀ {v : V}, RgV RG l2 H4 v → RgV RG l2 (upd H4 sv (.lst ([e1] ++ [.ref a]))) v := fun {v} h => by
    obtain ⟨a', dx', q', rfl, k1, k2, k3⟩ := h
    have n1 : a' ≠ sv := fun z => by rw [z, hsv4] at k1; unfold ExI at k1; cases k1
    have n2 : dx' ≠ sv := fun z => by rw [z, hsv4] at k2; cases k2
    have n3 : q' ≠ sv := fun z => by
      obtain ⟨a1, _, _, rfl, _⟩ := rv4
      rw [z, hsv4] at k3
      injection k3 with k3
      injection k3 with k3
      cases l2 with
      | nil => cases k3
      | cons k r =>
        have k3 : [V.ref a1] = V.int ((k : Nat) : Int) :: natL r := k3
        injection k3 with k3
        cases k3
    exact ⟨a', dx', q', rfl, by rw [upd_ne n1]; exact k1, by rw [upd_ne n2]; exact k2, by rw [upd_ne n3]; exact k3⟩
  exact hN _ _ ⟨x, p, tq, R, ts, ys, b, e, l2, sv, e1, .ref a, rfl, I4.put hsv4 n1 n2 n3 n4 n5, fr, h5, h6, upd_same, keep rv4, keep r2⟩
theorem str3 (C : Callees P w K mg base CS BS BN RG) (hr : RL A s f cdv) (hg : A.guards = some []) : Step (XL P w K mg base f cdv A outer s H0 E) ((thenBody (lawSt 6)).getD 3 (.Pass ⟨0, 0, 0, 0⟩)) (JR3 RG T D n) (J3 T D n) := by
  have hgg : (A.deeper (envOfC "law" (defScope sLaw) s.heap.objs.size f cdv)).guards = some [] := hg
  refine ⟨_, ps_if (pt_cmpR (show OpR _ _ (rNeD K) from op_neD hr.units) (pe_lc (own := [("error", 14)]) (g := gName 14) rfl scLaw.nd (pi_listK K (pv 6)) (blkOk_by (own := [("error", 14)]) (N := nLaw) (sc := defScope sLaw) (by decide +kernel)) (fun _ _ _ _ _ => pg_name (i := 14) scLaw.nd rfl (Or.inl rfl))
      (fun _ _ _ _ _ => pts_one (pw_or (pt_not (pt_val (pe_callB (call_isYK K C.rg.ex) (by rfl) C.N.bisi (by decide +kernel) (pa_cons (pv 14) (pa_cons (pe_glob (v := V.ref RG) (by rfl) C.rg.at_ rfl) pa_nil)))))
        (pw_or1 (pt_cmpR op_ne (pe_callB (cr_reprX P w hgg hr.units C.c.mods) (by rfl) C.N.brep (by decide +kernel) (pa_cons (pe_xatK K (pv 14)) pa_nil)) (pv 5) (nomark _)))).pt) (fun _ _ _ _ _ => pe_int)) (pe_lst pa_nil) (nomark _)) (pss_one (ps_ret pe_bl)) pss_nil, ?_⟩
  rintro Dn σ H ⟨x, p, tq, R, ts, ys, b, e, l, sv, e1, e2, rfl, I, fr, h5, h6, hsv, r1, r2⟩ hN
  obtain ⟨k1, k2⟩ := ring_facts I.k.r.few I.k.nm fr
  refine ⟨_, congrArg some h6, sv, rfl, ⟨_, SqL.of hsv⟩, fun L nL => lc_list (K := K) (a := sv) (xs := [e1, e2]) (fun i H' => Same H H' ∧ H' L = some (.lst [])) ⟨same_upd nL, upd_same⟩ (fun i H' _ h => SqL.of (h.1 _ _ hsv)) ?_ ?_⟩
  · rintro i y H' hy ⟨s1, hL⟩
    have ry : RgV RG l H y := by
      match i, hy with
      | 0, hy => cases hy; exact r1
      | 1, hy => cases hy; exact r2
      | j + 2, hy => simp at hy
    obtain ⟨a, dx, q, rfl, ha, hx, hq⟩ := ry.sm s1
    refine ⟨rfl, _, rfl, a, dx, _, .ref RG, .ref RG, true, rfl, ha, hx, fun _ r => r, C.rg.kit, true, rfl, iteF ?_⟩
    refine ⟨_, rfl, a, RG, dx, _, .ref q, rfl, C.xf, C.no, ha, hx, rfl, q, _, rfl, gx_way hq, sh_way (R := R) k1 k2, _, congrArg some h5, rfl, _, rfl, no_ne ⟨s1, hL⟩⟩
  · rintro H1 ⟨s1, hL⟩
    refine ⟨Nat.zero_le _, fun Z nZ => ?_⟩
    have s2 := same_upd (o := .lst []) nZ
    refine ne_nil_r (SqL.of (s2 _ _ hL)) .nil (by decide) (by decide) upd_same ⟨_, rfl, iteF (hN _ _ ⟨x, p, tq, R, ts, ys, b, e, rfl, (I.sm s1).sm s2⟩)⟩
end
end Lm
/-! The law of k02: rows without a ring; statement 6. -/
namespace Lm
open PySem PySem.Spec PyProof.Rows L2 LamX
section
variable {P : Program} {w : World} {K : PySem.W.Frag} {mg : Str → Option Value} {base : Heap} {CS BS BN RG f c Pt : Addr} {A : Around} {outer : List Env} {s : Shared} {H0 : Hp} {E : XK} {cdv : Value} {T : List (Addr × Str)} {D : DrA} {n : Nat}
def JE (T : List (Addr × Str)) (D : DrA) (n : Nat) : L2.St → Hp → Prop := fun σ H => ∃ x p tq R ts ys b e, σ = S x ∧ BI T D n p tq R ts ys b e x H ∧ HasPot R
/-- what stands once the table is there -/
structure EI (P : Program) (w : World) (T : List (Addr × Str)) (D : DrA) (n : Nat) (p tq cq : Addr) (R : Rws) (ts ys : List Str) (b e : Spot) (Dt : Wy.Tb Spot) (x : Nat → Option V) (H : Hp) : Prop where
  i : BI T D n p tq R ts ys b e x H
  pot : HasPot R
  x7 : x 7 = some (.ref cq)
  dt : DAt P w H cq Dt
  cl : ClIs R (spotz ys) Dt
  good : Wy.Good R (spotz ys) (spotz ys) Dt
theorem EI.sm {T : List (Addr × Str)} {D : DrA} {n : Nat} {p tq cq : Addr} {R : Rws} {ts ys : List Str} {b e : Spot} {Dt : Wy.Tb Spot} {x : Nat → Option V} {H H' : Hp} (h : EI P w T D n p tq cq R ts ys b e Dt x H) (s : Same H H') : EI P w T D n p tq cq R ts ys b e Dt x H' := ⟨h.i.sm s, h.pot, h.x7, h.dt.sm s, h.cl, h.good⟩
theorem EI.set {T : List (Addr × Str)} {D : DrA} {n : Nat} {p tq cq : Addr} {R : Rws} {ts ys : List Str} {b e : Spot} {Dt : Wy.Tb Spot} {x : Nat → Option V} {H : Hp} (h : EI P w T D n p tq cq R ts ys b e Dt x H) (i : Nat) (v : Option V) (hi : ((i ≠ 1 ∧ i ≠ 13 ∧ i ≠ 3 ∧ i ≠ 4) ∧ i ≠ 10 ∧ i ≠ 11) ∧ i ≠ 7 := by decide) : EI P w T D n p tq cq R ts ys b e Dt (sx x i v) H := ⟨h.i.set i v hi.1, h.pot, (if_neg hi.2.symm).trans h.x7, h.dt, h.cl, h.good⟩
def hasN (Dt : Wy.Tb Spot) (y : Str) : Bool := (Dt none (some y)).isSome
def fN (Dt : Wy.Tb Spot) (y : Str) : Int := 0 - (Dt none (some y)).getD 0
def JE1 (P : Program) (w : World) (T : List (Addr × Str)) (D : DrA) (n : Nat) : L2.St → Hp → Prop := fun σ H => ∃ x p tq cq R ts ys b e Dt, σ = S x ∧ EI P w T D n p tq cq R ts ys b e Dt x H
def JE2 (P : Program) (w : World) (T : List (Addr × Str)) (D : DrA) (n : Nat) : L2.St → Hp → Prop := fun σ H => ∃ x p tq cq R ts ys b e Dt bq, σ = S x ∧ EI P w T D n p tq cq R ts ys b e Dt x H ∧ x 8 = some (.ref bq) ∧ PtL H bq (ys.filter (hasN Dt)) (fN Dt)
def JE3 (P : Program) (w : World) (T : List (Addr × Str)) (D : DrA) (n : Nat) : L2.St → Hp → Prop := fun σ H => ∃ x p tq cq R ts ys b e Dt bq r, σ = S x ∧ EI P w T D n p tq cq R ts ys b e Dt x H ∧ x 8 = some (.ref bq) ∧ PtL H bq (ys.filter (hasN Dt)) (fN Dt) ∧ x 9 = some r ∧ MoIs R b e H r
theorem ste0 (C : Callees P w K mg base CS BS BN RG) (hr : RL A s f cdv) (hg : A.guards = some []) : Step (XL P w K mg base f cdv A outer s H0 E) ((elseBody (lawSt 6)).getD 0 (.Pass ⟨0, 0, 0, 0⟩)) (JE T D n) (JE T D n) := by
  have hgg : (A.deeper (envOfC "law" (defScope sLaw) s.heap.objs.size f cdv)).guards = some [] := hg
  refine ⟨_, ps_if (pt_not (pt_val (pe_hG C.pr hgg hr (by decide) (by rfl) (E := C8.E0) pass0 (pa_cons (pv 1) (pa_cons (pv 13) (pa_cons (pv 4) pa_nil)))))) (pss_one (ps_ret pe_bl)) pss_nil, ?_⟩
  rintro Dn σ H ⟨x, p, tq, R, ts, ys, b, e, rfl, I, pot⟩ hN
  exact ⟨_, congrArg some I.k.r.x1, _, congrArg some I.k.r.x13, _, congrArg some I.k.x4, D, n, p, tq, R, ts, ys, rfl, I.k.r.dr, I.k.r.few, I.k.nm, I.k.ht, pot, fun H1 s1 => ⟨_, rfl, iteF (hN _ _ ⟨x, p, tq, R, ts, ys, b, e, rfl, I.sm s1, pot⟩)⟩⟩
theorem ste1 (C : Callees P w K mg base CS BS BN RG) (hr : RL A s f cdv) : Step (XL P w K mg base f cdv A outer s H0 E) ((elseBody (lawSt 6)).getD 1 (.Pass ⟨0, 0, 0, 0⟩)) (JE T D n) (JE1 P w T D n) := by
  refine ⟨_, ps_set (i := 7) scLaw.nd rfl (.inr rfl) (pe_h C.c.ct hr (by decide) (by rfl) (E := C8.E0) pass0 (pa_cons (pv 13) pa_nil)), ?_⟩
  rintro Dn σ H ⟨x, p, tq, R, ts, ys, b, e, rfl, I, pot⟩ hN
  refine ⟨_, congrArg some I.k.r.x13, p, R, rfl, I.k.r.few.rls, fun H1 cq ys1 Dt hn1 cl dt _ s1 => ?_⟩
  have e1 := AscOf.uniq hn1 I.k.nm fun _ => Iff.rfl
  subst e1
  have inZ : ∀ a b c, (a, b, c) ∈ R → a ∈ spotz ys1 ∧ b ∈ spotz ys1 := fun a b c h => let ⟨x, y⟩ := hn1.mem a b c h; ⟨spotz_mem.mpr x, spotz_mem.mpr y⟩
  have G : Wy.Good R (spotz ys1) (spotz ys1) Dt := by
    obtain ⟨pp, Pp⟩ := id pot
    rcases cl.pot inZ with ⟨⟨w0, hw0⟩, _⟩ | ⟨_, G⟩
    · exact absurd hw0 (Pp.noRing w0)
    · exact G
  exact hN _ _ ⟨sx x 7 (some (.ref cq)), p, tq, cq, R, ts, ys1, b, e, Dt, rfl, (I.sm s1).set 7 _, pot, rfl, dt, cl, G⟩
theorem ste2 (C : Callees P w K mg base CS BS BN RG) (hr : RL A s f cdv) : Step (XL P w K mg base f cdv A outer s H0 E) ((elseBody (lawSt 6)).getD 2 (.Pass ⟨0, 0, 0, 0⟩)) (JE1 P w T D n) (JE2 P w T D n) := by
  have hu := hr.units
  refine ⟨_, ps_set (i := 8) scLaw.nd rfl (.inl rfl) (pe_callTy (call_dictP rfl) (by rfl) C.dict (by decide +kernel) (pa_cons (pe_lc (own := [("title", 15)]) (g := gName 15) rfl scLaw.nd (pi_listK K (pv 4)) (blkOk_by (own := [("title", 15)]) (N := nLaw) (sc := defScope sLaw) (by decide +kernel)) (fun _ _ _ _ _ => pg_name (i := 15) scLaw.nd rfl (Or.inl rfl))
      (fun _ _ _ _ _ => pts_one (pt_cmp (pc_dinXP P w hu (pe_tup (pa_cons pe_non (pa_cons (pv 15) pa_nil))) (pv 7)))) (fun _ _ _ _ _ => pe_tup (pa_cons (pv 15) (pa_cons (pe_op op_sub pe_int (pe_dgetXP P w hu (pv 7) (pe_tup (pa_cons pe_non (pa_cons (pv 15) pa_nil))) (fun _ _ => rfl))) pa_nil)))) pa_nil)), ?_⟩
  rintro Dn σ H ⟨x, p, tq, cq, R, ts, ys, b, e, Dt, rfl, I⟩ hN
  have lys := (I.i.k.r.few.names I.i.k.nm).1
  obtain ⟨ks, pd, hv⟩ := I.dt
  have ht := I.i.k.ht
  refine ⟨_, congrArg some I.i.k.x4, tq, rfl, ⟨_, SqL.of ht⟩, fun L nL => lc_list (K := K) (a := tq) (xs := ys.map V.str) (fun j H' => Same H H' ∧ ∃ ps : List Addr, H' L = some (.lst (ps.map V.ref)) ∧ Paired (fun p kv => H' p = some (.tup [kV kv.1, kv.2])) ps (ptK ((ys.take j).filter (hasN Dt)) (fN Dt))) ⟨same_upd nL, [], upd_same, .nil⟩ (fun j H' _ z => SqL.of (z.1 _ _ ht)) ?_ ?_⟩
  · rintro j xv H3 hj ⟨s3, ps, hL, pp⟩
    obtain ⟨y, hy, rfl⟩ := str_map hj
    have lj : j < ys.length := (List.getElem?_eq_some_iff.mp hy).1
    have stp := filter_one (f := hasN Dt) hy
    refine ⟨rfl, _, rfl, by show 2 ≤ sizeLine; decide, fun t nt => ?_⟩
    have s4 := same_upd (o := .tup [.non, .str y]) nt
    have h4 : (upd H3 t (.tup [.non, .str y])) t = some (.tup [oV none, oV (some y)]) := upd_same
    have hL4 := s4 _ _ hL
    have pp4 := paired_imp pp fun a kv _ h => s4 a _ h
    have s04 : Same H (upd H3 t (.tup [.non, .str y])) := fun x y z => s4 _ _ (s3 _ _ z)
    generalize upd H3 t (.tup [.non, .str y]) = H4 at h4 hL4 pp4 s04 ⊢
    refine ⟨_, congrArg some I.x7, cq, ks, (none, some y), t, rfl, pd.sm s04, rfl, h4, _, rfl, ?_⟩
    rw [hv]
    have hk : hasN Dt y = (Dt none (some y)).isSome := rfl
    cases hz : Dt none (some y) with
    | none =>
      rw [hk, hz] at stp
      refine iteF ⟨s04, ps, hL4, ?_⟩
      rw [stp]
      show Paired _ ps (ptK (_ ++ []) _)
      rw [List.append_nil]
      exact pp4
    | some z =>
      rw [hk, hz] at stp
      refine iteT ⟨_, rfl, _, congrArg some I.x7, _, rfl, by show 2 ≤ sizeLine; decide, fun t2 nt2 => ?_⟩
      have s5 := same_upd (o := .tup [.non, .str y]) nt2
      have s05 : Same H (upd H4 t2 (.tup [.non, .str y])) := fun x y z => s5 _ _ (s04 _ _ z)
      refine ⟨cq, ks, (none, some y), t2, .int z, rfl, pd.sm s05, rfl, upd_same, by rw [hv, hz]; rfl, _, _, rfl, rfl, by show 2 ≤ sizeLine; decide, fun t3 nt3 => ?_⟩
      have s6 := same_upd (o := .tup [.str y, .int (0 - z)]) nt3
      have h6 : (upd (upd H4 t2 (.tup [.non, .str y])) t3 (.tup [.str y, .int (0 - z)])) t3 = some (.tup [.str y, .int (0 - z)]) := upd_same
      have s06 : Same H (upd (upd H4 t2 (.tup [.non, .str y])) t3 (.tup [.str y, .int (0 - z)])) := fun x y z => s6 _ _ (s05 _ _ z)
      have s46 : Same H4 (upd (upd H4 t2 (.tup [.non, .str y])) t3 (.tup [.str y, .int (0 - z)])) := fun x y z => s6 _ _ (s5 _ _ z)
      have hL6 := s46 _ _ hL4
      have pp6 := paired_imp pp4 fun a kv _ h => s46 a _ h
      generalize upd (upd H4 t2 (.tup [.non, .str y])) t3 (.tup [.str y, .int (0 - z)]) = H6 at h6 s06 hL6 pp6 ⊢
      have nt : ∀ {q : Addr} {l : List V}, H6 q = some (.tup l) → q ≠ L := fun h z => by rw [z, hL6] at h; cases h
      have lps := paired_len pp
      refine ⟨_, hL6, ?_, same_put s06 nL, ps ++ [t3], by rw [upd_same, List.map_append]; rfl, ?_⟩
      · unfold ptK at lps
        rw [List.length_map] at lps
        have h1 : ((ys.take j).filter (hasN Dt)).length ≤ (ys.take j).length := List.length_filter_le _ _
        rw [List.length_take] at h1
        rw [List.length_map]
        exact small1000 (by omega)
      · rw [stp]
        have e1 : fN Dt y = 0 - z := by
          unfold fN
          rw [hz]
          rfl
        show Paired _ _ (ptK (_ ++ [y]) _)
        unfold ptK
        rw [List.map_append]
        refine paired_app (paired_imp pp6 fun a kv _ h => (upd_ne (nt h)).trans h) (.cons ?_ .nil)
        show _ = some (HO.tup [.str y, .int (fN Dt y)])
        rw [e1]
        exact (upd_ne (nt h6)).trans h6
  · rintro H3 ⟨s3, ps, hL, pp⟩
    rw [show (ys.map V.str).length = ys.length from List.length_map .., List.take_length] at pp
    refine ⟨L, ps, _, rfl, SqL.of hL, paired_imp pp fun a kv _ h => SqT.of h, fun bq nbq => ?_⟩
    have em : mergeK [] (ptK (ys.filter (hasN Dt)) (fN Dt)) = ptK (ys.filter (hasN Dt)) (fN Dt) := merge_pt (fN Dt) (ys.filter (hasN Dt)) [] (I.i.k.nm.2.1.filter _)
    rw [em]
    have s4 := same_upd (o := .dK (ptK (ys.filter (hasN Dt)) (fN Dt))) nbq
    exact hN _ _ ⟨sx x 8 (some (.ref bq)), p, tq, cq, R, ts, ys, b, e, Dt, bq, rfl, (I.sm fun x y z => s4 _ _ (s3 _ _ z)).set 8 _, rfl, upd_same⟩
theorem ste3 (C : Callees P w K mg base CS BS BN RG) (hr : RL A s f cdv) : Step (XL P w K mg base f cdv A outer s H0 E) ((elseBody (lawSt 6)).getD 3 (.Pass ⟨0, 0, 0, 0⟩)) (JE2 P w T D n) (JE3 P w T D n) := by
  refine ⟨_, ps_set (i := 9) scLaw.nd rfl (.inl rfl) (pe_h C.c.mo hr (by decide) (by rfl) passL (pa_cons (pv 13) (pa_cons (pv 10) (pa_cons (pv 11) pa_nil)))), ?_⟩
  rintro Dn σ H ⟨x, p, tq, cq, R, ts, ys, b, e, Dt, bq, rfl, I, h8, hb⟩ hN
  refine ⟨_, congrArg some I.i.k.r.x13, _, congrArg some I.i.x10, _, congrArg some I.i.x11, .ref p, oV b, oV e, rfl, .inr ⟨R, I.i.sy, .inr ⟨b, rfl, (spots_mem I.i.k.nm).mp I.i.mb, .inr ⟨e, rfl, (spots_mem I.i.k.nm).mp I.i.me, .inr ⟨I.pot, fun H1 r s1 mo => ?_⟩⟩⟩⟩⟩
  exact hN _ _ ⟨sx x 9 (some r), p, tq, cq, R, ts, ys, b, e, Dt, bq, r, rfl, (I.sm s1).set 9 _, h8, s1 _ _ hb, rfl, mo⟩
theorem pot_none {R : Rws} {ys : List Str} {Dt : Wy.Tb Spot} (hn : NmsOf R ys) (G : Wy.Good R (spotz ys) (spotz ys) Dt) (all : ∀ y ∈ ys, hasN Dt y = true) : Wy.Pot R (ptV (fN Dt)) := by
  have hz : (none : Spot) ∈ spotz ys := List.mem_append_right _ (List.mem_singleton.mpr rfl)
  have val : ∀ o ∈ spots ys, ∃ z, Dt none o = some z ∧ ptV (fN Dt) o = 0 - z := fun o ho => by
    rcases List.mem_cons.mp ho with e | e
    · subst e
      exact ⟨0, G.dia none hz, by rfl⟩
    · obtain ⟨y, hy, rfl⟩ := List.mem_map.mp e
      have h := all y hy
      unfold hasN at h
      cases e2 : Dt none (some y) with
      | none => rw [e2] at h; cases h
      | some z =>
        refine ⟨z, rfl, ?_⟩
        show fN Dt y = _
        unfold fN
        rw [e2]
        rfl
  intro r hr
  obtain ⟨a, b, c⟩ := r
  obtain ⟨ma, mb⟩ := hn.mem a b c hr
  obtain ⟨za, h1, h2⟩ := val a ma
  obtain ⟨zb, h3, h4⟩ := val b mb
  obtain ⟨y, h5, h6⟩ := G.row _ hr
  have h6 : y ≤ c := h6
  obtain ⟨u, h7, h8⟩ := G.via a (spotz_mem.mpr ma) none b _ _ h1 h5
  rw [h3] at h7
  cases h7
  show ptV (fN Dt) a - ptV (fN Dt) b ≤ c
  omega
theorem ste4 (C : Callees P w K mg base CS BS BN RG) (hr : RL A s f cdv) : Step (XL P w K mg base f cdv A outer s H0 E) ((elseBody (lawSt 6)).getD 4 (.Pass ⟨0, 0, 0, 0⟩)) (JE3 P w T D n) (J3 T D n) := by
  refine ⟨_, ps_if (pw_and (pt_cmpR op_eq (pe_callB call_lenD (by rfl) C.N.blen PySem.boot_len (pa_cons (pv 8) pa_nil)) (pe_callB call_len_seq (by rfl) C.N.blen PySem.boot_len (pa_cons (pv 4) pa_nil)) (nomark _))
      (pw_and (pt_cmpR op_lt (pe_callB call_len_seq (by rfl) C.N.blen PySem.boot_len (pa_cons (pv 4) pa_nil)) pe_int (nomark _)) (pw_and1 (pt_cmpR op_notN1 (pv 9) pe_non (nomark _))))).pt
    (pss_one (ps_if (pw_or (pt_cmpR (show OpR _ _ rNotB from op_isnot_bl) (pe_h C.pt hr (by decide) (by rfl) passL (pa_cons (pv 13) (pa_cons (pv 8) pa_nil))) pe_bl (nomark _))
        (pw_or1 (pt_not (pt_val (pe_h C.re hr (by decide) (by rfl) (E := C8.E0) pass0 (pa_cons (pv 13) (pa_cons (pv 4) (pa_cons (pv 8) (pa_cons (pv 10) (pa_cons (pv 11) (pa_cons (pe_ix (ix_tupK K) (pv 9) pe_int (fun _ _ => rfl)) pa_nil)))))))))) ).pt (pss_one (ps_ret pe_bl)) pss_nil)) pss_nil, ?_⟩
  rintro Dn σ H ⟨x, p, tq, cq, R, ts, ys, b, e, Dt, bq, r, rfl, I, h8, hb, h9, mo⟩ hN
  have fin : ∀ H', Same H H' → Dn.nx (S x) H' := fun H' s => hN _ _ ⟨x, p, tq, R, ts, ys, b, e, rfl, I.i.sm s⟩
  have lf : (ys.filter (hasN Dt)).length ≤ ys.length := List.length_filter_le _ _
  refine ⟨_, congrArg some h8, bq, _, rfl, hb, _, congrArg some I.i.k.x4, tq, _, rfl, .inl (SqL.of I.i.k.ht), rfl, _, rfl, ?_⟩
  have lk : (ptK (ys.filter (hasN Dt)) (fN Dt)).length = (ys.filter (hasN Dt)).length := by unfold ptK; rw [List.length_map]
  rw [lk, List.length_map]
  by_cases q1 : (ys.filter (hasN Dt)).length = ys.length
  · have e1 : decide (V.int (((ys.filter (hasN Dt)).length : Nat) : Int) = V.int ((ys.length : Nat) : Int)) = true := by rw [q1]; exact decide_eq_true rfl
    rw [e1]
    have ef : ys.filter (hasN Dt) = ys := List.Sublist.eq_of_length (List.filter_sublist ..) q1
    rw [ef] at hb
    have all : ∀ y ∈ ys, hasN Dt y = true := fun y hy => by
      rw [← ef] at hy
      exact (List.mem_filter.mp hy).2
    refine iteT ⟨_, congrArg some I.i.k.x4, tq, _, rfl, .inl (SqL.of I.i.k.ht), _, _, rfl, rfl, _, rfl, ?_⟩
    rw [List.length_map]
    by_cases q2 : ((ys.length : Nat) : Int) < 3
    · rw [decide_eq_true q2]
      refine iteT ⟨_, congrArg some h9, rfl, _, rfl, ?_⟩
      rcases mo with ⟨rfl, _⟩ | ⟨t, q, z, l, rfl, htt, hq, ⟨w', hw'⟩, low, fst, _⟩
      · exact iteF (fin H fun _ _ z => z)
      · refine iteT ?_
        have pot := pot_none I.i.k.nm I.good all
        refine ⟨_, congrArg some I.i.k.r.x13, _, congrArg some h8, .ref p, R, bq, ys, fN Dt, rfl, I.i.sy, I.i.k.nm, PtL.at_ hb, pot, fun H1 s1 => ⟨true, true, rfl, rfl, _, rfl, ?_⟩⟩
        have s1 : Same H H1 := s1
        rw [decide_eq_true (rfl : true = true)]
        refine iteF ?_
        refine ⟨_, congrArg some I.i.k.r.x13, _, congrArg some I.i.k.x4, _, congrArg some h8, _, congrArg some I.i.x10, _, congrArg some I.i.x11, _, congrArg some h9, t, _, 0, _, rfl, rfl, SqT.of (s1 _ _ htt), atI_nat (j := 0) rfl, ?_⟩
        refine ⟨p, tq, bq, R, ys, fN Dt, b, e, z, rfl, (I.i.sm s1).k.r.few.rls, I.i.k.nm, s1 _ _ I.i.k.ht, by omega, s1 _ _ hb, pot, I.i.mb, I.i.me, fun g hgp => hgp.le hw', fun H2 s2 => ⟨_, rfl, iteF (fin H2 fun x y z => s2 _ _ (s1 _ _ z))⟩⟩
    · rw [decide_eq_false q2]
      exact iteF (iteF (fin H fun _ _ z => z))
  · have e1 : decide (V.int (((ys.filter (hasN Dt)).length : Nat) : Int) = V.int ((ys.length : Nat) : Int)) = false := decide_eq_false fun z => by
      injection z with z
      omega
    rw [e1]
    exact iteF (iteF (fin H fun _ _ z => z))
theorem st6 (C : Callees P w K mg base CS BS BN RG) (hr : RL A s f (.ref c)) (hg : A.guards = some []) (TB : LamX.TabB base mg c Pt) (hT : TOk T Pt) : LX P w K mg base f (.ref c) A outer s H0 E 6 (J3 T D n) (J3 T D n) := by
  obtain ⟨tA, pA, qA⟩ : StepS (XL P w K mg base f (.ref c) A outer s H0 E) [(thenBody (lawSt 6)).getD 0 (.Pass ⟨0, 0, 0, 0⟩), (thenBody (lawSt 6)).getD 1 (.Pass ⟨0, 0, 0, 0⟩), (thenBody (lawSt 6)).getD 2 (.Pass ⟨0, 0, 0, 0⟩), (thenBody (lawSt 6)).getD 3 (.Pass ⟨0, 0, 0, 0⟩)] (JR T D n) (J3 T D n) :=
    steps_cons (str0 C hr hg) (steps_cons (str1 C hr TB hT) (steps_cons (str2 C hr TB hT) (steps_cons (str3 C hr hg) steps_nil)))
  obtain ⟨tB, pB, qB⟩ : StepS (XL P w K mg base f (.ref c) A outer s H0 E) [(elseBody (lawSt 6)).getD 0 (.Pass ⟨0, 0, 0, 0⟩), (elseBody (lawSt 6)).getD 1 (.Pass ⟨0, 0, 0, 0⟩), (elseBody (lawSt 6)).getD 2 (.Pass ⟨0, 0, 0, 0⟩), (elseBody (lawSt 6)).getD 3 (.Pass ⟨0, 0, 0, 0⟩), (elseBody (lawSt 6)).getD 4 (.Pass ⟨0, 0, 0, 0⟩)] (JE T D n) (J3 T D n) :=
    steps_cons (ste0 C hr hg) (steps_cons (ste1 C hr) (steps_cons (ste2 C hr) (steps_cons (ste3 C hr) (steps_cons (ste4 C hr) steps_nil))))
  refine ⟨_, ps_if (pt_val (pe_h C.hr hr (by decide) (by rfl) (E := C8.E0) pass0 (pa_cons (pv 13) pa_nil))) pA pB, ?_⟩
  rintro Dn σ H ⟨x, p, tq, R, ts, ys, b, e, rfl, I⟩ hN
  refine ⟨_, congrArg some I.k.r.x13, p, R, rfl, I.k.r.few.rls, fun H1 ring s1 => ⟨_, rfl, iteT (qA _ _ _ ⟨x, p, tq, R, ts, ys, b, e, rfl, I.sm s1, ring⟩ hN)⟩, fun H1 pot s1 => ⟨_, rfl, iteF (qB _ _ _ ⟨x, p, tq, R, ts, ys, b, e, rfl, I.sm s1, pot⟩ hN)⟩⟩
end
end Lm
/-! The law of k02, whole. -/
namespace Lm
open PySem PySem.Spec PyProof.Rows L2 LamX
def Bd (D : DrA) (H : Hp) (v : V) : Prop := ∃ d, Da D H v d ∧ shortD d = true ∧ sysD d = false
theorem Bd.frT {D : DrA} {H H' : Hp} {v : V} (h : Bd D H v) (f : FrT D H H') : Bd D H' v := let ⟨d, a, r⟩ := h; ⟨d, a.fr f, r⟩
theorem Bd.no {D : DrA} {H : Hp} {v : V} (h : Bd D H v) : NoSy H v := let ⟨d, a, r⟩ := h; ⟨D, d, a, r⟩
section
variable {P : Program} {w : World} {K : PySem.W.Frag} {mg : Str → Option Value} {base : Heap} {CS BS BN RG f c Pt : Addr} {A : Around} {outer : List Env} {s : Shared} {H0 : Hp} {E : XK} {cdv : Value} {T : List (Addr × Str)} {D : DrA} {n : Nat}
def J7 (T : List (Addr × Str)) (D : DrA) (n : Nat) : L2.St → Hp → Prop := fun σ H => ∃ x p tq R ts ys b e v, σ = S x ∧ BI T D n p tq R ts ys b e x H ∧ x 12 = some v ∧ Bd D H v
theorem st7 (C : Callees P w K mg base CS BS BN RG) (hr : RL A s f cdv) (hn : n + 1 ≤ B) : LX P w K mg base f cdv A outer s H0 E 7 (J3 T D n) (J7 T D (n + 1)) := by
  refine ⟨_, ps_set (i := 12) scLaw.nd rfl (.inr rfl) (pe_h C.GP hr (by decide) (by rfl) (E := C8.E0) pass0 (pa_cons (pv 1) (pa_cons (pe_lst (pa_cons pe_non (pa_cons pe_int (pa_cons (pe_lst (pa_cons (pe_tup (pa_cons pe_non (pa_cons pe_non (pa_cons pe_int pa_nil)))) pa_nil)) (pa_cons (pe_lst (pa_cons (pe_tup (pa_cons pe_str (pa_cons pe_str (pa_cons pe_int pa_nil)))) pa_nil)) (pa_cons pe_dnewK pa_nil)))))) pa_nil))), ?_⟩
  rintro Dn σ H ⟨x, p, tq, R, ts, ys, b, e, rfl, I⟩ hN
  refine ⟨_, congrArg some I.k.r.x1, by show 3 ≤ sizeLine; decide, fun t1 n1 => ⟨by show 1 ≤ sizeLine; decide, fun l1 m1 => ⟨by show 3 ≤ sizeLine; decide, fun t2 n2 => ⟨by show 1 ≤ sizeLine; decide, fun l2 m2 d nd => ⟨by show 5 ≤ sizeLine; decide, fun q nq => ?_⟩⟩⟩⟩⟩
  have sA := same_upd (o := .tup [.non, .non, .int 0]) n1
  have dA := I.k.r.dr.sm sA
  have oA := I.k.r.dr.off n1
  have hA : (upd H t1 (.tup [.non, .non, .int 0])) t1 = some (.tup [.non, .non, .int 0]) := upd_same
  have IA := I.sm sA
  generalize upd H t1 (.tup [.non, .non, .int 0]) = H1 at *
  have sB := same_upd (o := .lst [.ref t1]) m1
  have dB := dA.sm sB
  have oB := dA.off m1
  have hB : (upd H1 l1 (.lst [.ref t1])) l1 = some (.lst [.ref t1]) := upd_same
  have IB := IA.sm sB
  generalize upd H1 l1 (.lst [.ref t1]) = H2 at *
  have sC := same_upd (o := .tup [.str "a", .str "a", .int 1]) n2
  have dC := dB.sm sC
  have oC := dB.off n2
  have hC : (upd H2 t2 (.tup [.str "a", .str "a", .int 1])) t2 = some (.tup [.str "a", .str "a", .int 1]) := upd_same
  have IC := IB.sm sC
  generalize upd H2 t2 (.tup [.str "a", .str "a", .int 1]) = H3 at *
  have sD := same_upd (o := .lst [.ref t2]) m2
  have dD := dC.sm sD
  have oD' := dC.off m2
  have hD : (upd H3 l2 (.lst [.ref t2])) l2 = some (.lst [.ref t2]) := upd_same
  have ID := IC.sm sD
  generalize upd H3 l2 (.lst [.ref t2]) = H4 at *
  have sE := same_upd (o := .dK []) nd
  have dE := dD.sm sE
  have oE := dD.off nd
  have hE : (upd H4 d (.dK [])) d = some (.dK []) := upd_same
  have IE := ID.sm sE
  generalize upd H4 d (.dK []) = H5 at *
  have sF := same_upd (o := .lst [.non, .int 5, .ref l1, .ref l2, .ref d]) nq
  have dF := dE.sm sF
  have oF := dE.off nq
  have IF := IE.sm sF
  refine ⟨D, n, q, _, rfl, IF.k.r.dr, by omega, upd_same, oF.2, (fun z => nomatch z), by show 5 < _; decide, fun H7 i v hv d7 f7 => ?_⟩
  have I7 := IF.fr f7 d7
  have h1 := f7 _ _ (sF _ _ (sE _ _ (sD _ _ (sC _ _ (sB _ _ hA))))) oA.1 oA.2
  have h2 := f7 _ _ (sF _ _ (sE _ _ (sD _ _ (sC _ _ hB)))) oB.1 oB.2
  have h3 := f7 _ _ (sF _ _ (sE _ _ (sD _ _ hC))) oC.1 oC.2
  have h4 := f7 _ _ (sF _ _ (sE _ _ hD)) oD'.1 oD'.2
  have h5 := f7 _ _ (sF _ _ hE) oE.1 oE.2
  have bd : Bd D H7 v := by
    match i, hv with
    | 0, hv => cases hv; exact ⟨.none, .non, by decide +kernel, by decide +kernel⟩
    | 1, hv => cases hv; exact ⟨.int 5, .int 5, by decide +kernel, by decide +kernel⟩
    | 2, hv => cases hv; exact ⟨.list [.tuple [.none, .none, .int 0]], .lst h2 oB.1 oB.2 (.cons (.tup h1 oA.1 oA.2 (.cons .non (.cons .non (.cons (.int _) .nil)))) .nil), by decide +kernel, by decide +kernel⟩
    | 3, hv => cases hv; exact ⟨.list [.tuple [.str "a", .str "a", .int 1]], .lst h4 oD'.1 oD'.2 (.cons (.tup h3 oC.1 oC.2 (.cons (.str _) (.cons (.str _) (.cons (.int _) .nil)))) .nil), by decide +kernel, by decide +kernel⟩
    | 4, hv => cases hv; exact ⟨.dict [], .emp h5 oE.1 oE.2, by decide +kernel, by decide +kernel⟩
    | j + 5, hv => simp at hv
  exact hN _ _ ⟨sx x 12 (some v), p, tq, R, ts, ys, b, e, v, rfl, I7.set 12 _, rfl, bd⟩
theorem st8 (C : Callees P w K mg base CS BS BN RG) (hr : RL A s f (.ref c)) (hg : A.guards = some []) (TB : LamX.TabB base mg c Pt) (hT : TOk T Pt) : LX P w K mg base f (.ref c) A outer s H0 E 8 (J7 T D n) (J7 T D n) := by
  have hgg : (A.deeper (envOfC "law" (defScope sLaw) s.heap.objs.size f (.ref c))).guards = some [] := hg
  refine ⟨_, ps_if (pw_or (pt_not (pt_val (pe_callB (call_isXK K C.bs.ex) (by rfl) C.N.bisi (by decide +kernel) (pa_cons (pe_caught (X := XL P w K mg base f (.ref c) A outer s H0 E) (T := T) C.caught C.lane TB rfl (by exact hT.1) (by exact hT.2) (hr.mono (by decide : 22 ≤ 30)) (by rfl) (show LamS (defScope sLaw) _ from lamS_by (by decide +kernel)) rfl (fun _ _ _ _ _ => rfl)
      (fun A outer s H E f c' hr => pe_h C.c.mo hr (by decide) (by rfl) passLam (pa_cons (pv 12) (pa_cons pe_str (pa_cons pe_non pa_nil))))) (pa_cons (pe_glob (v := V.ref BS) (by rfl) C.bs.at_ rfl) pa_nil)))))
      (pw_or1 (pt_cmpR op_ne (pe_callB (cr_reprX P w hgg hr.units C.c.mods) (by rfl) C.N.brep (by decide +kernel) (pa_cons (pv 13) pa_nil)) (pv 3) (nomark _)))).pt (pss_one (ps_ret pe_bl)) pss_nil, ?_⟩
  rintro Dn σ H ⟨x, p, tq, R, ts, ys, b, e, v, rfl, I, h12, bd⟩ hN
  refine ⟨I.k.r.tb, fun H1 e1 T1 => ?_⟩
  have I1 := I.ext e1 T1
  have bd1 := bd.frT (extN_frT e1)
  refine ⟨_, congrArg some h12, v, .str "other", .non, rfl, .inl ⟨bd1.no, fun H2 s2 => ⟨C.bs.exm, fun a na => ?_⟩⟩⟩
  have s3 := same_upd (o := ExI a (.ref BS) none) na
  have I3 := (I1.sm s2).sm s3
  have bd3 := (bd1.frT (Fr.t (.of s2))).frT (Fr.t (.of s3))
  refine ⟨a, .ref BS, .ref BS, true, rfl, upd_same, fun _ r => r, C.bs.kit, true, rfl, iteF ?_⟩
  refine ⟨_, congrArg some I3.k.r.x13, p, _, rfl, gx_rows I3.k.r.few, rows_sh I3.k.r.few.ok I3.k.r.few.tt I3.k.r.few.len, _, congrArg some I3.k.x3, rfl, _, rfl, no_ne ?_⟩
  exact hN _ _ ⟨x, p, tq, R, ts, ys, b, e, v, rfl, I3, h12, bd3⟩
theorem st9 (C : Callees P w K mg base CS BS BN RG) (hr : RL A s f (.ref c)) (TB : LamX.TabB base mg c Pt) (hT : TOk T Pt) : LX P w K mg base f (.ref c) A outer s H0 E 9 (J7 T D n) (J0 T D n) := by
  refine ⟨_, ps_if (pt_not (pt_val (pe_callB (call_isXK K C.bs.ex) (by rfl) C.N.bisi (by decide +kernel) (pa_cons (pe_caught (T := T) C.caught C.lane TB rfl (by exact hT.1) (by exact hT.2) (hr.mono (by decide : 22 ≤ 30)) (by rfl) (show LamS (defScope sLaw) _ from lamS_by (by decide +kernel)) rfl (fun _ _ _ _ _ => rfl)
      (fun A outer s H E f c' hr => pe_h C.c.cl hr (by decide) (by rfl) passLam (pa_cons (pv 12) pa_nil))) (pa_cons (pe_glob (v := V.ref BS) (by rfl) C.bs.at_ rfl) pa_nil))))) (pss_one (ps_ret pe_bl)) pss_nil, ?_⟩
  rintro Dn σ H ⟨x, p, tq, R, ts, ys, b, e, v, rfl, I, h12, bd⟩ hN
  refine ⟨I.k.r.tb, fun H1 e1 T1 => ?_⟩
  have I1 := I.ext e1 T1
  have bd1 := bd.frT (extN_frT e1)
  refine ⟨_, congrArg some h12, v, rfl, .inl ⟨bd1.no, fun H2 s2 => ⟨C.bs.exm, fun a na => ?_⟩⟩⟩
  have s3 := same_upd (o := ExI a (.ref BS) none) na
  have I3 := (I1.sm s2).sm s3
  exact ⟨a, .ref BS, .ref BS, true, rfl, upd_same, fun _ r => r, C.bs.kit, true, rfl, iteF (hN _ _ ⟨x, rfl, I3.k.r.x1, I3.k.r.dr, I3.k.r.tb⟩)⟩
theorem law_lap (C : Callees P w K mg base CS BS BN RG) (hr : RL A s f (.ref c)) (hg : A.guards = some []) (TB : LamX.TabB base mg c Pt) (hT : TOk T Pt) (hn : n + 100 ≤ B) :
    StepS (XL P w K mg base f (.ref c) A outer s H0 E) (forBody ((defBody sLaw).getD 1 (.Pass ⟨0, 0, 0, 0⟩))) (J0 T D n) (J0 T D (n + 64)) := by
  show StepS (XL P w K mg base f (.ref c) A outer s H0 E) [lawSt 0, lawSt 1, lawSt 2, lawSt 3, lawSt 4, lawSt 5, lawSt 6, lawSt 7, lawSt 8, lawSt 9] (J0 T D n) (J0 T D (n + 64))
  exact steps_cons (st0 C hr (by omega)) (steps_cons (st1 C hr hg) (steps_cons (st2 C hr (by omega)) (steps_cons (st3 C hr (by omega)) (steps_cons (st4 C hr TB hT) (steps_cons (st5 C hr TB hT) (steps_cons (st6 C hr hg TB hT) (steps_cons (st7 C hr (by omega)) (steps_cons (st8 C hr hg TB hT) (steps_cons (st9 C hr TB hT) steps_nil)))))))))
def spLaw (K : PySem.W.Frag) (T : List (Addr × Str)) : Sp := fun vs H Q _ => ∃ (a : Addr) (ns : List Int), vs = [.ref a] ∧ SqL K H a (ns.map V.int) ∧ ns.length ≤ 63 ∧ Tabs T H ∧ ∀ H', Q (.bl true) H'
theorem asc_nil {ys : List Str} (h : NmsOf [] ys) : ys = [] := by
  cases ys with
  | nil => rfl
  | cons y r =>
    have := (h.2.2 y).mp (List.mem_cons_self ..)
    simp [sidesR] at this
theorem way_nil {a b : Spot} {w : List Nat} {z : Int} (h : Wy.Way ([] : Rws) a w b z) : w = [] ∧ a = b ∧ z = 0 := by
  cases h with
  | nil => exact ⟨rfl, rfl, rfl⟩
  | cons hr _ => simp at hr
def cl0 : Spot → Spot → Option Int := fun a b => if a = b ∧ a = none then some 0 else none
theorem law_body (C : Callees P w K mg base CS BS BN RG) (hr : RL A s f (.ref c)) (hg : A.guards = some []) (TB : LamX.TabB base mg c Pt) (hT : TOk T Pt) {vs : List V} {Q : VK} (h : spLaw K T vs H0 Q E) :
    ∃ t, PSs (XL P w K mg base f (.ref c) A outer s H0 E) (defBody sLaw) t ∧ t { nx := fun _ H' => Q .non H', rt := Q } (L2.start nLaw vs) H0 := by
  obtain ⟨a, ns, rfl, hS, hl, tb, q⟩ := h
  obtain ⟨tB, hB, rB⟩ := steps_all (ι := { p : DrA × Nat // p.2 + 100 ≤ B }) (I := fun p => J0 T p.1.1 p.1.2) (J := fun p => J0 T p.1.1 (p.1.2 + 64)) fun p => law_lap (P := P) (w := w) (outer := outer) (s := s) (H0 := H0) (E := E) (f := f) C hr hg TB hT p.2
  refine ⟨_, pss_cons (ps_set (i := 1) scLaw.nd rfl (.inl rfl) (pe_h C.GB hr (by decide) (by rfl) (E := C8.E0) pass0 (pa_cons (pv 0) pa_nil)))
    (pss_cons (ps_for PassesOwn.never rfl (pi_range1 (by rfl) C.N.brng (pa_cons (pe_op op_add pe_int (pe_callB (call_min2 rfl) (by rfl) C.N.bmin (by decide +kernel) (pa_cons (pe_callB call_len_seq (by rfl) C.N.blen PySem.boot_len (pa_cons (pv 0) pa_nil)) (pa_cons pe_int pa_nil)))) pa_nil)) (pg_name (i := 2) scLaw.nd rfl (.inl rfl)) hB)
    (pss_one (ps_ret (pe_and (pe_cmpR (show OpR _ _ (rEqD K) from op_eqD hr.units) (pe_h C.c.mo hr (by decide) (by rfl) passL (pa_cons (pe_lst pa_nil) (pa_cons pe_non (pa_cons pe_non pa_nil)))) (pe_tup (pa_cons pe_int (pa_cons (pe_lst pa_nil) pa_nil))) (nomark _))
      (pe_one (pe_cmpR (show OpR _ _ (rEqP P w) from op_eqP P w hr.units) (pe_h C.c.cl hr (by decide) (by rfl) passL (pa_cons (pe_lst pa_nil) pa_nil)) (pe_dnewXP P w) (nomark _))))))), ?_⟩
  refine ⟨_, rfl, a, ns, rfl, hS, hl, fun H1 D s1 d1 _ _ => ?_⟩
  obtain ⟨m, hm, hm0, hm1⟩ : ∃ m : Int, m = (if (6 : Int) < ((ns.map V.int).length : Int) then 6 else ((ns.map V.int).length : Int)) ∧ 0 ≤ m ∧ m ≤ 6 := by
    refine ⟨_, rfl, ?_, ?_⟩ <;> split <;> omega
  refine ⟨_, rfl, a, _, rfl, .inl (s1.seq hS), _, _, rfl, ?_⟩
  rw [← hm]
  refine ⟨_, _, rfl, rfl, 2 + m, rfl, by omega, by omega, for_range (fun i σ H' => J0 T D (i * 64) σ H') ⟨sx (sx (fun _ => none) 0 (some (.ref a))) 1 (some (.ref D.d)), rfl, rfl, d1.mono (by omega), tb.ext s1⟩ ?_ ?_⟩
  · rintro i σ H' hi ⟨x, rfl, h1, d, t⟩
    have hi : i < 8 := by omega
    have hb : i * 64 + 100 ≤ B := by unfold B; omega
    refine rB ⟨(D, i * 64), hb⟩ _ _ _ ⟨sx x 2 (some (.int (0 + (i : Int)))), rfl, h1, d, t⟩ fun σ' H'' h => ?_
    have e : (i + 1) * 64 = i * 64 + 64 := by omega
    show J0 T D ((i + 1) * 64) σ' H''
    rw [e]
    exact h
  · rintro σ H' ⟨x, rfl, h1, d, t⟩
    refine ⟨Nat.zero_le _, fun l nl => ?_⟩
    have s2 := same_upd (o := .lst []) nl
    have hl2 : (upd H' l (.lst [])) l = some (.lst ([] : List V)) := upd_same
    have d2 := d.sm s2
    have off := d.off nl
    generalize upd H' l (.lst []) = H2 at s2 hl2 d2 ⊢
    have sy : ∀ {H3 : Hp} {l : Addr} {n : Nat}, DrawAt D n H3 → H3 l = some (.lst []) → l ≠ D.d → l ≠ D.w → Sy H3 (.ref l) [] := fun d3 h3 o1 o2 => ⟨D, _, .list [], d3, .lst h3 o1 o2 .nil, rfl, rfl, by decide⟩
    have pot : HasPot [] := ⟨fun _ => 0, fun r hr => by cases hr⟩
    refine ⟨.ref l, .non, .non, rfl, .inr ⟨[], sy d2 hl2 off.1 off.2, .inr ⟨none, rfl, List.mem_cons_self .., .inr ⟨none, rfl, List.mem_cons_self .., .inr ⟨pot, fun H3 r s3 mo => ?_⟩⟩⟩⟩⟩
    rcases mo with ⟨_, no⟩ | ⟨t4, q4, z, l4, rfl, ht4, hq4, ⟨w', hw'⟩, low, fst, _⟩
    · exact absurd (.nil _) (no [] 0)
    · obtain ⟨_, _, ez⟩ := way_nil hw'
      subst ez
      have el : l4 = [] := fst.uniq (first_nil none)
      subst el
      refine ⟨Nat.zero_le _, fun z2 nz2 => ⟨by show 2 ≤ sizeLine; decide, fun t5 nt5 => ?_⟩⟩
      have s4 := same_upd (o := .lst []) nz2
      have s5 := same_upd (o := .tup [.int 0, .ref z2]) nt5
      refine ⟨.tuple [.int 0, .list []], .tuple [.int 0, .list []], .tup (SqT.of (s5 _ _ (s4 _ _ ht4))) (.cons (.int _) (.cons (.lst (SqL.of (s5 _ _ (s4 _ _ hq4))) .nil) .nil)), .tup (SqT.of upd_same) (.cons (.int _) (.cons (.lst (SqL.of (s5 _ _ upd_same)) .nil) .nil)), by decide +kernel, by decide +kernel, _, rfl, ?_⟩
      have e : PyData.eqv (.tuple [.int 0, .list []]) (.tuple [.int 0, .list []]) = true := by simp [PyData.eqv, PyData.eqvAll]
      rw [e]
      refine iteT ?_
      have d5 := ((d2.sm s3).sm s4).sm s5
      generalize upd (upd H3 z2 (.lst [])) t5 (.tup [.int 0, .ref z2]) = H5 at d5 ⊢
      refine ⟨Nat.zero_le _, fun l6 nl6 => ?_⟩
      have s6 := same_upd (o := .lst []) nl6
      have o6 := d5.off nl6
      refine ⟨.ref l6, rfl, .inr ⟨[], sy (d5.sm s6) upd_same o6.1 o6.2, .inr ⟨cl0, pot, fun ys hn a ha => ?_, fun H7 q7 ys hn pd s7 _ => ?_⟩⟩⟩
      · obtain rfl := asc_nil hn
        have ea : a = none := List.mem_singleton.mp ha
        subst ea
        refine ⟨rfl, fun b z e => ?_, fun b w z h => ?_⟩
        · unfold cl0 at e
          split at e
          · rename_i h
            cases e
            obtain ⟨rfl, _⟩ := h
            exact ⟨List.mem_cons_self .., [], .nil _⟩
          · cases e
        · obtain ⟨_, rfl, rfl⟩ := way_nil h
          exact ⟨0, rfl, Int.le_refl _⟩
      · obtain rfl := asc_nil hn
        have e0 : closedK (spots []) cl0 = [] := rfl
        rw [e0] at pd
        exact fun d8 o8 nd8 pd8 _ => ⟨q7, d8, [], rfl, rfl, pd.sm (same_upd nd8), pd8, (fun p hp => absurd hp (by simp)), q _⟩
end
end Lm
/-! As Own9, and the run may use that sys.modules is an object. -/
namespace Lm
open PySem PySem.Spec PyProof.Rows L2 LamX
/-- the run of the law's def at fa, called by the row's own caller; cs: code objects and their tables -/
def RunAts (P : Program) (w : World) (K : PySem.W.Frag) (mg : Str → Option Value) (fa a : Addr) (cs : List (Addr × Addr)) (ns : List Int) (s : Shared) : Prop :=
  ∀ (base : Heap) (H : Hp), K.In base → base.Ns mainGlobals mg → (∃ u, base.get? sysModules = some u) → (∀ p ∈ cs, LamX.TabB base mg p.1 p.2) → Env0 P w K mg base callerA [] s H → (∀ p ∈ cs, H p.2 = some (.tbl #[])) → SqL K H a (ns.map V.int) →
    codeAny (model P w) callerA (.call (.ref fa) ⟨[.ref a], []⟩) (CR C8.CX0 [] P w H s (fun v _ => v = .bl true) fun _ _ _ => False) s
/-- b is one of the tables -/
def InT (cs : List (Addr × Addr)) (b : Addr) : Prop := ∃ p ∈ cs, p.2 = b
instance (cs : List (Addr × Addr)) (b : Addr) : Decidable (InT cs b) := by unfold InT; exact inferInstance
section
variable {P : Program} {w : World} {K : PySem.W.Frag} {mg mb : Str → Option Value} {fa a : Addr} {cs : List (Addr × Addr)} {s : Shared} {vs : List Value} {ns : List Int}
theorem ends_core (inK : K.In s.heap) (nsG : s.heap.Ns mainGlobals mg) (nsB : s.heap.Ns builtinsNs mb) (boot : ∀ x : Str, x ≠ "__name__" → mb x = bootBuiltins x) (lim : s.heap.NoLimit) (gens : s.gens = #[]) (mods : ∃ mm, s.heap.Ns sysModules mm)
    (tab : ∀ p ∈ cs, s.heap.get? p.2 = some { cls := .none, data := .fields #[] }) (tabK : ∀ p ∈ cs, K.lookup p.2 = none) (code : ∀ p ∈ cs, PySem.W.CodeHd s.heap p.1 p.2) (bmod : ∃ (bm : Addr) (ob : Obj), mg "__builtins__" = some (.ref bm) ∧ bm ≠ builtinsNs ∧ s.heap.get? bm = some ob ∧ ob.cls = .type "module" ∧ ob.dict = some builtinsNs ∧ ob.data = .plain)
    (scr : s.heap.get? a = some { cls := .type "list", data := .seq vs.toArray }) (run : RunAts P w K mg fa a cs ns s)
    (H : Hp) (hP : ∀ p ∈ cs, H p.2 = some (.tbl #[])) (hA : H a = none ∨ ∃ o xs, H a = some (.frz o (.lst xs))) (hS : SqL K H a (ns.map V.int)) (ok : HOk P w H s.heap) (only : ∀ b, H b ≠ none → b = a ∨ InT cs b) (aK : H a ≠ none → K.lookup a = none) :
    codeAny (model P w) callerA (.call (.ref fa) ⟨[.ref a], []⟩) (fun r s' => r = .ok (.ret (.bool true)) ∧ OldK s.heap s'.heap ∧ s'.os = s.os ∧ AllBare s'.gens) s := by
  have tabI : ∀ {b : Addr}, InT cs b → s.heap.get? b = some { cls := .none, data := .fields #[] } := fun ⟨p, hp, e⟩ => e ▸ tab p hp
  have out : ∀ {b : Addr}, b ≠ a → ¬ InT cs b → H b = none := fun {b} h1 h2 => by
    cases q : H b with
    | none => rfl
    | some u => exact ((only b (by rw [q]; exact Option.some_ne_none u)).elim h1 h2).elim
  have seen : ∀ {b : Addr} {o : Obj}, s.heap.get? b = some o → b ≠ a → ¬ InT cs b → (hidT s.heap H).get? b = some o := fun e h1 h2 => hidT_get e (out h1 h2)
  have offA : ∀ {b : Addr} {o : Obj}, s.heap.get? b = some o → (∀ vs n, o.data ≠ .seq vs n) → b ≠ a := fun e h z => by
    rw [z, scr] at e
    injection e with e
    exact h _ _ (congrArg Obj.data e).symm
  have offP : ∀ {b : Addr} {o : Obj}, s.heap.get? b = some o → o.data ≠ .fields #[] → ¬ InT cs b := fun e h z => by
    rw [tabI z] at e
    injection e with e
    exact h (congrArg Obj.data e).symm
  have dicts : ∀ {b : Addr} {m : Str → Option Value}, s.heap.Ns b m → ¬ InT cs b ∧ (hidT s.heap H).Ns b m := fun ⟨o, es, ep, e, d, r⟩ => by
    have hp := offP e (by rw [d]; intro z; cases z)
    exact ⟨hp, o, es, ep, seen e (offA e (by rw [d]; intro _ _ z; cases z)) hp, d, r⟩
  have frag : K.In (hidT s.heap H) := by
    intro b o e
    have g := inK b o e
    by_cases hb : InT cs b
    · obtain ⟨p, hp, ep⟩ := hb
      rw [← ep, tabK p hp] at e
      cases e
    · by_cases ha : b = a
      · by_cases hn : H a = none
        · exact hidT_get g (by rw [ha]; exact hn)
        · rw [ha, aK hn] at e
          cases e
      · exact seen g ha hb
  have world : L2.Mod K mg (hidT s.heap H) := by
    obtain ⟨mc, l1, l2⟩ := lim
    exact ⟨frag, (dicts nsG).2, ⟨mb, (dicts nsB).2, boot⟩, ⟨mc, (dicts l1).2, l2⟩⟩
  have tables : ∀ p ∈ cs, LamX.TabB (hidT s.heap H) mg p.1 p.2 := by
    intro p hp
    refine ⟨?_, ?_, fun z => (dicts nsG).1 ⟨p, hp, z.symm⟩⟩
    · obtain ⟨o, us, z1, z2, z3, z4, z5, z6, z7, e, y1, y2, y3, y4⟩ := code p hp
      refine ⟨o, us, z1, z2, z3, z4, z5, z6, z7, seen e (offA e ?_) (offP e ?_), y1, y2, y3, y4⟩
      · intro _ _ z
        rw [y2] at z
        cases z
      · intro z
        rw [y2] at z
        injection z with z
        rw [z] at y3
        simp at y3
    · obtain ⟨bm, ob, b1, b2, b3, b4, b5, b6⟩ := bmod
      have hp' := offP b3 (by rw [b6]; intro z; cases z)
      refine ⟨bm, ob, b1, b2, ?_, fun z => hp' ⟨p, hp, z.symm⟩, seen b3 (offA b3 (by rw [b6]; intro _ _ z; cases z)) hp', b4, b5, b6⟩
      intro z
      obtain ⟨o, es, ep, e, d, _⟩ := nsG
      rw [← z, b3] at e
      injection e with e
      rw [← e, b6] at d
      cases d
  have env : Env0 P w K mg (hidT s.heap H) callerA [] s H :=
    ⟨rfl, world, fun _ _ e => of_hidT e, Nat.le_of_eq (hidT_size s.heap H), trivial, (fun _ z => nomatch z), ok, AllBare.of_eq gens⟩
  refine codeAny_mono (run _ H frag (dicts nsG).2 (let ⟨mm, hm⟩ := mods; let ⟨o, _, _, e, _⟩ := (dicts hm).2; ⟨o, e⟩) tables env hP hS) ?_
  intro r s' hr
  match r, hr with
  | .ok (.ret u), hr =>
    obtain ⟨_, H', os, bare, un, ok', r', rfl⟩ := hr
    obtain rfl : u = Value.bool true := r'
    have kept : ∀ b o, ¬ InT cs b → s.heap.get? b = some o → s'.heap.get? b = some o := by
      intro b o hb e
      by_cases ha : b = a
      · rcases hA with hn | ⟨o1, xs, hf⟩
        · exact un.keep b o e (by rw [ha]; exact hn) (fun z => nomatch (show b ∈ ([] : List Addr) from z)) (fun z => nomatch z)
        · have e1 := (ok a _ hf).1
          have e2 := (ok' a _ (un.frzs a o1 _ hf)).1
          rw [ha] at e ⊢
          rw [e1] at e
          rw [e2, ← e]
      · exact un.keep b o e (out ha hb) (fun z => nomatch (show b ∈ ([] : List Addr) from z)) (fun z => nomatch z)
    have grown : ∀ p ∈ cs, ∃ more : Array Value, s'.heap.get? p.2 = some { cls := .none, data := .fields more } := by
      intro p hp
      obtain ⟨more, hm⟩ := un.tbls p.2 #[] (hP p hp)
      exact ⟨_, ok' p.2 _ hm⟩
    refine ⟨rfl, ⟨fun b o e => ?_, fun b o e => ?_⟩, os, bare⟩
    · by_cases hb : InT cs b
      · obtain ⟨p, hp, rfl⟩ := hb
        obtain ⟨more, g⟩ := grown p hp
        rw [tab p hp] at e
        injection e with e
        subst e
        exact .inr (.inl ⟨((code p hp).tab (tab p hp)).isCodeTable, rfl, #[], more, rfl, by rw [Array.empty_append]; exact g⟩)
      · exact .inl (kept b o hb e)
    · by_cases hb : InT cs b
      · obtain ⟨p, hp, rfl⟩ := hb
        obtain ⟨more, g⟩ := grown p hp
        exact ⟨_, g⟩
      · exact ⟨o, kept b o hb e⟩
  | .ok .next, hr => exact hr.elim
  | .ok .brk, hr => exact hr.elim
  | .ok .cont, hr => exact hr.elim
  | .error e, hr => exact hr.elim
/-- from what the head leaves -/
theorem ends_run (inK : K.In s.heap) (nsG : s.heap.Ns mainGlobals mg) (nsB : s.heap.Ns builtinsNs mb) (boot : ∀ x : Str, x ≠ "__name__" → mb x = bootBuiltins x) (lim : s.heap.NoLimit) (gens : s.gens = #[]) (mods : ∃ mm, s.heap.Ns sysModules mm)
    (tab : ∀ p ∈ cs, s.heap.get? p.2 = some { cls := .none, data := .fields #[] }) (tabK : ∀ p ∈ cs, K.lookup p.2 = none) (code : ∀ p ∈ cs, PySem.W.CodeHd s.heap p.1 p.2) (bmod : ∃ (bm : Addr) (ob : Obj), mg "__builtins__" = some (.ref bm) ∧ bm ≠ builtinsNs ∧ s.heap.get? bm = some ob ∧ ob.cls = .type "module" ∧ ob.dict = some builtinsNs ∧ ob.data = .plain)
    (scr : s.heap.get? a = some { cls := .type "list", data := .seq vs.toArray }) (hni : IntsAre vs ns) (len : ns.length ≤ sizeLine) (run : RunAts P w K mg fa a cs ns s) :
    codeAny (model P w) callerA (.call (.ref fa) ⟨[.ref a], []⟩) (fun r s' => r = .ok (.ret (.bool true)) ∧ OldK s.heap s'.heap ∧ s'.os = s.os ∧ AllBare s'.gens) s := by
  have rv := vals_ints hni
  have lv := hni.length
  have aP : ¬ InT cs a := fun ⟨p, hp, e⟩ => by
    have h := tab p hp
    rw [e, scr] at h
    injection h with z
    have z := congrArg Obj.data z
    cases z
  have inI : ∀ p ∈ cs, InT cs p.2 := fun p hp => ⟨p, hp, rfl⟩
  cases hk : K.lookup a with
  | some o =>
    have e := inK a o hk
    rw [scr] at e
    cases e
    refine ends_core inK nsG nsB boot lim gens mods tab tabK code bmod scr run (fun b => if InT cs b then some (.tbl #[]) else none) (fun p hp => if_pos (inI p hp)) (.inl (if_neg aP)) ?_ (fun b u z => ?_) (fun b z => ?_) (fun z => absurd (if_neg aP) z)
    · exact .inr ⟨_, vs.toArray, _, hk, rfl, rfl, rfl, by rw [List.size_toArray, lv]; exact len, by simpa using rv⟩
    · have z : (if InT cs b then some (HO.tbl #[]) else none) = some u := z
      by_cases hb : InT cs b
      · rw [if_pos hb] at z
        cases z
        obtain ⟨p, hp, rfl⟩ := hb
        exact tab p hp
      · rw [if_neg hb] at z
        cases z
    · by_cases hb : InT cs b
      · exact .inr hb
      · exact absurd (if_neg hb) z
  | none =>
    refine ends_core inK nsG nsB boot lim gens mods tab tabK code bmod scr run (fun b => if b = a then some (.frz { cls := .type "list", data := .seq vs.toArray } (.lst (ns.map V.int))) else if InT cs b then some (.tbl #[]) else none)
      (fun p hp => (if_neg (fun (z : p.2 = a) => aP (z ▸ inI p hp))).trans (if_pos (inI p hp))) (.inr ⟨_, _, if_pos rfl⟩) (.inl (.inr ⟨_, if_pos rfl⟩)) (fun b u z => ?_) (fun b z => ?_) (fun _ => hk)
    · have z : (if b = a then some (HO.frz { cls := .type "list", data := .seq vs.toArray } (.lst (ns.map V.int))) else if InT cs b then some (.tbl #[]) else none) = some u := z
      by_cases ha : b = a
      · subst ha
        rw [if_pos rfl] at z
        cases z
        exact ⟨scr, by rw [List.length_map]; exact len, vs, _, rv, scr⟩
      · rw [if_neg ha] at z
        by_cases hb : InT cs b
        · rw [if_pos hb] at z
          cases z
          obtain ⟨p, hp, rfl⟩ := hb
          exact tab p hp
        · rw [if_neg hb] at z
          cases z
    · by_cases ha : b = a
      · exact .inl ha
      · by_cases hb : InT cs b
        · exact .inr hb
        · exact absurd ((if_neg ha).trans (if_neg hb)) z
end
end Lm
/-! The end of k02: the table of the law's def, the promises, what the law calls (made by gen_x02.py from X06 and the texts' theorems). -/
namespace Lm
open PySem PySem.Spec PyProof.Rows L2 LamX
/-- the fields of a code object that a lambda's making reads -/
def CodeF (vs : Array Value) (Pt : Addr) : Prop := ∃ file tf flags tg inF text tt, vs[11]? = some (.ref Pt) ∧ vs.getD 11 .none = .ref Pt ∧ vs.getD 18 .none = .str file tf ∧ vs.getD 7 .none = .int flags tg ∧ vs.getD 9 .none = .bool inF ∧ vs.getD 10 .none = .int text tt
/-- the def of the name x, its code object and its table, as the head leaves them -/
structure DefC (K : PySem.W.Frag) (mg : Str → Option Value) (x : Str) (fa c Pt : Addr) : Prop where
  ex : ∃ (o : Obj) (fd : FuncData) (dd : Option Addr) (vs : Array Value) (sl : Array (Option Value)), mg x = some (.ref fa) ∧ K.lookup fa = some o ∧ o.data = .func fd ∧ fd.code = .ref c ∧ K.lookup c = some ⟨.type "code", dd, .fields vs, sl⟩ ∧ CodeF vs Pt ∧ c ≠ Pt ∧ K.lookup Pt = none
theorem walk_guard {l : PySem.W.OpenLaw} {n : Nat} {q : Program} {loose : List Str} {XP : (Str → Option Value) → Heap → Prop} {YP : World → Heap → Prop} {d : DefRec} {K : Params → PySem.W.Frag} (most : l.most = some n) (fits : n ≤ sizeLine) (plain : d.params.defaults = [])
    (isRec : ((recsOf q).any fun e => e.name == d.name) = true) (imp : importsNone q = true) (hY : ∀ (w : World) (h : Heap), YP w h → (K w.params).In h)
    (F : ∀ (w : World) (mg : Str → Option Value) (fa : Addr) (h : Heap), (K w.params).In h → h.Ns mainGlobals mg → mg d.name = some (.ref fa) →
      ∃ (c Pt : Addr), DefC (K w.params) mg d.name fa c Pt ∧ ∀ (s : Shared) (a : Addr) (ns : List Int), ns.length ≤ n → RunAts l.prog w (K w.params) mg fa a [(c, Pt)] ns s) :
    PySem.W.WalkO q loose XP YP l.row.toRowW d [] (fun f vs => PySem.call f vs) := by
  refine Att.attach_callB most plain ?_
  intro w s₀ s mg mb fa o pm cd doc a vs ns G Y ho hd hcd hmg hobj hints hlen hbits hg
  have inK := hY w _ Y
  obtain ⟨c, Pt, D1, run⟩ := F w mg fa _ inK G.T.g hmg
  have one : ∀ {x : Str} {fb c Pt : Addr}, ((recsOf q).any fun e => e.name == x) = true → DefC (K w.params) mg x fb c Pt → PySem.W.CodeHd s.heap c Pt ∧ s.heap.get? Pt = some { cls := .none, data := .fields #[] } ∧ (K w.params).lookup Pt = none := by
    intro x fb c Pt ir D
    obtain ⟨o1, fd, dd, us, sl, k0, k1, k2, k3, k4, cf, cP, kP⟩ := D.ex
    obtain ⟨file, tf, flags, tg, inF, text, tt, r1, r2, r3, r4, r5, r6⟩ := cf
    refine ⟨⟨_, us, file, tf, flags, tg, inF, text, tt, inK _ _ k4, rfl, rfl, r1, r2, r3, r4, r5, r6, cP⟩, ?_, kP⟩
    obtain ⟨e, hm, he⟩ := List.any_eq_true.mp ir
    obtain ⟨b, o2, fd2, c2, P2, h1, h2, h3, h4, h5, ⟨oc, vc, e1, _, e3, e4⟩, hP⟩ := G.T.tab e hm
    have he : e.name = x := beq_iff_eq.mp he
    rw [he, k0] at h1
    injection h1 with h1
    injection h1 with h1
    subst h1
    rw [inK _ _ k1] at h2
    injection h2 with h2
    subst h2
    rw [k2] at h3
    injection h3 with h3
    subst h3
    rw [k3] at h4
    injection h4 with h4
    subst h4
    rw [inK _ _ k4] at e1
    injection e1 with e1
    subst e1
    injection e3 with e3
    subst e3
    rw [r1] at e4
    injection e4 with e4
    injection e4 with e4
    rw [e4]
    exact hP
  obtain ⟨a1, a2, a3⟩ := one isRec D1
  have all : ∀ {Z : Addr × Addr → Prop}, Z (c, Pt) → ∀ p ∈ [(c, Pt)], Z p := fun z1 p hp => by
    rw [List.mem_singleton.mp hp]
    exact z1
  exact ends_run inK G.T.g G.T.b G.T.builtins G.T.nolimit hg (let ⟨mm, h, _⟩ := (G.T.seer imp).mods; ⟨mm, h⟩) (all (Z := fun p => s.heap.get? p.2 = some { cls := .none, data := .fields #[] }) a2) (all (Z := fun p => (K w.params).lookup p.2 = none) a3) (all (Z := fun p => PySem.W.CodeHd s.heap p.1 p.2) a1) G.T.bmain hobj hints (Nat.le_trans hlen fits) (run s a ns hlen)
/-! ### the defs where the head leaves them -/
structure At (K : PySem.W.Frag) (mg : Str → Option Value) (x : Str) (st : Stmt) : Prop where
  ex : ∃ (f : Addr) (fd : FuncData), mg x = some (.ref f) ∧ Fun K x x st f fd
theorem at_mk {K : PySem.W.Frag} {h : Heap} {mg : Str → Option Value} {x : Str} {st : Stmt} {f : Addr} {oc kV doc pm cdv ct : Value} {od an : Option Addr} {osl : Array (Option Value)} (X : K.In h) (G : h.Ns mainGlobals mg) (a : PySem.W.nsIn K mainGlobals x = some (some (.ref f)))
    (l : K.lookup f = some ⟨oc, od, .func (PySem.W.fnOf x x (defArgs st) (defBody st) (defScope st) .none kV doc pm an cdv ct), osl⟩) (c : PySem.W.codeIn K cdv x = true) (k : PySem.W.keepIn K (.ref f) = true) : At K mg x st :=
  ⟨f, _, PySem.W.mg_of X G a, fun_mk l c k⟩
theorem has_of {P : Program} {w : World} {K : PySem.W.Frag} {mg : Str → Option Value} {base : Heap} {CX : CXT} {k : Nat} {x : Str} {st : Stmt} {ps : List Str} {sp : Sp} (h : At K mg x st) (b : ∀ f fd, Fun K x x st f fd → L2.Binds K fd ps []) (ok : ∀ f fd, Fun K x x st f fd → FnOk P w K mg base CX k f fd ps sp) :
    Has P w K mg base CX k x ps sp := by
  obtain ⟨f, fd, m, F⟩ := h.ex
  exact ⟨f, fd, m, F.kp, b f fd F, ok f fd F⟩
theorem bl_mk {K : PySem.W.Frag} {h : Heap} {mg : Str → Option Value} (X : K.In h) (G : h.Ns mainGlobals mg) (z1 : PySem.W.nsIn K mainGlobals "int" = some none) (z2 : PySem.W.nsIn K mainGlobals "len" = some none) (z3 : PySem.W.nsIn K mainGlobals "isinstance" = some none) (z4 : PySem.W.nsIn K mainGlobals "bool" = some none)
    (z5 : PySem.W.nsIn K mainGlobals "tuple" = some none) (z6 : PySem.W.nsIn K mainGlobals "list" = some none) (z7 : PySem.W.nsIn K mainGlobals "str" = some none) (z8 : PySem.W.nsIn K mainGlobals "max" = some none) (z9 : PySem.W.nsIn K mainGlobals "range" = some none)
    (z10 : PySem.W.nsIn K mainGlobals "abs" = some none) (z11 : PySem.W.nsIn K mainGlobals "all" = some none) (z12 : PySem.W.nsIn K mainGlobals "min" = some none) (z13 : PySem.W.nsIn K mainGlobals "repr" = some none)
    (z14 : PySem.W.nsIn K mainGlobals "any" = some none) (z15 : PySem.W.nsIn K mainGlobals "sorted" = some none) (z16 : PySem.W.nsIn K mainGlobals "enumerate" = some none) : Bl mg :=
  ⟨PySem.W.mg_none_of X G z1, PySem.W.mg_none_of X G z2, PySem.W.mg_none_of X G z3, PySem.W.mg_none_of X G z4, PySem.W.mg_none_of X G z5, PySem.W.mg_none_of X G z6, PySem.W.mg_none_of X G z7, PySem.W.mg_none_of X G z8, PySem.W.mg_none_of X G z9, PySem.W.mg_none_of X G z10, PySem.W.mg_none_of X G z11, PySem.W.mg_none_of X G z12, PySem.W.mg_none_of X G z13,
    PySem.W.mg_none_of X G z14, PySem.W.mg_none_of X G z15, PySem.W.mg_none_of X G z16⟩
def clsBody : Stmt → List Stmt
  | .ClassDef (body := b) .. => b
  | _ => []
abbrev sIni : Stmt := (clsBody (topS 4)).getD 0 (.Pass ⟨0, 0, 0, 0⟩)
theorem txt_ini : InitTxt sIni "ring" := ⟨rfl, ⟨_, _, _, _, _, _, _, _, _, _, _, _, _, _, _, ⟨0, 0, 0, 0⟩, rfl, Nat.le_of_ble_eq_true rfl, fun env => ⟨_, rfl⟩⟩, rfl, _, _, rfl, rfl⟩
/-- the law's own defs -/
structure Defs (K : PySem.W.Frag) (mg : Str → Option Value) : Prop where
  mixed : At K mg "_law_mixed_up" sMixed
  take : At K mg "_law_draw" sTake
  pick : At K mg "_law_pick" sPick
  begun : At K mg "_law_begun" sBegun
  shuf : At K mg "_law_in_any_order" sShuf
  ti : At K mg "_law_titles" sTi
  fl : At K mg "_law_floors" sFl
  ro : At K mg "_law_rows" sRo
  fe : At K mg "_law_few" sFe
  sd : At K mg "_law_sides" sSd
  cl : At K mg "_law_closest" sCl
  hr : At K mg "_law_has_ring" sHr
  sm : At K mg "_law_sum_of" sSm
  ws : At K mg "_law_ways" sWs
  fw : At K mg "_law_first_way" sFW
  frl : At K mg "_law_first_ring" sFRl
  kp : At K mg "_law_keeps" sKp
  lf : At K mg "_law_lifted" sLf
  bx : At K mg "_law_box" sBx
  re : At K mg "_law_reached" sRe
  caught : At K mg "_law_caught" sCaught
/-- the program's defs -/
structure PDefs (K : PySem.W.Frag) (mg : Str → Option Value) : Prop where
  number : At K mg "is_number" sNumber
  listing : At K mg "is_listing" sListing
  tupD : At K mg "is_tuple_of" sTupOf
  rowName : At K mg "is_row_name" sRowName
  row : At K mg "is_row" sRow
  sys : At K mg "is_system" sSys
  nm : At K mg "names_of" sNO
  spots : At K mg "spots_of" sSpots
  rt : At K mg "ring_through" sRT
  we : At K mg "weighed" sWe
  om : At K mg "one_row_more" sOM
  rts : At K mg "ring_tables" sRTs
  fr : At K mg "first_ring" sFR
  ls : At K mg "least_sums" sLS
  lw : At K mg "least_ways" sLW
  ckSy : At K mg "check_system" sCkSy
  ckSp : At K mg "check_spot" sCkSp
  ckRl : At K mg "check_ringless" sCkRl
  mo : At K mg "most" sMo
  clo : At K mg "closed" sClo
  hasB : At K mg "has_bool" sHasB
  just : At K mg "has_just_keys" sJust
  kept : At K mg "is_kept" sKept
  ptO : At K mg "is_point_of" sPtO
  pt : At K mg "is_point" sPt
section
variable {P : Program} {w : World} {K : PySem.W.Frag} {mg : Str → Option Value} {base : Heap}
theorem hasK_of {CX : CXT} {k : Nat} {x : Str} {st : Stmt} {ps ks : List Str} {sp : Sp} (h : At K mg x st)
    (to : ∀ (kV doc pm : Value) (an : Option Addr) (cdv ct : Value) (ws : List Value), ws.length = ks.length → bindArgs (PySem.W.fnOf x x (defArgs st) (defBody st) (defScope st) .none kV doc pm an cdv ct) ⟨[], ks.zip ws⟩ = pure (ps.zip ws.reverse))
    (ok : ∀ f fd, Fun K x x st f fd → FnOk P w K mg base CX k f fd ps sp) : HasK P w K mg base CX k x ps ks List.reverse sp := by
  obtain ⟨f, fd, m, F⟩ := h.ex
  have ok' := ok f fd F
  have kp := F.kp
  obtain ⟨oc, od, kV, doc, pm, an, cdv, ct, osl, rfl, lk, hcd⟩ := F.ex
  refine ⟨f, _, fun _ ws => ws.reverse, m, kp, ⟨fun s us ws inK hu hw => ?_, fun r rz => rz.reverse⟩, ok'⟩
  cases us with
  | nil => exact .of_eq (to kV doc pm an cdv ct ws hw)
  | cons _ _ => cases hu
/-- an own exception class, as the head leaves it -/
structure XFacts (K : PySem.W.Frag) (x : Str) (CS C : Addr) : Prop where
  a : PySem.W.nsIn K mainGlobals x = some (some (.ref C))
  h1 : PySem.W.findIn K (.ref C) "__getattribute__" = some (some (.builtin "BaseException.__getattribute__"))
  h2 : PySem.W.findIn K (.ref C) "__getattr__" = some none
  h3 : PySem.W.subIn K (.ref C) (.type "BaseException") = some true
  h4 : PySem.W.hasDictIn K C = true
  h5 : PySem.W.findIn K (.ref C) "__class__" = some (some (.builtin "object.__class__"))
  h6 : PySem.W.specialIn K (.builtin "object.__class__") "__get__" = some (some (.builtin "getset_descriptor.__get__"))
  h7 : PySem.W.takesIn K (.builtin "object.__class__") = some true
  h8 : PySem.W.mroIn K C (.type "object") = some true
  e1 : PySem.W.isClsIn K CS = true
  e2 : PySem.W.typeIn K (.ref CS) = some (.type "type")
  e3 : PySem.W.subIn K (.ref C) (.ref CS) = some true
  e4 : PySem.W.subIn K (.ref CS) (.type "BaseException") = some true
  kC : PySem.W.keepIn K (.ref C) = true
  ty : PySem.W.typeIn K (.ref C) = some (.type "type")
theorem kit_own (K : PySem.W.Frag) (C : Addr) : PySem.W.kitOne K (.ref C) (.ref C) = some true := by
  unfold PySem.W.kitOne
  rw [if_pos (beq_self_eq_true _)]
theorem exm_own {K : PySem.W.Frag} {C S : Addr} (b : PySem.W.subIn K (.ref S) (.type "BaseException") = some true) (i : PySem.W.isClsIn K S = true) (t : PySem.W.typeIn K (.ref S) = some (.type "type")) (u : PySem.W.subIn K (.ref C) (.ref S) = some true) : PySem.W.exmOne K (.ref C) (.ref S) = some true := by
  have i' : (PySem.W.clsIn K S).isSome = true := i
  unfold PySem.W.exmOne PySem.W.kitCls
  rw [if_pos (by rw [b]; rfl)]
  show (if ((PySem.W.clsIn K S).isSome && PySem.W.typeIn K (.ref S) == some (.type "type")) = true then PySem.W.subIn K (.ref C) (.ref S) else none) = some true
  rw [if_pos (by rw [i', t]; rfl)]
  exact u
theorem XFacts.cls {h : Heap} {x : Str} {CS C : Addr} (X : K.In h) (G : h.Ns mainGlobals mg) (f : XFacts K x CS C) : XCls K mg CS x C :=
  ⟨PySem.W.mg_of X G f.a, ⟨f.h1, f.h2, f.h3, f.h4, f.h5, f.h6, f.h7, f.h8⟩, kit_own K C, exm_own f.e4 f.e1 f.e2 f.e3⟩
theorem XFacts.mk2 {h : Heap} {x : Str} {CS C : Addr} (X : K.In h) (G : h.Ns mainGlobals mg) (f : XFacts K x CS C) (q : PySem.W.excIn K C [.type "ValueError", .type "Exception", .type "BaseException", .type "object"] "ValueError.__new__" = true) : XMk K mg x C :=
  ⟨PySem.W.mg_of X G f.a, q, f.kC, f.h3, f.ty⟩
/-- the exception class with a field -/
structure YFacts (P : Program) (K : PySem.W.Frag) (mg : Str → Option Value) (C fI : Addr) (fd : FuncData) : Prop where
  ini : PySem.W.findIn K (.ref C) "__init__" = some (some (.ref fI))
  ty : PySem.W.typeIn K (.ref fI) = some (.type "function")
  at_ : InitAt P K mg C sIni fI fd
  bind : L2.Binds K fd ["self", "ring"] []
  no : PySem.W.findIn K (.ref C) "ring" = some none
/-- the table of the law's lambdas -/
def TT (Pt : Addr) : List (Addr × Str) := [(Pt, (envOfC "law" (defScope sLaw) 0 0 .none).qual ++ "<lambda>")]
theorem tt_t {Pt : Addr} : TOk (TT Pt) Pt := ⟨List.mem_cons_self .., fun p hp _ => by rw [List.mem_singleton.mp hp]⟩
/-- all that the law calls -/
theorem callees {CS BS BN RG c fu : Addr} {tm : Tok} {oc kV doc pm ct : Value} {od an : Option Addr} {osl : Array (Option Value)} (N : Bl mg) (bdict : mg "dict" = none) (bsum : mg "sum" = none) (MR : mg "MOST_ROWS" = some (.int 400 tm))
    (D : Defs K mg) (PD : PDefs K mg) (lane : mg "LaneError" = some (.ref CS)) (bs : XCls K mg CS "BadSystem" BS) (bs2 : XMk K mg "BadSystem" BS) (bn : XCls K mg CS "BadName" BN) (bn2 : XMk K mg "BadName" BN) (rg : XCls K mg CS "Ringed" RG) (rg2 : YMkL P K mg base w "Ringed" "ring" RG) (xf : XfC K RG) (no : PySem.W.findIn K (.ref RG) "ring" = some none)
    (mods : ∃ o, base.get? sysModules = some o) (mu : mg "_law_pairs_right" = some (.ref fu)) (ku : PySem.W.keepIn K (.ref fu) = true)
    (lk : K.lookup fu = some ⟨oc, od, .func (PySem.W.fnOf "_law_pairs_right" "_law_pairs_right" (defArgs sPR) (defBody sPR) (defScope sPR) .none kV doc pm an (.ref c) ct), osl⟩) (hcd : PySem.W.codeIn K (.ref c) "_law_pairs_right" = true) : Callees P w K mg base CS BS BN RG := by
  have G_number : Has P w K mg base CX0 1 "is_number" ["thing"] spNum := has_of PD.number (fun f fd F => F.binds (ps := ["thing"]) fun _ _ _ _ _ _ us hl => match us, hl with | [_], _ => rfl) (fun f fd F => ok_number F N)
  have G_listing : Has P w K mg base CX0 1 "is_listing" ["thing"] spListing := has_of PD.listing (fun f fd F => F.binds (ps := ["thing"]) fun _ _ _ _ _ _ us hl => match us, hl with | [_], _ => rfl) (fun f fd F => ok_listing F N)
  have G_tupD : Has P w K mg base CX0 1 "is_tuple_of" ["thing", "count"] spTupD := has_of PD.tupD (fun f fd F => F.binds (ps := ["thing", "count"]) fun _ _ _ _ _ _ us hl => match us, hl with | [_, _], _ => rfl) (fun f fd F => ok_tupD F N)
  have G_rowName : Has P w K mg base CX0 1 "is_row_name" ["thing"] (spB rowNameD) := has_of PD.rowName (fun f fd F => F.binds (ps := ["thing"]) fun _ _ _ _ _ _ us hl => match us, hl with | [_], _ => rfl) (fun f fd F => ok_rowName F N)
  have G_row : Has P w K mg base CX0 2 "is_row" ["thing"] (spS rowD) := has_of PD.row (fun f fd F => F.binds (ps := ["thing"]) fun _ _ _ _ _ _ us hl => match us, hl with | [_], _ => rfl) (fun f fd F => ok_row F G_tupD G_rowName G_number)
  have G_sys : Has P w K mg base CX0 3 "is_system" ["thing"] (spS sysD) := has_of PD.sys (fun f fd F => F.binds (ps := ["thing"]) fun _ _ _ _ _ _ us hl => match us, hl with | [_], _ => rfl) (fun f fd F => ok_sys F N MR G_listing G_row)
  have G_nm : Has P w K mg base CX0 1 "names_of" ["rows"] spNm := has_of PD.nm (fun f fd F => F.binds (ps := ["rows"]) fun _ _ _ _ _ _ us hl => match us, hl with | [_], _ => rfl) (fun f fd F => ok_nm F N)
  have G_spots : Has P w K mg base CX0 2 "spots_of" ["rows"] spSpots := has_of PD.spots (fun f fd F => F.binds (ps := ["rows"]) fun _ _ _ _ _ _ us hl => match us, hl with | [_], _ => rfl) (fun f fd F => ok_spots F G_nm)
  have G_rt : Has P w K mg base CX0 1 "ring_through" ["rows", "came", "spot", "count"] (spRT P w) := has_of PD.rt (fun f fd F => F.binds (ps := ["rows", "came", "spot", "count"]) fun _ _ _ _ _ _ us hl => match us, hl with | [_, _, _, _], _ => rfl) (fun f fd F => ok_rt F N)
  have G_we : Has P w K mg base CX0 2 "weighed" ["rows", "start"] (spWe P w) := has_of PD.we (fun f fd F => F.binds (ps := ["rows", "start"]) fun _ _ _ _ _ _ us hl => match us, hl with | [_, _], _ => rfl) (fun f fd F => ok_we F N G_rt)
  have G_om : Has P w K mg base CX0 1 "one_row_more" ["rows", "old"] (spOM P w) := has_of PD.om (fun f fd F => F.binds (ps := ["rows", "old"]) fun _ _ _ _ _ _ us hl => match us, hl with | [_, _], _ => rfl) (fun f fd F => ok_om F )
  have G_rts : Has P w K mg base CX0 3 "ring_tables" ["rows"] (spRTs P w) := has_of PD.rts (fun f fd F => F.binds (ps := ["rows"]) fun _ _ _ _ _ _ us hl => match us, hl with | [_], _ => rfl) (fun f fd F => ok_rts F G_spots G_om)
  have G_fr : Has P w K mg base CX0 4 "first_ring" ["rows"] spFR := has_of PD.fr (fun f fd F => F.binds (ps := ["rows"]) fun _ _ _ _ _ _ us hl => match us, hl with | [_], _ => rfl) (fun f fd F => ok_fr F N G_we G_rts trivial)
  have G_ls : Has P w K mg base CX0 1 "least_sums" ["rows", "start"] (spLS P w) := has_of PD.ls (fun f fd F => F.binds (ps := ["rows", "start"]) fun _ _ _ _ _ _ us hl => match us, hl with | [_, _], _ => rfl) (fun f fd F => ok_ls F )
  have G_lw : Has P w K mg base CX0 2 "least_ways" ["rows", "start"] (spLW P w) := has_of PD.lw (fun f fd F => F.binds (ps := ["rows", "start"]) fun _ _ _ _ _ _ us hl => match us, hl with | [_, _], _ => rfl) (fun f fd F => ok_lw F N G_ls)
  have G_ckSy : Has P w K mg base (L2.CX P w) 4 "check_system" ["system"] (spCkSy BS) := has_of PD.ckSy (fun f fd F => F.binds (ps := ["system"]) fun _ _ _ _ _ _ us hl => match us, hl with | [_], _ => rfl) (fun f fd F => ok_ckSy F bs2 G_sys)
  have G_ckSp : Has P w K mg base (L2.CX P w) 3 "check_spot" ["system", "spot"] (spCkSp BN) := has_of PD.ckSp (fun f fd F => F.binds (ps := ["system", "spot"]) fun _ _ _ _ _ _ us hl => match us, hl with | [_, _], _ => rfl) (fun f fd F => ok_ckSp F N bn2 G_nm)
  have G_ckRl : Has P w K mg base (L2.CX P w) 5 "check_ringless" ["system"] (spCkRl BS RG) := has_of PD.ckRl (fun f fd F => F.binds (ps := ["system"]) fun _ _ _ _ _ _ us hl => match us, hl with | [_], _ => rfl) (fun f fd F => ok_ckRl F rg2 G_ckSy G_fr)
  have G_mo : Has P w K mg base (L2.CX P w) 6 "most" ["system", "a", "b"] (spMo BS BN RG) := has_of PD.mo (fun f fd F => F.binds (ps := ["system", "a", "b"]) fun _ _ _ _ _ _ us hl => match us, hl with | [_, _, _], _ => rfl) (fun f fd F => ok_mo F G_ckSy G_ckSp G_ckRl G_lw trivial)
  have G_clo : Has P w K mg base (L2.CX P w) 6 "closed" ["system"] (spClo P w BS RG) := has_of PD.clo (fun f fd F => F.binds (ps := ["system"]) fun _ _ _ _ _ _ us hl => match us, hl with | [_], _ => rfl) (fun f fd F => ok_clo F G_ckRl G_spots G_ls)
  have G_hasB : Has P w K mg base CX0 3 "has_bool" ["thing"] spHasB := has_of PD.hasB (fun f fd F => F.binds (ps := ["thing"]) fun _ _ _ _ _ _ us hl => match us, hl with | [_], _ => rfl) (fun f fd F => ok_hasB F N (has_of PD.hasB (fun f fd F => F.binds (ps := ["thing"]) fun _ _ _ _ _ _ us hl => match us, hl with | [_], _ => rfl) (fun f fd F => ok_hasB_no F)))
  have G_just : Has P w K mg base CX0 4 "has_just_keys" ["thing", "keys"] spJust := has_of PD.just (fun f fd F => F.binds (ps := ["thing", "keys"]) fun _ _ _ _ _ _ us hl => match us, hl with | [_, _], _ => rfl) (fun f fd F => ok_just F N G_hasB bdict)
  have G_kept : Has P w K mg base CX0 1 "is_kept" ["row", "point"] spKept := has_of PD.kept (fun f fd F => F.binds (ps := ["row", "point"]) fun _ _ _ _ _ _ us hl => match us, hl with | [_, _], _ => rfl) (fun f fd F => ok_kept F )
  have G_ptO : Has P w K mg base CX0 5 "is_point_of" ["system", "thing"] spPt := has_of PD.ptO (fun f fd F => F.binds (ps := ["system", "thing"]) fun _ _ _ _ _ _ us hl => match us, hl with | [_, _], _ => rfl) (fun f fd F => ok_ptO F N G_just G_nm G_number G_kept)
  have G_pt : Has P w K mg base (L2.CX P w) 6 "is_point" ["system", "thing"] spPt := has_of PD.pt (fun f fd F => F.binds (ps := ["system", "thing"]) fun _ _ _ _ _ _ us hl => match us, hl with | [_, _], _ => rfl) (fun f fd F => ok_pt F G_ckSy G_ptO)
  have G_mixed : Has P w K mg base CX0 1 "_law_mixed_up" ["state"] spMixed := has_of D.mixed (fun f fd F => F.binds (ps := ["state"]) fun _ _ _ _ _ _ us hl => match us, hl with | [_], _ => rfl) (fun f fd F => ok_mixed F N)
  have G_take : Has P w K mg base CX0 2 "_law_draw" ["state", "size_here"] spTake := has_of D.take (fun f fd F => F.binds (ps := ["state", "size_here"]) fun _ _ _ _ _ _ us hl => match us, hl with | [_, _], _ => rfl) (fun f fd F => ok_take F N G_mixed)
  have G_pick : Has P w K mg base CX0 3 "_law_pick" ["state", "several"] spPick := has_of D.pick (fun f fd F => F.binds (ps := ["state", "several"]) fun _ _ _ _ _ _ us hl => match us, hl with | [_, _], _ => rfl) (fun f fd F => ok_pick F N G_take)
  have G_begun : Has P w K mg base CX0 1 "_law_begun" ["script"] (spBegun K) := has_of D.begun (fun f fd F => F.binds (ps := ["script"]) fun _ _ _ _ _ _ us hl => match us, hl with | [_], _ => rfl) (fun f fd F => ok_begun F N)
  have G_shuf : Has P w K mg base CX0 3 "_law_in_any_order" ["state", "several"] spShuf := has_of D.shuf (fun f fd F => F.binds (ps := ["state", "several"]) fun _ _ _ _ _ _ us hl => match us, hl with | [_, _], _ => rfl) (fun f fd F => ok_shuf F N G_take)
  have G_ti : Has P w K mg base CX0 4 "_law_titles" ["state", "many_here"] spTi := has_of D.ti (fun f fd F => F.binds (ps := ["state", "many_here"]) fun _ _ _ _ _ _ us hl => match us, hl with | [_, _], _ => rfl) (fun f fd F => ok_ti F G_shuf)
  have G_fl : Has P w K mg base CX0 3 "_law_floors" ["state", "titles", "top"] spFl := has_of D.fl (fun f fd F => F.binds (ps := ["state", "titles", "top"]) fun _ _ _ _ _ _ us hl => match us, hl with | [_, _, _], _ => rfl) (fun f fd F => ok_fl F G_take)
  have G_ro : Has P w K mg base CX0 4 "_law_rows" ["state", "titles", "many_here", "top"] spRo := has_of D.ro (fun f fd F => F.binds (ps := ["state", "titles", "many_here", "top"]) fun _ _ _ _ _ _ us hl => match us, hl with | [_, _, _, _], _ => rfl) (fun f fd F => ok_ro F N G_take G_shuf)
  have G_fe : Has P w K mg base CX0 5 "_law_few" ["state"] spFe := has_of D.fe (fun f fd F => F.binds (ps := ["state"]) fun _ _ _ _ _ _ us hl => match us, hl with | [_], _ => rfl) (fun f fd F => ok_fe F G_take G_shuf G_pick G_ti G_fl G_ro)
  have G_sd : Has P w K mg base CX0 1 "_law_sides" ["rows"] spSd := has_of D.sd (fun f fd F => F.binds (ps := ["rows"]) fun _ _ _ _ _ _ us hl => match us, hl with | [_], _ => rfl) (fun f fd F => ok_sd F N)
  have G_cl : Has P w K mg base CX0 2 "_law_closest" ["rows"] (spCl P w) := has_of D.cl (fun f fd F => F.binds (ps := ["rows"]) fun _ _ _ _ _ _ us hl => match us, hl with | [_], _ => rfl) (fun f fd F => ok_cl F N bdict G_sd)
  have G_hr : Has P w K mg base CX0 3 "_law_has_ring" ["rows"] spHr := has_of D.hr (fun f fd F => F.binds (ps := ["rows"]) fun _ _ _ _ _ _ us hl => match us, hl with | [_], _ => rfl) (fun f fd F => ok_hr F G_sd G_cl)
  have G_sm : Has P w K mg base CX0 1 "_law_sum_of" ["rows", "way"] spSm := has_of D.sm (fun f fd F => F.binds (ps := ["rows", "way"]) fun _ _ _ _ _ _ us hl => match us, hl with | [_, _], _ => rfl) (fun f fd F => ok_sm F bsum)
  have G_ws : Has P w K mg base CX0 1 "_law_ways" ["rows", "begin", "end", "size_here"] spWs := has_of D.ws (fun f fd F => F.binds (ps := ["rows", "begin", "end", "size_here"]) fun _ _ _ _ _ _ us hl => match us, hl with | [_, _, _, _], _ => rfl) (fun f fd F => ok_ws F N)
  have G_fw : Has P w K mg base CX0 2 "_law_first_way" ["rows", "begin", "end", "limit"] spFW := has_of D.fw (fun f fd F => F.binds (ps := ["rows", "begin", "end", "limit"]) fun _ _ _ _ _ _ us hl => match us, hl with | [_, _, _, _], _ => rfl) (fun f fd F => ok_fw F N G_sd G_ws G_sm)
  have G_frl : Has P w K mg base CX0 2 "_law_first_ring" ["rows"] spFRl := has_of D.frl (fun f fd F => F.binds (ps := ["rows"]) fun _ _ _ _ _ _ us hl => match us, hl with | [_], _ => rfl) (fun f fd F => ok_frl F N G_sd G_ws G_sm)
  have G_kp : Has P w K mg base CX0 1 "_law_keeps" ["rows", "point_here"] spKp := has_of D.kp (fun f fd F => F.binds (ps := ["rows", "point_here"]) fun _ _ _ _ _ _ us hl => match us, hl with | [_, _], _ => rfl) (fun f fd F => ok_kp F bdict)
  have G_lf : Has P w K mg base CX0 3 "_law_lifted" ["rows", "titles", "begin", "end", "number"] spLf := has_of D.lf (fun f fd F => F.binds (ps := ["rows", "titles", "begin", "end", "number"]) fun _ _ _ _ _ _ us hl => match us, hl with | [_, _, _, _, _], _ => rfl) (fun f fd F => ok_lf F G_cl)
  have G_bx : Has P w K mg base CX0 1 "_law_box" ["titles", "low", "high"] spBx := has_of D.bx (fun f fd F => F.binds (ps := ["titles", "low", "high"]) fun _ _ _ _ _ _ us hl => match us, hl with | [_, _, _], _ => rfl) (fun f fd F => ok_bx F N bdict)
  have G_re : Has P w K mg base CX0 2 "_law_reached" ["rows", "titles", "point_here", "begin", "end", "number"] spRe := has_of D.re (fun f fd F => F.binds (ps := ["rows", "titles", "point_here", "begin", "end", "number"]) fun _ _ _ _ _ _ us hl => match us, hl with | [_, _, _, _, _, _], _ => rfl) (fun f fd F => ok_re F N bdict G_bx G_kp)
  have mok : HasK P w K mg base (L2.CX P w) 6 "most" ["system", "a", "b"] ["b", "a", "system"] List.reverse (spMo BS BN RG) := hasK_of PD.mo (fun _ _ _ _ _ _ ws hl => match ws, hl with | [_, _, _], _ => rfl) (fun f fd F => ok_mo F G_ckSy G_ckSp G_ckRl G_lw trivial)
  have clk : HasK P w K mg base (L2.CX P w) 6 "closed" ["system"] ["system"] List.reverse (spClo P w BS RG) := hasK_of PD.clo (fun _ _ _ _ _ _ ws hl => match ws, hl with | [_], _ => rfl) (fun f fd F => ok_clo F G_ckRl G_spots G_ls)
  have CA : CaughtAt K mg := by
    obtain ⟨f, fd, m, F⟩ := D.caught.ex
    exact ⟨f, fd, m, F.kp, F.binds (ps := ["work"]) (fun _ _ _ _ _ _ us hl => match us, hl with | [_], _ => rfl), F⟩
  have CP : CalP P w K mg base BS BN RG := ⟨N, G_mo, mok, G_clo, clk, G_cl, G_fw, G_lf, mods⟩
  have GPr : HasG P w K mg base CX0 8 "_law_pairs_right" ["state", "rows", "titles"] spPR := ⟨fu, _, mu, ku, (fun_mk lk hcd ku).binds (ps := ["state", "rows", "titles"]) (fun _ _ _ _ _ _ us hl => match us, hl with | [_, _, _], _ => rfl), ok_pr lk hcd CP⟩
  exact ⟨N, CP, GPr, G_begun, G_pick, G_fe, G_sd, G_hr, G_frl, G_re, G_pt, CA, lane, bs, bn, rg, xf, no, bdict⟩
theorem run_ats {fa a c Pt CS BS BN RG : Addr} {ns : List Int} {s : Shared} {oc kV doc pm ct : Value} {od an : Option Addr} {osl : Array (Option Value)}
    (C : ∀ base : Heap, K.In base → base.Ns mainGlobals mg → (∃ o, base.get? sysModules = some o) → Callees P w K mg base CS BS BN RG)
    (lk : K.lookup fa = some ⟨oc, od, .func (PySem.W.fnOf "law" "law" (defArgs sLaw) (defBody sLaw) (defScope sLaw) .none kV doc pm an (.ref c) ct), osl⟩) (hcd : PySem.W.codeIn K (.ref c) "law" = true) (hl : ns.length ≤ 63) : RunAts P w K mg fa a [(c, Pt)] ns s := by
  intro base H inB nsB mods TB e0 hP hS
  have TB1 := TB (c, Pt) (List.mem_cons_self ..)
  have C := C base inB nsB mods
  have hr : Room 31 callerA := ⟨rfl, by decide, by decide⟩
  refine run_ofS (k := 30) (N := nLaw) (ps := ["script"]) (us := [.ref a]) (vs := [.ref a]) lk hcd scLaw hr e0 (.of_eq rfl) (.cons rfl .nil) rfl fun hr' => ?_
  have tabs : Tabs (TT Pt) H := fun p hp => by
    rw [List.mem_singleton.mp hp]
    exact TabS.nil (hP (c, Pt) (List.mem_cons_self ..))
  obtain ⟨t, ht, hq⟩ := law_body (P := P) (w := w) (outer := []) (s := s) (H0 := H) (E := fun _ _ _ => False) (f := fa) (Q := fun v _ => v = .bl true) (vs := [.ref a]) C hr' rfl TB1 tt_t ⟨a, ns, rfl, hS, hl, tabs, fun _ => rfl⟩
  exact ⟨t, ht.nox, hq⟩
abbrev VE : List Value := [.type "ValueError", .type "Exception", .type "BaseException", .type "object"]
theorem fin02 {h : Heap} {fa : Addr} (X : K.In h) (G : h.Ns mainGlobals mg) (hfa : mg "law" = some (.ref fa)) (N : Bl mg) (zd : PySem.W.nsIn K mainGlobals "dict" = some none) (zm : PySem.W.nsIn K mainGlobals "sum" = some none) (D : Defs K mg) (PD : PDefs K mg) {tm : Tok} (MR : PySem.W.nsIn K mainGlobals "MOST_ROWS" = some (some (.int 400 tm)))
    {CS BS BN RG fI : Addr} {fdI : FuncData} (lane : PySem.W.nsIn K mainGlobals "LaneError" = some (some (.ref CS))) (bs : XFacts K "BadSystem" CS BS) (qs : PySem.W.excIn K BS [.type "ValueError", .type "Exception", .type "BaseException", .type "object"] "ValueError.__new__" = true) (bn : XFacts K "BadName" CS BN) (qn : PySem.W.excIn K BN [.type "ValueError", .type "Exception", .type "BaseException", .type "object"] "ValueError.__new__" = true)
    (rg : XFacts K "Ringed" CS RG) (yb : YFacts P K mg RG fI fdI)
    {f3 c Pt fu cu : Addr} {oc kV doc pm ct oc2 kV2 doc2 pm2 ct2 : Value} {od an dd od2 an2 : Option Addr} {osl sl osl2 : Array (Option Value)} {vs : Array Value} (a : PySem.W.nsIn K mainGlobals "law" = some (some (.ref f3)))
    (lk : K.lookup f3 = some ⟨oc, od, .func (PySem.W.fnOf "law" "law" (defArgs sLaw) (defBody sLaw) (defScope sLaw) .none kV doc pm an (.ref c) ct), osl⟩) (hcd : PySem.W.codeIn K (.ref c) "law" = true)
    (lc : K.lookup c = some ⟨.type "code", dd, .fields vs, sl⟩) (cf : CodeF vs Pt) (cP : c ≠ Pt) (kP : K.lookup Pt = none)
    (a2 : PySem.W.nsIn K mainGlobals "_law_pairs_right" = some (some (.ref fu))) (k2 : PySem.W.keepIn K (.ref fu) = true)
    (lk2 : K.lookup fu = some ⟨oc2, od2, .func (PySem.W.fnOf "_law_pairs_right" "_law_pairs_right" (defArgs sPR) (defBody sPR) (defScope sPR) .none kV2 doc2 pm2 an2 (.ref cu) ct2), osl2⟩) (hcd2 : PySem.W.codeIn K (.ref cu) "_law_pairs_right" = true) :
    ∃ (c Pt : Addr), DefC K mg "law" fa c Pt ∧ ∀ (s : Shared) (a : Addr) (ns : List Int), ns.length ≤ 63 → RunAts P w K mg fa a [(c, Pt)] ns s := by
  have e := PySem.W.mg_of X G a
  rw [hfa] at e
  injection e with e
  injection e with e
  subst e
  have mu := PySem.W.mg_of X G a2
  exact ⟨c, Pt, ⟨_, _, dd, vs, sl, hfa, lk, rfl, rfl, lc, cf, cP, kP⟩, fun s a ns hl => run_ats (fun base inB nsB mods => callees N (PySem.W.mg_none_of X G zd) (PySem.W.mg_none_of X G zm) (PySem.W.mg_of X G MR) D PD (PySem.W.mg_of X G lane)
    (bs.cls X G) (bs.mk2 X G qs) (bn.cls X G) (bn.mk2 X G qn) (rg.cls X G) ⟨PySem.W.mg_of X G rg.a, yb.at_.oex, ⟨fI, fdI, yb.ini, yb.ty, ok_initL yb.at_ txt_ini ⟨by decide, by decide, by decide⟩ ⟨by decide, by decide⟩, yb.bind⟩, yb.no⟩ ⟨rg.h1, rg.h2, rg.h3, rg.h4⟩ yb.no mods mu k2 lk2 hcd2) lk hcd hl⟩
end
theorem y_mk {P : Program} {K : PySem.W.Frag} {h : Heap} {mg : Str → Option Value} {C fI cda cc : Addr} {oc kV doc pm ct ccl cl : Value} {od an cdd cld : Option Addr} {osl ccs csl : Array (Option Value)} {qual file : Str} {vs : Array Value} {tf : Tok}
    {nm q : Str} {N : Addr} {bs bm : List Value} {sn sub ab col dd k0 k1 k2 k3 k5} (X : K.In h) (G : h.Ns mainGlobals mg)
    (ini : PySem.W.findIn K (.ref C) "__init__" = some (some (.ref fI))) (ty : PySem.W.typeIn K (.ref fI) = some (.type "function"))
    (lk : K.lookup fI = some ⟨oc, od, .func (PySem.W.ksFn "__init__" qual (defArgs sIni) (defBody sIni) (defScope sIni) .none kV doc pm an (.ref cda) ct cc), osl⟩) (hcd : PySem.W.codeIn K (.ref cda) qual = true)
    (lc : K.lookup cda = some ⟨ccl, cdd, .fields vs, ccs⟩) (hv : vs[2]? = some (.str file tf)) (hf : ((P.main.file : Str) == file) = true) (lcell : K.lookup cc = some ⟨cl, cld, .cell (some (.ref C)), csl⟩)
    (cls : PySem.W.isClsIn K C = true) (self : PySem.W.mroIn K C (.ref C) = some true) (sup : PySem.W.nsIn K mainGlobals "super" = some none) (top : (P.main.scope.names.lookup ("super" : Str)).isSome = false)
    (along : PySem.W.ks_superIn K C C "__init__" = some (some (.builtin "ValueError.__init__"))) (isV : PySem.W.subIn K (.ref C) (.type "ValueError") = some true) (opq : PySem.W.nsIn K cStatics "thirdparty.any" = some none)
    (lC : K.lookup C = some (excClassObj nm q C N bs bm true sn sub ab col dd k0 k1 k2 k3 k5 "ValueError.__new__")) (hbm : PySem.HandSPX.refsVE bm = true) (sa : PySem.W.findIn K (.ref C) "__setattr__" = some (some (.builtin "object.__setattr__")))
    (exC : PySem.W.subIn K (.ref C) (.type "BaseException") = some true) (tyC : PySem.W.typeIn K (.ref C) = some (.type "type")) (kC : PySem.W.keepIn K (.ref C) = true) (no : PySem.W.findIn K (.ref C) "ring" = some none) :
    YFacts P K mg C fI (PySem.W.ksFn "__init__" qual (defArgs sIni) (defBody sIni) (defScope sIni) .none kV doc pm an (.ref cda) ct cc) := by
  have cls' : ∃ cd, PySem.W.clsIn K C = some cd := by
    have c : (PySem.W.clsIn K C).isSome = true := cls
    exact Option.isSome_iff_exists.mp c
  exact ⟨ini, ty, ⟨⟨oc, od, kV, doc, pm, an, cda, cc, ct, osl, qual, rfl, lk, hcd, ⟨ccl, cdd, vs, ccs, file, tf, lc, hv, hf⟩, cl, cld, csl, lcell⟩, cls', self, PySem.W.mg_none_of X G sup, top, along, isV, opq,
    ⟨⟨nm, q, N, bs, bm, sn, sub, ab, col, dd, k0, k1, k2, k3, k5, lC, hbm⟩, sa, exC, tyC, kC⟩⟩, .all (fun us hl => match us, hl with | [_, _], _ => rfl), no⟩
end Lm
open PySem PySem.W PyProof.Rows
set_option Elab.async false
set_option maxRecDepth 100000 in
set_option maxHeartbeats 0 in
theorem PySem.Challenge.cw_lanesmeet_k02_greatest_differences_holds : PySem.Challenge.rw_lanesmeet_k02_greatest_differences.Holds := by
  w_on; o_law; k_head; (case hw => w_witness2)
  k_fill
  refine Lm.walk_guard (l := PySem.Challenge.rw_lanesmeet_k02_greatest_differences) (n := 63) rfl (by decide) rfl ?rec ?imp (fun w h Y => PySem.W.km_in_of Y) ?F
  case rec => rfl
  case imp => rfl
  case F =>
    intro w mg fa h KX G hmg
    refine' Lm.fin02 KX G hmg ?qN ?qd ?qm ?qD ?qP ?qMR ?ql ?qbs ?qqs ?qbn ?qqn ?qrg ?qyb ?qa ?qlk ?qhcd ?qlc ?qcf ?qcP ?qkP ?qa2 ?qk2 ?qlk2 ?qhcd2
    (case qa => k_is); (case qlk => k_is); (case qhcd => k_is); (case qlc => k_is)
    (case qa2 => k_is); (case qk2 => k_is); (case qlk2 => k_is); (case qhcd2 => k_is)
    (case qd => k_is); (case qm => k_is); (case qMR => k_is); (case ql => k_is)
    (case qN => refine' Lm.bl_mk KX G ?_ ?_ ?_ ?_ ?_ ?_ ?_ ?_ ?_ ?_ ?_ ?_ ?_ ?_ ?_ ?_ <;> k_is)
    (case qD => refine' ⟨?_, ?_, ?_, ?_, ?_, ?_, ?_, ?_, ?_, ?_, ?_, ?_, ?_, ?_, ?_, ?_, ?_, ?_, ?_, ?_, ?_⟩ <;> (refine' Lm.at_mk KX G ?ya ?yl ?yc ?yk; (case ya => k_is); (case yl => k_is); (case yc => k_is); (case yk => k_is)))
    (case qP => refine' ⟨?_, ?_, ?_, ?_, ?_, ?_, ?_, ?_, ?_, ?_, ?_, ?_, ?_, ?_, ?_, ?_, ?_, ?_, ?_, ?_, ?_, ?_, ?_, ?_, ?_⟩ <;> (refine' Lm.at_mk KX G ?ya ?yl ?yc ?yk; (case ya => k_is); (case yl => k_is); (case yc => k_is); (case yk => k_is)))
    (case qbs => refine' ⟨?rbza, ?rbz1, ?rbz2, ?rbz3, ?rbz4, ?rbz5, ?rbz6, ?rbz7, ?rbz8, ?rbzd, ?rbze, ?rbzf, ?rbzg, ?rbzk, ?rbzt⟩; (case rbza => k_is); all_goals k_is)
    (case qqs => k_exc)
    (case qbn => refine' ⟨?rdza, ?rdz1, ?rdz2, ?rdz3, ?rdz4, ?rdz5, ?rdz6, ?rdz7, ?rdz8, ?rdzd, ?rdze, ?rdzf, ?rdzg, ?rdzk, ?rdzt⟩; (case rdza => k_is); all_goals k_is)
    (case qqn => k_exc)
    (case qrg => refine' ⟨?rcza, ?rcz1, ?rcz2, ?rcz3, ?rcz4, ?rcz5, ?rcz6, ?rcz7, ?rcz8, ?rczd, ?rcze, ?rczf, ?rczg, ?rczk, ?rczt⟩; (case rcza => k_is); all_goals k_is)
    (case qyb => refine' Lm.y_mk KX G ?y1 ?y2 ?y3 ?y4 ?y5 ?y6 ?y7 ?y8 ?y9 ?ya0 ?yb0 ?yc0 ?yd0 ?ye0 ?yf0 ?yg0 ?yh0 ?yi0 ?yj0 ?yk0 ?yl0 ?ym0; (case y1 => k_is); (case y3 => k_is); (case y5 => k_is); (case y8 => k_is); (case yg0 => k_is); (case y6 => rfl); (case y7 => rfl); (case yc0 => rfl); (case yh0 => rfl); (case yd0 => first | ks_is | k_is | rfl | decide +kernel); all_goals k_is)
    case qcf => exact ⟨_, _, _, _, _, _, _, rfl, rfl, rfl, rfl, rfl, rfl⟩
    case qcP => decide
    case qkP => rfl
