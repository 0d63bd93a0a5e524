import PyProof.Rows.All
import Wide.All
import OpenK.AllK
import Wide.FinOn
import PyProof.EqAt
import PyProof.EqKinds
import PyProof.TupleCall
import KE.KIsAll
import KE.KTryMore
import HandS.ForMost
import HandS.Exc
import HandS.TryOnly
import HandS.ExcOwn
import HandS.WordsExc
import HandS.IsInst
import HandS.ExcIs
import HandS.StrMore
import HandS.RaiseMore
import HandS.Evl
import HandS.Walk
import PySem.Challenge.RW_wordmend_k01_words
set_option Elab.async false
set_option linter.all false
set_option maxRecDepth 100000
set_option maxHeartbeats 2000000
/-! Our own layer: a caught error that is kept behind its suite, as an object that the heap tells of; and some rules of values. -/
namespace L2
open PySem PySem.Spec PyProof.Rows
/-- a kept error at a: its class, its own dict -/
def ErrO (cls : Value) (d : Option Addr) (a : Addr) : HO :=
  .ext fun h => ∃ oe vs, h.get? a = some oe ∧ oe.cls = cls ∧ oe.dict = d ∧ oe.data = .fields vs
section
variable {X : Cx} {pins : List (Addr × Obj)} {σ : St} {H : Hp} {s sI : Shared} {a : Addr} {o : HO}
/-- an object that came since the state sI is told of from now on -/
theorem Inv.track (I : Inv X pins σ H s) (J : Inv X pins σ H sI) (new : sI.heap.get? a = none) (hx : a ∉ X.ex)
    (na : H a = none) (nL : X.env.locals ≠ a) (nC : ∀ x c, X.env.cells.lookup x = some c → c ≠ a)
    (ok : ObjOk X.prog X.w (upd H a o) s.heap a o) : Inv X pins σ (upd H a o) s where
  ok := I.ok
  os := I.os
  bare := I.bare
  base :=
    { keep := I.base.keep
      slot := I.base.slot
      free := fun b ob q n hb => by
        have : b ≠ a := by
          rintro rfl
          obtain ⟨o', e⟩ := J.base.there b ob q hx
          rw [new] at e; cases e
        rw [upd_ne this]; exact I.base.free b ob q n hb
      there := I.base.there
      tups := fun b xs q => by
        have z := I.base.tups b xs q
        rw [upd_ne (ne_of_none z na)]; exact z
      frzs := fun b ob u q => by
        have z := I.base.frzs b ob u q
        rw [upd_ne (ne_of_none z na)]; exact z
      tbls := fun b ps q => by
        obtain ⟨m, z⟩ := I.base.tbls b ps q
        exact ⟨m, by rw [upd_ne (ne_of_none z na)]; exact z⟩ }
  loc := I.loc
  cell := I.cell
  free := by rw [upd_ne nL]; exact I.free
  freeC := fun x c e => by rw [upd_ne (nC x c e)]; exact I.freeC x c e
  pin := fun p hp => by
    obtain ⟨e, n, r⟩ := I.pin p hp
    have z := (J.pin p hp).1
    have : p.1 ≠ a := fun q => by rw [q, new] at z; cases z
    exact ⟨e, by rw [upd_ne this]; exact n, r⟩
  hok := fun b u q => by
    by_cases hb : b = a
    · subst hb; rw [upd_same] at q; cases q; exact ok
    · rw [upd_ne hb] at q
      exact (I.hok b u q).stay (fun _ _ _ r => r) (fun c r => by rw [upd_ne (ne_of_none r na)]; exact r)
        fun c xs r => by rw [upd_ne (ne_of_none r na)]; exact r
  len := I.len
/-- into the suite, the pins as they are -/
theorem Inv.intoSuite (I : Inv X pins σ H s) (a : Addr) : Inv (X.suite a (X.pn ++ pins)) [] σ H s where
  ok := I.ok.suite _ _
  os := I.os
  bare := I.bare
  base := I.base
  loc := I.loc
  cell := I.cell
  free := I.free
  freeC := I.freeC
  pin := fun p hp => I.pin p (by
    rw [List.append_nil] at hp
    exact hp)
  hok := I.hok
  len := I.len
theorem Inv.outSuite {pn' : List (Addr × Obj)} (I : Inv (X.suite a (X.pn ++ pins)) pn' σ H s) (ok : X.Ok) : Inv X pins σ H s where
  ok := ok
  os := I.os
  bare := I.bare
  base := I.base
  loc := I.loc
  cell := I.cell
  free := I.free
  freeC := I.freeC
  pin := fun p hp => I.pin p (List.mem_append_left _ hp)
  hok := I.hok
  len := I.len
end
/-- except x as n, the error told of in the heap from the suite on -/
def wKeep (K : PySem.W.Frag) (c : Value) (i : Nat) (ts : TS) (Wout : WX) (D : Ends) : WX := fun cls d σ H =>
  ∃ b, PySem.W.exmOne K cls c = some b ∧
    (b = true → ∀ a, H a = none →
      ts { nx := fun σ' H' => D.nx (σ'.set i none) H', rt := D.rt, bk := fun σ' H' => D.bk (σ'.set i none) H', ct := fun σ' H' => D.ct (σ'.set i none) H' }
        (σ.set i (some (.ref a))) (upd H a (ErrO cls d a))) ∧
    (b = false → Wout cls d σ H)
section
variable {X : Cx} {x n : Str} {c : Value} {i : Nat} {body suite : List Stmt} {b₀ : Stmt} {np pos pos' : Pos} {tb : WX → TS} {ts : TS} {Wout : WX}
theorem ps_try_keep (hs : X.stack = X.env :: X.outer) (hf : X.env.frame = some X.env.locals) (hN : X.N.Nodup)
    (hi : X.N[i]? = some n) (hln : X.env.kindOf n = some .local) (hc : Names X x c) (tk : Takes X Wout) (hex : X.ex = [])
    (hb : ∀ (W : WX) (pn : List (Addr × Obj)) (xe : Value → Shared → Prop), Takes (X.tr pn xe) W →
      PassesOwn (model X.prog X.w) X.A X.env xe → PSs (X.tr pn xe) body (tb W))
    (hsu : ∀ (a : Addr) (pn : List (Addr × Obj)), PSs (X.suite a pn) (b₀ :: suite) ts) :
    PS X (.Try body [.ExceptHandler (some (.Name x np)) (some n) (b₀ :: suite) pos'] [] [] pos)
      (fun D σ H => tb (wKeep X.K c i ts Wout D) D σ H) := by
  constructor
  intro pins s σ H D I h
  have ok := I.ok
  have frames : X.A.frames = some (X.env :: X.outer) := by
    rw [ok.frames, hs]
  have nloc : Loc X.env.scope n := Or.inl hln
  apply wpAny_Try_except
  have B := hb (wKeep X.K c i ts Wout D) (X.pn ++ pins)
    (fun e s₁ => wpAny (model X.prog X.w) X.A (noteFrame e X.env)
      (fun _ s₂ => wpAny (model X.prog X.w) X.A (setFlight e none)
        (fun _ s₃ => wpAny (model X.prog X.w) X.A
          (handleBy e X.env [.ExceptHandler (some (.Name x np)) (some n) (b₀ :: suite) pos'])
          (SP X pins D) X.xe s₃) X.xe s₂) X.xe s₁)
    (fun u s' air => ?_) PassesOwn.looking
  · refine wpAny_mono (B.run [] s σ H D (I.toTry _) h) (fun f s1 q => ?_) (fun _ _ z => z)
    match f, q with
    | .next, ⟨σ1, H1, J1, z⟩ => exact wpAny_execs_nil ⟨σ1, H1, J1.ofTry ok, z⟩
    | .brk, ⟨σ1, H1, J1, z⟩ => exact ⟨σ1, H1, J1.ofTry ok, z⟩
    | .cont, ⟨σ1, H1, J1, z⟩ => exact ⟨σ1, H1, J1.ofTry ok, z⟩
    | .ret _, ⟨v, σ1, H1, J1, r, z⟩ => exact ⟨v, σ1, H1, J1.ofTry ok, r, z⟩
  · obtain ⟨a, G, sI, pins1, σ1, H1, cls, d, hu, J0, ground, up, sky, na, os, bare, b, hb1, yes, no⟩ := air
    subst hu
    have J : Inv X pins σ1 H1 sI := J0.ofTry ok
    have sky2 : Sky G (X.env :: X.outer) a (Zc cls d) X.env.locals s'.heap := hs ▸ sky
    show wpAny (model X.prog X.w) X.A (noteFrame (.ref a) X.env) _ _ _
    apply Sky.land Zc.steady frames hf sky2
    intro h3 fly up3
    have J3 : Inv X pins σ1 H1 { s' with heap := h3 } := J.landed ground fly.1 (up.trans up3) os bare
    obtain ⟨oe3, vs3, get3, z3, dat3⟩ := fly.there
    have nfr : a ∉ frs (X.env :: X.outer) := fun hm => by
      obtain ⟨_, ob, e, hnf⟩ := fly.2.2.1.mem hm
      rw [get3] at e
      cases e
      exact hnf _ dat3
    have nL : a ≠ X.env.locals := fun z => nfr (List.mem_filterMap.mpr ⟨X.env, List.mem_cons_self, by rw [hf, z]⟩)
    have nF : a ∉ X.fs := fun hm => by
      obtain ⟨e, he, q⟩ := List.mem_filterMap.mp hm
      exact nfr (List.mem_filterMap.mpr ⟨e, List.mem_cons_of_mem _ he, q⟩)
    have fresh : sI.heap.get? a = none := by
      cases e : sI.heap.get? a with
      | none => rfl
      | some ob =>
        have z := ground a ob e (by rw [hs]; exact nfr)
        rw [fly.2.1] at z
        cases z
    have S3 := J3.suite get3 dat3 na nL nF
    refine wpAny_handleBy_cons (codeAny_handlers_test ?_) (fun q => nomatch q)
    have LT : PySem.W.Looks (model X.prog X.w) h3 (typeOf (.ref a)) cls := fun _ _ _ _ k q =>
      wpAny_typeOf_ref (k _ _ get3) (by rw [z3.1]; exact q)
    have LM := PySem.W.exm_one (M := model X.prog X.w) J3.kIn LT hb1
    have named : ∀ {Q E : Value → Shared → Prop}, Q c { s' with heap := h3 } →
        wpAny (model X.prog X.w) (X.A.mark (some (.ref a))) (eval (.Name x np) X.env) Q E { s' with heap := h3 } := fun {Q E} q => by
      obtain ⟨hg, hdbg, hm | ⟨hm, hv, hnn⟩⟩ := hc
      · exact ld_glob (X := X.suite a ((a, oe3) :: (X.pn ++ pins))) S3 hg hm q hdbg
      · exact ld_blt (X := X.suite a ((a, oe3) :: (X.pn ++ pins))) S3 hg hm hv q hnn hdbg
    apply named
    apply LM.here
    cases b with
    | true =>
      apply codeAny_handlers_suite_as
      apply HandSPX.lands_againZ fly
      intro h4 fly4 up4
      have J4 : Inv X pins σ1 H1 { s' with heap := h4 } := J.landed ground fly4.1 ((up.trans up3).trans up4) os bare
      obtain ⟨oe4, vs4, get4, z4, dat4⟩ := fly4.there
      have nC : ∀ y k, X.env.cells.lookup y = some k → k ≠ a := fun y k e z => by
        obtain ⟨v, oc, q1, q2⟩ := J4.cell y k e
        have q3 : h4.get? k = some oc := q1
        rw [z, get4] at q3
        cases q3
        rw [dat4] at q2
        cases q2
      have T4 : Inv X pins σ1 (upd H1 a (ErrO cls d a)) { s' with heap := h4 } :=
        J4.track J fresh (by rw [hex]; exact fun z => nomatch z) na (Ne.symm nL) nC
          ⟨⟨oe4, _, get4, z4.1, z4.2, dat4⟩, ⟨_, get4⟩, fun _ _ ⟨oe, vs, e1, e2⟩ k => ⟨oe, vs, k _ e1, e2⟩⟩
      have S4 := T4.intoSuite a
      refine store_ok (X := X.suite a (X.pn ++ pins)) (v := .ref a) S4 hN hi nloc rfl (fun s5 S5 => ?_) (Or.inr hln)
      refine wpAny_mono ((hsu a (X.pn ++ pins)).run [] s5 _ _ _ S5 (yes rfl a na)) (fun f s6 q => ?_) (fun _ _ z => False.elim z)
      have fin : ∀ {σ6 : St} {H6 : Hp} {Q : Shared → Prop}, Inv (X.suite a (X.pn ++ pins)) [] σ6 H6 s6 →
          (∀ s7, Inv X pins (σ6.set i none) H6 s7 → Q s7) →
          wpAny (model X.prog X.w) X.A (do bindName X.env n .none; unbindBehindTheSuite X.env n pos') (fun _ s7 => Q s7) X.xe s6 :=
        fun S6 hq => gone_ok (S6.outSuite ok) hN hi hln hq
      match f, q with
      | .next, ⟨σ6, H6, S6, z⟩ => exact fin S6 fun s7 J7 => ⟨_, _, J7, z⟩
      | .brk, ⟨σ6, H6, S6, z⟩ => exact fin S6 fun s7 J7 => ⟨_, _, J7, z⟩
      | .cont, ⟨σ6, H6, S6, z⟩ => exact fin S6 fun s7 J7 => ⟨_, _, J7, z⟩
      | .ret _, ⟨v6, σ6, H6, S6, r6, z⟩ => exact fin S6 fun s7 J7 => ⟨_, _, _, J7, r6, z⟩
    | false =>
      show wpAny _ X.A (handleBy (.ref a) X.env []) _ _ _
      apply wpAny_handleBy_nil
      obtain ⟨k1, k2, k3, oe, vs, T, oT, ts1, he, hz, hd, h1, hr⟩ := id fly
      unfold PySem.passOn
      apply wpAny_bind
      apply wpAny_field he hd h1
      rw [if_neg (show ¬ ((Value.ref T == Value.none) = true) from by simp)]
      have out : wpAny (model X.prog X.w) X.A (setFlight (.ref a) X.env.frame)
          (fun _ s4 => wpAny (model X.prog X.w) X.A (throw (.ref a) : Sem Flow) (SP X pins D) X.xe s4) X.xe { s' with heap := h3 } := by
        rw [hf]
        apply HandSPX.setFlight_upZ fly
        intro h4 hh4 up4
        exact wpAny_throw (tk _ _ ⟨a, G, sI, pins, σ1, H1, cls, d, rfl, J, ground, (up.trans up3).trans up4,
          Or.inr (Or.inr (by rw [hs]; exact hh4)), na, os, bare, no rfl⟩)
      first
        | exact wpAny_bind (wpAny_pure (wpAny_bind out))
        | exact wpAny_bind out
end
/-- isinstance(e, c), e a kept error without a dict of its own -/
def rIsErr (K : PySem.W.Frag) : List V → Hp → VK → Prop := fun xs H Q =>
  ∃ (a D : Addr) (c : V) (cv : Value) (b : Bool), xs = [.ref a, c] ∧ ExcC K D ∧ H a = some (ErrO (.ref D) none a) ∧
    ClsV c cv ∧ PySem.W.kitOne K (.ref D) cv = some b ∧ Q (.bl b) H
theorem call_isErr {X : Cx} : CallR X (.builtin "isinstance") (rIsErr X.K) := by
  intro pins s σ H xs us Q I r h
  obtain ⟨a, D, c, cv, b, rfl, C, ha, hcv, e, q⟩ := h
  obtain ⟨u1, u2, rfl, r1, r2⟩ := vals2 r
  cases r1
  have z := hcv.eq r2
  subst z
  obtain ⟨⟨oe, vs, g1, g2, g3, g4⟩, _, _⟩ := I.hok a _ ha
  have J : PySem.W.InstAt s.heap a oe D none := by
    obtain ⟨oc, od, oda, osl⟩ := oe
    dsimp only at g2 g3 g4
    subst g2 g3 g4
    exact ⟨g1, rfl, rfl, trivial⟩
  exact PySem.W.kia_one (PySem.W.handS_kitx_exc C.hg C.hk C.hs C.hd C.ha C.hn C.ht C.hm) I.kIn J e (fun z => nomatch z)
    fun tk => ⟨.bl b, H, I.tok tk, rfl, q⟩
/-- repr of a truth -/
def tBool (b : Bool) : Str := if b = true then "True" else "False"
end L2

set_option Elab.async false
set_option linter.all false
set_option maxRecDepth 100000
set_option maxHeartbeats 2000000
/-! Our own layer: more of what evaluates to what. -/
namespace L2
open PySem PySem.Spec PyProof.Rows
theorem call_repr_bl {X : Cx} : CallR X (.builtin "repr") (fun xs H Q => ∃ b, xs = [.bl b] ∧ Q (.str (tBool b)) H) := by
  intro pins s σ H xs us Q I r h
  obtain ⟨b, rfl, q⟩ := h
  obtain ⟨u, rfl, r1⟩ := vals1 r
  cases r1
  refine PySem.P.repr_of_bool ⟨.str (tBool b), H, I.tok _, ⟨s.toks, ?_⟩, q⟩
  cases b <;> rfl
theorem tBool_eq (a b : Bool) : decide (V.str (tBool a) = V.str (tBool b)) = decide (a = b) := by
  cases a <;> cases b <;> decide +kernel
end L2
namespace Evl
open PySem L2
section
variable {K : PySem.W.Frag} {σ : L2.St} {H H' : Hp} {ta tb tc te tx : TE} {t u : TT} {x y z v : V} {r : R2}
/-! ### promises that are functions -/
def SpFn (pre : List V → Hp → Prop) (res : List V → V) : Sp := fun vs H Q _ => pre vs H ∧ ∀ H', Ex H H' → Q (res vs) H'
theorem spFn {pre : List V → Hp → Prop} {res : List V → V} {vs : List V} (h : ∀ H1, Ex H H1 → pre vs H1) : SpV (SpFn pre res) vs H (res vs) :=
  fun H1 e _ q _ => ⟨h H1 e, q⟩
/-! ### values -/
theorem ev_chain {r' : R2} {k b : Bool} (ha : Ev ta σ H x) (hb : Ev tb σ H y) (h1 : RV r x y H (.bl k)) (hc : k = true → Ev tc σ H z)
    (h2 : k = true → RV r' y z H (.bl b)) : Ev (tChain r r' ta tb tc) σ H (.bl (k && b)) := fun H1 e Q q =>
  ha H1 e _ fun H2 e2 => hb H2 (e.trans e2) _ fun H3 e3 => h1 H3 ((e.trans e2).trans e3) _ fun H4 e4 => ⟨k, rfl, by
    cases k with
    | true =>
      refine iteT ?_
      exact hc rfl H4 (((e.trans e2).trans e3).trans e4) _ fun H5 e5 => h2 rfl H5 ((((e.trans e2).trans e3).trans e4).trans e5) Q
        fun H6 e6 => q H6 ((((e2.trans e3).trans e4).trans e5).trans e6)
    | false =>
      refine iteF ?_
      exact q H4 ((e2.trans e3).trans e4)⟩
theorem rv_addS {i j : Str} (h : i.length + j.length ≤ 100000) :
    RV (fun x y H Q => ∃ i j, x = .str i ∧ y = .str j ∧ i.length + j.length ≤ sizeLine ∧ Q (.str (i ++ j)) H) (.str i) (.str j) H (.str (i ++ j)) :=
  fun H1 _ _ q => ⟨i, j, rfl, rfl, sz_of h, q H1 (Ex.refl H1)⟩
theorem rv_leS {i j : Str} :
    RV (fun x y H Q => ∃ i j, x = .str i ∧ y = .str j ∧ Q (.bl (!decide (j.cps.toList < i.cps.toList))) H) (.str i) (.str j) H (.bl (!decide (j.cps.toList < i.cps.toList))) :=
  fun H1 _ _ q => ⟨i, j, rfl, rfl, q H1 (Ex.refl H1)⟩
theorem rv_isN : RV (fun x y H Q => y = .non ∧ Q (.bl (decide (x = .non))) H) x .non H (.bl (decide (x = .non))) := fun H1 _ _ q => ⟨rfl, q H1 (Ex.refl H1)⟩
theorem rv_notN : RV (fun x y H Q => y = .non ∧ Q (.bl (!decide (x = .non))) H) x .non H (.bl (!decide (x = .non))) := fun H1 _ _ q => ⟨rfl, q H1 (Ex.refl H1)⟩
theorem ev_slS {tl th : TO} {w : Str} {lo hi : Option Int} (h : Ev te σ H (.str w)) (h1 : EvO tl σ H lo) (h2 : EvO th σ H hi) (hz : w.length ≤ 100000) :
    Ev (tSl rSlS te tl th) σ H (.str (cutS w lo hi)) := fun H1 e _ q =>
  h H1 e _ fun H2 e2 => h1 H2 (e.trans e2) _ fun H3 e3 => h2 H3 ((e.trans e2).trans e3) _ fun H4 e4 => ⟨w, rfl, sz_of hz, q H4 ((e2.trans e3).trans e4)⟩
/-- what join asks -/
abbrev rJoin (K : PySem.W.Frag) : V → List V → Hp → VK → Prop := fun x xs H Q => ∃ a p, ∃ ys : List Str, x = .str a ∧ xs = [.ref p] ∧
  (SqL K H p (ys.map V.str) ∨ SqT K H p (ys.map V.str)) ∧ (ys.map (·.length)).sum + ys.length * a.length ≤ 16777216 ∧ Q (.str (Txt.join a ys)) H
theorem ev_joinL {a : Str} {ys : List Str} {xs : List V} (ha : Ev ta σ H (.str a)) (hb : EvL tb σ H xs) (hy : xs = ys.map V.str)
    (hz : (ys.map (·.length)).sum + ys.length * a.length ≤ 16777216) : Ev (tM1 (rJoin K) ta tb) σ H (.str (Txt.join a ys)) := fun H1 e _ q =>
  ha H1 e _ fun H2 e2 => ⟨⟨a, rfl⟩, hb H2 (e.trans e2) _ fun p H3 _ e3 h3 => ⟨a, p, ys, rfl, rfl, Or.inl (sq_of (hy ▸ h3)), hz, q H3 (e2.trans e3)⟩⟩
theorem ev_joinV {a : Str} {ys : List Str} {p : Addr} (ha : Ev ta σ H (.str a)) (hb : Ev tb σ H (.ref p)) (hp : SqL K H p (ys.map V.str))
    (hz : (ys.map (·.length)).sum + ys.length * a.length ≤ 16777216) : Ev (tM1 (rJoin K) ta tb) σ H (.str (Txt.join a ys)) := fun H1 e _ q =>
  ha H1 e _ fun H2 e2 => ⟨⟨a, rfl⟩, hb H2 (e.trans e2) _ fun H3 e3 => ⟨a, p, ys, rfl, rfl, Or.inl (ex_l ((e.trans e2).trans e3) hp), hz, q H3 (e2.trans e3)⟩⟩
theorem el_rep {xs : List V} {k : Int} (ha : EvL ta σ H xs) (hb : Ev tb σ H (.int k)) (h0 : 0 ≤ k) (hk : k ≤ 1000) (hz : xs.length ≤ 1000) :
    EvL (tOp rRep ta tb) σ H ((List.replicate k.toNat xs).flatten) := fun H1 e _ q =>
  ha H1 e _ fun p H2 hp e2 h2 => hb H2 (e.trans e2) _ fun H3 e3 =>
    ⟨p, k, xs, rfl, rfl, e3 p _ h2, by omega, by omega, by
      refine Nat.le_trans (Nat.mul_le_mul hz (show k.toNat ≤ 1000 by omega)) ?_
      decide, fun l hl => q l _ (fresh_back (e2.trans e3) hl) ((e2.trans e3).trans (Ex.new hl)) upd_same⟩
theorem el_catLL {xs ys : List V} (ha : EvL ta σ H xs) (hb : EvL tb σ H ys) (hz : xs.length + ys.length ≤ 100000) :
    EvL (tOp rCat ta tb) σ H (xs ++ ys) := fun H1 e _ q =>
  ha H1 e _ fun p H2 hp e2 h2 => hb H2 (e.trans e2) _ fun p' H3 hp' e3 h3 =>
    ⟨p, p', xs, ys, rfl, rfl, e3 p _ h2, h3, sz_of hz, fun l hl => q l _ (fresh_back (e2.trans e3) hl) ((e2.trans e3).trans (Ex.new hl)) upd_same⟩
theorem el_catVL {xs ys : List V} {p : Addr} (ha : Ev ta σ H (.ref p)) (hp : H p = some (.lst xs)) (hb : EvL tb σ H ys) (hz : xs.length + ys.length ≤ 100000) :
    EvL (tOp rCat ta tb) σ H (xs ++ ys) := fun H1 e _ q =>
  ha H1 e _ fun H2 e2 => hb H2 (e.trans e2) _ fun p' H3 hp' e3 h3 =>
    ⟨p, p', xs, ys, rfl, rfl, e3 p _ (e2 p _ (e p _ hp)), h3, sz_of hz, fun l hl => q l _ (fresh_back (e2.trans e3) hl) ((e2.trans e3).trans (Ex.new hl)) upd_same⟩
theorem el_is {xs ys : List V} (h : EvL te σ H xs) (e : xs = ys) : EvL te σ H ys := e ▸ h
/-! ### built-ins -/
theorem rc_val {r : List V → Hp → VK → Prop} {vs : List V} (h : ∀ H1, Ex H H1 → ∀ Q : VK, Q z H1 → r vs H1 Q) : RC r vs H z := fun H1 e Q q => h H1 e Q (q H1 (Ex.refl H1))
theorem rc_repr {b : Bool} : RC (fun xs H Q => ∃ b, xs = [.bl b] ∧ Q (.str (tBool b)) H) [.bl b] H (.str (tBool b)) := rc_val fun _ _ _ q => ⟨b, rfl, q⟩
theorem rc_int {b : Bool} : RC (fun xs H Q => (∃ i, xs = [.int i] ∧ Q (.int i) H) ∨ ∃ k, xs = [.bl k] ∧ Q (.int (if k then 1 else 0)) H) [.bl b] H (.int (if b then 1 else 0)) :=
  rc_val fun _ _ _ q => Or.inr ⟨b, rfl, q⟩
theorem rc_lenS {w : Str} (h : w.length ≤ 100000) : RC (fun xs H Q => ∃ z, xs = [.str z] ∧ z.length ≤ sizeLine ∧ Q (.int z.length) H) [.str w] H (.int w.length) :=
  rc_val fun _ _ _ q => ⟨w, rfl, sz_of h, q⟩
theorem rc_lenL {p : Addr} {xs : List V} (h : SqL K H p xs) : RC (fun vs H Q => ∃ p ys, vs = [.ref p] ∧ (SqL K H p ys ∨ SqT K H p ys) ∧ Q (.int ys.length) H) [.ref p] H (.int xs.length) :=
  rc_val fun _ e _ q => ⟨p, xs, rfl, Or.inl (ex_l e h), q⟩
theorem rc_min {i j : Int} : RC (fun xs H Q => ∃ i j, xs = [.int i, .int j] ∧ Q (.int (if j < i then j else i)) H) [.int i, .int j] H (.int (if j < i then j else i)) :=
  rc_val (z := .int (if j < i then j else i)) fun _ _ _ q => ⟨i, j, rfl, q⟩
theorem rc_err {a D : Addr} {c : V} {cv : Value} {b : Bool} (ha : H a = some (ErrO (.ref D) none a)) (C : ExcC K D) (k : ClsV c cv) (e : PySem.W.kitOne K (.ref D) cv = some b) :
    RC (rIsErr K) [.ref a, c] H (.bl b) := rc_val fun H1 ex _ q => ⟨a, D, c, cv, b, rfl, C, ex a _ ha, k, e, q⟩
/-! ### things of any kind -/
def isStr : V → Bool | .str _ => true | _ => false
/-- what is handed in: None, a truth, a whole number, a text of signs, a list, a tuple, a dict -/
def Thing (H : Hp) : V → Prop
  | .non => True | .bl _ => True | .int _ => True
  | .str z => z.length ≤ 1000 ∧ z.cps.toList.all (· < 1114112) = true
  | .ref a => (∃ xs, H a = some (.lst xs)) ∨ (∃ xs, H a = some (.tup xs)) ∨ ∃ kvs, H a = some (.dK kvs)
  | _ => False
theorem Thing.mono (e : Ex H H') (h : Thing H v) : Thing H' v := by
  cases v with
  | ref a =>
    rcases h with ⟨xs, h⟩ | ⟨xs, h⟩ | ⟨kvs, h⟩
    · exact Or.inl ⟨xs, e a _ h⟩
    · exact Or.inr (Or.inl ⟨xs, e a _ h⟩)
    · exact Or.inr (Or.inr ⟨kvs, e a _ h⟩)
  | _ => exact h
theorem Thing.ty (h : Thing H v) : ∃ T : String, TyX K H v (.type T) ∧ kitB T "str" = some (isStr v) := by
  cases v with
  | non => exact ⟨_, .base .non, by decide +kernel⟩
  | bl b => exact ⟨"bool", .base (.bl b), by show kitB "bool" "str" = some false; decide +kernel⟩
  | int i => exact ⟨"int", .base (.int i), by show kitB "int" "str" = some false; decide +kernel⟩
  | str z => exact ⟨"str", .base (.str z), by show kitB "str" "str" = some true; decide +kernel⟩
  | byt b => exact h.elim
  | flt b => exact h.elim
  | ty b => exact h.elim
  | ref a =>
    rcases h with ⟨xs, h⟩ | ⟨xs, h⟩ | ⟨kvs, h⟩
    · exact ⟨"list", .base (.lst h), by show kitB "list" "str" = some false; decide +kernel⟩
    · exact ⟨"tuple", .base (.tup h), by show kitB "tuple" "str" = some false; decide +kernel⟩
    · exact ⟨"dict", .base (.dK h), by show kitB "dict" "str" = some false; decide +kernel⟩
theorem rc_isStr (h : Thing H v) : RC (rIsi K) [v, .ty "str"] H (.bl (isStr v)) := rc_val fun H1 e Q q => by
  obtain ⟨T, ht, hk⟩ := (h.mono e).ty (K := K)
  exact ⟨v, .ty "str", .type T, .type "str", isStr v, rfl, .ty _, ht, kit_ty hk, q⟩
/-- evaluates to some thing -/
def EvTh (te : TE) (σ : L2.St) (H : Hp) : Prop := ∀ H1, Ex H H1 → ∀ Q : VK, (∀ v H2, Ex H1 H2 → Thing H2 v → Q v H2) → te σ H1 Q
def EvThs (ta : TA) (σ : L2.St) (H : Hp) (n : Nat) : Prop := ∀ H1, Ex H H1 → ∀ Q : List V → Hp → Prop, (∀ vs H2, Ex H1 H2 → vs.length = n → (∀ v ∈ vs, Thing H2 v) → Q vs H2) → ta σ H1 Q
theorem eth_v (h : Ev te σ H v) (p : ∀ H1, Ex H H1 → Thing H1 v) : EvTh te σ H := fun H1 e _ q => h H1 e _ fun H2 e2 => q v H2 e2 (p H2 (e.trans e2))
theorem eth_l {xs : List V} (h : EvL te σ H xs) : EvTh te σ H := fun H1 e _ q => h H1 e _ fun p H2 _ e2 h2 => q _ H2 e2 (Or.inl ⟨xs, h2⟩)
theorem eth_u {xs : List V} (h : EvU te σ H xs) : EvTh te σ H := fun H1 e _ q => h H1 e _ fun p H2 _ e2 h2 => q _ H2 e2 (Or.inr (Or.inl ⟨xs, h2⟩))
theorem eth_d : EvTh tDNewK σ H := fun H1 e _ q => fun p hp => q _ _ (Ex.new hp) (Or.inr (Or.inr ⟨[], upd_same⟩))
theorem eths_nil : EvThs tNil σ H 0 := fun H1 _ _ q => q [] H1 (Ex.refl H1) rfl fun _ h => nomatch h
theorem eths_cons {tr : TA} {n : Nat} (h : EvTh te σ H) (hr : EvThs tr σ H n) : EvThs (tCons te tr) σ H (n + 1) := fun H1 e _ q =>
  h H1 e _ fun v H2 e2 hv => hr H2 (e.trans e2) _ fun vs H3 e3 hl hvs => q (v :: vs) H3 (e2.trans e3) (by rw [List.length_cons, hl]) fun w hw => by
    rcases List.mem_cons.mp hw with rfl | hw
    · exact hv.mono e3
    · exact hvs w hw
/-! ### lists against the empty one -/
def dpOf : V → PyData | .non => .none | .bl b => .bool b | .int i => .int i | .str s => .str s | _ => .none
def flatOk : V → Bool | .non => true | .bl _ => true | .int _ => true | .str s => s.cps.all (· < 0x110000) | _ => false
theorem dp_flat (h : flatOk v = true) : Dp K H v (dpOf v) := by
  cases v with
  | non => exact .non
  | bl b => exact .bl b
  | int i => exact .int i
  | str s => exact .str s
  | _ => cases h
theorem dps_flat : ∀ {xs : List V}, xs.all flatOk = true → DpAll K H xs (xs.map dpOf)
  | [], _ => .nil
  | x :: xs, h => by
    rw [List.all_cons, Bool.and_eq_true] at h
    exact .cons (dp_flat h.1) (dps_flat h.2)
theorem depth_dpOf : PyData.depth (dpOf v) = 0 := by cases v <;> rfl
theorem canLay_dpOf (h : flatOk v = true) : PyData.canLay0 (dpOf v) = true := by
  cases v with
  | str s => exact h
  | non => rfl
  | bl b => rfl
  | int i => rfl
  | _ => cases h
theorem depths_flat : ∀ {xs : List V}, PyData.depthAll (xs.map dpOf) = 0
  | [] => rfl
  | x :: xs => by
    show max (PyData.depth (dpOf x)) (PyData.depthAll (xs.map dpOf)) = 0
    rw [depth_dpOf, depths_flat] <;> rfl
theorem canLays_flat : ∀ {xs : List V}, xs.all flatOk = true → PyData.canLayAll0 (xs.map dpOf) = true
  | [], _ => rfl
  | x :: xs, h => by
    rw [List.all_cons, Bool.and_eq_true] at h
    show (PyData.canLay0 (dpOf x) && PyData.canLayAll0 (xs.map dpOf)) = true
    rw [canLay_dpOf h.1, canLays_flat h.2] <;> rfl
theorem shaped_flat {xs : List V} (h : xs.all flatOk = true) : SeqAt.shaped (.list (xs.map dpOf)) = true := by
  unfold SeqAt.shaped
  rw [Bool.and_eq_true]
  constructor
  · show PyData.canLayAll0 (xs.map dpOf) = true
    exact canLays_flat h
  · have : PyData.depth (.list (xs.map dpOf)) = 1 := by
      show PyData.depthAll (xs.map dpOf) + 1 = 1
      rw [depths_flat]
    rw [this]
    rfl
theorem ev_eqNil {xs : List V} (ha : EvL ta σ H xs) (hf : xs.all flatOk = true) : Ev (tOp (rEqD K) ta (tLst tNil)) σ H (.bl xs.isEmpty) := fun H1 e Q q =>
  ha H1 e _ fun p H2 _ e2 h2 => ⟨by show 0 ≤ sizeLine; exact Nat.zero_le _, fun l hl => by
    have e3 : Ex H2 (upd H2 l (.lst [])) := Ex.new hl
    refine ⟨.list (xs.map dpOf), .list [], .lst (sq_of (e3 p _ h2)) (dps_flat hf), .lst (sq_of upd_same) .nil, shaped_flat hf, by decide, ?_⟩
    have z : PyData.eqv (.list (xs.map dpOf)) (.list []) = xs.isEmpty := by
      cases xs <;> rfl
    rw [z]
    exact q _ (e2.trans e3)⟩
/-! ### a comprehension over a text's signs -/
theorem el_lcS {w : Str} {ts : TE} {j : Nat} {vs : List Nat} (f : Nat → Bool) (g : Nat → V) (h : Ev ts σ H (.str w)) (hz : w.cps.size ≤ 40000)
    (hw : ∀ x, wipe ((wipe σ vs).set j (some x)) vs = wipe σ vs)
    (ht : ∀ (i c : Nat) H1, Ex H H1 → w.cps[i]? = some c → EvT t ((wipe σ vs).set j (some (.str ⟨#[c]⟩))) H1 (f i))
    (he : ∀ (i c : Nat) H1, Ex H H1 → w.cps[i]? = some c → f i = true → Ev te ((wipe σ vs).set j (some (.str ⟨#[c]⟩))) H1 (g i)) :
    EvL (tLc (iStr ts) (gName j) t te vs) σ H (given w.cps.size f g) := fun H0 e Q q => h H0 e _ fun H1 e1 => ⟨w, rfl, fun Dl hD =>
  lc_it (walk_str (z := w)) (Cw H1 f g Dl) ⟨hD, Ex.new hD, upd_same⟩ (fun _ _ _ _ => True.intro) (fun i x H2 H3 hi p y => by
    obtain ⟨rfl, c, hc, rfl⟩ := y
    exact ⟨hw _, cw_turn p (by omega) (ht i c H1 (e.trans e1) hc) (fun hf => he i c H1 (e.trans e1) hc hf)⟩)
    (fun H' p => q Dl H' (fresh_back e1 p.1) (e1.trans p.2.1) p.2.2)⟩
theorem et_yes : EvT tYes σ H true := fun H1 _ _ q => q H1 (Ex.refl H1)
theorem given_all (n : Nat) (g : Nat → V) : given n (fun _ => true) g = (List.range n).map g := by
  unfold given
  rw [List.filter_eq_self.mpr (fun _ _ => rfl)]
end
end Evl

set_option Elab.async false
set_option linter.all false
set_option maxRecDepth 100000
set_option maxHeartbeats 2000000
namespace My
open PySem L2 Evl
def top (i : Nat) : Stmt := PySem.Challenge.pw_wordmend_k01_words.main.body.getD i (.Pass ⟨0, 0, 0, 0⟩)
abbrev s_are_letters : Stmt := top 18
abbrev N_are_letters : List Str := ["thing"]
abbrev P_are_letters : List Str := ["thing"]
theorem sc_are_letters : FnScope N_are_letters P_are_letters (defScope s_are_letters) := ⟨rfl, rfl, rfl, by decide +kernel, rfl, by decide +kernel, by decide +kernel⟩
abbrev s_is_word : Stmt := top 19
abbrev N_is_word : List Str := ["thing"]
abbrev P_is_word : List Str := ["thing"]
theorem sc_is_word : FnScope N_is_word P_is_word (defScope s_is_word) := ⟨rfl, rfl, rfl, by decide +kernel, rfl, by decide +kernel, by decide +kernel⟩
abbrev s_need_word : Stmt := top 20
abbrev N_need_word : List Str := ["thing"]
abbrev P_need_word : List Str := ["thing"]
theorem sc_need_word : FnScope N_need_word P_need_word (defScope s_need_word) := ⟨rfl, rfl, rfl, by decide +kernel, rfl, by decide +kernel, by decide +kernel⟩
abbrev s_l_mixed : Stmt := top 22
abbrev N_l_mixed : List Str := ["_law_cell", "_law_k", "_law_number_here"]
abbrev P_l_mixed : List Str := ["_law_cell", "_law_k"]
theorem sc_l_mixed : FnScope N_l_mixed P_l_mixed (defScope s_l_mixed) := ⟨rfl, rfl, rfl, by decide +kernel, rfl, by decide +kernel, by decide +kernel⟩
abbrev s_l_number : Stmt := top 23
abbrev N_l_number : List Str := ["_law_script", "_law_k", "_law_cell"]
abbrev P_l_number : List Str := ["_law_script", "_law_k"]
theorem sc_l_number : FnScope N_l_number P_l_number (defScope s_l_number) := ⟨rfl, rfl, rfl, by decide +kernel, rfl, by decide +kernel, by decide +kernel⟩
abbrev s_l_kind : Stmt := top 24
abbrev N_l_kind : List Str := ["_law_e", "_law_found"]
abbrev P_l_kind : List Str := ["_law_e"]
theorem sc_l_kind : FnScope N_l_kind P_l_kind (defScope s_l_kind) := ⟨rfl, rfl, rfl, by decide +kernel, rfl, by decide +kernel, by decide +kernel⟩
abbrev s_l_text : Stmt := top 25
abbrev N_l_text : List Str := ["_law_cell", "_law_k", "_law_letters", "_law_size", "_law_text_here", "_law_at", "_law_sign", "_law_j"]
abbrev P_l_text : List Str := ["_law_cell", "_law_k"]
theorem sc_l_text : FnScope N_l_text P_l_text (defScope s_l_text) := ⟨rfl, rfl, rfl, by decide +kernel, rfl, by decide +kernel, by decide +kernel⟩
abbrev s_l_is_letters : Stmt := top 26
abbrev N_l_is_letters : List Str := ["_law_thing", "_law_sign"]
abbrev P_l_is_letters : List Str := ["_law_thing"]
theorem sc_l_is_letters : FnScope N_l_is_letters P_l_is_letters (defScope s_l_is_letters) := ⟨rfl, rfl, rfl, by decide +kernel, rfl, by decide +kernel, by decide +kernel⟩
abbrev s_l_refused : Stmt := top 27
abbrev N_l_refused : List Str := ["_law_thing", "_law_error", "_law_found", "_law_e"]
abbrev P_l_refused : List Str := ["_law_thing"]
theorem sc_l_refused : FnScope N_l_refused P_l_refused (defScope s_l_refused) := ⟨rfl, rfl, rfl, by decide +kernel, rfl, by decide +kernel, by decide +kernel⟩
abbrev s_l_right : Stmt := top 28
abbrev N_l_right : List Str := ["_law_thing", "_law_letters", "_law_due"]
abbrev P_l_right : List Str := ["_law_thing"]
theorem sc_l_right : FnScope N_l_right P_l_right (defScope s_l_right) := ⟨rfl, rfl, rfl, by decide +kernel, rfl, by decide +kernel, by decide +kernel⟩
abbrev s_law : Stmt := top 29
abbrev N_law : List Str := ["_law_script", "_law_k", "_law_cell", "_law_text_here", "_law_some"]
abbrev P_law : List Str := ["_law_script"]
theorem sc_law : FnScope N_law P_law (defScope s_law) := ⟨rfl, rfl, rfl, by decide +kernel, rfl, by decide +kernel, by decide +kernel⟩
/-- where the top left its classes and defs -/
structure Ad where
  c_MendError : Addr
  c_BadWord : Addr
  c_BadRule : Addr
  c_BadText : Addr
  c_Twice : Addr
  c_NoStem : Addr
  c_NoClass : Addr
  c_InUse : Addr
  c_TooMany : Addr
  c_NoNumber : Addr
  c_NoWord : Addr
  c_BadPrice : Addr
  c_NoPlace : Addr
  c_BadPattern : Addr
  f_are_letters : Addr
  d_are_letters : FuncData
  f_is_word : Addr
  d_is_word : FuncData
  f_need_word : Addr
  d_need_word : FuncData
  f_l_mixed : Addr
  d_l_mixed : FuncData
  f_l_number : Addr
  d_l_number : FuncData
  f_l_kind : Addr
  d_l_kind : FuncData
  f_l_text : Addr
  d_l_text : FuncData
  f_l_is_letters : Addr
  d_l_is_letters : FuncData
  f_l_refused : Addr
  d_l_refused : FuncData
  f_l_right : Addr
  d_l_right : FuncData
  f_law : Addr
  d_law : FuncData
/-- what the top has written -/
structure Txt (K : PySem.W.Frag) (mg : Str → Option Value) (A : Ad) : Prop where
  n_isinstance : mg "isinstance" = none
  n_str : mg "str" = none
  n_len : mg "len" = none
  n_int : mg "int" = none
  n_ValueError : mg "ValueError" = none
  n_range : mg "range" = none
  n_repr : mg "repr" = none
  n_min : mg "min" = none
  g_LETTERS : ∃ t, mg "LETTERS" = some (.str "abcdefghijklmnopqrstuvwxyz" t)
  g_MOST_LETTERS : ∃ t, mg "MOST_LETTERS" = some (.int 16 t)
  g_MendError : mg "MendError" = some (.ref A.c_MendError)
  g_BadWord : mg "BadWord" = some (.ref A.c_BadWord)
  g_BadRule : mg "BadRule" = some (.ref A.c_BadRule)
  g_BadText : mg "BadText" = some (.ref A.c_BadText)
  g_Twice : mg "Twice" = some (.ref A.c_Twice)
  g_NoStem : mg "NoStem" = some (.ref A.c_NoStem)
  g_NoClass : mg "NoClass" = some (.ref A.c_NoClass)
  g_InUse : mg "InUse" = some (.ref A.c_InUse)
  g_TooMany : mg "TooMany" = some (.ref A.c_TooMany)
  g_NoNumber : mg "NoNumber" = some (.ref A.c_NoNumber)
  g_NoWord : mg "NoWord" = some (.ref A.c_NoWord)
  g_BadPrice : mg "BadPrice" = some (.ref A.c_BadPrice)
  g_NoPlace : mg "NoPlace" = some (.ref A.c_NoPlace)
  g_BadPattern : mg "BadPattern" = some (.ref A.c_BadPattern)
  x_BadWord : PySem.W.excIn K A.c_BadWord [.type "ValueError", .type "Exception", .type "BaseException", .type "object"] "ValueError.__new__" = true
  k_BadWord : PySem.W.keepIn K (.ref A.c_BadWord) = true
  s_BadWord : PySem.W.subIn K (.ref A.c_BadWord) (.type "BaseException") = some true
  t_BadWord : PySem.W.typeIn K (.ref A.c_BadWord) = some (.type "type")
  e_BadWord : ExcC K A.c_BadWord
  m_BadWord_MendError : PySem.W.exmOne K (.ref A.c_BadWord) (.ref A.c_MendError) = some true
  i_BadWord_MendError : PySem.W.kitOne K (.ref A.c_BadWord) (.ref A.c_MendError) = some true
  i_BadWord_BadWord : PySem.W.kitOne K (.ref A.c_BadWord) (.ref A.c_BadWord) = some true
  i_BadWord_BadRule : PySem.W.kitOne K (.ref A.c_BadWord) (.ref A.c_BadRule) = some false
  i_BadWord_BadText : PySem.W.kitOne K (.ref A.c_BadWord) (.ref A.c_BadText) = some false
  i_BadWord_Twice : PySem.W.kitOne K (.ref A.c_BadWord) (.ref A.c_Twice) = some false
  i_BadWord_NoStem : PySem.W.kitOne K (.ref A.c_BadWord) (.ref A.c_NoStem) = some false
  i_BadWord_NoClass : PySem.W.kitOne K (.ref A.c_BadWord) (.ref A.c_NoClass) = some false
  i_BadWord_InUse : PySem.W.kitOne K (.ref A.c_BadWord) (.ref A.c_InUse) = some false
  i_BadWord_TooMany : PySem.W.kitOne K (.ref A.c_BadWord) (.ref A.c_TooMany) = some false
  i_BadWord_NoNumber : PySem.W.kitOne K (.ref A.c_BadWord) (.ref A.c_NoNumber) = some false
  i_BadWord_NoWord : PySem.W.kitOne K (.ref A.c_BadWord) (.ref A.c_NoWord) = some false
  i_BadWord_BadPrice : PySem.W.kitOne K (.ref A.c_BadWord) (.ref A.c_BadPrice) = some false
  i_BadWord_NoPlace : PySem.W.kitOne K (.ref A.c_BadWord) (.ref A.c_NoPlace) = some false
  i_BadWord_BadPattern : PySem.W.kitOne K (.ref A.c_BadWord) (.ref A.c_BadPattern) = some false
  i_BadWord_ValueError : PySem.W.kitOne K (.ref A.c_BadWord) (.type "ValueError") = some true
  g_are_letters : mg "are_letters" = some (.ref A.f_are_letters)
  k_are_letters : PySem.W.keepIn K (.ref A.f_are_letters) = true
  F_are_letters : Fun K "are_letters" "are_letters" s_are_letters A.f_are_letters A.d_are_letters
  b_are_letters : Binds K A.d_are_letters P_are_letters []
  g_is_word : mg "is_word" = some (.ref A.f_is_word)
  k_is_word : PySem.W.keepIn K (.ref A.f_is_word) = true
  F_is_word : Fun K "is_word" "is_word" s_is_word A.f_is_word A.d_is_word
  b_is_word : Binds K A.d_is_word P_is_word []
  g_need_word : mg "need_word" = some (.ref A.f_need_word)
  k_need_word : PySem.W.keepIn K (.ref A.f_need_word) = true
  F_need_word : Fun K "need_word" "need_word" s_need_word A.f_need_word A.d_need_word
  b_need_word : Binds K A.d_need_word P_need_word []
  g_l_mixed : mg "_law_mixed" = some (.ref A.f_l_mixed)
  k_l_mixed : PySem.W.keepIn K (.ref A.f_l_mixed) = true
  F_l_mixed : Fun K "_law_mixed" "_law_mixed" s_l_mixed A.f_l_mixed A.d_l_mixed
  b_l_mixed : Binds K A.d_l_mixed P_l_mixed []
  g_l_number : mg "_law_number" = some (.ref A.f_l_number)
  k_l_number : PySem.W.keepIn K (.ref A.f_l_number) = true
  F_l_number : Fun K "_law_number" "_law_number" s_l_number A.f_l_number A.d_l_number
  b_l_number : Binds K A.d_l_number P_l_number []
  g_l_kind : mg "_law_kind" = some (.ref A.f_l_kind)
  k_l_kind : PySem.W.keepIn K (.ref A.f_l_kind) = true
  F_l_kind : Fun K "_law_kind" "_law_kind" s_l_kind A.f_l_kind A.d_l_kind
  b_l_kind : Binds K A.d_l_kind P_l_kind []
  g_l_text : mg "_law_text" = some (.ref A.f_l_text)
  k_l_text : PySem.W.keepIn K (.ref A.f_l_text) = true
  F_l_text : Fun K "_law_text" "_law_text" s_l_text A.f_l_text A.d_l_text
  b_l_text : Binds K A.d_l_text P_l_text []
  g_l_is_letters : mg "_law_is_letters" = some (.ref A.f_l_is_letters)
  k_l_is_letters : PySem.W.keepIn K (.ref A.f_l_is_letters) = true
  F_l_is_letters : Fun K "_law_is_letters" "_law_is_letters" s_l_is_letters A.f_l_is_letters A.d_l_is_letters
  b_l_is_letters : Binds K A.d_l_is_letters P_l_is_letters []
  g_l_refused : mg "_law_refused" = some (.ref A.f_l_refused)
  k_l_refused : PySem.W.keepIn K (.ref A.f_l_refused) = true
  F_l_refused : Fun K "_law_refused" "_law_refused" s_l_refused A.f_l_refused A.d_l_refused
  b_l_refused : Binds K A.d_l_refused P_l_refused []
  g_l_right : mg "_law_right" = some (.ref A.f_l_right)
  k_l_right : PySem.W.keepIn K (.ref A.f_l_right) = true
  F_l_right : Fun K "_law_right" "_law_right" s_l_right A.f_l_right A.d_l_right
  b_l_right : Binds K A.d_l_right P_l_right []
  g_law : mg "law" = some (.ref A.f_law)
  k_law : PySem.W.keepIn K (.ref A.f_law) = true
  F_law : Fun K "law" "law" s_law A.f_law A.d_law
  b_law : Binds K A.d_law P_law []
section
variable {P : Program} {w : World} {K : PySem.W.Frag} {mg : Str → Option Value} {base : Heap} {A : Ad}
/-! ### the mathematics -/
def small (c : Nat) : Bool := decide (97 ≤ c) && decide (c ≤ 122)
def lets (z : Str) : Bool := z.cps.toList.all small
def vL : V → Bool | .str z => lets z | _ => false
def vW : V → Bool | .str z => lets z && (decide (1 ≤ z.length) && decide (z.length ≤ 16)) | _ => false
theorem isStr_eq {v : V} (h : isStr v = true) : ∃ z, v = .str z := by
  cases v with
  | str z => exact ⟨z, rfl⟩
  | _ => cases h
theorem takeWhile_all {p : Nat → Bool} : ∀ {l : List Nat}, l.all p = true → l.takeWhile p = l
  | [], _ => rfl
  | a :: l, h => by
    rw [List.all_cons, Bool.and_eq_true] at h
    rw [List.takeWhile_cons, if_pos h.1, takeWhile_all h.2]
theorem takeWhile_lt {p : Nat → Bool} : ∀ {l : List Nat}, l.all p = false → (l.takeWhile p).length < l.length
  | [], h => by cases h
  | a :: l, h => by
    rw [List.takeWhile_cons]
    by_cases ha : p a = true
    · rw [if_pos ha]
      rw [List.all_cons, ha, Bool.true_and] at h
      have := takeWhile_lt h
      simp only [List.length_cons]
      omega
    · rw [if_neg ha]
      simp
theorem drop_takeWhile {p : Nat → Bool} : ∀ {l : List Nat}, l.all p = false → (l.drop (l.takeWhile p).length).all p = false
  | [], h => by cases h
  | a :: l, h => by
    rw [List.takeWhile_cons]
    by_cases ha : p a = true
    · rw [if_pos ha]
      rw [List.all_cons, ha, Bool.true_and] at h
      exact drop_takeWhile h
    · rw [if_neg ha]
      exact h
theorem stripBy_size {p : Nat → Bool} (z : Str) : ((Txt.stripBy p true true z).cps.size = 0) ↔ z.cps.toList.all p = true := by
  have hn : z.length = z.cps.toList.length := rfl
  unfold Txt.stripBy stripSame stripped Builtin.Str.strSub stripLo stripHi
  simp only [if_true]
  cases h : z.cps.toList.all p with
  | true =>
    rw [takeWhile_all h]
    have e1 : z.cps.toList.drop z.cps.toList.length = [] := List.drop_length
    rw [e1]
    have e2 : (([] : List Nat).reverse.takeWhile p).length = 0 := rfl
    rw [e2, Nat.sub_zero, hn]
    simp only [true_iff, iff_true]
    split
    · rename_i q
      rw [Bool.and_eq_true, beq_iff_eq] at q
      rw [Array.length_toList] at q
      exact q.1
    · simp
  | false =>
    have h1 := takeWhile_lt h
    have h2 := drop_takeWhile h
    have h3 : ((z.cps.toList.drop (z.cps.toList.takeWhile p).length).reverse.takeWhile p).length < (z.cps.toList.drop (z.cps.toList.takeWhile p).length).length := by
      have h4 : (z.cps.toList.drop (z.cps.toList.takeWhile p).length).reverse.all p = false := by rw [List.all_reverse]; exact h2
      have := takeWhile_lt h4
      rw [List.length_reverse] at this
      exact this
    rw [List.length_drop] at h3
    have h5 : z.cps.toList.length = z.cps.size := Array.length_toList
    simp only [iff_false, Bool.false_eq_true]
    split
    · rw [h5] at h1
      omega
    · show ¬ (Array.extract _ _ _).size = 0
      rw [Array.size_extract, hn]
      omega
theorem letters_cps : ("abcdefghijklmnopqrstuvwxyz" : Str).cps = #[97, 98, 99, 100, 101, 102, 103, 104, 105, 106, 107, 108, 109, 110, 111, 112, 113, 114, 115, 116, 117, 118, 119, 120, 121, 122] := by decide +kernel
theorem letters_in (c : Nat) : ("abcdefghijklmnopqrstuvwxyz" : Str).cps.contains c = small c := by
  rw [letters_cps, Bool.eq_iff_iff]
  simp only [small, Bool.and_eq_true, decide_eq_true_eq, Array.contains_iff_mem]
  simp
  omega
theorem empty_cps : ("" : Str) = ⟨#[]⟩ := by decide +kernel
theorem strip_lets (z : Str) : decide (V.str (Txt.stripChars z "abcdefghijklmnopqrstuvwxyz") = V.str "") = lets z := by
  rw [Bool.eq_iff_iff, decide_eq_true_eq]
  have e : lets z = z.cps.toList.all (("abcdefghijklmnopqrstuvwxyz" : Str).cps.contains) := by
    unfold lets
    congr 1
    funext c
    exact (letters_in c).symm
  rw [e, ← stripBy_size z, empty_cps]
  constructor
  · intro h
    have h' : Txt.stripChars z "abcdefghijklmnopqrstuvwxyz" = ⟨#[]⟩ := V.str.inj h
    show (Txt.stripChars z "abcdefghijklmnopqrstuvwxyz").cps.size = 0
    rw [h']
    rfl
  · intro h
    have h' : (Txt.stripChars z "abcdefghijklmnopqrstuvwxyz").cps.size = 0 := h
    congr 1
    have : (Txt.stripChars z "abcdefghijklmnopqrstuvwxyz").cps = #[] := Array.eq_empty_of_size_eq_zero h'
    show (⟨(Txt.stripChars z "abcdefghijklmnopqrstuvwxyz").cps⟩ : Str) = ⟨#[]⟩
    rw [this]
theorem ev_bmS {t : TA} {to : TE} {σ : L2.St} {H : Hp} {z : Str} {xs : List V} {v : V} {r : V → List V → Hp → VK → Prop} (ho : Ev to σ H (.str z)) (ha : EvA t σ H xs)
    (hr : ∀ H1, Ex H H1 → ∀ Q : VK, Q v H1 → r (.str z) xs H1 Q) : Ev (tBM K "str" r to t) σ H v := fun H1 e Q q =>
  ho H1 e _ fun H2 e2 => ⟨rfl, ha H2 (e.trans e2) _ fun H3 e3 => hr H3 ((e.trans e2).trans e3) Q (q H3 (e2.trans e3))⟩
/-! ### are_letters -/
def pThing (vs : List V) (H : Hp) : Prop := ∃ v, vs = [v] ∧ Thing H v
def rL : List V → V | [v] => .bl (vL v) | _ => .non
def rW : List V → V | [v] => .bl (vW v) | _ => .non
theorem ok_are_letters (T : Txt K mg A) : FnOk P w K mg base CX0 1 A.f_are_letters A.d_are_letters P_are_letters (SpFn pThing rL) := by
  refine T.F_are_letters.ok sc_are_letters (fun vs H Q E h => ?_) (fun cdv A' outer s H vs Q E hr h => ?_)
  · obtain ⟨⟨v, rfl, _⟩, _⟩ := h
    rfl
  · obtain ⟨⟨v, rfl, hv⟩, k⟩ := h
    refine ⟨_, (pss_one (ps_ret (pe_and (pe_callB call_isi (by rfl) T.n_isinstance (by decide +kernel) (pa_cons (pv 0) (pa_cons (pe_bltn (v := .ty "str") (by rfl) T.n_str (by decide +kernel) rfl) pa_nil))) (pe_one (pe_cmpR op_eq (pe_bm PySem.F.plainAttrs_str PySem.F.slot_str_strip PySem.F.type_str_strip mt_stripChars (pv 0) (pa_cons (pe_glob (v := .str "abcdefghijklmnopqrstuvwxyz") rfl (T.g_LETTERS).choose_spec ⟨_, rfl⟩) pa_nil)) pe_str (nomark _)))))), ?_⟩
    refine s_ret (v := .bl (vL v)) (ev_is (ev_andV (a := isStr v) (b := vL v) (ev_cb (ea_cons (ev_var rfl) (ea_cons ev_c ea_nil)) (rc_isStr hv)) fun hs => ?_) ?_) k
    · obtain ⟨z, rfl⟩ := isStr_eq hs
      refine ev_is (ev_op (ev_bmS (v := .str (Txt.stripChars z "abcdefghijklmnopqrstuvwxyz")) (ev_var rfl) (ea_cons ev_c ea_nil) fun _ _ _ q => ⟨z, _, rfl, rfl, sz_of (Nat.le_trans hv.1 (by decide)), q⟩) ev_c (rv_eq rfl)) ?_
      exact congrArg V.bl (strip_lets z)
    · cases v <;> rfl
/-! ### is_word -/
theorem ok_is_word (T : Txt K mg A) : FnOk P w K mg base CX0 2 A.f_is_word A.d_is_word P_is_word (SpFn pThing rW) := by
  refine T.F_is_word.ok sc_is_word (fun vs H Q E h => ?_) (fun cdv A' outer s H vs Q E hr h => ?_)
  · obtain ⟨⟨v, rfl, _⟩, _⟩ := h
    rfl
  · obtain ⟨⟨v, rfl, hv⟩, k⟩ := h
    refine ⟨_, (pss_one (ps_ret (pe_and (pe_call (ok_are_letters T) hr rfl T.g_are_letters T.k_are_letters T.b_are_letters .nil pass0 (pa_cons (pv 0) pa_nil)) (pe_one (pe_chain op_le op_le pe_int (pe_callB call_len_str (by rfl) T.n_len PySem.boot_len (pa_cons (pv 0) pa_nil)) (pe_glob (v := .int 16) rfl (T.g_MOST_LETTERS).choose_spec ⟨_, rfl⟩)))))), ?_⟩
    refine s_ret (v := .bl (vW v)) (ev_is (ev_andV (a := vL v) (b := vW v) (ev_call (ea_cons (ev_var rfl) ea_nil) (spFn fun H1 e => ⟨v, rfl, hv.mono e⟩)) fun hl => ?_) ?_) k
    · cases v with
      | str z =>
        refine ev_is (ev_chain (x := .int 1) (y := .int z.length) (z := .int 16) ev_c (ev_cb (ea_cons (ev_var rfl) ea_nil) (rc_lenS (Nat.le_trans hv.1 (by decide)))) rv_I0 (fun _ => ev_c) (fun _ => rv_I0)) ?_
        have hl' : lets z = true := hl
        show V.bl _ = V.bl (lets z && _)
        rw [hl', Bool.true_and]
        congr 2 <;> (rw [decide_eq_decide]; omega)
      | _ => cases hl
    · cases v with
      | str z =>
        show V.bl (lets z && (lets z && _)) = V.bl (lets z && _)
        cases lets z <;> rfl
      | _ => rfl
/-! ### need_word -/
def spNeed (A : Ad) : Sp := fun vs H Q E => ∃ v, vs = [v] ∧ Thing H v ∧ (vW v = true → ∀ H', Ex H H' → Q .non H') ∧ (vW v = false → ∀ H', Ex H H' → E (.ref A.c_BadWord) none H')
theorem ok_need_word (T : Txt K mg A) : FnOk P w K mg base (L2.CX P w) 3 A.f_need_word A.d_need_word P_need_word (spNeed A) := by
  refine T.F_need_word.okX sc_need_word (fun vs H Q E h => ?_) (fun cdv A' outer s H vs Q E hr h => ?_)
  · obtain ⟨v, rfl, _⟩ := h
    rfl
  · obtain ⟨v, rfl, hv, kY, kN⟩ := h
    refine ⟨_, (pss_one (ps_if (pt_not (pt_val (pe_call (ok_is_word T) hr rfl T.g_is_word T.k_is_word T.b_is_word .nil pass0 (pa_cons (pv 0) pa_nil)))) (pss_one (ps_raise rfl (takes_of rfl rfl rfl rfl) (pmk_own PySem.F.excBase_ValueError T.x_BadWord T.g_BadWord T.k_BadWord (raises_own T.s_BadWord T.t_BadWord) rfl))) pss_nil)), ?_⟩
    refine s_when (b := !(vW v)) (et_not (et_B (ev_call (ea_cons (ev_var rfl) ea_nil) (spFn fun H1 e => ⟨v, rfl, hv.mono e⟩)))) (fun hb H1 e => ?_) (fun hb H1 e => ?_)
    · exact kN (by simpa using hb) H1 e
    · exact kY (by simpa using hb) H1 e
/-! ### the law's numbers -/
def mixN (c k : Int) : Int := (c % 1000000007 + 7919 * k * k + 31 * k + 17) * 48271 % 2147483647
def mix (c k : Int) : Int := mixN c k * (mixN c k % 65521 + 16807) % 2147483629 / 4
theorem mixN_bd (c k : Int) : 0 ≤ mixN c k ∧ mixN c k < 2147483647 := ⟨Int.emod_nonneg _ (by decide), Int.emod_lt_of_pos _ (by decide)⟩
theorem mix_bd (c k : Int) : 0 ≤ mix c k ∧ mix c k < 536870908 := by
  have h1 : 0 ≤ mixN c k * (mixN c k % 65521 + 16807) % 2147483629 := Int.emod_nonneg _ (by decide)
  have h2 : mixN c k * (mixN c k % 65521 + 16807) % 2147483629 < 2147483629 := Int.emod_lt_of_pos _ (by decide)
  unfold mix
  omega
def pMix (vs : List V) (_ : Hp) : Prop := ∃ c k, vs = [.int c, .int k] ∧ 0 ≤ k ∧ k ≤ 1000000
def rMix : List V → V | [.int c, .int k] => .int (mix c k) | _ => .non
theorem ok_l_mixed (T : Txt K mg A) : FnOk P w K mg base CX0 1 A.f_l_mixed A.d_l_mixed P_l_mixed (SpFn pMix rMix) := by
  refine T.F_l_mixed.ok sc_l_mixed (fun vs H Q E h => ?_) (fun cdv A' outer s H vs Q E hr h => ?_)
  · obtain ⟨⟨c, k, rfl, _⟩, _⟩ := h
    rfl
  · obtain ⟨⟨c, k, rfl, h0, h1⟩, q⟩ := h
    refine ⟨_, (pss_cons (ps_set (i := 2) sc_l_mixed.nd rfl (Or.inl rfl) (pe_op op_mod (pe_op op_mul (pe_op op_add (pe_op op_add (pe_op op_add (pe_op op_mod (pv 0) pe_int) (pe_op op_mul (pe_op op_mul pe_int (pv 1)) (pv 1))) (pe_op op_mul pe_int (pv 1))) pe_int) pe_int) pe_int))
      (pss_one (ps_ret (pe_op op_fdiv (pe_op op_mod (pe_op op_mul (pv 2) (pe_op op_add (pe_op op_mod (pv 2) pe_int) pe_int)) pe_int) pe_int)))), ?_⟩
    have hb := mixN_bd c k
    refine q_asg (v := .int (mixN c k)) ?_ fun H1 e1 => s_ret (v := .int (mix c k)) ?_ fun H2 e2 => q H2 (e1.trans e2)
    · exact ev_op (ev_op (ev_op (ev_op (ev_op (ev_op (ev_var rfl) ev_c (rv_I (by show (0 : Int) < _; decide)))
        (ev_op (ev_op ev_c (ev_var rfl) (rv_I (.inl ⟨by decide, by decide⟩))) (ev_var rfl) (rv_I (.inr ⟨by omega, by omega⟩))) rv_I0)
        (ev_op ev_c (ev_var rfl) (rv_I (.inl ⟨by decide, by decide⟩))) rv_I0) ev_c rv_I0) ev_c (rv_I (.inr ⟨by decide, by decide⟩))) ev_c (rv_I (by show (0 : Int) < _; decide))
    · exact ev_op (ev_op (ev_op (ev_var rfl) (ev_op (ev_op (ev_var rfl) ev_c (rv_I (by show (0 : Int) < _; decide))) ev_c rv_I0) (rv_I (.inl ⟨by omega, by omega⟩))) ev_c
        (rv_I (by show (0 : Int) < _; decide))) ev_c (rv_I ⟨by decide, by decide⟩)
def cell (ns : List Int) (k : Int) : Int := if 0 < ns.length then ns.getD (k % ns.length).toNat 0 else 0
def num (ns : List Int) (k : Int) : Int := mix (cell ns k) k
def spNum (K : PySem.W.Frag) : Sp := fun vs H Q _ => ∃ (a : Addr) (ns : List Int) (k : Int), vs = [.ref a, .int k] ∧ SqL K H a (ns.map V.int) ∧ 0 ≤ k ∧ k ≤ 1000000 ∧ ∀ H', Ex H H' → Q (.int (num ns k)) H'
theorem spNum_v {a : Addr} {ns : List Int} {k : Int} {H : Hp} (hS : SqL K H a (ns.map V.int)) (h0 : 0 ≤ k) (h1 : k ≤ 1000000) : SpV (spNum K) [.ref a, .int k] H (.int (num ns k)) :=
  fun _ e _ q _ => ⟨a, ns, k, rfl, ex_l e hS, h0, h1, q⟩
theorem cell_at {ns : List Int} {k : Int} (h : 0 < ns.length) : atI (ns.map V.int) (k % (ns.length : Int)) = some (.int (cell ns k)) := by
  have h1 : 0 ≤ k % (ns.length : Int) := Int.emod_nonneg _ (by omega)
  have h2 : k % (ns.length : Int) < ns.length := Int.emod_lt_of_pos _ (by omega)
  obtain ⟨j, hj⟩ : ∃ j : Nat, k % (ns.length : Int) = (j : Int) := ⟨(k % (ns.length : Int)).toNat, by omega⟩
  have h3 : j < ns.length := by omega
  unfold cell
  rw [if_pos h, hj]
  refine atI_nat ?_
  rw [List.getElem?_map, List.getElem?_eq_getElem h3]
  simp [List.getD, List.getElem?_eq_getElem h3]
theorem ok_l_number (T : Txt K mg A) : FnOk P w K mg base CX0 2 A.f_l_number A.d_l_number P_l_number (spNum K) := by
  refine T.F_l_number.ok sc_l_number (fun vs H Q E h => ?_) (fun cdv A' outer s H vs Q E hr h => ?_)
  · obtain ⟨a, ns, k, rfl, _⟩ := h
    rfl
  · obtain ⟨a, ns, k, rfl, hS, h0, h1, q⟩ := h
    refine ⟨_, (pss_cons (ps_set (i := 2) sc_l_number.nd rfl (Or.inl rfl) pe_int)
      (pss_cons (ps_if (pt_cmpR op_gt (pe_callB call_len_seq (by rfl) T.n_len PySem.boot_len (pa_cons (pv 0) pa_nil)) pe_int (nomark _)) (pss_one (ps_set (i := 2) sc_l_number.nd rfl (Or.inl rfl) (pe_ix ix_list (pv 0) (pe_op op_mod (pv 1) (pe_callB call_len_seq (by rfl) T.n_len PySem.boot_len (pa_cons (pv 0) pa_nil))) (fun _ _ => rfl)))) pss_nil)
      (pss_one (ps_ret (pe_call (ok_l_mixed T) hr rfl T.g_l_mixed T.k_l_mixed T.b_l_mixed .nil pass0 (pa_cons (pv 2) (pa_cons (pv 1) pa_nil))))))), ?_⟩
    refine q_asg ev_c fun H1 e1 => ?_
    have hS1 := ex_l e1 hS
    have hl : Ev (tCB _ (tCons (tVar 0) tNil)) (([some (.ref a), some (.int k), none] : L2.St).set 2 (some (.int 0))) H1 (.int (ns.map V.int).length) := ev_cb (ea_cons (ev_var rfl) ea_nil) (rc_lenL hS1)
    rw [List.length_map] at hl
    refine q_ifAsg (b := decide ((0 : Int) < ns.length)) (v := .int (cell ns k)) (et_test (ev_is (ev_op hl ev_c rv_I0) rfl)) (fun hb => ?_) (fun hb => ?_) fun H2 e2 => ?_
    · have hb' : 0 < ns.length := by simpa using hb
      exact ev_op (ev_var rfl) (ev_op (ev_var rfl) hl (rv_I (by show (0 : Int) < _; omega))) (rv_ixL hS1 (cell_at hb'))
    · have hb' : ns.length = 0 := by simpa using hb
      have : cell ns k = 0 := by unfold cell; rw [if_neg (by omega)]
      rw [this]
      rfl
    · refine s_ret (v := .int (num ns k)) (ev_call (ea_cons (ev_var rfl) (ea_cons (ev_var rfl) ea_nil)) (spFn fun H3 e3 => ⟨_, _, rfl, h0, h1⟩)) fun H3 e3 => q H3 ((e1.trans e2).trans e3)
/-! ### the word of a refusal -/
theorem el_flag {σ : L2.St} {H : Hp} {x c : V} {tc : TE} {i : Nat} {a D : Addr} {cv : Value} {b : Bool} (hi : σ[i]? = some (some (.ref a))) (ha : H a = some (ErrO (.ref D) none a)) (C : ExcC K D)
    (hc : Ev tc σ H c) (k : ClsV c cv) (e : PySem.W.kitOne K (.ref D) cv = some b) :
    EvL (tOp rRep (tLst (tCons (tC x) tNil)) (tCB (fun xs H Q => (∃ i, xs = [.int i] ∧ Q (.int i) H) ∨ ∃ k, xs = [.bl k] ∧ Q (.int (if k then 1 else 0)) H)
      (tCons (tCB (rIsErr K) (tCons (tVar i) (tCons tc tNil))) tNil))) σ H (if b = true then [x] else []) := by
  refine el_is (el_rep (k := if b = true then 1 else 0) (el_lst (ea_cons ev_c ea_nil) (by show 1 ≤ 100000; decide)) (ev_cb (ea_cons (ev_cb (ea_cons (ev_var hi) (ea_cons hc ea_nil)) (rc_err ha C k e)) ea_nil) rc_int) (by cases b <;> decide) (by cases b <;> decide) (by show 1 ≤ 1000; decide)) ?_
  cases b <;> rfl
theorem el_flagN {σ : L2.St} {H : Hp} {x c : V} {tc : TE} {i : Nat} {a D : Addr} {cv : Value} {b : Bool} (hi : σ[i]? = some (some (.ref a))) (ha : H a = some (ErrO (.ref D) none a)) (C : ExcC K D)
    (hc : Ev tc σ H c) (k : ClsV c cv) (e : PySem.W.kitOne K (.ref D) cv = some b) :
    EvL (tOp rRep (tLst (tCons (tC x) tNil)) (tCB (fun xs H Q => (∃ i, xs = [.int i] ∧ Q (.int i) H) ∨ ∃ k, xs = [.bl k] ∧ Q (.int (if k then 1 else 0)) H)
      (tCons (tNotV (tCB (rIsErr K) (tCons (tVar i) (tCons tc tNil)))) tNil))) σ H (if b = true then [] else [x]) := by
  refine el_is (el_rep (k := if (!b) = true then 1 else 0) (el_lst (ea_cons ev_c ea_nil) (by show 1 ≤ 100000; decide)) (ev_cb (ea_cons (ev_notV (ev_cb (ea_cons (ev_var hi) (ea_cons hc ea_nil)) (rc_err ha C k e))) ea_nil) rc_int) (by cases b <;> decide) (by cases b <;> decide) (by show 1 ≤ 1000; decide)) ?_
  cases b <;> rfl
def pKind (A : Ad) (K : PySem.W.Frag) (vs : List V) (H : Hp) : Prop := ∃ a, vs = [.ref a] ∧ H a = some (ErrO (.ref A.c_BadWord) none a) ∧ ExcC K A.c_BadWord
def rKind (_ : List V) : V := .str "word"
theorem ok_l_kind (T : Txt K mg A) : FnOk P w K mg base CX0 1 A.f_l_kind A.d_l_kind P_l_kind (SpFn (pKind A K) rKind) := by
  refine T.F_l_kind.ok sc_l_kind (fun vs H Q E h => ?_) (fun cdv A' outer s H vs Q E hr h => ?_)
  · obtain ⟨⟨a, rfl, _⟩, _⟩ := h
    rfl
  · obtain ⟨⟨a, rfl, ha, C⟩, q⟩ := h
    refine ⟨_, (pss_cons (ps_set (i := 1) sc_l_kind.nd rfl (Or.inl rfl) (pe_op op_cat (pe_op op_rep (pe_lst (pa_cons pe_str pa_nil)) (pe_callTy call_int1 (by rfl) T.n_int (by decide +kernel) (pa_cons (pe_callB call_isErr (by rfl) T.n_isinstance (by decide +kernel) (pa_cons (pv 0) (pa_cons (pe_glob (v := .ref A.c_BadWord) rfl T.g_BadWord rfl) pa_nil))) pa_nil))) (pe_op op_rep (pe_lst (pa_cons pe_str pa_nil)) (pe_callTy call_int1 (by rfl) T.n_int (by decide +kernel) (pa_cons (pe_callB call_isErr (by rfl) T.n_isinstance (by decide +kernel) (pa_cons (pv 0) (pa_cons (pe_glob (v := .ref A.c_BadRule) rfl T.g_BadRule rfl) pa_nil))) pa_nil)))))
      (pss_cons (ps_set (i := 1) sc_l_kind.nd rfl (Or.inl rfl) (pe_op op_cat (pe_op op_cat (pv 1) (pe_op op_rep (pe_lst (pa_cons pe_str pa_nil)) (pe_callTy call_int1 (by rfl) T.n_int (by decide +kernel) (pa_cons (pe_callB call_isErr (by rfl) T.n_isinstance (by decide +kernel) (pa_cons (pv 0) (pa_cons (pe_glob (v := .ref A.c_BadText) rfl T.g_BadText rfl) pa_nil))) pa_nil)))) (pe_op op_rep (pe_lst (pa_cons pe_str pa_nil)) (pe_callTy call_int1 (by rfl) T.n_int (by decide +kernel) (pa_cons (pe_callB call_isErr (by rfl) T.n_isinstance (by decide +kernel) (pa_cons (pv 0) (pa_cons (pe_glob (v := .ref A.c_Twice) rfl T.g_Twice rfl) pa_nil))) pa_nil)))))
      (pss_cons (ps_set (i := 1) sc_l_kind.nd rfl (Or.inl rfl) (pe_op op_cat (pe_op op_cat (pv 1) (pe_op op_rep (pe_lst (pa_cons pe_str pa_nil)) (pe_callTy call_int1 (by rfl) T.n_int (by decide +kernel) (pa_cons (pe_callB call_isErr (by rfl) T.n_isinstance (by decide +kernel) (pa_cons (pv 0) (pa_cons (pe_glob (v := .ref A.c_NoStem) rfl T.g_NoStem rfl) pa_nil))) pa_nil)))) (pe_op op_rep (pe_lst (pa_cons pe_str pa_nil)) (pe_callTy call_int1 (by rfl) T.n_int (by decide +kernel) (pa_cons (pe_callB call_isErr (by rfl) T.n_isinstance (by decide +kernel) (pa_cons (pv 0) (pa_cons (pe_glob (v := .ref A.c_NoClass) rfl T.g_NoClass rfl) pa_nil))) pa_nil)))))
      (pss_cons (ps_set (i := 1) sc_l_kind.nd rfl (Or.inl rfl) (pe_op op_cat (pe_op op_cat (pv 1) (pe_op op_rep (pe_lst (pa_cons pe_str pa_nil)) (pe_callTy call_int1 (by rfl) T.n_int (by decide +kernel) (pa_cons (pe_callB call_isErr (by rfl) T.n_isinstance (by decide +kernel) (pa_cons (pv 0) (pa_cons (pe_glob (v := .ref A.c_InUse) rfl T.g_InUse rfl) pa_nil))) pa_nil)))) (pe_op op_rep (pe_lst (pa_cons pe_str pa_nil)) (pe_callTy call_int1 (by rfl) T.n_int (by decide +kernel) (pa_cons (pe_callB call_isErr (by rfl) T.n_isinstance (by decide +kernel) (pa_cons (pv 0) (pa_cons (pe_glob (v := .ref A.c_TooMany) rfl T.g_TooMany rfl) pa_nil))) pa_nil)))))
      (pss_cons (ps_set (i := 1) sc_l_kind.nd rfl (Or.inl rfl) (pe_op op_cat (pe_op op_cat (pv 1) (pe_op op_rep (pe_lst (pa_cons pe_str pa_nil)) (pe_callTy call_int1 (by rfl) T.n_int (by decide +kernel) (pa_cons (pe_callB call_isErr (by rfl) T.n_isinstance (by decide +kernel) (pa_cons (pv 0) (pa_cons (pe_glob (v := .ref A.c_NoNumber) rfl T.g_NoNumber rfl) pa_nil))) pa_nil)))) (pe_op op_rep (pe_lst (pa_cons pe_str pa_nil)) (pe_callTy call_int1 (by rfl) T.n_int (by decide +kernel) (pa_cons (pe_callB call_isErr (by rfl) T.n_isinstance (by decide +kernel) (pa_cons (pv 0) (pa_cons (pe_glob (v := .ref A.c_NoWord) rfl T.g_NoWord rfl) pa_nil))) pa_nil)))))
      (pss_cons (ps_set (i := 1) sc_l_kind.nd rfl (Or.inl rfl) (pe_op op_cat (pe_op op_cat (pv 1) (pe_op op_rep (pe_lst (pa_cons pe_str pa_nil)) (pe_callTy call_int1 (by rfl) T.n_int (by decide +kernel) (pa_cons (pe_callB call_isErr (by rfl) T.n_isinstance (by decide +kernel) (pa_cons (pv 0) (pa_cons (pe_glob (v := .ref A.c_BadPrice) rfl T.g_BadPrice rfl) pa_nil))) pa_nil)))) (pe_op op_rep (pe_lst (pa_cons pe_str pa_nil)) (pe_callTy call_int1 (by rfl) T.n_int (by decide +kernel) (pa_cons (pe_callB call_isErr (by rfl) T.n_isinstance (by decide +kernel) (pa_cons (pv 0) (pa_cons (pe_glob (v := .ref A.c_NoPlace) rfl T.g_NoPlace rfl) pa_nil))) pa_nil)))))
      (pss_cons (ps_set (i := 1) sc_l_kind.nd rfl (Or.inl rfl) (pe_op op_cat (pv 1) (pe_op op_rep (pe_lst (pa_cons pe_str pa_nil)) (pe_callTy call_int1 (by rfl) T.n_int (by decide +kernel) (pa_cons (pe_callB call_isErr (by rfl) T.n_isinstance (by decide +kernel) (pa_cons (pv 0) (pa_cons (pe_glob (v := .ref A.c_BadPattern) rfl T.g_BadPattern rfl) pa_nil))) pa_nil)))))
      (pss_one (ps_ret (pe_join pe_str (pe_op op_cat (pv 1) (pe_op op_rep (pe_lst (pa_cons pe_str pa_nil)) (pe_callTy call_int1 (by rfl) T.n_int (by decide +kernel) (pa_cons (pe_not (pe_callB call_isErr (by rfl) T.n_isinstance (by decide +kernel) (pa_cons (pv 0) (pa_cons (pe_bltn (v := .ty "ValueError") (by rfl) T.n_ValueError (by decide +kernel) rfl) pa_nil)))) pa_nil)))))))))))))), ?_⟩
    refine q_asgL (xs := [.str "word"]) (el_is (el_catLL (el_flag rfl ha C ev_c (.own _) T.i_BadWord_BadWord) (el_flag rfl ha C ev_c (.own _) T.i_BadWord_BadRule) (by decide)) rfl) fun p1 H1 _ e1 h1 => ?_
    have ha := e1 a _ ha
    refine q_asgL (xs := [.str "word"]) (el_is (el_catLL (el_catVL (ev_var rfl) h1 (el_flag rfl ha C ev_c (.own _) T.i_BadWord_BadText) (by decide)) (el_flag rfl ha C ev_c (.own _) T.i_BadWord_Twice) (by decide)) rfl) fun p2 H2 _ e2 h2 => ?_
    have ha := e2 a _ ha
    refine q_asgL (xs := [.str "word"]) (el_is (el_catLL (el_catVL (ev_var rfl) h2 (el_flag rfl ha C ev_c (.own _) T.i_BadWord_NoStem) (by decide)) (el_flag rfl ha C ev_c (.own _) T.i_BadWord_NoClass) (by decide)) rfl) fun p3 H3 _ e3 h3 => ?_
    have ha := e3 a _ ha
    refine q_asgL (xs := [.str "word"]) (el_is (el_catLL (el_catVL (ev_var rfl) h3 (el_flag rfl ha C ev_c (.own _) T.i_BadWord_InUse) (by decide)) (el_flag rfl ha C ev_c (.own _) T.i_BadWord_TooMany) (by decide)) rfl) fun p4 H4 _ e4 h4 => ?_
    have ha := e4 a _ ha
    refine q_asgL (xs := [.str "word"]) (el_is (el_catLL (el_catVL (ev_var rfl) h4 (el_flag rfl ha C ev_c (.own _) T.i_BadWord_NoNumber) (by decide)) (el_flag rfl ha C ev_c (.own _) T.i_BadWord_NoWord) (by decide)) rfl) fun p5 H5 _ e5 h5 => ?_
    have ha := e5 a _ ha
    refine q_asgL (xs := [.str "word"]) (el_is (el_catLL (el_catVL (ev_var rfl) h5 (el_flag rfl ha C ev_c (.own _) T.i_BadWord_BadPrice) (by decide)) (el_flag rfl ha C ev_c (.own _) T.i_BadWord_NoPlace) (by decide)) rfl) fun p6 H6 _ e6 h6 => ?_
    have ha := e6 a _ ha
    refine q_asgL (xs := [.str "word"]) (el_is (el_catVL (ev_var rfl) h6 (el_flag rfl ha C ev_c (.own _) T.i_BadWord_BadPattern) (by decide)) rfl) fun p7 H7 _ e7 h7 => ?_
    have ha := e7 a _ ha
    refine s_ret (v := .str "word") (ev_is (ev_joinL (ys := ["word"]) ev_c (el_catVL (ev_var rfl) h7 (el_flagN rfl ha C ev_c (.ty _) T.i_BadWord_ValueError) (by decide)) rfl (by decide +kernel)) ?_) fun H8 e8 => q H8 (((((((e1.trans e2).trans e3).trans e4).trans e5).trans e6).trans e7).trans e8)
    exact congrArg V.str (by decide +kernel)
/-! ### the law's texts -/
def signs (z : Str) : Prop := z.cps.toList.all (· < 1114112) = true
theorem join0 : ∀ ys : List Str, (Txt.join "" ys).cps.toList = (ys.map fun y => y.cps.toList).flatten := by
  intro ys
  show (Builtin.Str.glued "" ys).cps.toList = _
  rw [StrLaws.glued_eq_join]
  induction ys with
  | nil => rfl
  | cons x r ih =>
    cases r with
    | nil => show x.cps.toList = x.cps.toList ++ []; rw [List.append_nil]
    | cons y r =>
      show (x ++ "" ++ Str.join "" (y :: r)).cps.toList = x.cps.toList ++ _
      have e : (x ++ ("" : Str)) = x := by rw [empty_cps]; exact Str.append_empty x
      rw [e, ← ih, Str.cps_append, Array.toList_append]
theorem signs_add {a b : Str} (h : signs a) (h' : signs b) : signs (a ++ b) := by
  unfold signs at *
  rw [Str.cps_append, Array.toList_append, List.all_append, h, h'] <;> rfl
theorem signs_cut {a : Str} (h : signs a) (lo hi : Option Int) : signs (cutS a lo hi) := by
  unfold signs cutS at *
  rw [List.all_eq_true] at *
  intro x hx
  exact h x (List.mem_of_mem_drop (List.mem_of_mem_take hx))
theorem cut_len (a : Str) (lo hi : Option Int) : (cutS a lo hi).length ≤ a.length := by
  show (cutS a lo hi).cps.size ≤ a.cps.size
  unfold cutS
  rw [← Array.length_toList, ← Array.length_toList, List.length_take, List.length_drop]
  omega
theorem getD_at {ns : List Int} {i : Int} (h0 : 0 ≤ i) (h1 : i < ns.length) : atI (ns.map V.int) i = some (.int (ns.getD i.toNat 0)) := by
  obtain ⟨j, hj⟩ : ∃ j : Nat, i = (j : Int) := ⟨i.toNat, by omega⟩
  subst hj
  have h3 : j < ns.length := by omega
  refine atI_nat ?_
  rw [List.getElem?_map, List.getElem?_eq_getElem h3]
  simp [List.getD, List.getElem?_eq_getElem h3]
theorem sign_at {ns : List Nat} {i : Int} (h0 : 0 ≤ i) (h1 : i < ns.length) : atI ns i = some (ns.getD i.toNat 0) := by
  obtain ⟨j, hj⟩ : ∃ j : Nat, i = (j : Int) := ⟨i.toNat, by omega⟩
  subst hj
  have h3 : j < ns.length := by omega
  refine atI_nat ?_
  simp [List.getD, List.getElem?_eq_getElem h3]
theorem getD_signs {z : Str} (h : signs z) (i : Nat) : z.cps.toList.getD i 0 < 1114112 := by
  unfold signs at h
  rw [List.all_eq_true] at h
  by_cases hi : i < z.cps.toList.length
  · have e : z.cps.toList.getD i 0 = z.cps.toList[i] := by rw [List.getD_eq_getElem?_getD, List.getElem?_eq_getElem hi]; rfl
    rw [e]
    simpa using h _ (List.getElem_mem hi)
  · have e : z.cps.toList.getD i 0 = 0 := by simp [List.getD, List.getElem?_eq_none (Nat.le_of_not_lt hi)]
    rw [e]
    decide
abbrev alph : Str := "abcdefghijklmnopqrstuvwxyz"
theorem alph_len : alph.length = 26 := by decide +kernel
theorem alph_list : alph.cps.toList.length = 26 := by decide +kernel
theorem alph_signs : signs alph := by unfold signs; decide +kernel
/-- one sign of a text, at a place -/
def sgn (z : Str) (i : Int) : Str := ⟨#[z.cps.toList.getD i.toNat 0]⟩
theorem ev_sgn {σ : L2.St} {H : Hp} {ta tb : TE} {z : Str} {i : Int} (ha : Ev ta σ H (.str z)) (hb : Ev tb σ H (.int i)) (hz : z.length ≤ 100000) (h0 : 0 ≤ i) (h1 : i < z.cps.toList.length) : Ev (tOp rIxS ta tb) σ H (.str (sgn z i)) :=
  ev_op ha hb (rv_ixS hz (sign_at h0 h1))
theorem sgn_signs {z : Str} (h : signs z) (i : Int) : signs (sgn z i) := by
  unfold signs sgn
  simpa using getD_signs h i.toNat
/-- letters at drawn places -/
def drawn (n : Nat) (g : Nat → Int) : Str := Txt.join "" ((List.range n).map fun i => sgn alph (g i))
theorem drawn_list (n : Nat) (g : Nat → Int) : (drawn n g).cps.toList = (List.range n).map fun i => alph.cps.toList.getD (g i).toNat 0 := by
  unfold drawn
  rw [join0, List.map_map]
  induction n with
  | zero => rfl
  | succ n ih =>
    rw [List.range_succ, List.map_append, List.map_append, List.flatten_append, ih]
    rfl
theorem drawn_len (n : Nat) (g : Nat → Int) : (drawn n g).length = n := by
  show (drawn n g).cps.size = n
  rw [← Array.length_toList, drawn_list, List.length_map, List.length_range]
theorem drawn_signs (n : Nat) (g : Nat → Int) : signs (drawn n g) := by
  unfold signs
  rw [drawn_list, List.all_eq_true]
  intro x hx
  obtain ⟨i, _, rfl⟩ := List.mem_map.mp hx
  simpa using getD_signs alph_signs (g i).toNat
theorem sum_ones {n : Nat} {g : Nat → Int} : ((((List.range n).map fun i => sgn alph (g i)).map (·.length)).sum + ((List.range n).map fun i => sgn alph (g i)).length * ("" : Str).length) = n := by
  have e : ("" : Str).length = 0 := by decide +kernel
  rw [e, Nat.mul_zero, Nat.add_zero, List.map_map]
  induction n with
  | zero => rfl
  | succ n ih =>
    rw [List.range_succ, List.map_append, List.sum_append, ih]
    rfl
def spText : Sp := fun vs H Q _ => ∃ c k, vs = [.int c, .int k] ∧ 0 ≤ k ∧ k ≤ 1000 ∧ ∀ z H', z.length ≤ 40 → signs z → Ex H H' → Q (.str z) H'
def szs (c : Int) : List Int := [c / 8 % 19, 1 + c / 8 % 16, 15 + c / 8 % 4]
def sz (c : Int) : Int := (szs c).getD (c / 152 % 3).toNat 0
theorem sz_bd (c : Int) : 0 ≤ sz c ∧ sz c ≤ 18 := by
  have h0 : 0 ≤ c / 152 % 3 := Int.emod_nonneg _ (by decide)
  have h1 : c / 152 % 3 < 3 := Int.emod_lt_of_pos _ (by decide)
  unfold sz szs
  have : (c / 152 % 3).toNat = 0 ∨ (c / 152 % 3).toNat = 1 ∨ (c / 152 % 3).toNat = 2 := by omega
  rcases this with e | e | e <;> rw [e]
  · show 0 ≤ c / 8 % 19 ∧ c / 8 % 19 ≤ 18
    omega
  · show 0 ≤ 1 + c / 8 % 16 ∧ 1 + c / 8 % 16 ≤ 18
    omega
  · show 0 ≤ 15 + c / 8 % 4 ∧ 15 + c / 8 % 4 ≤ 18
    omega
abbrev odd : Str := "AZ09 -_.'#[^~@{`Q/"
theorem odd_len : odd.length = 18 := by decide +kernel
theorem odd_list : odd.cps.toList.length = 18 := by decide +kernel
theorem odd_signs : signs odd := by unfold signs; decide +kernel
theorem ok_l_text (T : Txt K mg A) : FnOk P w K mg base CX0 2 A.f_l_text A.d_l_text P_l_text spText := by
  refine T.F_l_text.ok sc_l_text (fun vs H Q E h => ?_) (fun cdv A' outer s H vs Q E hr h => ?_)
  · obtain ⟨c, k, rfl, _⟩ := h
    rfl
  · obtain ⟨c, k, rfl, h0, h1, q⟩ := h
    refine ⟨_, (pss_cons (ps_set (i := 2) sc_l_text.nd rfl (Or.inr rfl) pe_str)
      (pss_cons (ps_set (i := 3) sc_l_text.nd rfl (Or.inl rfl) (pe_ix ix_list (pe_lst (pa_cons (pe_op op_mod (pe_op op_fdiv (pv 0) pe_int) pe_int) (pa_cons (pe_op op_add pe_int (pe_op op_mod (pe_op op_fdiv (pv 0) pe_int) pe_int)) (pa_cons (pe_op op_add pe_int (pe_op op_mod (pe_op op_fdiv (pv 0) pe_int) pe_int)) pa_nil)))) (pe_op op_mod (pe_op op_fdiv (pv 0) pe_int) pe_int) (fun _ _ => rfl)))
      (pss_cons (ps_set (i := 4) sc_l_text.nd rfl (Or.inl rfl) (pe_join pe_str (pe_lc (own := [("_law_j", 7)]) (by rfl) sc_l_text.nd (pi_range1 rfl T.n_range (pa_cons (pv 3) pa_nil)) (blkOk_by (own := [("_law_j", 7)]) (N := N_l_text) (sc := defScope s_l_text) (by decide +kernel)) (fun _ _ _ _ _ => (pg_name (i := 7) sc_l_text.nd rfl (Or.inl rfl))) (fun _ _ _ _ _ => pts_nil) (fun _ _ _ _ _ => (pe_ix ix_str (pv 2) (pe_op op_mod (pe_op op_fdiv (pe_call (ok_l_mixed T) hr rfl T.g_l_mixed T.k_l_mixed T.b_l_mixed .nil pass0 (pa_cons (pv 0) (pa_cons (pe_op op_add (pv 1) (pv 7)) pa_nil))) pe_int) pe_int) (fun _ _ => rfl))))))
      (pss_cons (ps_set (i := 5) sc_l_text.nd rfl (Or.inl rfl) (pe_op op_mod (pe_op op_fdiv (pv 0) pe_int) (pe_op op_add (pv 3) pe_int)))
      (pss_cons (ps_set (i := 6) sc_l_text.nd rfl (Or.inl rfl) (pe_ix ix_str pe_str (pe_op op_mod (pe_op op_fdiv (pv 0) pe_int) pe_int) (fun _ _ => rfl)))
      (pss_cons (ps_if (pt_cmpR op_eq (pe_op op_mod (pv 0) pe_int) pe_int (nomark _)) (pss_one (ps_ret (pe_op op_add_str (pe_op op_add_str (pe_slice sl_str (pv 4) po_none (po_some (pv 5))) (pv 6)) (pe_slice sl_str (pv 4) (po_some (pv 5)) po_none)))) pss_nil)
      (pss_cons (ps_if (pt_cmpR op_eq (pe_op op_mod (pv 0) pe_int) pe_int (nomark _)) (pss_one (ps_ret (pe_op op_add_str (pe_op op_add_str (pe_slice sl_str (pv 4) po_none (po_some (pv 5))) (pv 6)) (pe_slice sl_str (pv 4) (po_some (pe_op op_add (pv 5) pe_int)) po_none)))) pss_nil)
      (pss_one (ps_ret (pv 4)))))))))), ?_⟩
    have hz := sz_bd c
    have m0 : 0 ≤ c / 152 % 3 := Int.emod_nonneg _ (by decide)
    have m1 : c / 152 % 3 < 3 := Int.emod_lt_of_pos _ (by decide)
    refine q_asg (v := .str alph) ev_c fun H1 e1 => ?_
    refine q_asg (v := .int (sz c)) (ev_opL1 (el_lst (ea_cons (ev_op (ev_op (ev_var rfl) ev_c (rv_I ⟨by decide, by decide⟩)) ev_c (rv_I (by show (0 : Int) < _; decide)))
      (ea_cons (ev_op ev_c (ev_op (ev_op (ev_var rfl) ev_c (rv_I ⟨by decide, by decide⟩)) ev_c (rv_I (by show (0 : Int) < _; decide))) rv_I0)
      (ea_cons (ev_op ev_c (ev_op (ev_op (ev_var rfl) ev_c (rv_I ⟨by decide, by decide⟩)) ev_c (rv_I (by show (0 : Int) < _; decide))) rv_I0) ea_nil))) (by show 3 ≤ 100000; decide))
      (fun H2 e2 => ev_op (ev_op (ev_var rfl) ev_c (rv_I ⟨by decide, by decide⟩)) ev_c (rv_I (by show (0 : Int) < _; decide)))
      (fun p H2 hp e2 => rv_ixL (sq_of hp) (getD_at (ns := szs c) m0 m1))) fun H2 e2 => ?_
    refine q_asg (v := .str (drawn (sz c).toNat fun i => mix c (k + i) / 5 % 26)) (ev_joinL ev_c (el_lcR1 (fun _ => true) (fun i => .str (sgn alph (mix c (k + i) / 5 % 26))) (ea_cons (ev_var rfl) ea_nil) ⟨by omega, by omega⟩ (fun _ => rfl)
      (fun i H3 e3 hi => et_yes)
      (fun i H3 e3 hi _ => ev_sgn (ev_var rfl) (ev_op (ev_op (ev_call (ea_cons (ev_var rfl) (ea_cons (ev_op (ev_var rfl) (ev_var rfl) rv_I0) ea_nil)) (spFn fun H4 e4 => ⟨_, _, rfl, by omega, by omega⟩)) ev_c (rv_I ⟨by decide, by decide⟩)) ev_c (rv_I (by show (0 : Int) < _; decide)))
        (by rw [alph_len]; decide) (Int.emod_nonneg _ (by decide)) (by rw [alph_list]; exact Int.emod_lt_of_pos _ (by decide))))
      (by rw [given_all, List.map_map]; rfl) (by rw [sum_ones]; omega)) fun H3 e3 => ?_
    generalize hx : drawn (sz c).toNat (fun i => mix c (k + i) / 5 % 26) = x
    have xl : x.length ≤ 18 := by rw [← hx, drawn_len]; omega
    have xs : signs x := by rw [← hx]; exact drawn_signs _ _
    refine q_asg (v := .int (c / 500 % (sz c + 1))) (ev_op (ev_op (ev_var rfl) ev_c (rv_I ⟨by decide, by decide⟩)) (ev_op (ev_var rfl) ev_c rv_I0) (rv_I (by show (0 : Int) < _; omega))) fun H4 e4 => ?_
    refine q_asg (v := .str (sgn odd (c / 10000 % 18))) (ev_sgn ev_c (ev_op (ev_op (ev_var rfl) ev_c (rv_I ⟨by decide, by decide⟩)) ev_c (rv_I (by show (0 : Int) < _; decide)))
      (by rw [odd_len]; decide) (Int.emod_nonneg _ (by decide)) (by rw [odd_list]; exact Int.emod_lt_of_pos _ (by decide))) fun H5 e5 => ?_
    have es := (((e1.trans e2).trans e3).trans e4).trans e5
    have os : signs (sgn odd (c / 10000 % 18)) := sgn_signs odd_signs _
    have ol : (sgn odd (c / 10000 % 18)).length = 1 := rfl
    have c1 := cut_len x none (some (c / 500 % (sz c + 1)))
    have c2 := cut_len x (some (c / 500 % (sz c + 1))) none
    have c3 := cut_len x (some (c / 500 % (sz c + 1) + 1)) none
    refine q_when (et_test (ev_op (ev_op (ev_var rfl) ev_c (rv_I (by show (0 : Int) < _; decide))) ev_c (rv_eq rfl))) (fun _ H6 e6 => ?_) fun _ H6 e6 => ?_
    · refine s_ret (ev_op (ev_op (ev_slS (ev_var rfl) eo_none (eo_some (ev_var rfl)) (by omega)) (ev_var rfl) (rv_addS (by rw [ol]; omega)))
        (ev_slS (ev_var rfl) (eo_some (ev_var rfl)) eo_none (by omega)) (rv_addS (by rw [Str.length_append, ol]; omega))) fun H7 e7 => q _ H7 (by rw [Str.length_append, Str.length_append, ol]; omega) (signs_add (signs_add (signs_cut xs _ _) os) (signs_cut xs _ _)) ((es.trans e6).trans e7)
    refine q_when (et_test (ev_op (ev_op (ev_var rfl) ev_c (rv_I (by show (0 : Int) < _; decide))) ev_c (rv_eq rfl))) (fun _ H7 e7 => ?_) fun _ H7 e7 => ?_
    · refine s_ret (ev_op (ev_op (ev_slS (ev_var rfl) eo_none (eo_some (ev_var rfl)) (by omega)) (ev_var rfl) (rv_addS (by rw [ol]; omega)))
        (ev_slS (ev_var rfl) (eo_some (ev_op (ev_var rfl) ev_c rv_I0)) eo_none (by omega)) (rv_addS (by rw [Str.length_append, ol]; omega))) fun H8 e8 => q _ H8 (by rw [Str.length_append, Str.length_append, ol]; omega) (signs_add (signs_add (signs_cut xs _ _) os) (signs_cut xs _ _)) (((es.trans e6).trans e7).trans e8)
    exact s_ret (ev_var rfl) fun H8 e8 => q _ H8 (by omega) xs (((es.trans e6).trans e7).trans e8)
/-! ### the law's look at letters -/
theorem leS (i j : List Nat) : (!decide (j < i)) = !decide (j < i) := rfl
def offS (c : Nat) : Bool := !((!decide ([c] < ([97] : List Nat))) && (!decide (([122] : List Nat) < [c])))
theorem offS_small (c : Nat) : offS c = !small c := by
  unfold offS small
  have h1 : decide ([c] < ([97] : List Nat)) = decide (c < 97) := by
    rw [decide_eq_decide]
    constructor
    · intro h
      rcases List.cons_lt_cons_iff.mp h with h | ⟨_, h⟩
      · exact h
      · exact absurd h (by simp)
    · intro h
      exact List.cons_lt_cons_iff.mpr (Or.inl h)
  have h2 : decide (([122] : List Nat) < [c]) = decide (122 < c) := by
    rw [decide_eq_decide]
    constructor
    · intro h
      rcases List.cons_lt_cons_iff.mp h with h | ⟨_, h⟩
      · exact h
      · exact absurd h (by simp)
    · intro h
      exact List.cons_lt_cons_iff.mpr (Or.inl h)
  rw [h1, h2]
  congr 1
  rw [Bool.eq_iff_iff]
  simp
theorem a_cps : ("a" : Str).cps.toList = [97] := by decide +kernel
theorem z_cps : ("z" : Str).cps.toList = [122] := by decide +kernel
theorem given_none (z : Str) (g : Nat → V) : (given z.cps.size (fun i => offS (z.cps.toList.getD i 0)) g).isEmpty = lets z := by
  unfold given
  rw [List.isEmpty_map, Bool.eq_iff_iff, List.isEmpty_iff, List.filter_eq_nil_iff]
  unfold lets
  rw [List.all_eq_true]
  constructor
  · intro h x hx
    obtain ⟨i, hi, rfl⟩ := List.mem_iff_getElem.mp hx
    have := h i (List.mem_range.mpr (by rw [Array.length_toList] at hi; exact hi))
    rw [offS_small, List.getD_eq_getElem?_getD, List.getElem?_eq_getElem hi] at this
    simpa using this
  · intro h i hi
    have hi' : i < z.cps.toList.length := by rw [Array.length_toList]; exact List.mem_range.mp hi
    rw [offS_small, List.getD_eq_getElem?_getD, List.getElem?_eq_getElem hi']
    simpa using h _ (List.getElem_mem hi')
theorem ok_l_is_letters (T : Txt K mg A) : FnOk P w K mg base CX0 1 A.f_l_is_letters A.d_l_is_letters P_l_is_letters (SpFn pThing rL) := by
  refine T.F_l_is_letters.ok sc_l_is_letters (fun vs H Q E h => ?_) (fun cdv A' outer s H vs Q E hr h => ?_)
  · obtain ⟨⟨v, rfl, _⟩, _⟩ := h
    rfl
  · obtain ⟨⟨v, rfl, hv⟩, k⟩ := h
    refine ⟨_, (pss_cons (ps_if (pt_not (pt_val (pe_callB call_isi (by rfl) T.n_isinstance (by decide +kernel) (pa_cons (pv 0) (pa_cons (pe_bltn (v := .ty "str") (by rfl) T.n_str (by decide +kernel) rfl) pa_nil))))) (pss_one (ps_ret pe_bl)) pss_nil)
      (pss_one (ps_ret (pe_cmpR (op_eqD hr.units) (pe_lc (own := [("_law_sign", 1)]) (by rfl) sc_l_is_letters.nd (pi_str (pv 0)) (blkOk_by (own := [("_law_sign", 1)]) (N := N_l_is_letters) (sc := defScope s_l_is_letters) (by decide +kernel)) (fun _ _ _ _ _ => (pg_name (i := 1) sc_l_is_letters.nd rfl (Or.inl rfl))) (fun _ _ _ _ _ => pts_one (pt_not (pt_chain op_le_str op_le_str pe_str (pv 1) pe_str))) (fun _ _ _ _ _ => (pv 1))) (pe_lst pa_nil) (nomark _))))), ?_⟩
    refine q_when (b := !(isStr v)) (et_not (et_B (ev_cb (ea_cons (ev_var rfl) (ea_cons ev_c ea_nil)) (rc_isStr hv)))) (fun hb H1 e1 => ?_) fun hb H1 e1 => ?_
    · have : rL [v] = .bl false := by
        cases v with
        | str z => cases hb
        | _ => rfl
      exact s_ret ev_c fun H2 e2 => this ▸ k H2 (e1.trans e2)
    · obtain ⟨z, rfl⟩ := isStr_eq (v := v) (by simpa using hb)
      refine s_ret (v := .bl (lets z)) (ev_is (ev_eqNil (el_lcS (w := z) (fun i => offS (z.cps.toList.getD i 0)) (fun i => .str ⟨#[z.cps.toList.getD i 0]⟩) (ev_var rfl) (Nat.le_trans hv.1 (by decide)) (fun _ => rfl) (fun i c H2 e2 hc => ?_) (fun i c H2 e2 hc _ => ?_)) ?_) ?_) fun H2 e2 => k H2 (e1.trans e2)
      · have hd : z.cps.toList.getD i 0 = c := by
          rw [List.getD_eq_getElem?_getD, Array.getElem?_toList, hc]
          rfl
        rw [hd]
        refine et_is (et_not (et_test (ev_chain (x := .str "a") (y := .str ⟨#[c]⟩) (z := .str "z") ev_c (ev_var rfl) rv_leS (fun _ => ev_c) (fun _ => rv_leS)))) ?_
        unfold offS
        rw [a_cps, z_cps]
      · have hd : z.cps.toList.getD i 0 = c := by
          rw [List.getD_eq_getElem?_getD, Array.getElem?_toList, hc]
          rfl
        rw [hd]
        exact ev_var rfl
      · unfold given
        rw [List.all_map, List.all_eq_true]
        intro i _
        have := getD_signs (z := z) hv.2 i
        show (#[z.cps.toList.getD i 0] : Array Nat).all _ = true
        simpa using this
      · exact congrArg V.bl (given_none z _)
/-! ### the law's question of a refusal -/
def rRef : List V → V | [v] => .str (if vW v = true then "" else "word") | _ => .non
theorem ok_l_refused (T : Txt K mg A) : FnOk P w K mg base CX0 4 A.f_l_refused A.d_l_refused P_l_refused (SpFn pThing rRef) := by
  refine T.F_l_refused.ok sc_l_refused (fun vs H Q E h => ?_) (fun cdv A' outer s H vs Q E hr h => ?_)
  · obtain ⟨⟨v, rfl, _⟩, _⟩ := h
    rfl
  · obtain ⟨⟨v, rfl, hv⟩, k⟩ := h
    refine ⟨_, (pss_cons (ps_set (i := 1) sc_l_refused.nd rfl (Or.inl rfl) pe_non)
      (pss_cons (ps_set (i := 2) sc_l_refused.nd rfl (Or.inl rfl) pe_int)
      (pss_cons (ps_try_keep (i := 3) (Wout := fun _ _ _ _ => False) rfl rfl sc_l_refused.nd rfl rfl ⟨rfl, by decide, Or.inl T.g_MendError⟩ takes0 rfl
      (fun W pn xe tk _ => (pss_one (ps_set (i := 2) sc_l_refused.nd rfl (Or.inl rfl) (pe_callS (ok_need_word T) hr rfl T.g_need_word T.k_need_word T.b_need_word (fun σ => passAt tk σ) (pa_cons (pv 0) pa_nil)))))
      (fun _ _ => (pss_one (ps_set (i := 1) sc_l_refused.nd rfl (Or.inl rfl) (pv 3)))))
      (pss_cons (ps_if (pt_cmpR op_isN (pv 1) pe_non (nomark _)) (pss_one (ps_ret (pe_ifExp (pt_cmpR op_isN (pv 2) pe_non (nomark _)) pe_str pe_str))) pss_nil)
      (pss_one (ps_ret (pe_call (ok_l_kind T) (hr.mono (by decide)) rfl T.g_l_kind T.k_l_kind T.b_l_kind .nil pass0 (pa_cons (pv 1) pa_nil)))))))), ?_⟩
    refine q_asg ev_c fun H1 e1 => q_asg ev_c fun H2 e2 => ?_
    refine ⟨_, rfl, v, rfl, hv.mono (e1.trans e2), fun hy H3 e3 => ?_, fun hn H3 e3 => ?_⟩
    · refine q_when (et_test (ev_op (ev_var rfl) ev_c rv_isN)) (fun _ H4 e4 => ?_) fun hb => nomatch hb
      refine s_ret (v := .str "") (ev_if (b := true) (et_test (ev_op (ev_var rfl) ev_c rv_isN)) (fun _ => ev_c) fun h => nomatch h) fun H5 e5 => ?_
      have : rRef [v] = .str "" := by show V.str (if vW v = true then "" else "word") = _; rw [if_pos hy]
      exact this ▸ k H5 ((((e1.trans e2).trans e3).trans e4).trans e5)
    · refine ⟨true, T.m_BadWord_MendError, fun _ a na => ?_, fun q => nomatch q⟩
      refine s_asg (ev_var rfl) fun H4 e4 => ?_
      have e3' : Ex H3 (upd H3 a (ErrO (.ref A.c_BadWord) none a)) := Ex.new na
      have ha : H4 a = some (ErrO (.ref A.c_BadWord) none a) := e4 a _ upd_same
      refine q_when (et_test (ev_op (ev_var rfl) ev_c rv_isN)) (fun hb => nomatch hb) fun _ H5 e5 => ?_
      refine s_ret (v := .str "word") (ev_call (ea_cons (ev_var rfl) ea_nil) (spFn fun H6 e6 => ⟨a, rfl, e6 a _ (e5 a _ ha), T.e_BadWord⟩)) fun H6 e6 => ?_
      have : rRef [v] = .str "word" := by show V.str (if vW v = true then "" else "word") = _; rw [if_neg (by rw [hn]; decide)]
      exact this ▸ k H6 ((((((e1.trans e2).trans e3).trans e3').trans e4).trans e5).trans e6)
/-! ### the law at one thing -/
def rTrue (_ : List V) : V := .bl true
theorem ok_l_right (T : Txt K mg A) : FnOk P w K mg base CX0 5 A.f_l_right A.d_l_right P_l_right (SpFn pThing rTrue) := by
  refine T.F_l_right.ok sc_l_right (fun vs H Q E h => ?_) (fun cdv A' outer s H vs Q E hr h => ?_)
  · obtain ⟨⟨v, rfl, _⟩, _⟩ := h
    rfl
  · obtain ⟨⟨v, rfl, hv⟩, k⟩ := h
    refine ⟨_, (pss_cons (ps_set (i := 1) sc_l_right.nd rfl (Or.inl rfl) (pe_call (ok_l_is_letters T) (hr.mono (by decide)) rfl T.g_l_is_letters T.k_l_is_letters T.b_l_is_letters .nil pass0 (pa_cons (pv 0) pa_nil)))
      (pss_cons (ps_set (i := 2) sc_l_right.nd rfl (Or.inl rfl) (pe_and (pv 1) (pe_one (pe_chain op_le op_le pe_int (pe_callB call_len_str (by rfl) T.n_len PySem.boot_len (pa_cons (pv 0) pa_nil)) pe_int))))
      (pss_cons (ps_if (PW.pt (pw_or (pt_cmpR op_ne (pe_callB call_repr_bl (by rfl) T.n_repr (by decide +kernel) (pa_cons (pe_call (ok_are_letters T) (hr.mono (by decide)) rfl T.g_are_letters T.k_are_letters T.b_are_letters .nil pass0 (pa_cons (pv 0) pa_nil)) pa_nil)) (pe_callB call_repr_bl (by rfl) T.n_repr (by decide +kernel) (pa_cons (pv 1) pa_nil)) (nomark _)) (pw_or1 (pt_cmpR op_ne (pe_callB call_repr_bl (by rfl) T.n_repr (by decide +kernel) (pa_cons (pe_call (ok_is_word T) (hr.mono (by decide)) rfl T.g_is_word T.k_is_word T.b_is_word .nil pass0 (pa_cons (pv 0) pa_nil)) pa_nil)) (pe_callB call_repr_bl (by rfl) T.n_repr (by decide +kernel) (pa_cons (pv 2) pa_nil)) (nomark _))))) (pss_one (ps_ret pe_bl)) pss_nil)
      (pss_one (ps_ret (pe_cmpR op_eq (pe_call (ok_l_refused T) hr rfl T.g_l_refused T.k_l_refused T.b_l_refused .nil pass0 (pa_cons (pv 0) pa_nil)) (pe_ifExp (pt_val (pv 2)) pe_str pe_str) (nomark _))))))), ?_⟩
    have call : ∀ {H1 : Hp}, Ex H H1 → ∀ {σ : L2.St}, σ[0]? = some (some v) → EvA (tCons (tVar 0) tNil) σ H1 [v] := fun _ _ h => ea_cons (ev_var h) ea_nil
    refine q_asg (v := .bl (vL v)) (ev_call (ea_cons (ev_var rfl) ea_nil) (spFn fun H1 e => ⟨v, rfl, hv.mono e⟩)) fun H1 e1 => ?_
    refine q_asg (v := .bl (vW v)) (ev_is (ev_andV (a := vL v) (b := vW v) (ev_var rfl) fun hl => ?_) ?_) fun H2 e2 => ?_
    · cases v with
      | str z =>
        refine ev_is (ev_chain (x := .int 1) (y := .int z.length) (z := .int 16) ev_c (ev_cb (ea_cons (ev_var rfl) ea_nil) (rc_lenS (Nat.le_trans hv.1 (by decide)))) rv_I0 (fun _ => ev_c) (fun _ => rv_I0)) ?_
        have hl' : lets z = true := hl
        show V.bl _ = V.bl (lets z && _)
        rw [hl', Bool.true_and]
        congr 2 <;> (rw [decide_eq_decide]; omega)
      | _ => cases hl
    · cases v with
      | str z =>
        show V.bl (lets z && (lets z && _)) = V.bl (lets z && _)
        cases lets z <;> rfl
      | _ => rfl
    have hv2 := hv.mono (e1.trans e2)
    refine q_when (b := false) (et_is (et_or (et_test (ev_op (ev_cb (ea_cons (ev_call (ea_cons (ev_var rfl) ea_nil) (spFn fun H1 e => ⟨v, rfl, hv2.mono e⟩)) ea_nil) (rc_repr (b := vL v))) (ev_cb (ea_cons (ev_var rfl) ea_nil) (rc_repr (b := vL v))) (rv_ne rfl)))
      fun _ => et_test (ev_op (ev_cb (ea_cons (ev_call (ea_cons (ev_var rfl) ea_nil) (spFn fun H1 e => ⟨v, rfl, hv2.mono e⟩)) ea_nil) (rc_repr (b := vW v))) (ev_cb (ea_cons (ev_var rfl) ea_nil) (rc_repr (b := vW v))) (rv_ne rfl))) (by simp)) (fun hb => nomatch hb) fun _ H3 e3 => ?_
    cases hw : vW v with
    | true =>
      refine s_ret (v := .bl true) (ev_is (ev_op (x := .str "") (y := .str "") (ev_is (ev_call (ea_cons (ev_var rfl) ea_nil) (spFn fun H1 e => ⟨v, rfl, (hv2.mono e3).mono e⟩)) (by show V.str (if vW v = true then "" else "word") = _; rw [hw]; rfl)) (ev_if (b := true) (et_B (ev_var rfl)) (fun _ => ev_c) fun h => nomatch h) (rv_eq rfl)) (by simp)) fun H4 e4 => k H4 (((e1.trans e2).trans e3).trans e4)
    | false =>
      refine s_ret (v := .bl true) (ev_is (ev_op (x := .str "word") (y := .str "word") (ev_is (ev_call (ea_cons (ev_var rfl) ea_nil) (spFn fun H1 e => ⟨v, rfl, (hv2.mono e3).mono e⟩)) (by show V.str (if vW v = true then "" else "word") = _; rw [hw]; rfl)) (ev_if (b := false) (et_B (ev_var rfl)) (fun h => nomatch h) fun _ => ev_c) (rv_eq rfl)) (by simp)) fun H4 e4 => k H4 (((e1.trans e2).trans e3).trans e4)
/-! ### the law -/
theorem q_asgC {σ : L2.St} {H : Hp} {D : Ends} {tz : TS} {sp : Sp} {dvs vs : List V} {E : XK} {ta : TA} {i : Nat} (h : EvA ta σ H vs) (hs : ∀ H1, Ex H H1 → sp (vs ++ dvs) H1 (fun v H2 => tz D (σ.set i (some v)) H2) E) :
    tSeq (tAsg (tCall sp dvs E ta) (gName i)) tz D σ H := h H (Ex.refl H) _ fun H1 e => hs H1 e
theorem q_asgTh {σ : L2.St} {H : Hp} {D : Ends} {tz : TS} {ta : TA} {i n : Nat} (h : EvThs ta σ H n) (hn : n ≤ 1000)
    (k : ∀ p xs H1, Ex H H1 → H1 p = some (.lst xs) → xs.length = n → (∀ v ∈ xs, Thing H1 v) → tz D (σ.set i (some (.ref p))) H1) : tSeq (tAsg (tLst ta) (gName i)) tz D σ H :=
  h H (Ex.refl H) _ fun vs H1 e hl hvs => ⟨by rw [hl]; exact sz_of (by omega), fun p hp => k p vs _ (e.trans (Ex.new hp)) upd_same hl fun v hv => (hvs v hv).mono (Ex.new hp)⟩
theorem at_mem {xs : List V} {i : Int} (h0 : 0 ≤ i) (h1 : i < xs.length) : ∃ v, atI xs i = some v ∧ v ∈ xs := by
  obtain ⟨j, hj⟩ : ∃ j : Nat, i = (j : Int) := ⟨i.toNat, by omega⟩
  subst hj
  have h3 : j < xs.length := by omega
  exact ⟨xs[j], atI_nat (List.getElem?_eq_getElem h3), List.getElem_mem h3⟩
def spLaw (K : PySem.W.Frag) : Sp := fun vs H Q _ => ∃ (a : Addr) (ns : List Int), vs = [.ref a] ∧ SqL K H a (ns.map V.int) ∧ ns.length ≤ 63 ∧ ∀ H', Q (.bl true) H'
theorem ok_law (T : Txt K mg A) : FnOk P w K mg base CX0 6 A.f_law A.d_law P_law (spLaw K) := by
  refine T.F_law.ok sc_law (fun vs H Q E h => ?_) (fun cdv A' outer s H vs Q E hr h => ?_)
  · obtain ⟨a, ns, rfl, _⟩ := h
    rfl
  · obtain ⟨a, ns, rfl, hS, hlen, k⟩ := h
    refine ⟨_, (pss_cons (ps_for PassesOwn.never rfl (pi_range1 rfl T.n_range (pa_cons (pe_op op_add pe_int (pe_callB (call_min2 rfl) (by rfl) T.n_min (by decide +kernel) (pa_cons pe_int (pa_cons (pe_callB call_len_seq (by rfl) T.n_len PySem.boot_len (pa_cons (pv 0) pa_nil)) pa_nil)))) pa_nil)) (pg_name (i := 1) sc_law.nd rfl (Or.inl rfl))
      (pss_cons (ps_set (i := 2) sc_law.nd rfl (Or.inl rfl) (pe_call (ok_l_number T) (hr.mono (by decide)) rfl T.g_l_number T.k_l_number T.b_l_number .nil pass0 (pa_cons (pv 0) (pa_cons (pv 1) pa_nil))))
      (pss_cons (ps_set (i := 3) sc_law.nd rfl (Or.inl rfl) (pe_call (ok_l_text T) (hr.mono (by decide)) rfl T.g_l_text T.k_l_text T.b_l_text .nil pass0 (pa_cons (pv 2) (pa_cons (pe_op op_add pe_int (pv 1)) pa_nil))))
      (pss_cons (ps_set (i := 4) sc_law.nd rfl (Or.inl rfl) (pe_lst (pa_cons pe_non (pa_cons pe_int (pa_cons pe_bl (pa_cons pe_bl (pa_cons (pe_lst (pa_cons (pv 3) pa_nil)) (pa_cons (pe_tup (pa_cons (pv 3) pa_nil)) (pa_cons pe_dnewK (pa_cons pe_int (pa_cons (pe_op op_pow pe_int pe_int) (pa_cons (pe_lst (pa_cons pe_str pa_nil)) (pa_cons (pe_tup (pa_cons pe_str (pa_cons pe_str pa_nil))) (pa_cons (pe_lst pa_nil) (pa_cons (pe_tup pa_nil) (pa_cons (pe_un un_neg pe_int) pa_nil))))))))))))))))
      (pss_one (ps_if (PW.pt (pw_or (pt_not (pt_val (pe_call (ok_l_right T) hr rfl T.g_l_right T.k_l_right T.b_l_right .nil pass0 (pa_cons (pv 3) pa_nil)))) (pw_or (pt_not (pt_val (pe_call (ok_l_right T) hr rfl T.g_l_right T.k_l_right T.b_l_right .nil pass0 (pa_cons (pe_ix ix_list (pv 4) (pe_op op_mod (pe_op op_fdiv (pv 2) pe_int) pe_int) (fun _ _ => rfl)) pa_nil)))) (pw_or1 (pt_not (pt_val (pe_call (ok_l_right T) hr rfl T.g_l_right T.k_l_right T.b_l_right .nil pass0 (pa_cons (pv 3) pa_nil)))))))) (pss_one (ps_ret pe_bl)) pss_nil))))))
      (pss_one (ps_ret pe_bl))), ?_⟩
    have hl : ∀ {σ : L2.St}, σ[0]? = some (some (.ref a)) → Ev (tCB (fun vs H Q => ∃ p ys, vs = [.ref p] ∧ (SqL K H p ys ∨ SqT K H p ys) ∧ Q (.int ys.length) H) (tCons (tVar 0) tNil)) σ H (.int (ns.map V.int).length) := fun hi => ev_cb (ea_cons (ev_var hi) ea_nil) (rc_lenL hS)
    refine q_forR1 (n := 1 + (if ((ns.map V.int).length : Int) < 63 then ((ns.map V.int).length : Int) else 63)) (ea_cons (ev_op ev_c (ev_cb (ea_cons ev_c (ea_cons (hl rfl) ea_nil)) rc_min) rv_I0) ea_nil) (by rw [List.length_map]; split <;> omega)
      (fun i σ' H' => Ex H H' ∧ ∃ v1 v2 v3 v4, σ' = [some (.ref a), v1, v2, v3, v4]) (fun H1 e => ⟨e, none, none, none, none, rfl⟩) ?_ ?_
    · rintro i σ' H' hi ⟨eH, v1, v2, v3, v4, rfl⟩
      have hi' : (i : Int) ≤ 63 := by
        rw [List.length_map] at hi
        split at hi <;> omega
      refine q_asg (v := .int (num ns i)) (ev_call (ea_cons (ev_var rfl) (ea_cons (ev_var rfl) ea_nil)) (spNum_v (ex_l eH hS) (by omega) (by omega))) fun H1 e1 => ?_
      refine q_asgC (ea_cons (ev_var rfl) (ea_cons (ev_op ev_c (ev_var rfl) rv_I0) ea_nil)) fun H2 e2 => ⟨_, _, rfl, by omega, by omega, fun z H3 zl zs e3 => ?_⟩
      have tz : ∀ {H : Hp}, Thing H (.str z) := ⟨Nat.le_trans zl (by decide), zs⟩
      refine q_asgTh (n := 14) (eths_cons (eth_v ev_c fun _ _ => True.intro) (eths_cons (eth_v ev_c fun _ _ => True.intro) (eths_cons (eth_v ev_c fun _ _ => True.intro) (eths_cons (eth_v ev_c fun _ _ => True.intro)
        (eths_cons (eth_l (el_lst (ea_cons (ev_var rfl) ea_nil) (by show 1 ≤ 100000; decide))) (eths_cons (eth_u (eu_tup (ea_cons (ev_var rfl) ea_nil) (by show 1 ≤ 100000; decide))) (eths_cons eth_d
        (eths_cons (eth_v ev_c fun _ _ => True.intro) (eths_cons (eth_v (ev_op ev_c ev_c (rv_I ⟨by decide, by decide, by decide⟩)) fun _ _ => True.intro) (eths_cons (eth_l (el_lst (ea_cons ev_c ea_nil) (by show 1 ≤ 100000; decide)))
        (eths_cons (eth_u (eu_tup (ea_cons ev_c (ea_cons ev_c ea_nil)) (by show 2 ≤ 100000; decide))) (eths_cons (eth_l (el_lst ea_nil (by show 0 ≤ 100000; decide))) (eths_cons (eth_u (eu_tup ea_nil (by show 0 ≤ 100000; decide)))
        (eths_cons (eth_v (ev_un ev_c ru_neg) fun _ _ => True.intro) eths_nil)))))))))))))) (by decide) fun p xs H4 e4 hp xl hx => ?_
      obtain ⟨v, hv, vx⟩ := at_mem (xs := xs) (i := num ns i / 7 % 14) (Int.emod_nonneg _ (by decide)) (by rw [xl]; exact Int.emod_lt_of_pos _ (by decide))
      refine s_when (b := false) (et_is (et_or (et_not (et_B (ev_call (ea_cons (ev_var rfl) ea_nil) (spFn fun H1 e => ⟨_, rfl, tz⟩)))) fun _ =>
        et_or (et_not (et_B (ev_call (ea_cons (ev_op (ev_var rfl) (ev_op (ev_op (ev_var rfl) ev_c (rv_I ⟨by decide, by decide⟩)) ev_c (rv_I (by show (0 : Int) < _; decide))) (rv_ixL (sq_of hp) hv)) ea_nil) (spFn fun H1 e => ⟨_, rfl, (hx v vx).mono e⟩)))) fun _ =>
        et_not (et_B (ev_call (ea_cons (ev_var rfl) ea_nil) (spFn fun H1 e => ⟨_, rfl, tz⟩)))) rfl) (fun hb => nomatch hb) fun _ H5 e5 => ?_
      exact ⟨((((eH.trans e1).trans e2).trans e3).trans e4).trans e5, _, _, _, _, rfl⟩
    · rintro σ' H' _
      exact s_ret ev_c fun H1 _ => k H1
end
theorem all_mk {l : PySem.W.OpenLaw} {w : World} {K : PySem.W.Frag} {h : Heap} {mg : Str → Option Value} {fa : Addr} (X : K.In h) (G : h.Ns mainGlobals mg) (hfa : mg "law" = some (.ref fa))
    {t_LETTERS : Tok}
    {t_MOST_LETTERS : Tok}
    {c_MendError : Addr}
    {c_BadWord : Addr}
    {c_BadRule : Addr}
    {c_BadText : Addr}
    {c_Twice : Addr}
    {c_NoStem : Addr}
    {c_NoClass : Addr}
    {c_InUse : Addr}
    {c_TooMany : Addr}
    {c_NoNumber : Addr}
    {c_NoWord : Addr}
    {c_BadPrice : Addr}
    {c_NoPlace : Addr}
    {c_BadPattern : Addr}
    {f_are_letters : Addr} {od_are_letters an_are_letters : Option Addr} {sl_are_letters : Array (Option Value)} {oc_are_letters kV_are_letters dc_are_letters pm_are_letters cd_are_letters ct_are_letters : Value}
    {f_is_word : Addr} {od_is_word an_is_word : Option Addr} {sl_is_word : Array (Option Value)} {oc_is_word kV_is_word dc_is_word pm_is_word cd_is_word ct_is_word : Value}
    {f_need_word : Addr} {od_need_word an_need_word : Option Addr} {sl_need_word : Array (Option Value)} {oc_need_word kV_need_word dc_need_word pm_need_word cd_need_word ct_need_word : Value}
    {f_l_mixed : Addr} {od_l_mixed an_l_mixed : Option Addr} {sl_l_mixed : Array (Option Value)} {oc_l_mixed kV_l_mixed dc_l_mixed pm_l_mixed cd_l_mixed ct_l_mixed : Value}
    {f_l_number : Addr} {od_l_number an_l_number : Option Addr} {sl_l_number : Array (Option Value)} {oc_l_number kV_l_number dc_l_number pm_l_number cd_l_number ct_l_number : Value}
    {f_l_kind : Addr} {od_l_kind an_l_kind : Option Addr} {sl_l_kind : Array (Option Value)} {oc_l_kind kV_l_kind dc_l_kind pm_l_kind cd_l_kind ct_l_kind : Value}
    {f_l_text : Addr} {od_l_text an_l_text : Option Addr} {sl_l_text : Array (Option Value)} {oc_l_text kV_l_text dc_l_text pm_l_text cd_l_text ct_l_text : Value}
    {f_l_is_letters : Addr} {od_l_is_letters an_l_is_letters : Option Addr} {sl_l_is_letters : Array (Option Value)} {oc_l_is_letters kV_l_is_letters dc_l_is_letters pm_l_is_letters cd_l_is_letters ct_l_is_letters : Value}
    {f_l_refused : Addr} {od_l_refused an_l_refused : Option Addr} {sl_l_refused : Array (Option Value)} {oc_l_refused kV_l_refused dc_l_refused pm_l_refused cd_l_refused ct_l_refused : Value}
    {f_l_right : Addr} {od_l_right an_l_right : Option Addr} {sl_l_right : Array (Option Value)} {oc_l_right kV_l_right dc_l_right pm_l_right cd_l_right ct_l_right : Value}
    {f_law : Addr} {od_law an_law : Option Addr} {sl_law : Array (Option Value)} {oc_law kV_law dc_law pm_law cd_law ct_law : Value}
    (h_n_isinstance : PySem.W.nsIn K mainGlobals "isinstance" = some none)
    (h_n_str : PySem.W.nsIn K mainGlobals "str" = some none)
    (h_n_len : PySem.W.nsIn K mainGlobals "len" = some none)
    (h_n_int : PySem.W.nsIn K mainGlobals "int" = some none)
    (h_n_ValueError : PySem.W.nsIn K mainGlobals "ValueError" = some none)
    (h_n_range : PySem.W.nsIn K mainGlobals "range" = some none)
    (h_n_repr : PySem.W.nsIn K mainGlobals "repr" = some none)
    (h_n_min : PySem.W.nsIn K mainGlobals "min" = some none)
    (h_g_LETTERS : PySem.W.nsIn K mainGlobals "LETTERS" = some (some (.str "abcdefghijklmnopqrstuvwxyz" t_LETTERS)))
    (h_g_MOST_LETTERS : PySem.W.nsIn K mainGlobals "MOST_LETTERS" = some (some (.int 16 t_MOST_LETTERS)))
    (h_g_MendError : PySem.W.nsIn K mainGlobals "MendError" = some (some (.ref c_MendError)))
    (h_g_BadWord : PySem.W.nsIn K mainGlobals "BadWord" = some (some (.ref c_BadWord)))
    (h_g_BadRule : PySem.W.nsIn K mainGlobals "BadRule" = some (some (.ref c_BadRule)))
    (h_g_BadText : PySem.W.nsIn K mainGlobals "BadText" = some (some (.ref c_BadText)))
    (h_g_Twice : PySem.W.nsIn K mainGlobals "Twice" = some (some (.ref c_Twice)))
    (h_g_NoStem : PySem.W.nsIn K mainGlobals "NoStem" = some (some (.ref c_NoStem)))
    (h_g_NoClass : PySem.W.nsIn K mainGlobals "NoClass" = some (some (.ref c_NoClass)))
    (h_g_InUse : PySem.W.nsIn K mainGlobals "InUse" = some (some (.ref c_InUse)))
    (h_g_TooMany : PySem.W.nsIn K mainGlobals "TooMany" = some (some (.ref c_TooMany)))
    (h_g_NoNumber : PySem.W.nsIn K mainGlobals "NoNumber" = some (some (.ref c_NoNumber)))
    (h_g_NoWord : PySem.W.nsIn K mainGlobals "NoWord" = some (some (.ref c_NoWord)))
    (h_g_BadPrice : PySem.W.nsIn K mainGlobals "BadPrice" = some (some (.ref c_BadPrice)))
    (h_g_NoPlace : PySem.W.nsIn K mainGlobals "NoPlace" = some (some (.ref c_NoPlace)))
    (h_g_BadPattern : PySem.W.nsIn K mainGlobals "BadPattern" = some (some (.ref c_BadPattern)))
    (h_x_BadWord : PySem.W.excIn K c_BadWord [.type "ValueError", .type "Exception", .type "BaseException", .type "object"] "ValueError.__new__" = true)
    (h_k_BadWord : PySem.W.keepIn K (.ref c_BadWord) = true)
    (h_s_BadWord : PySem.W.subIn K (.ref c_BadWord) (.type "BaseException") = some true)
    (h_t_BadWord : PySem.W.typeIn K (.ref c_BadWord) = some (.type "type"))
    (h_ga_BadWord : PySem.W.findIn K (.ref c_BadWord) "__getattribute__" = some (some (.builtin "BaseException.__getattribute__")))
    (h_gg_BadWord : PySem.W.findIn K (.ref c_BadWord) "__getattr__" = some none)
    (h_hd_BadWord : PySem.W.hasDictIn K c_BadWord = true)
    (h_cl_BadWord : PySem.W.findIn K (.ref c_BadWord) "__class__" = some (some (.builtin "object.__class__")))
    (h_hm_BadWord : PySem.W.mroIn K c_BadWord (.type "object") = some true)
    (h_sm_BadWord_MendError : PySem.W.subIn K (.ref c_BadWord) (.ref c_MendError) = some true)
    (h_i_BadWord_MendError : PySem.W.kitOne K (.ref c_BadWord) (.ref c_MendError) = some true)
    (h_i_BadWord_BadWord : PySem.W.kitOne K (.ref c_BadWord) (.ref c_BadWord) = some true)
    (h_i_BadWord_BadRule : PySem.W.kitOne K (.ref c_BadWord) (.ref c_BadRule) = some false)
    (h_i_BadWord_BadText : PySem.W.kitOne K (.ref c_BadWord) (.ref c_BadText) = some false)
    (h_i_BadWord_Twice : PySem.W.kitOne K (.ref c_BadWord) (.ref c_Twice) = some false)
    (h_i_BadWord_NoStem : PySem.W.kitOne K (.ref c_BadWord) (.ref c_NoStem) = some false)
    (h_i_BadWord_NoClass : PySem.W.kitOne K (.ref c_BadWord) (.ref c_NoClass) = some false)
    (h_i_BadWord_InUse : PySem.W.kitOne K (.ref c_BadWord) (.ref c_InUse) = some false)
    (h_i_BadWord_TooMany : PySem.W.kitOne K (.ref c_BadWord) (.ref c_TooMany) = some false)
    (h_i_BadWord_NoNumber : PySem.W.kitOne K (.ref c_BadWord) (.ref c_NoNumber) = some false)
    (h_i_BadWord_NoWord : PySem.W.kitOne K (.ref c_BadWord) (.ref c_NoWord) = some false)
    (h_i_BadWord_BadPrice : PySem.W.kitOne K (.ref c_BadWord) (.ref c_BadPrice) = some false)
    (h_i_BadWord_NoPlace : PySem.W.kitOne K (.ref c_BadWord) (.ref c_NoPlace) = some false)
    (h_i_BadWord_BadPattern : PySem.W.kitOne K (.ref c_BadWord) (.ref c_BadPattern) = some false)
    (h_i_BadWord_ValueError : PySem.W.kitOne K (.ref c_BadWord) (.type "ValueError") = some true)
    (h_gd : PySem.W.specialIn K (.builtin "object.__class__") "__get__" = some (some (.builtin "getset_descriptor.__get__")))
    (h_tk : PySem.W.takesIn K (.builtin "object.__class__") = some true)
    (h_s2_MendError : PySem.W.subIn K (.ref c_MendError) (.type "BaseException") = some true)
    (h_hd2_MendError : PySem.W.hasDictIn K c_MendError = true)
    (h_t2_MendError : PySem.W.typeIn K (.ref c_MendError) = some (.type "type"))
    (h_g_are_letters : PySem.W.nsIn K mainGlobals "are_letters" = some (some (.ref f_are_letters)))
    (h_l_are_letters : K.lookup f_are_letters = some ⟨oc_are_letters, od_are_letters, .func (PySem.W.fnOf "are_letters" "are_letters" (defArgs s_are_letters) (defBody s_are_letters) (defScope s_are_letters) .none kV_are_letters dc_are_letters pm_are_letters an_are_letters cd_are_letters ct_are_letters), sl_are_letters⟩)
    (h_c_are_letters : PySem.W.codeIn K cd_are_letters "are_letters" = true)
    (h_k_are_letters : PySem.W.keepIn K (.ref f_are_letters) = true)
    (h_g_is_word : PySem.W.nsIn K mainGlobals "is_word" = some (some (.ref f_is_word)))
    (h_l_is_word : K.lookup f_is_word = some ⟨oc_is_word, od_is_word, .func (PySem.W.fnOf "is_word" "is_word" (defArgs s_is_word) (defBody s_is_word) (defScope s_is_word) .none kV_is_word dc_is_word pm_is_word an_is_word cd_is_word ct_is_word), sl_is_word⟩)
    (h_c_is_word : PySem.W.codeIn K cd_is_word "is_word" = true)
    (h_k_is_word : PySem.W.keepIn K (.ref f_is_word) = true)
    (h_g_need_word : PySem.W.nsIn K mainGlobals "need_word" = some (some (.ref f_need_word)))
    (h_l_need_word : K.lookup f_need_word = some ⟨oc_need_word, od_need_word, .func (PySem.W.fnOf "need_word" "need_word" (defArgs s_need_word) (defBody s_need_word) (defScope s_need_word) .none kV_need_word dc_need_word pm_need_word an_need_word cd_need_word ct_need_word), sl_need_word⟩)
    (h_c_need_word : PySem.W.codeIn K cd_need_word "need_word" = true)
    (h_k_need_word : PySem.W.keepIn K (.ref f_need_word) = true)
    (h_g_l_mixed : PySem.W.nsIn K mainGlobals "_law_mixed" = some (some (.ref f_l_mixed)))
    (h_l_l_mixed : K.lookup f_l_mixed = some ⟨oc_l_mixed, od_l_mixed, .func (PySem.W.fnOf "_law_mixed" "_law_mixed" (defArgs s_l_mixed) (defBody s_l_mixed) (defScope s_l_mixed) .none kV_l_mixed dc_l_mixed pm_l_mixed an_l_mixed cd_l_mixed ct_l_mixed), sl_l_mixed⟩)
    (h_c_l_mixed : PySem.W.codeIn K cd_l_mixed "_law_mixed" = true)
    (h_k_l_mixed : PySem.W.keepIn K (.ref f_l_mixed) = true)
    (h_g_l_number : PySem.W.nsIn K mainGlobals "_law_number" = some (some (.ref f_l_number)))
    (h_l_l_number : K.lookup f_l_number = some ⟨oc_l_number, od_l_number, .func (PySem.W.fnOf "_law_number" "_law_number" (defArgs s_l_number) (defBody s_l_number) (defScope s_l_number) .none kV_l_number dc_l_number pm_l_number an_l_number cd_l_number ct_l_number), sl_l_number⟩)
    (h_c_l_number : PySem.W.codeIn K cd_l_number "_law_number" = true)
    (h_k_l_number : PySem.W.keepIn K (.ref f_l_number) = true)
    (h_g_l_kind : PySem.W.nsIn K mainGlobals "_law_kind" = some (some (.ref f_l_kind)))
    (h_l_l_kind : K.lookup f_l_kind = some ⟨oc_l_kind, od_l_kind, .func (PySem.W.fnOf "_law_kind" "_law_kind" (defArgs s_l_kind) (defBody s_l_kind) (defScope s_l_kind) .none kV_l_kind dc_l_kind pm_l_kind an_l_kind cd_l_kind ct_l_kind), sl_l_kind⟩)
    (h_c_l_kind : PySem.W.codeIn K cd_l_kind "_law_kind" = true)
    (h_k_l_kind : PySem.W.keepIn K (.ref f_l_kind) = true)
    (h_g_l_text : PySem.W.nsIn K mainGlobals "_law_text" = some (some (.ref f_l_text)))
    (h_l_l_text : K.lookup f_l_text = some ⟨oc_l_text, od_l_text, .func (PySem.W.fnOf "_law_text" "_law_text" (defArgs s_l_text) (defBody s_l_text) (defScope s_l_text) .none kV_l_text dc_l_text pm_l_text an_l_text cd_l_text ct_l_text), sl_l_text⟩)
    (h_c_l_text : PySem.W.codeIn K cd_l_text "_law_text" = true)
    (h_k_l_text : PySem.W.keepIn K (.ref f_l_text) = true)
    (h_g_l_is_letters : PySem.W.nsIn K mainGlobals "_law_is_letters" = some (some (.ref f_l_is_letters)))
    (h_l_l_is_letters : K.lookup f_l_is_letters = some ⟨oc_l_is_letters, od_l_is_letters, .func (PySem.W.fnOf "_law_is_letters" "_law_is_letters" (defArgs s_l_is_letters) (defBody s_l_is_letters) (defScope s_l_is_letters) .none kV_l_is_letters dc_l_is_letters pm_l_is_letters an_l_is_letters cd_l_is_letters ct_l_is_letters), sl_l_is_letters⟩)
    (h_c_l_is_letters : PySem.W.codeIn K cd_l_is_letters "_law_is_letters" = true)
    (h_k_l_is_letters : PySem.W.keepIn K (.ref f_l_is_letters) = true)
    (h_g_l_refused : PySem.W.nsIn K mainGlobals "_law_refused" = some (some (.ref f_l_refused)))
    (h_l_l_refused : K.lookup f_l_refused = some ⟨oc_l_refused, od_l_refused, .func (PySem.W.fnOf "_law_refused" "_law_refused" (defArgs s_l_refused) (defBody s_l_refused) (defScope s_l_refused) .none kV_l_refused dc_l_refused pm_l_refused an_l_refused cd_l_refused ct_l_refused), sl_l_refused⟩)
    (h_c_l_refused : PySem.W.codeIn K cd_l_refused "_law_refused" = true)
    (h_k_l_refused : PySem.W.keepIn K (.ref f_l_refused) = true)
    (h_g_l_right : PySem.W.nsIn K mainGlobals "_law_right" = some (some (.ref f_l_right)))
    (h_l_l_right : K.lookup f_l_right = some ⟨oc_l_right, od_l_right, .func (PySem.W.fnOf "_law_right" "_law_right" (defArgs s_l_right) (defBody s_l_right) (defScope s_l_right) .none kV_l_right dc_l_right pm_l_right an_l_right cd_l_right ct_l_right), sl_l_right⟩)
    (h_c_l_right : PySem.W.codeIn K cd_l_right "_law_right" = true)
    (h_k_l_right : PySem.W.keepIn K (.ref f_l_right) = true)
    (h_g_law : PySem.W.nsIn K mainGlobals "law" = some (some (.ref f_law)))
    (h_l_law : K.lookup f_law = some ⟨oc_law, od_law, .func (PySem.W.fnOf "law" "law" (defArgs s_law) (defBody s_law) (defScope s_law) .none kV_law dc_law pm_law an_law cd_law ct_law), sl_law⟩)
    (h_c_law : PySem.W.codeIn K cd_law "law" = true)
    (h_k_law : PySem.W.keepIn K (.ref f_law) = true) :
    ∃ fd : FuncData, (∀ (s : Shared) (v : Value), BindsTo s fd ⟨[v], []⟩ [("_law_script", v)]) ∧ ∀ base : Heap, K.In base → base.Ns mainGlobals mg → FnOk l.prog w K mg base CX0 6 fa fd P_law (spLaw K) := by
  have e := hfa.symm.trans (PySem.W.mg_of X G h_g_law)
  cases e
  have T : Txt K mg { c_MendError := c_MendError, c_BadWord := c_BadWord, c_BadRule := c_BadRule, c_BadText := c_BadText, c_Twice := c_Twice, c_NoStem := c_NoStem, c_NoClass := c_NoClass, c_InUse := c_InUse, c_TooMany := c_TooMany, c_NoNumber := c_NoNumber, c_NoWord := c_NoWord, c_BadPrice := c_BadPrice, c_NoPlace := c_NoPlace, c_BadPattern := c_BadPattern, f_are_letters := f_are_letters, d_are_letters := _, f_is_word := f_is_word, d_is_word := _, f_need_word := f_need_word, d_need_word := _, f_l_mixed := f_l_mixed, d_l_mixed := _, f_l_number := f_l_number, d_l_number := _, f_l_kind := f_l_kind, d_l_kind := _, f_l_text := f_l_text, d_l_text := _, f_l_is_letters := f_l_is_letters, d_l_is_letters := _, f_l_refused := f_l_refused, d_l_refused := _, f_l_right := f_l_right, d_l_right := _, f_law := fa, d_law := _ } := {
    n_isinstance := PySem.W.mg_none_of X G h_n_isinstance
    n_str := PySem.W.mg_none_of X G h_n_str
    n_len := PySem.W.mg_none_of X G h_n_len
    n_int := PySem.W.mg_none_of X G h_n_int
    n_ValueError := PySem.W.mg_none_of X G h_n_ValueError
    n_range := PySem.W.mg_none_of X G h_n_range
    n_repr := PySem.W.mg_none_of X G h_n_repr
    n_min := PySem.W.mg_none_of X G h_n_min
    g_LETTERS := ⟨_, PySem.W.mg_of X G h_g_LETTERS⟩
    g_MOST_LETTERS := ⟨_, PySem.W.mg_of X G h_g_MOST_LETTERS⟩
    g_MendError := PySem.W.mg_of X G h_g_MendError
    g_BadWord := PySem.W.mg_of X G h_g_BadWord
    g_BadRule := PySem.W.mg_of X G h_g_BadRule
    g_BadText := PySem.W.mg_of X G h_g_BadText
    g_Twice := PySem.W.mg_of X G h_g_Twice
    g_NoStem := PySem.W.mg_of X G h_g_NoStem
    g_NoClass := PySem.W.mg_of X G h_g_NoClass
    g_InUse := PySem.W.mg_of X G h_g_InUse
    g_TooMany := PySem.W.mg_of X G h_g_TooMany
    g_NoNumber := PySem.W.mg_of X G h_g_NoNumber
    g_NoWord := PySem.W.mg_of X G h_g_NoWord
    g_BadPrice := PySem.W.mg_of X G h_g_BadPrice
    g_NoPlace := PySem.W.mg_of X G h_g_NoPlace
    g_BadPattern := PySem.W.mg_of X G h_g_BadPattern
    x_BadWord := h_x_BadWord
    k_BadWord := h_k_BadWord
    s_BadWord := h_s_BadWord
    t_BadWord := h_t_BadWord
    e_BadWord := ⟨h_ga_BadWord, h_gg_BadWord, h_s_BadWord, h_hd_BadWord, h_cl_BadWord, h_gd, h_tk, h_hm_BadWord⟩
    m_BadWord_MendError := PySem.W.exm_ref h_s2_MendError h_hd2_MendError h_t2_MendError h_sm_BadWord_MendError
    i_BadWord_MendError := h_i_BadWord_MendError
    i_BadWord_BadWord := h_i_BadWord_BadWord
    i_BadWord_BadRule := h_i_BadWord_BadRule
    i_BadWord_BadText := h_i_BadWord_BadText
    i_BadWord_Twice := h_i_BadWord_Twice
    i_BadWord_NoStem := h_i_BadWord_NoStem
    i_BadWord_NoClass := h_i_BadWord_NoClass
    i_BadWord_InUse := h_i_BadWord_InUse
    i_BadWord_TooMany := h_i_BadWord_TooMany
    i_BadWord_NoNumber := h_i_BadWord_NoNumber
    i_BadWord_NoWord := h_i_BadWord_NoWord
    i_BadWord_BadPrice := h_i_BadWord_BadPrice
    i_BadWord_NoPlace := h_i_BadWord_NoPlace
    i_BadWord_BadPattern := h_i_BadWord_BadPattern
    i_BadWord_ValueError := h_i_BadWord_ValueError
    g_are_letters := PySem.W.mg_of X G h_g_are_letters
    k_are_letters := h_k_are_letters
    F_are_letters := fun_mk (st := s_are_letters) h_l_are_letters h_c_are_letters h_k_are_letters
    b_are_letters := (fun_mk (st := s_are_letters) h_l_are_letters h_c_are_letters h_k_are_letters).binds (ps := P_are_letters) fun _ _ _ _ _ _ us hl => match us, hl with | [_], _ => rfl
    g_is_word := PySem.W.mg_of X G h_g_is_word
    k_is_word := h_k_is_word
    F_is_word := fun_mk (st := s_is_word) h_l_is_word h_c_is_word h_k_is_word
    b_is_word := (fun_mk (st := s_is_word) h_l_is_word h_c_is_word h_k_is_word).binds (ps := P_is_word) fun _ _ _ _ _ _ us hl => match us, hl with | [_], _ => rfl
    g_need_word := PySem.W.mg_of X G h_g_need_word
    k_need_word := h_k_need_word
    F_need_word := fun_mk (st := s_need_word) h_l_need_word h_c_need_word h_k_need_word
    b_need_word := (fun_mk (st := s_need_word) h_l_need_word h_c_need_word h_k_need_word).binds (ps := P_need_word) fun _ _ _ _ _ _ us hl => match us, hl with | [_], _ => rfl
    g_l_mixed := PySem.W.mg_of X G h_g_l_mixed
    k_l_mixed := h_k_l_mixed
    F_l_mixed := fun_mk (st := s_l_mixed) h_l_l_mixed h_c_l_mixed h_k_l_mixed
    b_l_mixed := (fun_mk (st := s_l_mixed) h_l_l_mixed h_c_l_mixed h_k_l_mixed).binds (ps := P_l_mixed) fun _ _ _ _ _ _ us hl => match us, hl with | [_, _], _ => rfl
    g_l_number := PySem.W.mg_of X G h_g_l_number
    k_l_number := h_k_l_number
    F_l_number := fun_mk (st := s_l_number) h_l_l_number h_c_l_number h_k_l_number
    b_l_number := (fun_mk (st := s_l_number) h_l_l_number h_c_l_number h_k_l_number).binds (ps := P_l_number) fun _ _ _ _ _ _ us hl => match us, hl with | [_, _], _ => rfl
    g_l_kind := PySem.W.mg_of X G h_g_l_kind
    k_l_kind := h_k_l_kind
    F_l_kind := fun_mk (st := s_l_kind) h_l_l_kind h_c_l_kind h_k_l_kind
    b_l_kind := (fun_mk (st := s_l_kind) h_l_l_kind h_c_l_kind h_k_l_kind).binds (ps := P_l_kind) fun _ _ _ _ _ _ us hl => match us, hl with | [_], _ => rfl
    g_l_text := PySem.W.mg_of X G h_g_l_text
    k_l_text := h_k_l_text
    F_l_text := fun_mk (st := s_l_text) h_l_l_text h_c_l_text h_k_l_text
    b_l_text := (fun_mk (st := s_l_text) h_l_l_text h_c_l_text h_k_l_text).binds (ps := P_l_text) fun _ _ _ _ _ _ us hl => match us, hl with | [_, _], _ => rfl
    g_l_is_letters := PySem.W.mg_of X G h_g_l_is_letters
    k_l_is_letters := h_k_l_is_letters
    F_l_is_letters := fun_mk (st := s_l_is_letters) h_l_l_is_letters h_c_l_is_letters h_k_l_is_letters
    b_l_is_letters := (fun_mk (st := s_l_is_letters) h_l_l_is_letters h_c_l_is_letters h_k_l_is_letters).binds (ps := P_l_is_letters) fun _ _ _ _ _ _ us hl => match us, hl with | [_], _ => rfl
    g_l_refused := PySem.W.mg_of X G h_g_l_refused
    k_l_refused := h_k_l_refused
    F_l_refused := fun_mk (st := s_l_refused) h_l_l_refused h_c_l_refused h_k_l_refused
    b_l_refused := (fun_mk (st := s_l_refused) h_l_l_refused h_c_l_refused h_k_l_refused).binds (ps := P_l_refused) fun _ _ _ _ _ _ us hl => match us, hl with | [_], _ => rfl
    g_l_right := PySem.W.mg_of X G h_g_l_right
    k_l_right := h_k_l_right
    F_l_right := fun_mk (st := s_l_right) h_l_l_right h_c_l_right h_k_l_right
    b_l_right := (fun_mk (st := s_l_right) h_l_l_right h_c_l_right h_k_l_right).binds (ps := P_l_right) fun _ _ _ _ _ _ us hl => match us, hl with | [_], _ => rfl
    g_law := PySem.W.mg_of X G h_g_law
    k_law := h_k_law
    F_law := fun_mk (st := s_law) h_l_law h_c_law h_k_law
    b_law := (fun_mk (st := s_law) h_l_law h_c_law h_k_law).binds (ps := P_law) fun _ _ _ _ _ _ us hl => match us, hl with | [_], _ => rfl
  }
  exact ⟨_, fun s v => .of_eq rfl, fun base _ _ => ok_law T⟩
theorem walk {l : PySem.W.OpenLaw} {q : Program} {loose : List Str} {XP : (Str → Option Value) → Heap → Prop} {YP : World → Heap → Prop} {d : DefRec} {K : Params → PySem.W.Frag} (hn : l.most = some 63) (hdf : d.params.defaults = [])
    (hY : ∀ (w : World) (h : Heap), YP w h → (K w.params).In h)
    (F : ∀ (w : World) (mg : Str → Option Value) (fa : Addr) (h : Heap), (K w.params).In h → h.Ns mainGlobals mg → mg d.name = some (.ref fa) →
      ∃ fd : FuncData, (∀ (s : Shared) (u : Value), BindsTo s fd ⟨[u], []⟩ [("_law_script", u)]) ∧ ∀ base : Heap, (K w.params).In base → base.Ns mainGlobals mg → FnOk l.prog w (K w.params) mg base CX0 6 fa fd P_law (spLaw (K w.params))) :
    PySem.W.WalkO q loose XP YP l.row.toRowW d [] (fun f vs => PySem.call f vs) :=
  L2.walk_of (n := 63) (k := 6) (x := "_law_script") (CX := fun _ => CX0) (sp := fun w => spLaw (K w.params)) hn (by decide) hdf ⟨rfl, by decide, by decide⟩ hY F (fun _ _ a ns hl _ hS => ⟨a, ns, rfl, hS, hl, fun _ => rfl⟩) fun _ _ _ _ _ z => z
end My
open PySem PySem.W PyProof.Rows
set_option maxRecDepth 100000 in
set_option maxHeartbeats 0 in
theorem PySem.Challenge.cw_wordmend_k01_words_holds : PySem.Challenge.rw_wordmend_k01_words.Holds := by
  w_on; o_law; k_head; (case hw => w_witness2)
  k_fill
  refine My.walk (l := PySem.Challenge.rw_wordmend_k01_words) rfl rfl (fun w h Y => PySem.W.kIn_of Y) ?F
  case F =>
    intro w mg fa h KX G hmg
    refine' My.all_mk KX G hmg ?h_n_isinstance ?h_n_str ?h_n_len ?h_n_int ?h_n_ValueError ?h_n_range ?h_n_repr ?h_n_min ?h_g_LETTERS ?h_g_MOST_LETTERS ?h_g_MendError ?h_g_BadWord ?h_g_BadRule ?h_g_BadText ?h_g_Twice ?h_g_NoStem ?h_g_NoClass ?h_g_InUse ?h_g_TooMany ?h_g_NoNumber ?h_g_NoWord ?h_g_BadPrice ?h_g_NoPlace ?h_g_BadPattern ?h_x_BadWord ?h_k_BadWord ?h_s_BadWord ?h_t_BadWord ?h_ga_BadWord ?h_gg_BadWord ?h_hd_BadWord ?h_cl_BadWord ?h_hm_BadWord ?h_sm_BadWord_MendError ?h_i_BadWord_MendError ?h_i_BadWord_BadWord ?h_i_BadWord_BadRule ?h_i_BadWord_BadText ?h_i_BadWord_Twice ?h_i_BadWord_NoStem ?h_i_BadWord_NoClass ?h_i_BadWord_InUse ?h_i_BadWord_TooMany ?h_i_BadWord_NoNumber ?h_i_BadWord_NoWord ?h_i_BadWord_BadPrice ?h_i_BadWord_NoPlace ?h_i_BadWord_BadPattern ?h_i_BadWord_ValueError ?h_gd ?h_tk ?h_s2_MendError ?h_hd2_MendError ?h_t2_MendError ?h_g_are_letters ?h_l_are_letters ?h_c_are_letters ?h_k_are_letters ?h_g_is_word ?h_l_is_word ?h_c_is_word ?h_k_is_word ?h_g_need_word ?h_l_need_word ?h_c_need_word ?h_k_need_word ?h_g_l_mixed ?h_l_l_mixed ?h_c_l_mixed ?h_k_l_mixed ?h_g_l_number ?h_l_l_number ?h_c_l_number ?h_k_l_number ?h_g_l_kind ?h_l_l_kind ?h_c_l_kind ?h_k_l_kind ?h_g_l_text ?h_l_l_text ?h_c_l_text ?h_k_l_text ?h_g_l_is_letters ?h_l_l_is_letters ?h_c_l_is_letters ?h_k_l_is_letters ?h_g_l_refused ?h_l_l_refused ?h_c_l_refused ?h_k_l_refused ?h_g_l_right ?h_l_l_right ?h_c_l_right ?h_k_l_right ?h_g_law ?h_l_law ?h_c_law ?h_k_law
    (case h_n_isinstance => k_is)
    (case h_n_str => k_is)
    (case h_n_len => k_is)
    (case h_n_int => k_is)
    (case h_n_ValueError => k_is)
    (case h_n_range => k_is)
    (case h_n_repr => k_is)
    (case h_n_min => k_is)
    (case h_g_LETTERS => k_is)
    (case h_g_MOST_LETTERS => k_is)
    (case h_g_MendError => k_is)
    (case h_g_BadWord => k_is)
    (case h_g_BadRule => k_is)
    (case h_g_BadText => k_is)
    (case h_g_Twice => k_is)
    (case h_g_NoStem => k_is)
    (case h_g_NoClass => k_is)
    (case h_g_InUse => k_is)
    (case h_g_TooMany => k_is)
    (case h_g_NoNumber => k_is)
    (case h_g_NoWord => k_is)
    (case h_g_BadPrice => k_is)
    (case h_g_NoPlace => k_is)
    (case h_g_BadPattern => k_is)
    (case h_x_BadWord => first | k_exc | k_is)
    (case h_k_BadWord => k_is)
    (case h_s_BadWord => k_is)
    (case h_t_BadWord => k_is)
    (case h_ga_BadWord => k_is)
    (case h_gg_BadWord => k_is)
    (case h_hd_BadWord => k_is)
    (case h_cl_BadWord => k_is)
    (case h_hm_BadWord => k_is)
    (case h_sm_BadWord_MendError => k_is)
    (case h_i_BadWord_MendError => first | rfl | k_is)
    (case h_i_BadWord_BadWord => first | rfl | k_is)
    (case h_i_BadWord_BadRule => first | rfl | k_is)
    (case h_i_BadWord_BadText => first | rfl | k_is)
    (case h_i_BadWord_Twice => first | rfl | k_is)
    (case h_i_BadWord_NoStem => first | rfl | k_is)
    (case h_i_BadWord_NoClass => first | rfl | k_is)
    (case h_i_BadWord_InUse => first | rfl | k_is)
    (case h_i_BadWord_TooMany => first | rfl | k_is)
    (case h_i_BadWord_NoNumber => first | rfl | k_is)
    (case h_i_BadWord_NoWord => first | rfl | k_is)
    (case h_i_BadWord_BadPrice => first | rfl | k_is)
    (case h_i_BadWord_NoPlace => first | rfl | k_is)
    (case h_i_BadWord_BadPattern => first | rfl | k_is)
    (case h_i_BadWord_ValueError => first | rfl | k_is)
    (case h_gd => k_is)
    (case h_tk => k_is)
    (case h_s2_MendError => k_is)
    (case h_hd2_MendError => k_is)
    (case h_t2_MendError => k_is)
    (case h_g_are_letters => k_is)
    (case h_l_are_letters => k_is)
    (case h_c_are_letters => k_is)
    (case h_k_are_letters => k_is)
    (case h_g_is_word => k_is)
    (case h_l_is_word => k_is)
    (case h_c_is_word => k_is)
    (case h_k_is_word => k_is)
    (case h_g_need_word => k_is)
    (case h_l_need_word => k_is)
    (case h_c_need_word => k_is)
    (case h_k_need_word => k_is)
    (case h_g_l_mixed => k_is)
    (case h_l_l_mixed => k_is)
    (case h_c_l_mixed => k_is)
    (case h_k_l_mixed => k_is)
    (case h_g_l_number => k_is)
    (case h_l_l_number => k_is)
    (case h_c_l_number => k_is)
    (case h_k_l_number => k_is)
    (case h_g_l_kind => k_is)
    (case h_l_l_kind => k_is)
    (case h_c_l_kind => k_is)
    (case h_k_l_kind => k_is)
    (case h_g_l_text => k_is)
    (case h_l_l_text => k_is)
    (case h_c_l_text => k_is)
    (case h_k_l_text => k_is)
    (case h_g_l_is_letters => k_is)
    (case h_l_l_is_letters => k_is)
    (case h_c_l_is_letters => k_is)
    (case h_k_l_is_letters => k_is)
    (case h_g_l_refused => k_is)
    (case h_l_l_refused => k_is)
    (case h_c_l_refused => k_is)
    (case h_k_l_refused => k_is)
    (case h_g_l_right => k_is)
    (case h_l_l_right => k_is)
    (case h_c_l_right => k_is)
    (case h_k_l_right => k_is)
    (case h_g_law => k_is)
    (case h_l_law => k_is)
    (case h_c_law => k_is)
    (case h_k_law => k_is)

