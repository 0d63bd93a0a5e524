import PyProof.Rows.All
import Wide.All
import OpenK.AllK
import Wide.FinOn
import PyProof.EqAt
import PyProof.EqKinds
import PyProof.TupleCall
import KE.KIsAll
import KE.KTryMore
import HandS.ForMost
import HandS.Exc
import HandS.TryOnly
import HandS.ExcOwn
import HandS.WordsExc
import HandS.IsInst
import HandS.ExcIs
import HandS.StrMore
import HandS.RaiseMore
import HandS.Evl
import HandS.Walk
import PyProof.Rows.SetFrom
import PyProof.StrWalks
import KE.GoesMore
import KE.GoesNew
import HandS.Replace
import PySem.Challenge.RW_wordmend_k02_conditions
set_option Elab.async false
set_option linter.all false
set_option maxRecDepth 100000
set_option maxHeartbeats 2000000
/-! Our own layer: a caught error that is kept behind its suite, as an object that the heap tells of; and some rules of values. -/
namespace L2
open PySem PySem.Spec PyProof.Rows
/-- a kept error at a: its class, its own dict -/
def ErrO (cls : Value) (d : Option Addr) (a : Addr) : HO :=
  .ext fun h => ∃ oe vs, h.get? a = some oe ∧ oe.cls = cls ∧ oe.dict = d ∧ oe.data = .fields vs
section
variable {X : Cx} {pins : List (Addr × Obj)} {σ : St} {H : Hp} {s sI : Shared} {a : Addr} {o : HO}
/-- an object that came since the state sI is told of from now on -/
theorem Inv.track (I : Inv X pins σ H s) (J : Inv X pins σ H sI) (new : sI.heap.get? a = none) (hx : a ∉ X.ex)
    (na : H a = none) (nL : X.env.locals ≠ a) (nC : ∀ x c, X.env.cells.lookup x = some c → c ≠ a)
    (ok : ObjOk X.prog X.w (upd H a o) s.heap a o) : Inv X pins σ (upd H a o) s where
  ok := I.ok
  os := I.os
  bare := I.bare
  base :=
    { keep := I.base.keep
      slot := I.base.slot
      free := fun b ob q n hb => by
        have : b ≠ a := by
          rintro rfl
          obtain ⟨o', e⟩ := J.base.there b ob q hx
          rw [new] at e; cases e
        rw [upd_ne this]; exact I.base.free b ob q n hb
      there := I.base.there
      tups := fun b xs q => by
        have z := I.base.tups b xs q
        rw [upd_ne (ne_of_none z na)]; exact z
      frzs := fun b ob u q => by
        have z := I.base.frzs b ob u q
        rw [upd_ne (ne_of_none z na)]; exact z
      tbls := fun b ps q => by
        obtain ⟨m, z⟩ := I.base.tbls b ps q
        exact ⟨m, by rw [upd_ne (ne_of_none z na)]; exact z⟩ }
  loc := I.loc
  cell := I.cell
  free := by rw [upd_ne nL]; exact I.free
  freeC := fun x c e => by rw [upd_ne (nC x c e)]; exact I.freeC x c e
  pin := fun p hp => by
    obtain ⟨e, n, r⟩ := I.pin p hp
    have z := (J.pin p hp).1
    have : p.1 ≠ a := fun q => by rw [q, new] at z; cases z
    exact ⟨e, by rw [upd_ne this]; exact n, r⟩
  hok := fun b u q => by
    by_cases hb : b = a
    · subst hb; rw [upd_same] at q; cases q; exact ok
    · rw [upd_ne hb] at q
      exact (I.hok b u q).stay (fun _ _ _ r => r) (fun c r => by rw [upd_ne (ne_of_none r na)]; exact r)
        fun c xs r => by rw [upd_ne (ne_of_none r na)]; exact r
  len := I.len
/-- into the suite, the pins as they are -/
theorem Inv.intoSuite (I : Inv X pins σ H s) (a : Addr) : Inv (X.suite a (X.pn ++ pins)) [] σ H s where
  ok := I.ok.suite _ _
  os := I.os
  bare := I.bare
  base := I.base
  loc := I.loc
  cell := I.cell
  free := I.free
  freeC := I.freeC
  pin := fun p hp => I.pin p (by
    rw [List.append_nil] at hp
    exact hp)
  hok := I.hok
  len := I.len
theorem Inv.outSuite {pn' : List (Addr × Obj)} (I : Inv (X.suite a (X.pn ++ pins)) pn' σ H s) (ok : X.Ok) : Inv X pins σ H s where
  ok := ok
  os := I.os
  bare := I.bare
  base := I.base
  loc := I.loc
  cell := I.cell
  free := I.free
  freeC := I.freeC
  pin := fun p hp => I.pin p (List.mem_append_left _ hp)
  hok := I.hok
  len := I.len
end
/-- except x as n, the error told of in the heap from the suite on -/
def wKeep (K : PySem.W.Frag) (c : Value) (i : Nat) (ts : TS) (Wout : WX) (D : Ends) : WX := fun cls d σ H =>
  ∃ b, PySem.W.exmOne K cls c = some b ∧
    (b = true → ∀ a, H a = none →
      ts { nx := fun σ' H' => D.nx (σ'.set i none) H', rt := D.rt, bk := fun σ' H' => D.bk (σ'.set i none) H', ct := fun σ' H' => D.ct (σ'.set i none) H' }
        (σ.set i (some (.ref a))) (upd H a (ErrO cls d a))) ∧
    (b = false → Wout cls d σ H)
section
variable {X : Cx} {x n : Str} {c : Value} {i : Nat} {body suite : List Stmt} {b₀ : Stmt} {np pos pos' : Pos} {tb : WX → TS} {ts : TS} {Wout : WX}
theorem ps_try_keep (hs : X.stack = X.env :: X.outer) (hf : X.env.frame = some X.env.locals) (hN : X.N.Nodup)
    (hi : X.N[i]? = some n) (hln : X.env.kindOf n = some .local) (hc : Names X x c) (tk : Takes X Wout) (hex : X.ex = [])
    (hb : ∀ (W : WX) (pn : List (Addr × Obj)) (xe : Value → Shared → Prop), Takes (X.tr pn xe) W →
      PassesOwn (model X.prog X.w) X.A X.env xe → PSs (X.tr pn xe) body (tb W))
    (hsu : ∀ (a : Addr) (pn : List (Addr × Obj)), PSs (X.suite a pn) (b₀ :: suite) ts) :
    PS X (.Try body [.ExceptHandler (some (.Name x np)) (some n) (b₀ :: suite) pos'] [] [] pos)
      (fun D σ H => tb (wKeep X.K c i ts Wout D) D σ H) := by
  constructor
  intro pins s σ H D I h
  have ok := I.ok
  have frames : X.A.frames = some (X.env :: X.outer) := by
    rw [ok.frames, hs]
  have nloc : Loc X.env.scope n := Or.inl hln
  apply wpAny_Try_except
  have B := hb (wKeep X.K c i ts Wout D) (X.pn ++ pins)
    (fun e s₁ => wpAny (model X.prog X.w) X.A (noteFrame e X.env)
      (fun _ s₂ => wpAny (model X.prog X.w) X.A (setFlight e none)
        (fun _ s₃ => wpAny (model X.prog X.w) X.A
          (handleBy e X.env [.ExceptHandler (some (.Name x np)) (some n) (b₀ :: suite) pos'])
          (SP X pins D) X.xe s₃) X.xe s₂) X.xe s₁)
    (fun u s' air => ?_) PassesOwn.looking
  · refine wpAny_mono (B.run [] s σ H D (I.toTry _) h) (fun f s1 q => ?_) (fun _ _ z => z)
    match f, q with
    | .next, ⟨σ1, H1, J1, z⟩ => exact wpAny_execs_nil ⟨σ1, H1, J1.ofTry ok, z⟩
    | .brk, ⟨σ1, H1, J1, z⟩ => exact ⟨σ1, H1, J1.ofTry ok, z⟩
    | .cont, ⟨σ1, H1, J1, z⟩ => exact ⟨σ1, H1, J1.ofTry ok, z⟩
    | .ret _, ⟨v, σ1, H1, J1, r, z⟩ => exact ⟨v, σ1, H1, J1.ofTry ok, r, z⟩
  · obtain ⟨a, G, sI, pins1, σ1, H1, cls, d, hu, J0, ground, up, sky, na, os, bare, b, hb1, yes, no⟩ := air
    subst hu
    have J : Inv X pins σ1 H1 sI := J0.ofTry ok
    have sky2 : Sky G (X.env :: X.outer) a (Zc cls d) X.env.locals s'.heap := hs ▸ sky
    show wpAny (model X.prog X.w) X.A (noteFrame (.ref a) X.env) _ _ _
    apply Sky.land Zc.steady frames hf sky2
    intro h3 fly up3
    have J3 : Inv X pins σ1 H1 { s' with heap := h3 } := J.landed ground fly.1 (up.trans up3) os bare
    obtain ⟨oe3, vs3, get3, z3, dat3⟩ := fly.there
    have nfr : a ∉ frs (X.env :: X.outer) := fun hm => by
      obtain ⟨_, ob, e, hnf⟩ := fly.2.2.1.mem hm
      rw [get3] at e
      cases e
      exact hnf _ dat3
    have nL : a ≠ X.env.locals := fun z => nfr (List.mem_filterMap.mpr ⟨X.env, List.mem_cons_self, by rw [hf, z]⟩)
    have nF : a ∉ X.fs := fun hm => by
      obtain ⟨e, he, q⟩ := List.mem_filterMap.mp hm
      exact nfr (List.mem_filterMap.mpr ⟨e, List.mem_cons_of_mem _ he, q⟩)
    have fresh : sI.heap.get? a = none := by
      cases e : sI.heap.get? a with
      | none => rfl
      | some ob =>
        have z := ground a ob e (by rw [hs]; exact nfr)
        rw [fly.2.1] at z
        cases z
    have S3 := J3.suite get3 dat3 na nL nF
    refine wpAny_handleBy_cons (codeAny_handlers_test ?_) (fun q => nomatch q)
    have LT : PySem.W.Looks (model X.prog X.w) h3 (typeOf (.ref a)) cls := fun _ _ _ _ k q =>
      wpAny_typeOf_ref (k _ _ get3) (by rw [z3.1]; exact q)
    have LM := PySem.W.exm_one (M := model X.prog X.w) J3.kIn LT hb1
    have named : ∀ {Q E : Value → Shared → Prop}, Q c { s' with heap := h3 } →
        wpAny (model X.prog X.w) (X.A.mark (some (.ref a))) (eval (.Name x np) X.env) Q E { s' with heap := h3 } := fun {Q E} q => by
      obtain ⟨hg, hdbg, hm | ⟨hm, hv, hnn⟩⟩ := hc
      · exact ld_glob (X := X.suite a ((a, oe3) :: (X.pn ++ pins))) S3 hg hm q hdbg
      · exact ld_blt (X := X.suite a ((a, oe3) :: (X.pn ++ pins))) S3 hg hm hv q hnn hdbg
    apply named
    apply LM.here
    cases b with
    | true =>
      apply codeAny_handlers_suite_as
      apply HandSPX.lands_againZ fly
      intro h4 fly4 up4
      have J4 : Inv X pins σ1 H1 { s' with heap := h4 } := J.landed ground fly4.1 ((up.trans up3).trans up4) os bare
      obtain ⟨oe4, vs4, get4, z4, dat4⟩ := fly4.there
      have nC : ∀ y k, X.env.cells.lookup y = some k → k ≠ a := fun y k e z => by
        obtain ⟨v, oc, q1, q2⟩ := J4.cell y k e
        have q3 : h4.get? k = some oc := q1
        rw [z, get4] at q3
        cases q3
        rw [dat4] at q2
        cases q2
      have T4 : Inv X pins σ1 (upd H1 a (ErrO cls d a)) { s' with heap := h4 } :=
        J4.track J fresh (by rw [hex]; exact fun z => nomatch z) na (Ne.symm nL) nC
          ⟨⟨oe4, _, get4, z4.1, z4.2, dat4⟩, ⟨_, get4⟩, fun _ _ ⟨oe, vs, e1, e2⟩ k => ⟨oe, vs, k _ e1, e2⟩⟩
      have S4 := T4.intoSuite a
      refine store_ok (X := X.suite a (X.pn ++ pins)) (v := .ref a) S4 hN hi nloc rfl (fun s5 S5 => ?_) (Or.inr hln)
      refine wpAny_mono ((hsu a (X.pn ++ pins)).run [] s5 _ _ _ S5 (yes rfl a na)) (fun f s6 q => ?_) (fun _ _ z => False.elim z)
      have fin : ∀ {σ6 : St} {H6 : Hp} {Q : Shared → Prop}, Inv (X.suite a (X.pn ++ pins)) [] σ6 H6 s6 →
          (∀ s7, Inv X pins (σ6.set i none) H6 s7 → Q s7) →
          wpAny (model X.prog X.w) X.A (do bindName X.env n .none; unbindBehindTheSuite X.env n pos') (fun _ s7 => Q s7) X.xe s6 :=
        fun S6 hq => gone_ok (S6.outSuite ok) hN hi hln hq
      match f, q with
      | .next, ⟨σ6, H6, S6, z⟩ => exact fin S6 fun s7 J7 => ⟨_, _, J7, z⟩
      | .brk, ⟨σ6, H6, S6, z⟩ => exact fin S6 fun s7 J7 => ⟨_, _, J7, z⟩
      | .cont, ⟨σ6, H6, S6, z⟩ => exact fin S6 fun s7 J7 => ⟨_, _, J7, z⟩
      | .ret _, ⟨v6, σ6, H6, S6, r6, z⟩ => exact fin S6 fun s7 J7 => ⟨_, _, _, J7, r6, z⟩
    | false =>
      show wpAny _ X.A (handleBy (.ref a) X.env []) _ _ _
      apply wpAny_handleBy_nil
      obtain ⟨k1, k2, k3, oe, vs, T, oT, ts1, he, hz, hd, h1, hr⟩ := id fly
      unfold PySem.passOn
      apply wpAny_bind
      apply wpAny_field he hd h1
      rw [if_neg (show ¬ ((Value.ref T == Value.none) = true) from by simp)]
      have out : wpAny (model X.prog X.w) X.A (setFlight (.ref a) X.env.frame)
          (fun _ s4 => wpAny (model X.prog X.w) X.A (throw (.ref a) : Sem Flow) (SP X pins D) X.xe s4) X.xe { s' with heap := h3 } := by
        rw [hf]
        apply HandSPX.setFlight_upZ fly
        intro h4 hh4 up4
        exact wpAny_throw (tk _ _ ⟨a, G, sI, pins, σ1, H1, cls, d, rfl, J, ground, (up.trans up3).trans up4,
          Or.inr (Or.inr (by rw [hs]; exact hh4)), na, os, bare, no rfl⟩)
      first
        | exact wpAny_bind (wpAny_pure (wpAny_bind out))
        | exact wpAny_bind out
end
/-- isinstance(e, c), e a kept error without a dict of its own -/
def rIsErr (K : PySem.W.Frag) : List V → Hp → VK → Prop := fun xs H Q =>
  ∃ (a D : Addr) (c : V) (cv : Value) (b : Bool), xs = [.ref a, c] ∧ ExcC K D ∧ H a = some (ErrO (.ref D) none a) ∧
    ClsV c cv ∧ PySem.W.kitOne K (.ref D) cv = some b ∧ Q (.bl b) H
theorem call_isErr {X : Cx} : CallR X (.builtin "isinstance") (rIsErr X.K) := by
  intro pins s σ H xs us Q I r h
  obtain ⟨a, D, c, cv, b, rfl, C, ha, hcv, e, q⟩ := h
  obtain ⟨u1, u2, rfl, r1, r2⟩ := vals2 r
  cases r1
  have z := hcv.eq r2
  subst z
  obtain ⟨⟨oe, vs, g1, g2, g3, g4⟩, _, _⟩ := I.hok a _ ha
  have J : PySem.W.InstAt s.heap a oe D none := by
    obtain ⟨oc, od, oda, osl⟩ := oe
    dsimp only at g2 g3 g4
    subst g2 g3 g4
    exact ⟨g1, rfl, rfl, trivial⟩
  exact PySem.W.kia_one (PySem.W.handS_kitx_exc C.hg C.hk C.hs C.hd C.ha C.hn C.ht C.hm) I.kIn J e (fun z => nomatch z)
    fun tk => ⟨.bl b, H, I.tok tk, rfl, q⟩
/-- repr of a truth -/
def tBool (b : Bool) : Str := if b = true then "True" else "False"
end L2

set_option Elab.async false
set_option linter.all false
set_option maxRecDepth 100000
set_option maxHeartbeats 3200000
/-! Our own layer: set(text), and its length. -/
namespace SetS
open PySem PyProof.Rows
/-- a sign more, if it is new -/
def more (D : List Str) (x : Str) : List Str := if x ∈ D then D else D ++ [x]
def uniq (l : List Str) : List Str := l.foldl more []
theorem uniq_snoc (l : List Str) (x : Str) : uniq (l ++ [x]) = more (uniq l) x := by
  unfold uniq
  rw [List.foldl_append]
  rfl
theorem uniq_le (l : List Str) : (uniq l).length ≤ l.length := by
  unfold uniq
  suffices h : ∀ (l D : List Str), (l.foldl more D).length ≤ D.length + l.length by
    have := h l []
    simpa using this
  intro l
  induction l with
  | nil => intro D; simp
  | cons x r ih =>
    intro D
    have h1 := ih (more D x)
    have h2 : (more D x).length ≤ D.length + 1 := by
      unfold more
      split <;> simp
    rw [List.foldl_cons, List.length_cons]
    omega
theorem mem_more {D : List Str} {x y : Str} : y ∈ more D x ↔ y ∈ D ∨ y = x := by
  unfold more
  split
  · rename_i h
    constructor
    · exact Or.inl
    · rintro (h' | rfl)
      · exact h'
      · exact h
  · simp
/-- all its signs are unlike just where none fell away -/
theorem uniq_nodup (l : List Str) : (uniq l).length = l.length ↔ l.Nodup := by
  suffices h : ∀ (l D : List Str), D.Nodup → ((l.foldl more D).length = D.length + l.length ↔ (D ++ l).Nodup) by
    have := h l [] List.nodup_nil
    simpa [uniq] using this
  intro l
  induction l with
  | nil => intro D hD; simp [hD]
  | cons x r ih =>
    intro D hD
    rw [List.foldl_cons, List.length_cons]
    by_cases hx : x ∈ D
    · have e : more D x = D := by unfold more; rw [if_pos hx]
      rw [e]
      constructor
      · intro h
        have : (r.foldl more D).length ≤ D.length + r.length := by
          have h3 : ∀ (r D : List Str), (r.foldl more D).length ≤ D.length + r.length := by
            intro r
            induction r with
            | nil => intro D; simp
            | cons y r ih =>
              intro D
              have h1 := ih (more D y)
              have h2 : (more D y).length ≤ D.length + 1 := by
                unfold more
                split <;> simp
              rw [List.foldl_cons, List.length_cons]
              omega
          exact h3 r D
        omega
      · intro h
        rw [List.nodup_append] at h
        exact absurd rfl (h.2.2 x hx x (List.mem_cons_self))
    · have e : more D x = D ++ [x] := by unfold more; rw [if_neg hx]
      rw [e]
      have hD' : (D ++ [x]).Nodup := by
        rw [List.nodup_append]
        refine ⟨hD, by simp, ?_⟩
        intro a ha b hb
        rw [List.mem_singleton] at hb
        rintro rfl
        exact hx (hb ▸ ha)
      have := ih (D ++ [x]) hD'
      rw [List.length_append, List.length_singleton] at this
      rw [show D.length + (r.length + 1) = D.length + 1 + r.length by omega, this, List.append_assoc]
      rfl
/-- the signs of a text, as texts -/
def signsOf (z : Str) : List Str := z.cps.toList.map fun c => ⟨#[c]⟩
theorem signsOf_len (z : Str) : (signsOf z).length = z.cps.size := by
  unfold signsOf
  rw [List.length_map, Array.length_toList]
theorem signsOf_nodup (z : Str) : (signsOf z).Nodup ↔ z.cps.toList.Nodup := by
  unfold signsOf
  constructor
  · intro h
    rw [List.nodup_iff_pairwise_ne, List.pairwise_map] at h
    exact h.imp fun hab e => hab (by rw [e])
  · intro h
    refine List.Pairwise.map _ (fun a b hab e => hab ?_) h
    have e1 : (#[a] : Array Nat) = #[b] := Str.mk.inj e
    simpa using e1
theorem sub_str_set : isSubtype (.type "str") (.type "set") = pure false := by
  rw [isSubtype_type]
  kernel_rfl
theorem sub_str_frozenset : isSubtype (.type "str") (.type "frozenset") = pure false := by
  rw [isSubtype_type]
  kernel_rfl
section
variable {prog : Program} {w : World} {A : Around} {R : Result → Shared → Prop} {I : Addr} {fp wr : List Addr} {G : Array GenState → Array GenState → Prop} {n : Nat} {P : Nat → Value → Prop} {St : Nat → Shared → Prop}
theorem loop (W : WalksS prog w A.in1 I fp wr G n P St) (B : Addr) (hB : B ∉ fp) (xs : List Str) (hl : xs.length = n) (hn : n + 1 < scanBound)
    (val : ∀ i v, P i v → ∃ t x, xs[i]? = some x ∧ v = .str x t) : ∀ (k i : Nat) (s : Shared), n - i = k → i ≤ n → St i s →
      s.heap.SetOf (PySem.strKind prog w) B (fun y => decide (y ∈ uniq (xs.take i))) (uniq (xs.take i)).length →
      (∀ s', Moved (B :: wr) G s s' → s'.heap.SetOf (PySem.strKind prog w) B (fun y => decide (y ∈ uniq xs)) (uniq xs).length → R (.ok (.ret .none)) s') →
      codeAny (model prog w) A (.builtin "set.update.loop" ⟨[.ref B, .ref I], []⟩) R s := by
  have off : B ∉ wr := fun q => hB (W.sub _ q)
  have into : ∀ c ∈ wr, c ∈ B :: wr := fun c q => List.mem_cons_of_mem _ q
  intro k
  induction k with
  | zero =>
    intro i s e1 e2 st set goal
    obtain rfl : i = n := by omega
    refine codeAny_builtin F.entry_set_update_loop ?_
    rw [Around.under_plainId F.plain_set_update_loop _]
    show wpAny _ A.in1 (pyNext (.ref I) >>= _) _ _ s
    refine wpAny_bind (W.done s _ _ st fun s1 mv => ?_)
    show wpAny _ A.in1 (ret Value.none) _ _ s1
    refine wpAny_pure (goal s1 (mv.mono into) ?_)
    rw [List.take_of_length_le (by omega)] at set
    obtain ⟨ob, es, ep, tab, at1, more⟩ := set
    exact ⟨ob, es, ep, tab, mv.heap B _ off at1, more⟩
  | succ k ih =>
    intro i s e1 e2 st set goal
    have lt : i < n := by omega
    refine codeAny_builtin F.entry_set_update_loop ?_
    rw [Around.under_plainId F.plain_set_update_loop _]
    show wpAny _ A.in1 (pyNext (.ref I) >>= _) _ _ s
    refine wpAny_bind (W.item i s _ _ lt st fun v s1 hP st1 mv => ?_)
    obtain ⟨t, x, hx, rfl⟩ := val i v hP
    have set1 : s1.heap.SetOf (PySem.strKind prog w) B (fun y => decide (y ∈ uniq (xs.take i))) (uniq (xs.take i)).length := by
      obtain ⟨ob, es, ep, tab, at1, more⟩ := set
      exact ⟨ob, es, ep, tab, mv.heap B _ off at1, more⟩
    show wpAny _ A.in1 (holding [Value.str x t] (setAdd B (.str x t)) >>= _) _ _ s1
    refine wpAny_bind (wpAny_holding ?_)
    unfold setAdd
    refine wpAny_holding ?_
    refine wpAny_bind ((PySem.strKind prog w).pyHash (k := x) (strKind_is _ _ _ _) ?_)
    have room : (uniq (xs.take i)).length + 1 < scanBound := by
      have h1 := uniq_le (xs.take i)
      rw [List.length_take] at h1
      omega
    refine wpAny_setAddHashed_of (knd := PySem.strKind prog w) (s := { s1 with toks := s1.toks + 1 }) (strKind_is _ _ _ _) rfl set1 room fun h2 only set2 => ?_
    have tk : xs.take (i + 1) = xs.take i ++ [x] := by
      rw [List.take_add_one, hx]
      rfl
    have set3 : h2.SetOf (PySem.strKind prog w) B (fun y => decide (y ∈ uniq (xs.take (i + 1)))) (uniq (xs.take (i + 1))).length := by
      refine SetOf_congr set2 (fun y => ?_) ?_
      · rw [tk, uniq_snoc, Bool.eq_iff_iff]
        simp [mem_more]
      · rw [tk, uniq_snoc]
        unfold more
        by_cases q : x ∈ uniq (xs.take i)
        · simp [q]
        · simp [q]
    refine wpAny_pure ⟨plainId_quiet F.plain_set_update_loop _, ih (i + 1) _ (by omega) lt (W.frame _ s1 _ _ st1 (Nat.le_succ _) fun c hc o e => ?_) set3 fun s4 mv4 set4 => ?_⟩
    · rw [only.2 c (fun q : c = B => hB (q ▸ hc))]
      exact e
    · refine goal s4 (Moved.trans W.gtrans ((mv.mono into).then_heap (Nat.le_succ _) fun c o hc e => ?_) mv4) set4
      rw [only.2 c (fun q : c = B => hc (q ▸ List.mem_cons_self))]
      exact e
end
section
variable {prog : Program} {w : World} {A : Around} {E : Value → Shared → Prop} {s : Shared}
theorem walks (hh : A.handled = none) (I : Addr) (x : Str) (t : Tok) : ∃ St : Nat → Heap → Prop, Walks prog w A I [I] [I] x.cps.size (SignAt x) St ∧
    ∀ h, h.get? I = some { cls := .type (strIterType x), data := .fields #[.str x t, .int 0 0] } → St 0 h := by
  cases ha : x.cps.all (· < 128) with
  | true => exact ⟨_, Walks.strAscii hh I x t, fun h e => ⟨_, e, by simp [strIterType, ha], rfl⟩⟩
  | false => exact ⟨_, Walks.strWide hh I x t, fun h e => ⟨_, e, by simp [strIterType, ha], rfl⟩⟩
abbrev setO (led : Bool) : Obj := { cls := .type "set", dict := none, data := .set #[] 0 (.fresh 0 0 led) }
theorem call_set_text {x : Str} {t : Tok} {Q : Value → Shared → Prop} (hh : A.handled = none) (hb : x.cps.size + 1 < scanBound)
    (h : ∀ (h' : Heap) (tk : Nat), h'.SetOf (PySem.strKind prog w) s.heap.objs.size (fun y => decide (y ∈ uniq (signsOf x))) (uniq (signsOf x)).length →
      (∀ b o, b < s.heap.objs.size → s.heap.get? b = some o → h'.get? b = some o) → Q (.ref s.heap.objs.size) { s with heap := h', toks := tk }) :
    wpAny (model prog w) A (call (.type "set") [.str x t]) Q E s := by
  obtain ⟨c, tl, mro⟩ := PySem.F.called_set.mro
  have q1 := PySem.F.called_set.made
  have q2 := PySem.F.called_set.sub
  refine wpAny_call (codeAny_of_tree ?_)
  show wpAny _ _ (callAny (.type "set") _) _ _ _
  refine wpAny_pure ⟨Code.quiet_builtin _ (by decide +kernel), codeAny_builtin PySem.F.entry_type_call ?_⟩
  rw [Around.under_plain (weight_type_call_type "set" [.str x t] []) rfl]
  have q3 := PySem.F.called_set.notType
  have q4 := PySem.F.called_set.canCreate
  have q5 := PySem.F.typeCall_set_1 (.str x t)
  repeat (any_goals (first | assumption | wp_step))
  refine codeAny_mono (code_set_new_1 (.str x t) (E := E) (Q₁ := fun v s1 => ∃ led : Bool, v = .ref s.heap.objs.size ∧ s1 = { s with heap := s.heap.push (setO led) }) fun led => ⟨led, rfl, rfl⟩) fun r s1 hr => ?_
  match r, hr with
  | .error e, hr => exact hr
  | .ok .next, hr => exact hr.elim
  | .ok .brk, hr => exact hr.elim
  | .ok .cont, hr => exact hr.elim
  | .ok (.ret v), hr =>
    obtain ⟨led, rfl, rfl⟩ := hr
    have at0 : (s.heap.push (setO led)).get? s.heap.objs.size = some (setO led) := Heap.get?_push_size _ rfl
    have ty : Shared.TypeIs { s with heap := s.heap.push (setO led) } (.ref s.heap.objs.size) "set" := ⟨_, at0, rfl⟩
    have q6 := PySem.F.called_set.init.lookup
    have q7 := PySem.F.called_set.init.bind (.ref s.heap.objs.size)
    repeat (any_goals (first | assumption | wp_step))
    refine codeAny_mono (codeAny_call_builtin (R := wants (fun r s2 => r = .none ∧ ∃ h' tk, s2 = { s with heap := h', toks := tk } ∧
        h'.SetOf (PySem.strKind prog w) s.heap.objs.size (fun y => decide (y ∈ uniq (signsOf x))) (uniq (signsOf x)).length ∧
        ∀ b o, b < s.heap.objs.size → s.heap.get? b = some o → h'.get? b = some o) E) PySem.F.called_set.init.plain PySem.F.entry_set_init (check_set_init_1 ty ?_)) fun r2 s2 hr2 => ?_
    · have q8 := sub_str_set
      have q9 := sub_str_frozenset
      have q10 : (Value.type "str" == Value.type "dict") = false := by decide
      unfold Builtin.«set.__init__»
      unfold Builtin.Frozenset.updateFrom noKeywords
      generalize hPI : pyIter = PI
      wp_walk
      subst hPI
      refine wpAny_pyIter_strU ?_
      refine wpAny_bind (wpAny_runValue ?_)
      have hh3 : A.in1.in1.in1.handled = none := by simp [hh]
      obtain ⟨St, W, st0⟩ := walks (prog := prog) (w := w) hh3 (s.heap.push (setO led)).objs.size x t
      have offI : s.heap.objs.size ∉ [(s.heap.push (setO led)).objs.size] := by
        rw [Heap.size_push, List.mem_singleton]
        exact Nat.ne_of_lt (Nat.lt_succ_self _)
      refine loop W.toS s.heap.objs.size offI (signsOf x) (signsOf_len x) hb (fun i v q => ?_) (x.cps.size - 0) 0 _ (by omega) (Nat.zero_le _) (st0 _ (Heap.get?_push_size _ rfl)) ?_ ?_
      · obtain ⟨c, u, e1, e2⟩ := q
        refine ⟨u, ⟨#[c]⟩, ?_, e2⟩
        unfold signsOf
        rw [List.getElem?_map, Array.getElem?_toList, e1]
        rfl
      · have at1 : ((s.heap.push (setO led)).push { cls := .type (strIterType x), data := .fields #[.str x t, .int 0 0] }).get? s.heap.objs.size = some (setO led) := Heap.get?_push_of_some _ at0
        exact SetOf_congr ((setObjOf_fresh (knd := PySem.strKind prog w) led).setOf at1 (by unfold scanBound; omega)) (fun _ => rfl) rfl
      · intro s3 mv set
        obtain ⟨h3, g3, d3, tk3, os3⟩ := s3
        obtain rfl : g3 = s.gens := mv.gens
        obtain rfl : d3 = s.drawn := mv.drawn
        obtain rfl : os3 = s.os := mv.os
        show wpAny _ _ _ _ _ _
        refine wpAny_pure ?_
        show wpAny _ _ (ret Value.none) _ _ _
        refine wpAny_pure ⟨rfl, h3, tk3, rfl, set, fun b o hb e => ?_⟩
        refine mv.heap b o ?_ (Heap.get?_push_of_some _ (Heap.get?_push_of_some _ e))
        rw [List.mem_cons, List.mem_singleton, Heap.size_push]
        rintro (q | q)
        · exact Nat.ne_of_lt hb q
        · exact Nat.ne_of_lt (Nat.lt_succ_of_lt hb) q
    · match r2, hr2 with
      | .error e, hr2 => exact hr2
      | .ok .next, hr2 => exact hr2.elim
      | .ok .brk, hr2 => exact hr2.elim
      | .ok .cont, hr2 => exact hr2.elim
      | .ok (.ret v), hr2 =>
        obtain ⟨rfl, h', tk, rfl, set, keep⟩ := hr2
        repeat (any_goals (first | assumption | wp_step))
        exact h _ _ set keep
end
end SetS

set_option Elab.async false
set_option linter.all false
set_option maxRecDepth 100000
set_option maxHeartbeats 2000000
/-! Our own layer: more of what evaluates to what. -/
namespace L2
open PySem PySem.Spec PyProof.Rows
theorem call_repr_bl {X : Cx} : CallR X (.builtin "repr") (fun xs H Q => ∃ b, xs = [.bl b] ∧ Q (.str (tBool b)) H) := by
  intro pins s σ H xs us Q I r h
  obtain ⟨b, rfl, q⟩ := h
  obtain ⟨u, rfl, r1⟩ := vals1 r
  cases r1
  refine PySem.P.repr_of_bool ⟨.str (tBool b), H, I.tok _, ⟨s.toks, ?_⟩, q⟩
  cases b <;> rfl
theorem tBool_eq (a b : Bool) : decide (V.str (tBool a) = V.str (tBool b)) = decide (a = b) := by
  cases a <;> cases b <;> decide +kernel
end L2
namespace Evl
open PySem L2
section
variable {K : PySem.W.Frag} {σ : L2.St} {H H' : Hp} {ta tb tc te tx : TE} {t u : TT} {x y z v : V} {r : R2}
/-! ### promises that are functions -/
def SpFn (pre : List V → Hp → Prop) (res : List V → V) : Sp := fun vs H Q _ => pre vs H ∧ ∀ H', Ex H H' → Q (res vs) H'
theorem spFn {pre : List V → Hp → Prop} {res : List V → V} {vs : List V} (h : ∀ H1, Ex H H1 → pre vs H1) : SpV (SpFn pre res) vs H (res vs) :=
  fun H1 e _ q _ => ⟨h H1 e, q⟩
/-! ### values -/
theorem ev_chain {r' : R2} {k b : Bool} (ha : Ev ta σ H x) (hb : Ev tb σ H y) (h1 : RV r x y H (.bl k)) (hc : k = true → Ev tc σ H z)
    (h2 : k = true → RV r' y z H (.bl b)) : Ev (tChain r r' ta tb tc) σ H (.bl (k && b)) := fun H1 e Q q =>
  ha H1 e _ fun H2 e2 => hb H2 (e.trans e2) _ fun H3 e3 => h1 H3 ((e.trans e2).trans e3) _ fun H4 e4 => ⟨k, rfl, by
    cases k with
    | true =>
      refine iteT ?_
      exact hc rfl H4 (((e.trans e2).trans e3).trans e4) _ fun H5 e5 => h2 rfl H5 ((((e.trans e2).trans e3).trans e4).trans e5) Q
        fun H6 e6 => q H6 ((((e2.trans e3).trans e4).trans e5).trans e6)
    | false =>
      refine iteF ?_
      exact q H4 ((e2.trans e3).trans e4)⟩
theorem rv_addS {i j : Str} (h : i.length + j.length ≤ 100000) :
    RV (fun x y H Q => ∃ i j, x = .str i ∧ y = .str j ∧ i.length + j.length ≤ sizeLine ∧ Q (.str (i ++ j)) H) (.str i) (.str j) H (.str (i ++ j)) :=
  fun H1 _ _ q => ⟨i, j, rfl, rfl, sz_of h, q H1 (Ex.refl H1)⟩
theorem rv_leS {i j : Str} :
    RV (fun x y H Q => ∃ i j, x = .str i ∧ y = .str j ∧ Q (.bl (!decide (j.cps.toList < i.cps.toList))) H) (.str i) (.str j) H (.bl (!decide (j.cps.toList < i.cps.toList))) :=
  fun H1 _ _ q => ⟨i, j, rfl, rfl, q H1 (Ex.refl H1)⟩
theorem rv_isN : RV (fun x y H Q => y = .non ∧ Q (.bl (decide (x = .non))) H) x .non H (.bl (decide (x = .non))) := fun H1 _ _ q => ⟨rfl, q H1 (Ex.refl H1)⟩
theorem rv_notN : RV (fun x y H Q => y = .non ∧ Q (.bl (!decide (x = .non))) H) x .non H (.bl (!decide (x = .non))) := fun H1 _ _ q => ⟨rfl, q H1 (Ex.refl H1)⟩
theorem ev_slS {tl th : TO} {w : Str} {lo hi : Option Int} (h : Ev te σ H (.str w)) (h1 : EvO tl σ H lo) (h2 : EvO th σ H hi) (hz : w.length ≤ 100000) :
    Ev (tSl rSlS te tl th) σ H (.str (cutS w lo hi)) := fun H1 e _ q =>
  h H1 e _ fun H2 e2 => h1 H2 (e.trans e2) _ fun H3 e3 => h2 H3 ((e.trans e2).trans e3) _ fun H4 e4 => ⟨w, rfl, sz_of hz, q H4 ((e2.trans e3).trans e4)⟩
/-- what join asks -/
abbrev rJoin (K : PySem.W.Frag) : V → List V → Hp → VK → Prop := fun x xs H Q => ∃ a p, ∃ ys : List Str, x = .str a ∧ xs = [.ref p] ∧
  (SqL K H p (ys.map V.str) ∨ SqT K H p (ys.map V.str)) ∧ (ys.map (·.length)).sum + ys.length * a.length ≤ 16777216 ∧ Q (.str (Txt.join a ys)) H
theorem ev_joinL {a : Str} {ys : List Str} {xs : List V} (ha : Ev ta σ H (.str a)) (hb : EvL tb σ H xs) (hy : xs = ys.map V.str)
    (hz : (ys.map (·.length)).sum + ys.length * a.length ≤ 16777216) : Ev (tM1 (rJoin K) ta tb) σ H (.str (Txt.join a ys)) := fun H1 e _ q =>
  ha H1 e _ fun H2 e2 => ⟨⟨a, rfl⟩, hb H2 (e.trans e2) _ fun p H3 _ e3 h3 => ⟨a, p, ys, rfl, rfl, Or.inl (sq_of (hy ▸ h3)), hz, q H3 (e2.trans e3)⟩⟩
theorem ev_joinV {a : Str} {ys : List Str} {p : Addr} (ha : Ev ta σ H (.str a)) (hb : Ev tb σ H (.ref p)) (hp : SqL K H p (ys.map V.str))
    (hz : (ys.map (·.length)).sum + ys.length * a.length ≤ 16777216) : Ev (tM1 (rJoin K) ta tb) σ H (.str (Txt.join a ys)) := fun H1 e _ q =>
  ha H1 e _ fun H2 e2 => ⟨⟨a, rfl⟩, hb H2 (e.trans e2) _ fun H3 e3 => ⟨a, p, ys, rfl, rfl, Or.inl (ex_l ((e.trans e2).trans e3) hp), hz, q H3 (e2.trans e3)⟩⟩
theorem el_rep {xs : List V} {k : Int} (ha : EvL ta σ H xs) (hb : Ev tb σ H (.int k)) (h0 : 0 ≤ k) (hk : k ≤ 1000) (hz : xs.length ≤ 1000) :
    EvL (tOp rRep ta tb) σ H ((List.replicate k.toNat xs).flatten) := fun H1 e _ q =>
  ha H1 e _ fun p H2 hp e2 h2 => hb H2 (e.trans e2) _ fun H3 e3 =>
    ⟨p, k, xs, rfl, rfl, e3 p _ h2, by omega, by omega, by
      refine Nat.le_trans (Nat.mul_le_mul hz (show k.toNat ≤ 1000 by omega)) ?_
      decide, fun l hl => q l _ (fresh_back (e2.trans e3) hl) ((e2.trans e3).trans (Ex.new hl)) upd_same⟩
theorem el_catLL {xs ys : List V} (ha : EvL ta σ H xs) (hb : EvL tb σ H ys) (hz : xs.length + ys.length ≤ 100000) :
    EvL (tOp rCat ta tb) σ H (xs ++ ys) := fun H1 e _ q =>
  ha H1 e _ fun p H2 hp e2 h2 => hb H2 (e.trans e2) _ fun p' H3 hp' e3 h3 =>
    ⟨p, p', xs, ys, rfl, rfl, e3 p _ h2, h3, sz_of hz, fun l hl => q l _ (fresh_back (e2.trans e3) hl) ((e2.trans e3).trans (Ex.new hl)) upd_same⟩
theorem el_catVL {xs ys : List V} {p : Addr} (ha : Ev ta σ H (.ref p)) (hp : H p = some (.lst xs)) (hb : EvL tb σ H ys) (hz : xs.length + ys.length ≤ 100000) :
    EvL (tOp rCat ta tb) σ H (xs ++ ys) := fun H1 e _ q =>
  ha H1 e _ fun H2 e2 => hb H2 (e.trans e2) _ fun p' H3 hp' e3 h3 =>
    ⟨p, p', xs, ys, rfl, rfl, e3 p _ (e2 p _ (e p _ hp)), h3, sz_of hz, fun l hl => q l _ (fresh_back (e2.trans e3) hl) ((e2.trans e3).trans (Ex.new hl)) upd_same⟩
theorem el_is {xs ys : List V} (h : EvL te σ H xs) (e : xs = ys) : EvL te σ H ys := e ▸ h
/-! ### built-ins -/
theorem rc_val {r : List V → Hp → VK → Prop} {vs : List V} (h : ∀ H1, Ex H H1 → ∀ Q : VK, Q z H1 → r vs H1 Q) : RC r vs H z := fun H1 e Q q => h H1 e Q (q H1 (Ex.refl H1))
theorem rc_repr {b : Bool} : RC (fun xs H Q => ∃ b, xs = [.bl b] ∧ Q (.str (tBool b)) H) [.bl b] H (.str (tBool b)) := rc_val fun _ _ _ q => ⟨b, rfl, q⟩
theorem rc_int {b : Bool} : RC (fun xs H Q => (∃ i, xs = [.int i] ∧ Q (.int i) H) ∨ ∃ k, xs = [.bl k] ∧ Q (.int (if k then 1 else 0)) H) [.bl b] H (.int (if b then 1 else 0)) :=
  rc_val fun _ _ _ q => Or.inr ⟨b, rfl, q⟩
theorem rc_lenS {w : Str} (h : w.length ≤ 100000) : RC (fun xs H Q => ∃ z, xs = [.str z] ∧ z.length ≤ sizeLine ∧ Q (.int z.length) H) [.str w] H (.int w.length) :=
  rc_val fun _ _ _ q => ⟨w, rfl, sz_of h, q⟩
theorem rc_lenL {p : Addr} {xs : List V} (h : SqL K H p xs) : RC (fun vs H Q => ∃ p ys, vs = [.ref p] ∧ (SqL K H p ys ∨ SqT K H p ys) ∧ Q (.int ys.length) H) [.ref p] H (.int xs.length) :=
  rc_val fun _ e _ q => ⟨p, xs, rfl, Or.inl (ex_l e h), q⟩
theorem rc_min {i j : Int} : RC (fun xs H Q => ∃ i j, xs = [.int i, .int j] ∧ Q (.int (if j < i then j else i)) H) [.int i, .int j] H (.int (if j < i then j else i)) :=
  rc_val (z := .int (if j < i then j else i)) fun _ _ _ q => ⟨i, j, rfl, q⟩
theorem rc_err {a D : Addr} {c : V} {cv : Value} {b : Bool} (ha : H a = some (ErrO (.ref D) none a)) (C : ExcC K D) (k : ClsV c cv) (e : PySem.W.kitOne K (.ref D) cv = some b) :
    RC (rIsErr K) [.ref a, c] H (.bl b) := rc_val fun H1 ex _ q => ⟨a, D, c, cv, b, rfl, C, ex a _ ha, k, e, q⟩
/-! ### things of any kind -/
def isStr : V → Bool | .str _ => true | _ => false
/-- what is handed in: None, a truth, a whole number, a text of signs, a list, a tuple, a dict -/
def Thing (H : Hp) : V → Prop
  | .non => True | .bl _ => True | .int _ => True
  | .str z => z.length ≤ 1000 ∧ z.cps.toList.all (· < 1114112) = true
  | .ref a => (∃ xs, H a = some (.lst xs)) ∨ (∃ xs, H a = some (.tup xs)) ∨ ∃ kvs, H a = some (.dK kvs)
  | _ => False
theorem Thing.mono (e : Ex H H') (h : Thing H v) : Thing H' v := by
  cases v with
  | ref a =>
    rcases h with ⟨xs, h⟩ | ⟨xs, h⟩ | ⟨kvs, h⟩
    · exact Or.inl ⟨xs, e a _ h⟩
    · exact Or.inr (Or.inl ⟨xs, e a _ h⟩)
    · exact Or.inr (Or.inr ⟨kvs, e a _ h⟩)
  | _ => exact h
theorem Thing.ty (h : Thing H v) : ∃ T : String, TyX K H v (.type T) ∧ kitB T "str" = some (isStr v) := by
  cases v with
  | non => exact ⟨_, .base .non, by decide +kernel⟩
  | bl b => exact ⟨"bool", .base (.bl b), by show kitB "bool" "str" = some false; decide +kernel⟩
  | int i => exact ⟨"int", .base (.int i), by show kitB "int" "str" = some false; decide +kernel⟩
  | str z => exact ⟨"str", .base (.str z), by show kitB "str" "str" = some true; decide +kernel⟩
  | byt b => exact h.elim
  | flt b => exact h.elim
  | ty b => exact h.elim
  | ref a =>
    rcases h with ⟨xs, h⟩ | ⟨xs, h⟩ | ⟨kvs, h⟩
    · exact ⟨"list", .base (.lst h), by show kitB "list" "str" = some false; decide +kernel⟩
    · exact ⟨"tuple", .base (.tup h), by show kitB "tuple" "str" = some false; decide +kernel⟩
    · exact ⟨"dict", .base (.dK h), by show kitB "dict" "str" = some false; decide +kernel⟩
theorem rc_isStr (h : Thing H v) : RC (rIsi K) [v, .ty "str"] H (.bl (isStr v)) := rc_val fun H1 e Q q => by
  obtain ⟨T, ht, hk⟩ := (h.mono e).ty (K := K)
  exact ⟨v, .ty "str", .type T, .type "str", isStr v, rfl, .ty _, ht, kit_ty hk, q⟩
/-- evaluates to some thing -/
def EvTh (te : TE) (σ : L2.St) (H : Hp) : Prop := ∀ H1, Ex H H1 → ∀ Q : VK, (∀ v H2, Ex H1 H2 → Thing H2 v → Q v H2) → te σ H1 Q
def EvThs (ta : TA) (σ : L2.St) (H : Hp) (n : Nat) : Prop := ∀ H1, Ex H H1 → ∀ Q : List V → Hp → Prop, (∀ vs H2, Ex H1 H2 → vs.length = n → (∀ v ∈ vs, Thing H2 v) → Q vs H2) → ta σ H1 Q
theorem eth_v (h : Ev te σ H v) (p : ∀ H1, Ex H H1 → Thing H1 v) : EvTh te σ H := fun H1 e _ q => h H1 e _ fun H2 e2 => q v H2 e2 (p H2 (e.trans e2))
theorem eth_l {xs : List V} (h : EvL te σ H xs) : EvTh te σ H := fun H1 e _ q => h H1 e _ fun p H2 _ e2 h2 => q _ H2 e2 (Or.inl ⟨xs, h2⟩)
theorem eth_u {xs : List V} (h : EvU te σ H xs) : EvTh te σ H := fun H1 e _ q => h H1 e _ fun p H2 _ e2 h2 => q _ H2 e2 (Or.inr (Or.inl ⟨xs, h2⟩))
theorem eth_d : EvTh tDNewK σ H := fun H1 e _ q => fun p hp => q _ _ (Ex.new hp) (Or.inr (Or.inr ⟨[], upd_same⟩))
theorem eths_nil : EvThs tNil σ H 0 := fun H1 _ _ q => q [] H1 (Ex.refl H1) rfl fun _ h => nomatch h
theorem eths_cons {tr : TA} {n : Nat} (h : EvTh te σ H) (hr : EvThs tr σ H n) : EvThs (tCons te tr) σ H (n + 1) := fun H1 e _ q =>
  h H1 e _ fun v H2 e2 hv => hr H2 (e.trans e2) _ fun vs H3 e3 hl hvs => q (v :: vs) H3 (e2.trans e3) (by rw [List.length_cons, hl]) fun w hw => by
    rcases List.mem_cons.mp hw with rfl | hw
    · exact hv.mono e3
    · exact hvs w hw
/-! ### lists against the empty one -/
def dpOf : V → PyData | .non => .none | .bl b => .bool b | .int i => .int i | .str s => .str s | _ => .none
def flatOk : V → Bool | .non => true | .bl _ => true | .int _ => true | .str s => s.cps.all (· < 0x110000) | _ => false
theorem dp_flat (h : flatOk v = true) : Dp K H v (dpOf v) := by
  cases v with
  | non => exact .non
  | bl b => exact .bl b
  | int i => exact .int i
  | str s => exact .str s
  | _ => cases h
theorem dps_flat : ∀ {xs : List V}, xs.all flatOk = true → DpAll K H xs (xs.map dpOf)
  | [], _ => .nil
  | x :: xs, h => by
    rw [List.all_cons, Bool.and_eq_true] at h
    exact .cons (dp_flat h.1) (dps_flat h.2)
theorem depth_dpOf : PyData.depth (dpOf v) = 0 := by cases v <;> rfl
theorem canLay_dpOf (h : flatOk v = true) : PyData.canLay0 (dpOf v) = true := by
  cases v with
  | str s => exact h
  | non => rfl
  | bl b => rfl
  | int i => rfl
  | _ => cases h
theorem depths_flat : ∀ {xs : List V}, PyData.depthAll (xs.map dpOf) = 0
  | [] => rfl
  | x :: xs => by
    show max (PyData.depth (dpOf x)) (PyData.depthAll (xs.map dpOf)) = 0
    rw [depth_dpOf, depths_flat] <;> rfl
theorem canLays_flat : ∀ {xs : List V}, xs.all flatOk = true → PyData.canLayAll0 (xs.map dpOf) = true
  | [], _ => rfl
  | x :: xs, h => by
    rw [List.all_cons, Bool.and_eq_true] at h
    show (PyData.canLay0 (dpOf x) && PyData.canLayAll0 (xs.map dpOf)) = true
    rw [canLay_dpOf h.1, canLays_flat h.2] <;> rfl
theorem shaped_flat {xs : List V} (h : xs.all flatOk = true) : SeqAt.shaped (.list (xs.map dpOf)) = true := by
  unfold SeqAt.shaped
  rw [Bool.and_eq_true]
  constructor
  · show PyData.canLayAll0 (xs.map dpOf) = true
    exact canLays_flat h
  · have : PyData.depth (.list (xs.map dpOf)) = 1 := by
      show PyData.depthAll (xs.map dpOf) + 1 = 1
      rw [depths_flat]
    rw [this]
    rfl
theorem ev_eqNil {xs : List V} (ha : EvL ta σ H xs) (hf : xs.all flatOk = true) : Ev (tOp (rEqD K) ta (tLst tNil)) σ H (.bl xs.isEmpty) := fun H1 e Q q =>
  ha H1 e _ fun p H2 _ e2 h2 => ⟨by show 0 ≤ sizeLine; exact Nat.zero_le _, fun l hl => by
    have e3 : Ex H2 (upd H2 l (.lst [])) := Ex.new hl
    refine ⟨.list (xs.map dpOf), .list [], .lst (sq_of (e3 p _ h2)) (dps_flat hf), .lst (sq_of upd_same) .nil, shaped_flat hf, by decide, ?_⟩
    have z : PyData.eqv (.list (xs.map dpOf)) (.list []) = xs.isEmpty := by
      cases xs <;> rfl
    rw [z]
    exact q _ (e2.trans e3)⟩
/-! ### a comprehension over a text's signs -/
theorem el_lcS {w : Str} {ts : TE} {j : Nat} {vs : List Nat} (f : Nat → Bool) (g : Nat → V) (h : Ev ts σ H (.str w)) (hz : w.cps.size ≤ 40000)
    (hw : ∀ x, wipe ((wipe σ vs).set j (some x)) vs = wipe σ vs)
    (ht : ∀ (i c : Nat) H1, Ex H H1 → w.cps[i]? = some c → EvT t ((wipe σ vs).set j (some (.str ⟨#[c]⟩))) H1 (f i))
    (he : ∀ (i c : Nat) H1, Ex H H1 → w.cps[i]? = some c → f i = true → Ev te ((wipe σ vs).set j (some (.str ⟨#[c]⟩))) H1 (g i)) :
    EvL (tLc (iStr ts) (gName j) t te vs) σ H (given w.cps.size f g) := fun H0 e Q q => h H0 e _ fun H1 e1 => ⟨w, rfl, fun Dl hD =>
  lc_it (walk_str (z := w)) (Cw H1 f g Dl) ⟨hD, Ex.new hD, upd_same⟩ (fun _ _ _ _ => True.intro) (fun i x H2 H3 hi p y => by
    obtain ⟨rfl, c, hc, rfl⟩ := y
    exact ⟨hw _, cw_turn p (by omega) (ht i c H1 (e.trans e1) hc) (fun hf => he i c H1 (e.trans e1) hc hf)⟩)
    (fun H' p => q Dl H' (fresh_back e1 p.1) (e1.trans p.2.1) p.2.2)⟩
theorem et_yes : EvT tYes σ H true := fun H1 _ _ q => q H1 (Ex.refl H1)
theorem given_all (n : Nat) (g : Nat → V) : given n (fun _ => true) g = (List.range n).map g := by
  unfold given
  rw [List.filter_eq_self.mpr (fun _ _ => rfl)]
end
end Evl

set_option Elab.async false
set_option linter.all false
set_option maxRecDepth 100000
set_option maxHeartbeats 2000000
/-! Our own layer: len(set(text)); zip(list, text). -/
namespace L2
open PySem PySem.Spec PyProof.Rows
/-- len(set(s)), s a text -/
def tLenSetS (ta : TE) : TE := fun σ H Q => ta σ H fun x H1 => ∃ z, x = .str z ∧ z.length ≤ 4000 ∧ Q (.int ((SetS.uniq (SetS.signsOf z)).length : Nat)) H1
theorem pe_lenSetS {X : Cx} {a : Expr} {ta : TE} {p p2 q pos : Pos} (hg : Gl X "len") (hm : X.mg "len" = none) (hg2 : Gl X "set") (hm2 : X.mg "set" = none)
    (ha : PE X a ta) (hc : X.calm = true := by rfl) (na : starEach [a] X.env = (false, eval a X.env) :: starEach [] X.env := by rfl) :
    PE X (.Call (.Name "len" p) [.Call (.Name "set" p2) [a] [] q] [] pos) (tLenSetS ta) := by
  constructor
  intro pins s σ H Q I h
  refine Call_ (ld_blt I hg hm PySem.boot_len ?_)
  refine PyProof.Rows.callWith_builtin1 (PyProof.Rows.args_cons ?_ rfl) rfl rfl
  refine Call_ (ld_blt I hg2 hm2 PyProof.Rows.boot_set ?_)
  refine PyProof.Rows.callWith_type1 (PyProof.Rows.args_cons (thn (ha.run pins s σ H _ I h) fun v s1 hv => PyProof.Rows.args_nil ?_) na) na rfl
  obtain ⟨x, H1, I1, r1, z, rfl, hl, q1⟩ := hv
  obtain ⟨t, rfl⟩ := r1
  have hz : z.cps.size ≤ 4000 := hl
  refine SetS.call_set_text (I1.ok.hd hc) (by unfold scanBound; omega) fun h' tk hS hk => ?_
  refine PyProof.Rows.args_nil ?_
  obtain ⟨o, es, ep, tab, ho, hex, hd, _, _, _, hf, hn⟩ := hS
  have hle := SetS.uniq_le (SetS.signsOf z)
  rw [SetS.signsOf_len] at hle
  have I2 : Inv X pins σ H1 { s1 with heap := h', toks := tk } := I1.kept fun b o e => hk b o (Heap.lt_size e) e
  exact call_len_set ho hex hd hf (by rw [hn]; omega) ⟨.int _, H1, I2.tok _, ⟨_, by rw [hn]⟩, q1⟩
/-! ### zip(list, text) -/
/-- the list at a as it stands at each turn, the text's signs beside, in new pairs -/
def Itzs (K : PySem.W.Frag) (a : Addr) (z : Str) : It :=
  ⟨fun i H => ∃ (xs : List V) (x : V) (c : Nat), SqL K H a xs ∧ xs[i]? = some x ∧ z.cps[i]? = some c,
    fun i H v H' => ∃ T x c, v = .ref T ∧ H T = none ∧ H' = upd H T (.tup [x, .str ⟨#[c]⟩]) ∧ (∀ xs, SqL K H a xs → xs[i]? = some x) ∧ z.cps[i]? = some c,
    fun i H => ∃ xs : List V, SqL K H a xs ∧ i = min xs.length z.cps.size⟩
/-- the state ahead of turn i -/
structure ZsAt (zz TI TO i1 i2 a : Addr) (z : Str) (t : Tok) (i : Nat) (h : Heap) : Prop where
  zi : IsZip h zz TI TO .none
  ti : IsTupOf2 h TI (.ref i1) (.ref i2)
  to_ : ∃ a1 a2, IsTupOf2 h TO a1 a2
  l1 : h.IsListIter i1 a i
  l2 : h.IsStrIter i2 (strIterType z) z t i
theorem turn_zs {P : Program} {w : World} {K : PySem.W.Frag} {elts : List Expr} {kk : Nat} {tpos : Pos} {zz TI TO i1 i2 a : Addr} {z : Str} {t : Tok}
    (D : ZipSep2 zz TI TO i1 i2 [i1, a] [i2]) (hz : a ≠ zz) (h1 : a ≠ TI) (h2 : a ≠ TO) (h3 : a ≠ i1) (h4 : a ≠ i2) :
    Turn P w K (.Tuple elts kk tpos) (Itzs K a z) [zz, TI, TO, i1, i2] zz (ZsAt zz TI TO i1 i2 a z t) where
  mem := List.mem_cons_self
  obj := fun i h st c hc => by
    obtain ⟨e1, e2, ⟨a1, a2, e3⟩, ⟨o1, e4, _, d1⟩, ⟨o2, e5, _, d2⟩⟩ := st
    simp only [List.mem_cons, List.not_mem_nil, or_false] at hc
    rcases hc with rfl | rfl | rfl | rfl | rfl
    · exact ⟨_, e1, fun v q => nomatch q⟩
    · exact ⟨_, e2, fun v q => nomatch q⟩
    · exact ⟨_, e3, fun v q => nomatch q⟩
    · exact ⟨o1, e4, fun v q => by rw [d1] at q; cases q⟩
    · exact ⟨o2, e5, fun v q => by rw [d2] at q; cases q⟩
  keep := fun i h h' st k => by
    obtain ⟨e1, e2, ⟨a1, a2, e3⟩, ⟨o1, e4, r1⟩, ⟨o2, e5, r2⟩⟩ := st
    exact ⟨k zz (by simp) _ e1, k TI (by simp) _ e2, ⟨a1, a2, k TO (by simp) _ e3⟩, ⟨o1, k i1 (by simp) _ e4, r1⟩, ⟨o2, k i2 (by simp) _ e5, r2⟩⟩
  item := by
    intro X hP hw hK hc i pins s σ H E I hf st hg
    subst hP hw hK
    obtain ⟨xs, x, c, hq, hx, hcc⟩ := hg
    obtain ⟨its, rv, p, _⟩ := I.list hq
    have hh : X.A.in1.handled = none := by simp [I.ok.hd hc]
    have lx : i < its.toArray.size := by
      rw [List.size_toArray, ← rv.length]
      exact (List.getElem?_eq_some_iff.mp hx).1
    have lc : i < z.cps.size := (Array.getElem?_eq_some_iff.mp hcc).1
    refine (GoesN.zip2 D (Draws.list hh i1 a h3 its.toArray) (Draws.text hh i2 z t)).goes i s _ _ (Nat.lt_min.mpr ⟨lx, lc⟩)
      ⟨st.zi, st.ti, st.to_, ⟨st.l1, p.isList⟩, st.l2⟩ fun v h' tk hY st' hk htk => ?_
    obtain ⟨T, u1, u2, rfl, hT, e1, ⟨c2, tt, e2, rfl⟩, tup⟩ := hY
    rw [hcc] at e2
    cases e2
    obtain ⟨u, hu, ru⟩ := rv.get hx
    have eu : u1 = u := by
      have e1' : its[i]? = some u1 := by simpa using e1
      rw [hu] at e1'
      exact (Option.some.inj e1').symm
    subst eu
    obtain ⟨s1, s2, s3, ⟨s4, _⟩, s5⟩ := st'
    have new : ObjOk X.prog X.w (upd H T (.tup [x, .str ⟨#[c]⟩])) h' T (.tup [x, .str ⟨#[c]⟩]) :=
      ⟨by show 2 ≤ sizeLine; decide, [u1, .str ⟨#[c]⟩ tt], .cons ru (.cons ⟨tt, rfl⟩ .nil), tup⟩
    have sub : ∀ b, b ∉ [zz, TI, TO, i1, i2] → b ∉ [zz, TO, i1, i2] := fun b hb q => hb (by
      simp only [List.mem_cons, List.not_mem_nil, or_false] at q ⊢
      rcases q with q | q | q | q
      · exact Or.inl q
      · exact Or.inr (Or.inr (Or.inl q))
      · exact Or.inr (Or.inr (Or.inr (Or.inl q)))
      · exact Or.inr (Or.inr (Or.inr (Or.inr q))))
    have I1 := I.turnedNew (t' := tk) (ch := [zz, TI, TO, i1, i2]) (fun b o hb e => hk b o (sub b hb) e) hf hT new
    refine ⟨.ref T, _, I1, rfl, ⟨T, x, c, rfl, I.hok.fresh hT, rfl, fun l hl => by rw [I.list_inj hl hq]; exact hx, hcc⟩, ⟨s1, s2, s3, s4, s5⟩, fun b hb => ?_⟩
    have hlt : b < s.heap.objs.size := by
      obtain ⟨e1, e2, ⟨a1, a2, e3⟩, ⟨o1, e4, _⟩, ⟨o2, e5, _⟩⟩ := st
      simp only [List.mem_cons, List.not_mem_nil, or_false] at hb
      rcases hb with rfl | rfl | rfl | rfl | rfl
      · exact Heap.lt_size e1
      · exact Heap.lt_size e2
      · exact Heap.lt_size e3
      · exact Heap.lt_size e4
      · exact Heap.lt_size e5
    rw [upd_ne (Nat.ne_of_lt (Nat.lt_of_lt_of_le hlt hT))]
    exact (hf b hb).1
  done := by
    intro X hP hw hK hc i pins s σ H E I hf st hg
    subst hP hw hK
    obtain ⟨xs, hq, hend⟩ := hg
    obtain ⟨its, rv, p, _⟩ := I.list hq
    have hh : X.A.in1.handled = none := by simp [I.ok.hd hc]
    have en : i = min its.toArray.size z.cps.size := by
      rw [List.size_toArray, ← rv.length]
      exact hend
    subst en
    refine (GoesN.zip2 (elts := elts) (x1 := kk) (pos := tpos) D (Draws.list hh i1 a h3 its.toArray) (Draws.text hh i2 z t)).stops s _ _
      ⟨st.zi, st.ti, st.to_, ⟨st.l1, p.isList⟩, st.l2⟩ fun h' tk hk htk => ?_
    refine I.turnedL (t' := tk) (ch := [zz, TI, TO, i1, i2]) (fun b o hb e => hk b o (fun q => hb ?_) e) hf
    simp only [List.mem_cons, List.not_mem_nil, or_false] at q ⊢
    rcases q with q | q | q | q
    · exact Or.inl q
    · exact Or.inr (Or.inr (Or.inl q))
    · exact Or.inr (Or.inr (Or.inr (Or.inl q)))
    · exact Or.inr (Or.inr (Or.inr (Or.inr q)))
  self := fun A i s Q E st h => wpAny_pyIter_zip st.zi h
def iZipS (K : PySem.W.Frag) (ta : TA) : TI := fun σ H R => ta σ H fun vs H1 => ∃ a z xs, vs = [.ref a, .str z] ∧ SqL K H1 a xs ∧ R (Itzs K a z) H1
theorem pi_zipS {X : Cx} {e e2 : Expr} {ta : TA} {p pos tpos : Pos} {elts : List Expr} {kk : Nat} (hg : Gl X "zip") (hm : X.mg "zip" = none) (ha : PA X [e, e2] ta)
    (hs : starEach [e, e2] X.env = (false, eval e X.env) :: starEach [e2] X.env := by rfl) (hpl : (backTo pos (starEach [e2] X.env)).any (·.1) = false := by rfl) :
    PI X (.Tuple elts kk tpos) (.Call (.Name "zip" p) [e, e2] [] pos) (iZipS X.K ta) := by
  constructor
  intro pins s σ H R I h
  refine Call_ (ld_blt I hg hm PyProof.Rows.boot_zip (PyProof.Rows.callWith_type1 (thn (ha.run pos pins s σ H _ I h) fun us s1 hv => ?_) hs hpl))
  obtain ⟨vs, H1, I1, r1, a, z, xs, rfl, hq, q⟩ := hv
  cases r1 with
  | cons ra rr =>
    cases rr with
    | cons rz rr =>
      cases rr
      cases ra
      obtain ⟨t, rfl⟩ := rz
      obtain ⟨its, rv, pl, _⟩ := I1.list hq
      have la : a < s1.heap.objs.size := pl.lt
      refine zip_begins2 (begins_list a its.toArray) (begins_text z t) pl.isList trivial fun h' hz hTI hTO e1 e2 hsz hk => ?_
      have st : ZsAt (s1.heap.objs.size + 4) (s1.heap.objs.size + 2) (s1.heap.objs.size + 3) s1.heap.objs.size (s1.heap.objs.size + 1) a z t 0 h' :=
        ⟨hz, hTI, ⟨_, _, hTO⟩, ⟨_, e1, rfl, rfl⟩, ⟨_, e2, rfl, rfl⟩⟩
      refine wpAny_pyIter_zip st.zi ?_
      have I2 : Inv X pins σ H1 { s1 with heap := h' } := I1.kept (t' := s1.toks) hk
      have far : ∀ k : Nat, a ≠ s1.heap.objs.size + k := fun k => Nat.ne_of_lt (Nat.lt_of_lt_of_le la (Nat.le_add_right _ _))
      refine ⟨s1.heap.objs.size + 4, [s1.heap.objs.size + 4, s1.heap.objs.size + 2, s1.heap.objs.size + 3, s1.heap.objs.size, s1.heap.objs.size + 1], _, _, H1, rfl, I2,
        turn_zs (zip_sep2 (N := s1.heap.objs.size) (fp1 := [a]) (fp2 := []) (fun b hb => by rw [List.mem_singleton] at hb; exact hb ▸ la) (fun b hb => nomatch hb)) (far 4) (far 2) (far 3) (Nat.ne_of_lt la) (far 1),
        st, fun b hb => ?_, q⟩
      have le : s1.heap.objs.size ≤ b := by
        simp only [List.mem_cons, List.not_mem_nil, or_false] at hb
        rcases hb with rfl | rfl | rfl | rfl | rfl
        · exact Nat.le_add_right _ _
        · exact Nat.le_add_right _ _
        · exact Nat.le_add_right _ _
        · exact Nat.le_refl _
        · exact Nat.le_add_right _ _
      exact I1.fpOk le (I1.hok.fresh le)
theorem walk_zs {K : PySem.W.Frag} {a : Addr} {xs : List V} {z : Str} : Walk (Itzs K a z) (min xs.length z.cps.size) (fun H => SqL K H a xs)
    (YPair (fun i => xs[i]?) (fun i => z.cps[i]?.map fun c => .str ⟨#[c]⟩)) := by
  refine ⟨fun i H hi q => ?_, fun H q => ⟨xs, q, rfl⟩, fun i H v H' hi q y => ?_⟩
  · have h1 : i < xs.length := by omega
    have h2 : i < z.cps.size := by omega
    exact ⟨xs, xs[i], z.cps[i], q, by simp [h1], by simp [h2]⟩
  · obtain ⟨T, x, c, e1, e2, e3, e4, e5⟩ := y
    exact ⟨T, x, .str ⟨#[c]⟩, e1, e2, e3, e4 xs q, by simp [e5]⟩
end L2

set_option Elab.async false
set_option linter.all false
set_option maxRecDepth 100000
set_option maxHeartbeats 2000000
/-! Our own layer: texts by the lists of their signs. -/
namespace TX
open PySem
abbrev L (z : Str) : List Nat := z.cps.toList
abbrev T (l : List Nat) : Str := ⟨l.toArray⟩
theorem L_T (l : List Nat) : L (T l) = l := by simp [L, T]
theorem T_L (z : Str) : T (L z) = z := by cases z; simp [L, T]
theorem len_L (z : Str) : z.length = (L z).length := by simp [L, Str.length]
theorem len_T (l : List Nat) : (T l).length = l.length := by simp [T, Str.length]
theorem eq_L {a b : Str} (h : L a = L b) : a = b := by rw [← T_L a, ← T_L b, h]
theorem L_inj {a b : Str} : L a = L b ↔ a = b := ⟨eq_L, fun h => h ▸ rfl⟩
theorem L_add (a b : Str) : L (a ++ b) = L a ++ L b := by
  show (a ++ b).cps.toList = _
  rw [Str.cps_append, Array.toList_append]
theorem T_inj {a b : List Nat} (h : T a = T b) : a = b := by
  have := congrArg L h
  rwa [L_T, L_T] at this
theorem one_T (c : Nat) : (⟨#[c]⟩ : Str) = T [c] := rfl
/-! ### where a sign is -/
open Builtin Builtin.Str in
theorem full (x y : Str) (hi : Nat) : ∀ (l : List Nat) (st : Array Nat × Nat), 1 ≤ st.fst.size → (forIn l st (StrLaws.occBody x y hi 1)).run = st
  | [], _, _ => rfl
  | a :: l, st, h => by
    rw [List.forIn_cons]
    have e : StrLaws.occBody x y hi 1 a st = pure (ForInStep.yield st) := by
      unfold StrLaws.occBody
      rw [if_neg (by rintro ⟨⟨⟨q, _⟩, _⟩, _⟩; omega)]
    rw [e]
    exact full x y hi l st h
open Builtin Builtin.Str in
theorem run1 (x : Str) (c : Nat) : ∀ (l : List Nat) (free : Nat), (∀ i ∈ l, free ≤ i) →
    (forIn l ((#[] : Array Nat), free) (StrLaws.occBody x ⟨#[c]⟩ x.length 1)).run.fst.toList = (l.find? fun i => decide ((L x)[i]? = some c)).toList
  | [], _, _ => rfl
  | a :: l, free, hf => by
    rw [List.forIn_cons, List.find?_cons]
    by_cases q : (L x)[a]? = some c
    · have e : StrLaws.occBody x ⟨#[c]⟩ x.length 1 a (#[], free) = pure (ForInStep.yield (#[a], a + 1)) := by
        unfold StrLaws.occBody
        have := (StrLaws.subAt_one x c a).mpr q
        rw [if_pos ⟨⟨⟨by show (0 : Nat) < 1; decide, hf a List.mem_cons_self⟩, this.1⟩, this.2⟩]
        rfl
      rw [e, decide_eq_true q]
      show (forIn l (#[a], a + 1) (StrLaws.occBody x ⟨#[c]⟩ x.length 1)).run.fst.toList = _
      rw [full x ⟨#[c]⟩ x.length l (#[a], a + 1) (by show 1 ≤ 1; decide)]
      rfl
    · have e : StrLaws.occBody x ⟨#[c]⟩ x.length 1 a (#[], free) = pure (ForInStep.yield (#[], free)) := by
        unfold StrLaws.occBody
        rw [if_neg (by
          rintro ⟨⟨_, q1⟩, q2⟩
          exact q ((StrLaws.subAt_one x c a).mp ⟨q1, q2⟩))]
      rw [e, decide_eq_false q]
      exact run1 x c l free fun i hi => hf i (List.mem_cons_of_mem _ hi)
theorem occ1 (x : Str) (c lo : Nat) : Builtin.Str.occurrences x ⟨#[c]⟩ lo x.length 1 = ((List.range' lo (x.length + 1 - lo)).find? fun i => decide ((L x)[i]? = some c)).toList := by
  rw [StrLaws.occ_eq]
  exact run1 x c _ lo fun i hi => by
    rw [List.mem_range'] at hi
    obtain ⟨k, _, rfl⟩ := hi
    omega
theorem occ1_some {x : Str} {c lo j : Nat} (h1 : lo ≤ j) (h2 : (L x)[j]? = some c) (h3 : ∀ i, lo ≤ i → i < j → (L x)[i]? ≠ some c) : Builtin.Str.occurrences x ⟨#[c]⟩ lo x.length 1 = [j] := by
  rw [occ1]
  have lj : j < x.length := by
    rw [len_L]
    exact (List.getElem?_eq_some_iff.mp h2).1
  have : (List.range' lo (x.length + 1 - lo)).find? (fun i => decide ((L x)[i]? = some c)) = some j := by
    rw [List.find?_eq_some_iff_append]
    refine ⟨by simpa using h2, List.range' lo (j - lo), List.range' (j + 1) (x.length - j), ?_, ?_⟩
    · have e1 : x.length + 1 - lo = (j - lo) + ((x.length - j) + 1) := by omega
      rw [e1, ← List.range'_append_1, List.range'_succ]
      have e2 : lo + (j - lo) = j := by omega
      rw [e2]
    · intro i hi
      rw [List.mem_range'] at hi
      obtain ⟨k, hk, rfl⟩ := hi
      simpa using h3 (lo + 1 * k) (by omega) (by omega)
  rw [this]
  rfl
theorem occ1_none {x : Str} {c lo : Nat} (h3 : ∀ i, lo ≤ i → (L x)[i]? ≠ some c) : Builtin.Str.occurrences x ⟨#[c]⟩ lo x.length 1 = [] := by
  rw [occ1]
  have : (List.range' lo (x.length + 1 - lo)).find? (fun i => decide ((L x)[i]? = some c)) = none := by
    rw [List.find?_eq_none]
    intro i hi
    rw [List.mem_range'] at hi
    obtain ⟨k, _, rfl⟩ := hi
    simpa using h3 (lo + 1 * k) (by omega)
  rw [this]
  rfl
/-! ### what is ahead of a sign, and behind -/
def ahead (c : Nat) (l : List Nat) : List Nat := l.takeWhile fun x => !decide (x = c)
theorem ahead_at {c : Nat} : ∀ {l : List Nat}, c ∈ l → l[(ahead c l).length]? = some c
  | [], h => by cases h
  | a :: l, h => by
    unfold ahead
    rw [List.takeWhile_cons]
    by_cases e : a = c
    · subst e; simp
    · have h' : c ∈ l := by
        rcases List.mem_cons.mp h with q | q
        · exact absurd q.symm e
        · exact q
      simp only [e, decide_false, Bool.not_false, if_true, List.length_cons, List.getElem?_cons_succ]
      exact ahead_at h'
theorem ahead_no {c : Nat} : ∀ {l : List Nat} {i : Nat}, i < (ahead c l).length → l[i]? ≠ some c
  | [], i, h => by simp [ahead] at h
  | a :: l, i, h => by
    unfold ahead at h
    rw [List.takeWhile_cons] at h
    by_cases e : a = c
    · subst e; simp at h
    · simp only [e, decide_false, Bool.not_false, if_true, List.length_cons] at h
      cases i with
      | zero => simpa using e
      | succ i => rw [List.getElem?_cons_succ]; exact ahead_no (l := l) (by unfold ahead; omega)
theorem ahead_take (c : Nat) (l : List Nat) : ahead c l = l.take (ahead c l).length := by
  unfold ahead
  exact (List.prefix_iff_eq_take.mp (List.takeWhile_prefix _))
theorem ahead_le (c : Nat) (l : List Nat) : (ahead c l).length ≤ l.length := by
  rw [ahead_take, List.length_take]
  omega
theorem ahead_lt {c : Nat} {l : List Nat} (h : c ∈ l) : (ahead c l).length < l.length := (List.getElem?_eq_some_iff.mp (ahead_at h)).1
/-- find from a place on -/
theorem find_some {x : Str} {c b : Nat} (hb : b ≤ x.length) (h : c ∈ (L x).drop b) : Txt.find3 x ⟨#[c]⟩ (b : Int) = ((b + (ahead c ((L x).drop b)).length : Nat) : Int) := by
  unfold Txt.find3
  have e : PySem.fromIndex x.length (b : Int) = b := by unfold PySem.fromIndex; rw [if_neg (by omega)]; omega
  have h1 := ahead_at h
  rw [List.getElem?_drop] at h1
  first
    | rw [e]
    | simp only [e]
  rw [occ1_some (j := b + (ahead c ((L x).drop b)).length) (by omega) h1 (fun i h2 h3 => by
    have := ahead_no (c := c) (l := (L x).drop b) (i := i - b) (by omega)
    rw [List.getElem?_drop, show b + (i - b) = i by omega] at this
    exact this)]
theorem find_none {x : Str} {c b : Nat} (hb : b ≤ x.length) (h : c ∉ (L x).drop b) : Txt.find3 x ⟨#[c]⟩ (b : Int) = -1 := by
  unfold Txt.find3
  have e : PySem.fromIndex x.length (b : Int) = b := by unfold PySem.fromIndex; rw [if_neg (by omega)]; omega
  first
    | rw [e]
    | simp only [e]
  rw [occ1_none (fun i h2 h3 => h (by
    have : ((L x).drop b)[i - b]? = some c := by rw [List.getElem?_drop, show b + (i - b) = i by omega]; exact h3
    exact List.mem_of_getElem? this))]
/-! ### a sign at the beginning -/
theorem starts (x : Str) (c : Nat) : Txt.startswith x ⟨#[c]⟩ = decide ((L x)[0]? = some c) := by
  rw [Bool.eq_iff_iff, decide_eq_true_eq, ← StrLaws.subAt_one x c 0]
  unfold Txt.startswith
  rw [Bool.and_eq_true, decide_eq_true_eq]
theorem noprefix (x : Str) (c : Nat) : Txt.removeprefix x ⟨#[c]⟩ = if (L x)[0]? = some c then T (L x).tail else x := by
  unfold Txt.removeprefix
  by_cases h : (L x)[0]? = some c
  · have h1 := (StrLaws.subAt_one x c 0).mpr h
    rw [if_pos h, if_pos h1.2]
    have h2 : 0 + 1 ≤ x.length := h1.1
    have e1 : (⟨#[c]⟩ : Str).length = 1 := rfl
    rw [e1]
    unfold Txt.affix
    have e2 : (x.length - 1 == x.length) = false := by
      rw [beq_eq_false_iff_ne]
      omega
    show (if (x.length - 1 == x.length) = true then x else Builtin.Str.strSub x 1 x.length) = T (L x).tail
    rw [e2]
    apply eq_L
    rw [L_T]
    show (x.cps.extract 1 x.length).toList = x.cps.toList.tail
    rw [Array.toList_extract]
    have e3 : x.length = x.cps.toList.length := len_L x
    rw [e3]
    cases x.cps.toList with
    | nil => rfl
    | cons a r => simp [List.extract]
  · rw [if_neg h]
    by_cases h1 : Builtin.Str.subAt x ⟨#[c]⟩ 0 = true
    · by_cases h2 : 0 + (⟨#[c]⟩ : Str).length ≤ x.length
      · exact absurd ((StrLaws.subAt_one x c 0).mp ⟨h2, h1⟩) h
      · rw [if_pos h1]
        have e0 : x.length = 0 := by
          have e1 : (⟨#[c]⟩ : Str).length = 1 := rfl
          rw [e1] at h2
          omega
        unfold Txt.affix
        rw [e0]
        rfl
    · rw [if_neg h1]
      rfl
end TX

set_option Elab.async false
set_option linter.all false
set_option maxRecDepth 100000
set_option maxHeartbeats 2000000
/-! What the laws share that speaks of no text of theirs. -/
namespace Com
open PySem L2 Evl
section
variable {K : PySem.W.Frag}
/-! ### the mathematics -/
def small (c : Nat) : Bool := decide (97 ≤ c) && decide (c ≤ 122)
def lets (z : Str) : Bool := z.cps.toList.all small
def vL : V → Bool | .str z => lets z | _ => false
def vW : V → Bool | .str z => lets z && (decide (1 ≤ z.length) && decide (z.length ≤ 16)) | _ => false
theorem isStr_eq {v : V} (h : isStr v = true) : ∃ z, v = .str z := by
  cases v with
  | str z => exact ⟨z, rfl⟩
  | _ => cases h
theorem takeWhile_all {p : Nat → Bool} : ∀ {l : List Nat}, l.all p = true → l.takeWhile p = l
  | [], _ => rfl
  | a :: l, h => by
    rw [List.all_cons, Bool.and_eq_true] at h
    rw [List.takeWhile_cons, if_pos h.1, takeWhile_all h.2]
theorem takeWhile_lt {p : Nat → Bool} : ∀ {l : List Nat}, l.all p = false → (l.takeWhile p).length < l.length
  | [], h => by cases h
  | a :: l, h => by
    rw [List.takeWhile_cons]
    by_cases ha : p a = true
    · rw [if_pos ha]
      rw [List.all_cons, ha, Bool.true_and] at h
      have := takeWhile_lt h
      simp only [List.length_cons]
      omega
    · rw [if_neg ha]
      simp
theorem drop_takeWhile {p : Nat → Bool} : ∀ {l : List Nat}, l.all p = false → (l.drop (l.takeWhile p).length).all p = false
  | [], h => by cases h
  | a :: l, h => by
    rw [List.takeWhile_cons]
    by_cases ha : p a = true
    · rw [if_pos ha]
      rw [List.all_cons, ha, Bool.true_and] at h
      exact drop_takeWhile h
    · rw [if_neg ha]
      exact h
theorem stripBy_size {p : Nat → Bool} (z : Str) : ((Txt.stripBy p true true z).cps.size = 0) ↔ z.cps.toList.all p = true := by
  have hn : z.length = z.cps.toList.length := rfl
  unfold Txt.stripBy stripSame stripped Builtin.Str.strSub stripLo stripHi
  simp only [if_true]
  cases h : z.cps.toList.all p with
  | true =>
    rw [takeWhile_all h]
    have e1 : z.cps.toList.drop z.cps.toList.length = [] := List.drop_length
    rw [e1]
    have e2 : (([] : List Nat).reverse.takeWhile p).length = 0 := rfl
    rw [e2, Nat.sub_zero, hn]
    simp only [true_iff, iff_true]
    split
    · rename_i q
      rw [Bool.and_eq_true, beq_iff_eq] at q
      rw [Array.length_toList] at q
      exact q.1
    · simp
  | false =>
    have h1 := takeWhile_lt h
    have h2 := drop_takeWhile h
    have h3 : ((z.cps.toList.drop (z.cps.toList.takeWhile p).length).reverse.takeWhile p).length < (z.cps.toList.drop (z.cps.toList.takeWhile p).length).length := by
      have h4 : (z.cps.toList.drop (z.cps.toList.takeWhile p).length).reverse.all p = false := by rw [List.all_reverse]; exact h2
      have := takeWhile_lt h4
      rw [List.length_reverse] at this
      exact this
    rw [List.length_drop] at h3
    have h5 : z.cps.toList.length = z.cps.size := Array.length_toList
    simp only [iff_false, Bool.false_eq_true]
    split
    · rw [h5] at h1
      omega
    · show ¬ (Array.extract _ _ _).size = 0
      rw [Array.size_extract, hn]
      omega
theorem letters_cps : ("abcdefghijklmnopqrstuvwxyz" : Str).cps = #[97, 98, 99, 100, 101, 102, 103, 104, 105, 106, 107, 108, 109, 110, 111, 112, 113, 114, 115, 116, 117, 118, 119, 120, 121, 122] := by decide +kernel
theorem letters_in (c : Nat) : ("abcdefghijklmnopqrstuvwxyz" : Str).cps.contains c = small c := by
  rw [letters_cps, Bool.eq_iff_iff]
  simp only [small, Bool.and_eq_true, decide_eq_true_eq, Array.contains_iff_mem]
  simp
  omega
theorem empty_cps : ("" : Str) = ⟨#[]⟩ := by decide +kernel
theorem strip_lets (z : Str) : decide (V.str (Txt.stripChars z "abcdefghijklmnopqrstuvwxyz") = V.str "") = lets z := by
  rw [Bool.eq_iff_iff, decide_eq_true_eq]
  have e : lets z = z.cps.toList.all (("abcdefghijklmnopqrstuvwxyz" : Str).cps.contains) := by
    unfold lets
    congr 1
    funext c
    exact (letters_in c).symm
  rw [e, ← stripBy_size z, empty_cps]
  constructor
  · intro h
    have h' : Txt.stripChars z "abcdefghijklmnopqrstuvwxyz" = ⟨#[]⟩ := V.str.inj h
    show (Txt.stripChars z "abcdefghijklmnopqrstuvwxyz").cps.size = 0
    rw [h']
    rfl
  · intro h
    have h' : (Txt.stripChars z "abcdefghijklmnopqrstuvwxyz").cps.size = 0 := h
    congr 1
    have : (Txt.stripChars z "abcdefghijklmnopqrstuvwxyz").cps = #[] := Array.eq_empty_of_size_eq_zero h'
    show (⟨(Txt.stripChars z "abcdefghijklmnopqrstuvwxyz").cps⟩ : Str) = ⟨#[]⟩
    rw [this]
theorem ev_bmS {t : TA} {to : TE} {σ : L2.St} {H : Hp} {z : Str} {xs : List V} {v : V} {r : V → List V → Hp → VK → Prop} (ho : Ev to σ H (.str z)) (ha : EvA t σ H xs)
    (hr : ∀ H1, Ex H H1 → ∀ Q : VK, Q v H1 → r (.str z) xs H1 Q) : Ev (tBM K "str" r to t) σ H v := fun H1 e Q q =>
  ho H1 e _ fun H2 e2 => ⟨rfl, ha H2 (e.trans e2) _ fun H3 e3 => hr H3 ((e.trans e2).trans e3) Q (q H3 (e2.trans e3))⟩
def pThing (vs : List V) (H : Hp) : Prop := ∃ v, vs = [v] ∧ Thing H v
def rL : List V → V | [v] => .bl (vL v) | _ => .non
def rW : List V → V | [v] => .bl (vW v) | _ => .non
/-! ### the law's numbers -/
def mixN (c k : Int) : Int := (c % 1000000007 + 7919 * k * k + 31 * k + 17) * 48271 % 2147483647
def mix (c k : Int) : Int := mixN c k * (mixN c k % 65521 + 16807) % 2147483629 / 4
theorem mixN_bd (c k : Int) : 0 ≤ mixN c k ∧ mixN c k < 2147483647 := ⟨Int.emod_nonneg _ (by decide), Int.emod_lt_of_pos _ (by decide)⟩
theorem mix_bd (c k : Int) : 0 ≤ mix c k ∧ mix c k < 536870908 := by
  have h1 : 0 ≤ mixN c k * (mixN c k % 65521 + 16807) % 2147483629 := Int.emod_nonneg _ (by decide)
  have h2 : mixN c k * (mixN c k % 65521 + 16807) % 2147483629 < 2147483629 := Int.emod_lt_of_pos _ (by decide)
  unfold mix
  omega
def pMix (vs : List V) (_ : Hp) : Prop := ∃ c k, vs = [.int c, .int k] ∧ 0 ≤ k ∧ k ≤ 1000000
def rMix : List V → V | [.int c, .int k] => .int (mix c k) | _ => .non
def cell (ns : List Int) (k : Int) : Int := if 0 < ns.length then ns.getD (k % ns.length).toNat 0 else 0
def num (ns : List Int) (k : Int) : Int := mix (cell ns k) k
def spNum (K : PySem.W.Frag) : Sp := fun vs H Q _ => ∃ (a : Addr) (ns : List Int) (k : Int), vs = [.ref a, .int k] ∧ SqL K H a (ns.map V.int) ∧ 0 ≤ k ∧ k ≤ 1000000 ∧ ∀ H', Ex H H' → Q (.int (num ns k)) H'
theorem spNum_v {a : Addr} {ns : List Int} {k : Int} {H : Hp} (hS : SqL K H a (ns.map V.int)) (h0 : 0 ≤ k) (h1 : k ≤ 1000000) : SpV (spNum K) [.ref a, .int k] H (.int (num ns k)) :=
  fun _ e _ q _ => ⟨a, ns, k, rfl, ex_l e hS, h0, h1, q⟩
theorem cell_at {ns : List Int} {k : Int} (h : 0 < ns.length) : atI (ns.map V.int) (k % (ns.length : Int)) = some (.int (cell ns k)) := by
  have h1 : 0 ≤ k % (ns.length : Int) := Int.emod_nonneg _ (by omega)
  have h2 : k % (ns.length : Int) < ns.length := Int.emod_lt_of_pos _ (by omega)
  obtain ⟨j, hj⟩ : ∃ j : Nat, k % (ns.length : Int) = (j : Int) := ⟨(k % (ns.length : Int)).toNat, by omega⟩
  have h3 : j < ns.length := by omega
  unfold cell
  rw [if_pos h, hj]
  refine atI_nat ?_
  rw [List.getElem?_map, List.getElem?_eq_getElem h3]
  simp [List.getD, List.getElem?_eq_getElem h3]
theorem el_flag {σ : L2.St} {H : Hp} {x c : V} {tc : TE} {i : Nat} {a D : Addr} {cv : Value} {b : Bool} (hi : σ[i]? = some (some (.ref a))) (ha : H a = some (ErrO (.ref D) none a)) (C : ExcC K D)
    (hc : Ev tc σ H c) (k : ClsV c cv) (e : PySem.W.kitOne K (.ref D) cv = some b) :
    EvL (tOp rRep (tLst (tCons (tC x) tNil)) (tCB (fun xs H Q => (∃ i, xs = [.int i] ∧ Q (.int i) H) ∨ ∃ k, xs = [.bl k] ∧ Q (.int (if k then 1 else 0)) H)
      (tCons (tCB (rIsErr K) (tCons (tVar i) (tCons tc tNil))) tNil))) σ H (if b = true then [x] else []) := by
  refine el_is (el_rep (k := if b = true then 1 else 0) (el_lst (ea_cons ev_c ea_nil) (by show 1 ≤ 100000; decide)) (ev_cb (ea_cons (ev_cb (ea_cons (ev_var hi) (ea_cons hc ea_nil)) (rc_err ha C k e)) ea_nil) rc_int) (by cases b <;> decide) (by cases b <;> decide) (by show 1 ≤ 1000; decide)) ?_
  cases b <;> rfl
theorem el_flagN {σ : L2.St} {H : Hp} {x c : V} {tc : TE} {i : Nat} {a D : Addr} {cv : Value} {b : Bool} (hi : σ[i]? = some (some (.ref a))) (ha : H a = some (ErrO (.ref D) none a)) (C : ExcC K D)
    (hc : Ev tc σ H c) (k : ClsV c cv) (e : PySem.W.kitOne K (.ref D) cv = some b) :
    EvL (tOp rRep (tLst (tCons (tC x) tNil)) (tCB (fun xs H Q => (∃ i, xs = [.int i] ∧ Q (.int i) H) ∨ ∃ k, xs = [.bl k] ∧ Q (.int (if k then 1 else 0)) H)
      (tCons (tNotV (tCB (rIsErr K) (tCons (tVar i) (tCons tc tNil)))) tNil))) σ H (if b = true then [] else [x]) := by
  refine el_is (el_rep (k := if (!b) = true then 1 else 0) (el_lst (ea_cons ev_c ea_nil) (by show 1 ≤ 100000; decide)) (ev_cb (ea_cons (ev_notV (ev_cb (ea_cons (ev_var hi) (ea_cons hc ea_nil)) (rc_err ha C k e))) ea_nil) rc_int) (by cases b <;> decide) (by cases b <;> decide) (by show 1 ≤ 1000; decide)) ?_
  cases b <;> rfl
def signs (z : Str) : Prop := z.cps.toList.all (· < 1114112) = true
theorem join0 : ∀ ys : List Str, (Txt.join "" ys).cps.toList = (ys.map fun y => y.cps.toList).flatten := by
  intro ys
  show (Builtin.Str.glued "" ys).cps.toList = _
  rw [StrLaws.glued_eq_join]
  induction ys with
  | nil => rfl
  | cons x r ih =>
    cases r with
    | nil => show x.cps.toList = x.cps.toList ++ []; rw [List.append_nil]
    | cons y r =>
      show (x ++ "" ++ Str.join "" (y :: r)).cps.toList = x.cps.toList ++ _
      have e : (x ++ ("" : Str)) = x := by rw [empty_cps]; exact Str.append_empty x
      rw [e, ← ih, Str.cps_append, Array.toList_append]
theorem signs_add {a b : Str} (h : signs a) (h' : signs b) : signs (a ++ b) := by
  unfold signs at *
  rw [Str.cps_append, Array.toList_append, List.all_append, h, h'] <;> rfl
theorem signs_cut {a : Str} (h : signs a) (lo hi : Option Int) : signs (cutS a lo hi) := by
  unfold signs cutS at *
  rw [List.all_eq_true] at *
  intro x hx
  exact h x (List.mem_of_mem_drop (List.mem_of_mem_take hx))
theorem cut_len (a : Str) (lo hi : Option Int) : (cutS a lo hi).length ≤ a.length := by
  show (cutS a lo hi).cps.size ≤ a.cps.size
  unfold cutS
  rw [← Array.length_toList, ← Array.length_toList, List.length_take, List.length_drop]
  omega
theorem getD_at {ns : List Int} {i : Int} (h0 : 0 ≤ i) (h1 : i < ns.length) : atI (ns.map V.int) i = some (.int (ns.getD i.toNat 0)) := by
  obtain ⟨j, hj⟩ : ∃ j : Nat, i = (j : Int) := ⟨i.toNat, by omega⟩
  subst hj
  have h3 : j < ns.length := by omega
  refine atI_nat ?_
  rw [List.getElem?_map, List.getElem?_eq_getElem h3]
  simp [List.getD, List.getElem?_eq_getElem h3]
theorem sign_at {ns : List Nat} {i : Int} (h0 : 0 ≤ i) (h1 : i < ns.length) : atI ns i = some (ns.getD i.toNat 0) := by
  obtain ⟨j, hj⟩ : ∃ j : Nat, i = (j : Int) := ⟨i.toNat, by omega⟩
  subst hj
  have h3 : j < ns.length := by omega
  refine atI_nat ?_
  simp [List.getD, List.getElem?_eq_getElem h3]
theorem getD_signs {z : Str} (h : signs z) (i : Nat) : z.cps.toList.getD i 0 < 1114112 := by
  unfold signs at h
  rw [List.all_eq_true] at h
  by_cases hi : i < z.cps.toList.length
  · have e : z.cps.toList.getD i 0 = z.cps.toList[i] := by rw [List.getD_eq_getElem?_getD, List.getElem?_eq_getElem hi]; rfl
    rw [e]
    simpa using h _ (List.getElem_mem hi)
  · have e : z.cps.toList.getD i 0 = 0 := by simp [List.getD, List.getElem?_eq_none (Nat.le_of_not_lt hi)]
    rw [e]
    decide
abbrev alph : Str := "abcdefghijklmnopqrstuvwxyz"
theorem alph_len : alph.length = 26 := by decide +kernel
theorem alph_list : alph.cps.toList.length = 26 := by decide +kernel
theorem alph_signs : signs alph := by unfold signs; decide +kernel
/-- one sign of a text, at a place -/
def sgn (z : Str) (i : Int) : Str := ⟨#[z.cps.toList.getD i.toNat 0]⟩
theorem ev_sgn {σ : L2.St} {H : Hp} {ta tb : TE} {z : Str} {i : Int} (ha : Ev ta σ H (.str z)) (hb : Ev tb σ H (.int i)) (hz : z.length ≤ 100000) (h0 : 0 ≤ i) (h1 : i < z.cps.toList.length) : Ev (tOp rIxS ta tb) σ H (.str (sgn z i)) :=
  ev_op ha hb (rv_ixS hz (sign_at h0 h1))
theorem sgn_signs {z : Str} (h : signs z) (i : Int) : signs (sgn z i) := by
  unfold signs sgn
  simpa using getD_signs h i.toNat
/-- letters at drawn places -/
def drawn (n : Nat) (g : Nat → Int) : Str := Txt.join "" ((List.range n).map fun i => sgn alph (g i))
theorem drawn_list (n : Nat) (g : Nat → Int) : (drawn n g).cps.toList = (List.range n).map fun i => alph.cps.toList.getD (g i).toNat 0 := by
  unfold drawn
  rw [join0, List.map_map]
  induction n with
  | zero => rfl
  | succ n ih =>
    rw [List.range_succ, List.map_append, List.map_append, List.flatten_append, ih]
    rfl
theorem drawn_len (n : Nat) (g : Nat → Int) : (drawn n g).length = n := by
  show (drawn n g).cps.size = n
  rw [← Array.length_toList, drawn_list, List.length_map, List.length_range]
theorem drawn_signs (n : Nat) (g : Nat → Int) : signs (drawn n g) := by
  unfold signs
  rw [drawn_list, List.all_eq_true]
  intro x hx
  obtain ⟨i, _, rfl⟩ := List.mem_map.mp hx
  simpa using getD_signs alph_signs (g i).toNat
theorem sum_ones {n : Nat} {g : Nat → Int} : ((((List.range n).map fun i => sgn alph (g i)).map (·.length)).sum + ((List.range n).map fun i => sgn alph (g i)).length * ("" : Str).length) = n := by
  have e : ("" : Str).length = 0 := by decide +kernel
  rw [e, Nat.mul_zero, Nat.add_zero, List.map_map]
  induction n with
  | zero => rfl
  | succ n ih =>
    rw [List.range_succ, List.map_append, List.sum_append, ih]
    rfl
theorem leS (i j : List Nat) : (!decide (j < i)) = !decide (j < i) := rfl
def offS (c : Nat) : Bool := !((!decide ([c] < ([97] : List Nat))) && (!decide (([122] : List Nat) < [c])))
theorem offS_small (c : Nat) : offS c = !small c := by
  unfold offS small
  have h1 : decide ([c] < ([97] : List Nat)) = decide (c < 97) := by
    rw [decide_eq_decide]
    constructor
    · intro h
      rcases List.cons_lt_cons_iff.mp h with h | ⟨_, h⟩
      · exact h
      · exact absurd h (by simp)
    · intro h
      exact List.cons_lt_cons_iff.mpr (Or.inl h)
  have h2 : decide (([122] : List Nat) < [c]) = decide (122 < c) := by
    rw [decide_eq_decide]
    constructor
    · intro h
      rcases List.cons_lt_cons_iff.mp h with h | ⟨_, h⟩
      · exact h
      · exact absurd h (by simp)
    · intro h
      exact List.cons_lt_cons_iff.mpr (Or.inl h)
  rw [h1, h2]
  congr 1
  rw [Bool.eq_iff_iff]
  simp
theorem a_cps : ("a" : Str).cps.toList = [97] := by decide +kernel
theorem z_cps : ("z" : Str).cps.toList = [122] := by decide +kernel
theorem given_none (z : Str) (g : Nat → V) : (given z.cps.size (fun i => offS (z.cps.toList.getD i 0)) g).isEmpty = lets z := by
  unfold given
  rw [List.isEmpty_map, Bool.eq_iff_iff, List.isEmpty_iff, List.filter_eq_nil_iff]
  unfold lets
  rw [List.all_eq_true]
  constructor
  · intro h x hx
    obtain ⟨i, hi, rfl⟩ := List.mem_iff_getElem.mp hx
    have := h i (List.mem_range.mpr (by rw [Array.length_toList] at hi; exact hi))
    rw [offS_small, List.getD_eq_getElem?_getD, List.getElem?_eq_getElem hi] at this
    simpa using this
  · intro h i hi
    have hi' : i < z.cps.toList.length := by rw [Array.length_toList]; exact List.mem_range.mp hi
    rw [offS_small, List.getD_eq_getElem?_getD, List.getElem?_eq_getElem hi']
    simpa using h _ (List.getElem_mem hi')
theorem q_asgC {σ : L2.St} {H : Hp} {D : Ends} {tz : TS} {sp : Sp} {dvs vs : List V} {E : XK} {ta : TA} {i : Nat} (h : EvA ta σ H vs) (hs : ∀ H1, Ex H H1 → sp (vs ++ dvs) H1 (fun v H2 => tz D (σ.set i (some v)) H2) E) :
    tSeq (tAsg (tCall sp dvs E ta) (gName i)) tz D σ H := h H (Ex.refl H) _ fun H1 e => hs H1 e
theorem q_asgTh {σ : L2.St} {H : Hp} {D : Ends} {tz : TS} {ta : TA} {i n : Nat} (h : EvThs ta σ H n) (hn : n ≤ 1000)
    (k : ∀ p xs H1, Ex H H1 → H1 p = some (.lst xs) → xs.length = n → (∀ v ∈ xs, Thing H1 v) → tz D (σ.set i (some (.ref p))) H1) : tSeq (tAsg (tLst ta) (gName i)) tz D σ H :=
  h H (Ex.refl H) _ fun vs H1 e hl hvs => ⟨by rw [hl]; exact sz_of (by omega), fun p hp => k p vs _ (e.trans (Ex.new hp)) upd_same hl fun v hv => (hvs v hv).mono (Ex.new hp)⟩
theorem at_mem {xs : List V} {i : Int} (h0 : 0 ≤ i) (h1 : i < xs.length) : ∃ v, atI xs i = some v ∧ v ∈ xs := by
  obtain ⟨j, hj⟩ : ∃ j : Nat, i = (j : Int) := ⟨i.toNat, by omega⟩
  subst hj
  have h3 : j < xs.length := by omega
  exact ⟨xs[j], atI_nat (List.getElem?_eq_getElem h3), List.getElem_mem h3⟩
end
end Com

set_option Elab.async false
set_option linter.all false
set_option maxRecDepth 100000
set_option maxHeartbeats 2000000
/-! How a condition is read, over lists of signs. -/
namespace Rd
open PySem L2 Evl Com TX
abbrev alphL : List Nat := L alph
def okBr (l : List Nat) : Bool := l.all small && (decide (1 ≤ l.length) && decide (l.length ≤ 8)) && decide l.Nodup
def others (l : List Nat) : List Nat := alphL.filter fun c => !decide (c ∈ l)
def core (i : List Nat) : List Nat := if i[0]? = some 94 then i.tail else i
def lets' (i : List Nat) : List Nat := if i[0]? = some 94 then others i.tail else i
def brk (r : List Nat) : Option (List Nat × List Nat) :=
  if 93 ∈ r then (if okBr (core (ahead 93 r)) = true then some (lets' (ahead 93 r), r.drop ((ahead 93 r).length + 1)) else none) else none
def place (c : Nat) (r : List Nat) : Option (List Nat × List Nat) :=
  if c = 91 then brk r else if c = 46 then some (alphL, r) else if small c = true then some ([c], r) else none
def rds : Nat → List Nat → Option (List (List Nat))
  | _, [] => some []
  | 0, _ :: _ => none
  | n + 1, c :: r => (place c r).bind fun q => (rds n q.2).map (q.1 :: ·)
def rdAll (l : List Nat) : Option (List (List Nat)) := rds l.length l
def conds (l : List Nat) : Option (List (List Nat)) := (rdAll l).bind fun ps => if ps.length < 4 then some ps else none
theorem brk_le {r p q : List Nat} (h : brk r = some (p, q)) : q.length < r.length ∧ q = r.drop (r.length - q.length) := by
  unfold brk at h
  split at h
  · rename_i h1
    split at h
    · cases h
      have := ahead_lt h1
      rw [List.length_drop]
      refine ⟨by omega, ?_⟩
      congr 1
      omega
    · cases h
  · cases h
theorem place_le {c : Nat} {r p q : List Nat} (h : place c r = some (p, q)) : q.length ≤ r.length ∧ q = r.drop (r.length - q.length) := by
  unfold place at h
  split at h
  · have := brk_le h
    exact ⟨by omega, this.2⟩
  · split at h
    · cases h
      simp
    · split at h
      · cases h
        simp
      · cases h
theorem rds_more : ∀ (n : Nat) (l : List Nat), l.length ≤ n → rds n l = rdAll l := by
  suffices h : ∀ (n : Nat) (l : List Nat) (m : Nat), l.length ≤ n → l.length ≤ m → rds n l = rds m l from fun n l hl => h n l l.length hl (Nat.le_refl _)
  intro n
  induction n with
  | zero =>
    intro l m h1 h2
    cases l with
    | nil => cases m <;> rfl
    | cons a r => simp at h1
  | succ n ih =>
    intro l m h1 h2
    cases l with
    | nil => cases m <;> rfl
    | cons a r =>
      cases m with
      | zero => simp at h2
      | succ m =>
        show (place a r).bind _ = (place a r).bind _
        cases hp : place a r with
        | none => rfl
        | some q =>
          have hq := (place_le (p := q.1) (q := q.2) hp).1
          rw [List.length_cons] at h1 h2
          show (rds n q.2).map _ = (rds m q.2).map _
          rw [ih q.2 m (by omega) (by omega)]
theorem rdAll_nil : rdAll [] = some [] := rfl
theorem rdAll_cons (c : Nat) (r : List Nat) : rdAll (c :: r) = (place c r).bind fun q => (rdAll q.2).map (q.1 :: ·) := by
  show (place c r).bind _ = _
  cases hp : place c r with
  | none => rfl
  | some q =>
    show (rds r.length q.2).map _ = _
    rw [rds_more r.length q.2 (place_le (p := q.1) (q := q.2) hp).1]
    rfl
/-- some of it is read already -/
def Upto (l : List Nat) (ps : List (List Nat)) (rest : List Nat) : Prop := rdAll l = (rdAll rest).map (ps ++ ·)
theorem Upto.start (l : List Nat) : Upto l [] l := by
  unfold Upto
  cases rdAll l <;> rfl
theorem Upto.end_ {l : List Nat} {ps : List (List Nat)} (u : Upto l ps []) : rdAll l = some ps := by
  unfold Upto at u
  rw [u, rdAll_nil]
  show some (ps ++ []) = some ps
  rw [List.append_nil]
theorem Upto.step {l r p q : List Nat} {c : Nat} {ps : List (List Nat)} (u : Upto l ps (c :: r)) (h : place c r = some (p, q)) : Upto l (ps ++ [p]) q := by
  unfold Upto at *
  rw [u, rdAll_cons, h]
  show ((rdAll q).map _).map _ = _
  cases rdAll q with
  | none => rfl
  | some x =>
    show some (ps ++ (p :: x)) = some (ps ++ [p] ++ x)
    rw [List.append_assoc]
    rfl
theorem Upto.bad {l r : List Nat} {c : Nat} {ps : List (List Nat)} (u : Upto l ps (c :: r)) (h : place c r = none) : rdAll l = none := by
  unfold Upto at u
  rw [u, rdAll_cons, h]
  rfl
theorem Upto.many {l r : List Nat} {c : Nat} {ps : List (List Nat)} (u : Upto l ps (c :: r)) (h : 3 ≤ ps.length) : conds l = none := by
  unfold conds
  unfold Upto at u
  rw [u, rdAll_cons]
  cases place c r with
  | none => rfl
  | some q =>
    show (((rdAll q.2).map _).map _).bind _ = none
    cases rdAll q.2 with
    | none => rfl
    | some x =>
      show (if (ps ++ (q.1 :: x)).length < 4 then some (ps ++ (q.1 :: x)) else none) = none
      rw [if_neg]
      rw [List.length_append, List.length_cons]
      omega
theorem conds_of {l : List Nat} {ps : List (List Nat)} (h : rdAll l = some ps) (hl : ps.length < 4) : conds l = some ps := by
  unfold conds
  rw [h]
  show (if ps.length < 4 then some ps else none) = some ps
  rw [if_pos hl]
theorem conds_big {l : List Nat} {ps : List (List Nat)} (h : rdAll l = some ps) (hl : ¬ ps.length < 4) : conds l = none := by
  unfold conds
  rw [h]
  show (if ps.length < 4 then some ps else none) = none
  rw [if_neg hl]
theorem conds_none {l : List Nat} (h : rdAll l = none) : conds l = none := by
  unfold conds
  rw [h]
  rfl
/-- the letters that a place lets are signs -/
theorem others_small (l : List Nat) : ∀ c ∈ others l, c < 128 := by
  intro c hc
  have h1 : c ∈ alphL := (List.mem_filter.mp hc).1
  have h2 : ∀ c ∈ alphL, c < 128 := by
    show ∀ c ∈ alph.cps.toList, c < 128
    rw [letters_cps]
    decide
  exact h2 c h1
/-- letters let, place by place -/
def fits (ps : List (List Nat)) (l : List Nat) : Bool := (List.zipWith (fun p c => decide (c ∈ p)) ps l).all id
def fitE (ps : List (List Nat)) (l : List Nat) : Bool := decide (ps.length ≤ l.length) && fits ps (l.drop (l.length - ps.length))
def fitB (ps : List (List Nat)) (l : List Nat) : Bool := decide (ps.length ≤ l.length) && fits ps (l.take ps.length)
theorem map_getD {α β : Type} (l : List α) (d : α) (f : α → β) : (List.range l.length).map (fun i => f (l.getD i d)) = l.map f := by
  apply List.ext_getElem
  · simp
  · intro i h1 h2
    simp at h1
    simp [List.getD, h1]
theorem given_of (l : List Nat) (p : Nat → Bool) (f : Nat → V) (n : Nat) (hn : n = l.length) : given n (fun i => p (l.getD i 0)) (fun i => f (l.getD i 0)) = (l.filter p).map f := by
  subst hn
  unfold given
  have : l.filter p = ((List.range l.length).filter fun i => p (l.getD i 0)).map fun i => l.getD i 0 := by
    conv => lhs; rw [← List.map_id l, ← map_getD l 0 id]
    rw [List.filter_map]
    rfl
  rw [this, List.map_map]
  rfl
end Rd
namespace Evl
open PySem L2
section
variable {K : PySem.W.Frag} {σ : L2.St} {H H' : Hp} {ta tb tc te tx : TE} {t u : TT} {x y z v : V} {r : R2}
theorem rv_inS {c : Nat} {z : Str} : RV (fun x y H Q => ∃ (c : Nat) (z : Str), x = .str ⟨#[c]⟩ ∧ y = .str z ∧ Q (.bl (decide (c ∈ z.cps.toList))) H) (.str ⟨#[c]⟩) (.str z) H (.bl (decide (c ∈ z.cps.toList))) :=
  fun H1 _ _ q => ⟨c, z, rfl, rfl, q H1 (Ex.refl H1)⟩
theorem rv_ninS {c : Nat} {z : Str} : RV (fun x y H Q => ∃ (c : Nat) (z : Str), x = .str ⟨#[c]⟩ ∧ y = .str z ∧ Q (.bl (!decide (c ∈ z.cps.toList))) H) (.str ⟨#[c]⟩) (.str z) H (.bl (!decide (c ∈ z.cps.toList))) :=
  fun H1 _ _ q => ⟨c, z, rfl, rfl, q H1 (Ex.refl H1)⟩
theorem ev_lenSetS {z : Str} (h : Ev ta σ H (.str z)) (hz : z.length ≤ 4000) : Ev (tLenSetS ta) σ H (.int ((SetS.uniq (SetS.signsOf z)).length : Nat)) := fun H1 e _ q =>
  h H1 e _ fun H2 e2 => ⟨z, rfl, hz, q H2 e2⟩
theorem ev_allL {bs : List Bool} {xs : List V} (h : EvL te σ H xs) (hx : xs = bs.map V.bl) : Ev (tCB (rAll K) (tCons te tNil)) σ H (.bl (bs.all id)) := fun H1 e _ q =>
  h H1 e _ fun p H2 _ e2 h2 => ⟨p, bs, rfl, sq_of (hx ▸ h2), q H2 e2⟩
/-- a comprehension over zip(list, text) -/
theorem el_lcZS {ta : TA} {a : Addr} {w : Str} {xs : List V} {j1 j2 : Nat} {vs : List Nat} (f : Nat → V) (h : EvA ta σ H [.ref a, .str w]) (hx : SqL K H a xs) (hz : xs.length ≤ 40000)
    (hw : ∀ x y, wipe (((wipe σ vs).set j1 (some x)).set j2 (some y)) vs = wipe σ vs)
    (he : ∀ (i c : Nat) (x : V) H1, Ex H H1 → xs[i]? = some x → w.cps[i]? = some c → Ev te (((wipe σ vs).set j1 (some x)).set j2 (some (.str ⟨#[c]⟩))) H1 (f i)) :
    EvL (tLc (iZipS K ta) (gTup K 2 (gCons (gName j1) (gCons (gName j2) gNil))) tYes te vs) σ H ((List.range (min xs.length w.cps.size)).map f) := fun H0 e Q q =>
  h H0 e _ fun H1 e1 => ⟨a, w, xs, rfl, ex_l (e.trans e1) hx, fun Dl hD =>
    lc_it (walk_zs (K := K) (a := a) (xs := xs) (z := w)) (Cw H1 (fun _ => true) f Dl) ⟨hD, Ex.new hD, upd_same⟩ (fun i H' _ p => ex_l ((e.trans e1).trans p.2.1) hx) (fun i x H2 H3 hi p y => by
      obtain ⟨T, a1, a2, rfl, hT, rfl, h1, h2⟩ := y
      have h2 : (w.cps[i]?.map fun c => V.str ⟨#[c]⟩) = some a2 := h2
      have hc : ∃ c, w.cps[i]? = some c ∧ a2 = .str ⟨#[c]⟩ := by
        cases hw : w.cps[i]? with
        | none => rw [hw] at h2; cases h2
        | some c => rw [hw] at h2; exact ⟨c, rfl, (Option.some.inj h2).symm⟩
      obtain ⟨c, hc, rfl⟩ := hc
      have p' : Cw H1 (fun _ => true) f Dl i (upd H2 T (.tup [a1, .str ⟨#[c]⟩])) := ⟨p.1, p.2.1.trans (Ex.new hT), by rw [upd_ne (ne_of_none p.2.2 hT)]; exact p.2.2⟩
      refine ⟨T, _, rfl, st_of upd_same, rfl, a1, _, rfl, .str ⟨#[c]⟩, [], rfl, rfl, hw _ _, ?_⟩
      exact cw_turn p' (by omega) et_yes fun _ => he i c a1 H1 (e.trans e1) h1 hc)
      (fun H' p => q Dl H' (fresh_back e1 p.1) (e1.trans p.2.1) (by rw [p.2.2, given_all]))⟩
end
end Evl
namespace L2
open PySem PySem.Spec PyProof.Rows
section
variable {X : Cx} {K : PySem.W.Frag}
theorem ix_listK (h : X.K = K) : IxR X (rIxL K) := h ▸ ix_list
theorem ix_tupK (h : X.K = K) : IxR X (rIxT K) := h ▸ ix_tup
theorem sl_listK (h : X.K = K) : SlR X (rSlL K) := h ▸ sl_list
theorem op_in_seqK (h : X.K = K) : OpR X (compareOp .In) (rIn K false) := h ▸ op_in_seq
theorem op_notIn_seqK (h : X.K = K) : OpR X (compareOp .NotIn) (rIn K true) := h ▸ op_notIn_seq
theorem call_len_seqK (h : X.K = K) : CallR X (.builtin "len") (fun xs H Q => ∃ p ys, xs = [.ref p] ∧ (SqL K H p ys ∨ SqT K H p ys) ∧ Q (.int ys.length) H) := h ▸ call_len_seq
end
/-- C(e, ..) where what is raised is wished for at the caller's slots -/
def tMakeS (C : Addr) (sp : Sp) (E : St → XK) (t : TA) : TE := fun σ H Q => t σ H fun vs H1 => ∀ x dx, H1 x = none → H1 dx = none → dx ≠ x →
  sp (.ref x :: vs) (upd (upd H1 dx (.own x)) x (.ins C dx [])) (fun v H2 => v = .non ∧ Q (.ref x) H2) (E σ)
section
variable {X : Cx} {CX : CXT} {k : Nat} {f C : Addr} {fd : FuncData} {ps : List Str} {sp : Sp} {E : St → XK} {x : Str} {p pos : Pos} {e : Expr} {es : List Expr} {t : TA}
theorem pe_makeS (M : Mk X.K C f) (F : FnOk X.prog X.w X.K X.mg X.base CX k f fd ps sp) (hr : Room (k + 1) X.A) (hg : Gl X x) (hm : X.mg x = some (.ref C))
    (hb : Binds X.K fd ps []) (hx : ∀ σ, PassesAt CX X σ (E σ)) (ha : PA X (e :: es) t) (hdb : (x == ("__debug__" : Str)) = false := by decide)
    (he : starEach (e :: es) X.env = (false, eval e X.env) :: starEach es X.env := by rfl) (hpl : (backTo pos (starEach es X.env)).any (·.1) = false := by rfl) :
    PE X (.Call (.Name x p) (e :: es) [] pos) (tMakeS C sp E t) := by
  constructor
  intro pins s σ H Q I h
  apply wpAny_Call_Name_kw
  apply ld_glob I hg hm _ hdb
  refine PySem.W.callWith_K (h₀ := X.base) I.ok.mod.kin M.kp (thn (ha.run pos pins s σ H _ I h) fun us s1 q => ?_) he hpl
  obtain ⟨vs, H1, I1, r, q⟩ := q
  refine ⟨I1.kIn, ?_⟩
  have n0 := I1.hok.fresh (Nat.le_refl _)
  have n1 := I1.hok.fresh (Nat.le_succ _)
  have q2 := q _ _ n1 n0 (Nat.ne_of_lt (Nat.lt_succ_self _))
  have I2 := Inv.made (C := C) I1
  have vals : Vals (V.ref (s1.heap.objs.size + 1) :: vs) (Value.ref (s1.heap.objs.size + 1) :: us) := .cons rfl r
  have len : (Value.ref (s1.heap.objs.size + 1) :: us).length = ps.length := by
    rw [← vals.length]
    exact F.len _ _ _ _ q2
  have b := hb _ (Value.ref (s1.heap.objs.size + 1) :: us) I2.kIn (by rw [List.append_nil]; exact len)
  rw [List.append_nil] at b
  have ran := F.run _ X.stack _ _ ⟨Value.ref (s1.heap.objs.size + 1) :: us, []⟩ _ _ _ (E σ) (hr.make C us []) (I2.env0.make C us []) b vals q2
  refine wpAny_call (make_map (f := f) I1.kIn M.makes M.init (beq_iff_eq.mp M.fn) (codeAny_mono ran fun r2 s2 h2 => ?_))
  match r2, h2 with
  | .error e, h2 => exact hx σ pins _ _ e s2 I2 h2
  | .ok (.ret u), h2 =>
    obtain ⟨v, H3, I3, rv, ev, q3⟩ := I2.after h2
    subst ev
    exact ⟨rv, ⟨V.ref (s1.heap.objs.size + 1), H3, I3, rfl, q3⟩⟩
  | .ok .next, h2 => exact h2.elim
  | .ok .brk, h2 => exact h2.elim
  | .ok .cont, h2 => exact h2.elim
end
end L2

set_option Elab.async false
set_option linter.all false
set_option maxRecDepth 100000
set_option maxHeartbeats 2000000
/-! Our own layer: what evaluates to some value of a kind. -/
namespace Evl
open PySem L2 Com TX
/-- a text of at most n signs -/
def Tx (n : Nat) (v : V) : Prop := ∃ z, v = .str z ∧ z.length ≤ n ∧ signs z
theorem Tx.mono {n m : Nat} {v : V} (h : Tx n v) (e : n ≤ m) : Tx m v := by
  obtain ⟨z, rfl, h1, h2⟩ := h
  exact ⟨z, rfl, Nat.le_trans h1 e, h2⟩
section
variable {K : PySem.W.Frag} {σ : L2.St} {H H' : Hp} {ta tb tc te tx : TE} {t u : TT} {x y z v : V} {r : R2} {P P1 P2 : V → Prop} {n m k : Nat}
def EvP (te : TE) (σ : L2.St) (H : Hp) (P : V → Prop) : Prop := ∀ H1, Ex H H1 → ∀ Q : VK, (∀ v H2, Ex H1 H2 → P v → Q v H2) → te σ H1 Q
def EvLP (te : TE) (σ : L2.St) (H : Hp) (n : Nat) (P : V → Prop) : Prop := ∀ H1, Ex H H1 → ∀ Q : VK,
  (∀ p xs H2, H1 p = none → Ex H1 H2 → H2 p = some (.lst xs) → xs.length ≤ n → (∀ x ∈ xs, P x) → Q (.ref p) H2) → te σ H1 Q
def EvAP (ta : TA) (σ : L2.St) (H : Hp) (n : Nat) (P : V → Prop) : Prop := ∀ H1, Ex H H1 → ∀ Q : List V → Hp → Prop,
  (∀ vs H2, Ex H1 H2 → vs.length ≤ n → (∀ x ∈ vs, P x) → Q vs H2) → ta σ H1 Q
theorem EvP.mono (e : Ex H H') (h : EvP te σ H P) : EvP te σ H' P := fun H1 a => h H1 (e.trans a)
theorem EvLP.mono (e : Ex H H') (h : EvLP te σ H n P) : EvLP te σ H' n P := fun H1 a => h H1 (e.trans a)
theorem evp_v (h : Ev te σ H v) (p : P v) : EvP te σ H P := fun H1 e _ q => h H1 e _ fun H2 e2 => q v H2 e2 p
theorem evp_imp (h : EvP te σ H P1) (i : ∀ v, P1 v → P v) : EvP te σ H P := fun H1 e _ q => h H1 e _ fun v H2 e2 p => q v H2 e2 (i v p)
theorem evp_op (ha : EvP ta σ H P1) (hb : EvP tb σ H P2) (hr : ∀ x y H1, Ex H H1 → P1 x → P2 y → ∃ z, RV r x y H1 z ∧ P z) : EvP (tOp r ta tb) σ H P := fun H1 e Q q =>
  ha H1 e _ fun x H2 e2 p1 => hb H2 (e.trans e2) _ fun y H3 e3 p2 => by
    obtain ⟨z, h1, h2⟩ := hr x y H3 ((e.trans e2).trans e3) p1 p2
    exact h1 H3 (Ex.refl H3) Q fun H4 e4 => q z H4 ((e2.trans e3).trans e4) h2
theorem evp_add (ha : EvP ta σ H (Tx n)) (hb : EvP tb σ H (Tx m)) (h : n + m ≤ k) (hk : k ≤ 100000) :
    EvP (tOp (fun x y H Q => ∃ i j, x = .str i ∧ y = .str j ∧ i.length + j.length ≤ sizeLine ∧ Q (.str (i ++ j)) H) ta tb) σ H (Tx k) :=
  evp_op ha hb fun x y H1 _ h1 h2 => by
    obtain ⟨a, rfl, a1, a2⟩ := h1
    obtain ⟨b, rfl, b1, b2⟩ := h2
    exact ⟨.str (a ++ b), rv_addS (by omega), a ++ b, rfl, by rw [Str.length_append]; omega, signs_add a2 b2⟩
theorem evp_sl {tl th : TO} {lo hi : Option Int} (h : EvP te σ H (Tx n)) (h1 : EvO tl σ H lo) (h2 : EvO th σ H hi) (hn : n ≤ 100000) : EvP (tSl rSlS te tl th) σ H (Tx n) := fun H1 e _ q =>
  h H1 e _ fun v H2 e2 p => h1 H2 (e.trans e2) _ fun H3 e3 => h2 H3 ((e.trans e2).trans e3) _ fun H4 e4 => by
    obtain ⟨w, rfl, a1, a2⟩ := p
    exact ⟨w, rfl, sz_of (by omega), q _ H4 ((e2.trans e3).trans e4) ⟨_, rfl, Nat.le_trans (cut_len w lo hi) a1, signs_cut a2 lo hi⟩⟩
theorem eap_nil : EvAP tNil σ H 0 P := fun H1 _ _ q => q [] H1 (Ex.refl H1) (Nat.le_refl _) fun _ h => nomatch h
theorem eap_cons {tr : TA} (h : EvP te σ H P) (hr : EvAP tr σ H n P) : EvAP (tCons te tr) σ H (n + 1) P := fun H1 e _ q =>
  h H1 e _ fun v H2 e2 p => hr H2 (e.trans e2) _ fun vs H3 e3 hl hp => q (v :: vs) H3 (e2.trans e3) (by rw [List.length_cons]; omega) fun x hx => by
    rcases List.mem_cons.mp hx with rfl | hx
    · exact p
    · exact hp x hx
theorem elp_lst {ta : TA} (h : EvAP ta σ H n P) (hn : n ≤ 100000) : EvLP (tLst ta) σ H n P := fun H1 e _ q =>
  h H1 e _ fun vs H2 e2 hl hp => ⟨sz_of (by omega), fun p hpn => q p vs _ (fresh_back e2 hpn) (e2.trans (Ex.new hpn)) upd_same hl hp⟩
theorem elp_of {xs : List V} (h : EvL te σ H xs) (hl : xs.length ≤ n) (hp : ∀ x ∈ xs, P x) : EvLP te σ H n P := fun H1 e _ q =>
  h H1 e _ fun p H2 hpn e2 h2 => q p xs H2 hpn e2 h2 hl hp
theorem elp_cat (ha : EvLP ta σ H n P) (hb : EvLP tb σ H m P) (h : n + m ≤ k) (hk : k ≤ 100000) : EvLP (tOp rCat ta tb) σ H k P := fun H1 e _ q =>
  ha H1 e _ fun p xs H2 hp e2 h2 l1 p1 => hb H2 (e.trans e2) _ fun p' ys H3 hp' e3 h3 l2 p2 =>
    ⟨p, p', xs, ys, rfl, rfl, e3 p _ h2, h3, sz_of (by omega), fun l hl => q l (xs ++ ys) _ (fresh_back (e2.trans e3) hl) ((e2.trans e3).trans (Ex.new hl)) upd_same (by rw [List.length_append]; omega) fun x hx => by
      rcases List.mem_append.mp hx with hx | hx
      · exact p1 x hx
      · exact p2 x hx⟩
theorem strs_of {xs : List V} (h : ∀ x ∈ xs, Tx n x) : ∃ ys : List Str, xs = ys.map V.str ∧ ∀ y ∈ ys, y.length ≤ n ∧ signs y := by
  induction xs with
  | nil => exact ⟨[], rfl, fun _ h => nomatch h⟩
  | cons x r ih =>
    obtain ⟨ys, rfl, hy⟩ := ih fun y hy => h y (List.mem_cons_of_mem _ hy)
    obtain ⟨z, rfl, h1, h2⟩ := h x List.mem_cons_self
    refine ⟨z :: ys, rfl, fun y hy' => ?_⟩
    rcases List.mem_cons.mp hy' with rfl | hy'
    · exact ⟨h1, h2⟩
    · exact hy y hy'
theorem sum_le {ys : List Str} (h : ∀ y ∈ ys, y.length ≤ n) : (ys.map (·.length)).sum ≤ ys.length * n := by
  induction ys with
  | nil => simp
  | cons y r ih =>
    have := ih fun y hy => h y (List.mem_cons_of_mem _ hy)
    have h1 := h y List.mem_cons_self
    rw [List.map_cons, List.sum_cons, List.length_cons, Nat.succ_mul]
    omega
theorem join_signs {ys : List Str} (h : ∀ y ∈ ys, signs y) : signs (Txt.join "" ys) := by
  unfold signs
  rw [join0, List.all_eq_true]
  intro x hx
  obtain ⟨l, hl, hx⟩ := List.mem_flatten.mp hx
  obtain ⟨y, hy, rfl⟩ := List.mem_map.mp hl
  have := h y hy
  unfold signs at this
  rw [List.all_eq_true] at this
  exact this x hx
theorem join_len (ys : List Str) : (Txt.join "" ys).length = (ys.map (·.length)).sum := by
  show (Txt.join "" ys).cps.size = _
  rw [← Array.length_toList, join0, List.length_flatten, List.map_map]
  congr 1
theorem emp_len : ("" : Str).length = 0 := by decide +kernel
theorem evp_join (hb : EvLP tb σ H n (Tx m)) (hm : n * m ≤ k) (hk : k ≤ 100000) : EvP (tM1 (rJoin K) (tC (.str "")) tb) σ H (Tx k) := fun H1 e _ q =>
  ⟨⟨"", rfl⟩, hb H1 e _ fun p xs H2 hp e2 h2 hl hx => by
    obtain ⟨ys, rfl, hy⟩ := strs_of hx
    rw [List.length_map] at hl
    have h1 := sum_le (n := m) fun y hy' => (hy y hy').1
    have h3 : ys.length * m ≤ n * m := Nat.mul_le_mul_right m hl
    exact ⟨"", p, ys, rfl, rfl, Or.inl (sq_of h2), by rw [emp_len, Nat.mul_zero, Nat.add_zero]; omega, q _ H2 e2 ⟨_, rfl, by rw [join_len]; omega, join_signs fun y hy' => (hy y hy').2⟩⟩⟩
/-! ### comprehensions -/
def Cp (H : Hp) (P : V → Prop) (Dl : Addr) (i : Nat) (H' : Hp) : Prop := H Dl = none ∧ Ex H H' ∧ ∃ xs, H' Dl = some (.lst xs) ∧ xs.length ≤ i ∧ ∀ x ∈ xs, P x
theorem cp_turn {Dl : Addr} {i : Nat} {σ2 : L2.St} (p : Cp H P Dl i H') (hi : i < 50000) (he : EvP te σ2 H P) :
    tYes σ2 H' fun b H3 => if b = true then te σ2 H3 fun y H4 => ∃ acc, H4 Dl = some (.lst acc) ∧ acc.length < sizeLine ∧ Cp H P Dl (i + 1) (upd H4 Dl (.lst (acc ++ [y]))) else Cp H P Dl (i + 1) H3 := by
  obtain ⟨p1, p2, xs, p3, p4, p5⟩ := p
  show te σ2 H' fun y H4 => ∃ acc, H4 Dl = some (.lst acc) ∧ acc.length < sizeLine ∧ Cp H P Dl (i + 1) (upd H4 Dl (.lst (acc ++ [y])))
  refine he H' p2 _ fun v H4 e4 pv => ⟨xs, e4 Dl _ p3, sz_lt (by omega), p1, Ex.mut (p2.trans e4) p1, xs ++ [v], upd_same, by rw [List.length_append, List.length_singleton]; omega, fun x hx => ?_⟩
  rcases List.mem_append.mp hx with hx | hx
  · exact p5 x hx
  · rw [List.mem_singleton] at hx
    exact hx ▸ pv
/-- over a list -/
theorem elp_lcL {a : Addr} {xs : List V} {tl : TE} {j : Nat} {vs : List Nat} (h : Ev tl σ H (.ref a)) (hx : SqL K H a xs) (hz : xs.length ≤ n) (hn : n ≤ 40000) (hw : ∀ x, wipe ((wipe σ vs).set j (some x)) vs = wipe σ vs)
    (he : ∀ (i : Nat) (x : V) H1, Ex H H1 → xs[i]? = some x → EvP te ((wipe σ vs).set j (some x)) H1 P) : EvLP (tLc (iList K tl) (gName j) tYes te vs) σ H n P := fun H0 e Q q => h H0 e _ fun H1 e1 => ⟨a, rfl, ⟨xs, ex_l (e.trans e1) hx⟩, fun Dl hD =>
  lc_list (xs := xs) (Cp H1 P Dl) ⟨hD, Ex.new hD, [], upd_same, Nat.le_refl _, fun _ h => nomatch h⟩ (fun i H' _ p => ex_l ((e.trans e1).trans p.2.1) hx) (fun i x H' hi p => ⟨hw x, cp_turn p (by have := (List.getElem?_eq_some_iff.mp hi).1; omega) (he i x H1 (e.trans e1) hi)⟩)
    (fun H' p => by
      obtain ⟨p1, p2, ys, p3, p4, p5⟩ := p
      exact q Dl ys H' (fresh_back e1 p1) (e1.trans p2) p3 (by omega) p5)⟩
/-- over a range -/
theorem elp_lcR {ta : TA} {j : Nat} {vs : List Nat} {i : Int} (h : EvA ta σ H [.int i]) (hi : i ≤ n) (h0 : 0 ≤ i) (hn : n ≤ 40000) (hw : ∀ x, wipe ((wipe σ vs).set j (some x)) vs = wipe σ vs)
    (he : ∀ (c : Nat) H1, Ex H H1 → (c : Int) < i → EvP te ((wipe σ vs).set j (some (.int (c : Int)))) H1 P) : EvLP (tLc (iRng1 ta) (gName j) tYes te vs) σ H n P := fun H0 e Q q => h H0 e _ fun H1 e1 => ⟨i, rfl, by omega, by omega, fun Dl hD =>
  lc_range (lo := 0) (n := i.toNat) (Cp H1 P Dl) ⟨hD, Ex.new hD, [], upd_same, Nat.le_refl _, fun _ h => nomatch h⟩ (fun c H' hc p => by
    have e0 : (0 : Int) + (c : Int) = (c : Int) := Int.zero_add _
    show wipe ((wipe σ vs).set j (some (.int ((0 : Int) + (c : Int))))) vs = wipe σ vs ∧ tYes ((wipe σ vs).set j (some (.int ((0 : Int) + (c : Int))))) H' fun b H3 => if b = true then te ((wipe σ vs).set j (some (.int ((0 : Int) + (c : Int))))) H3 fun y H4 => ∃ acc, H4 Dl = some (.lst acc) ∧ acc.length < sizeLine ∧ Cp H1 P Dl (c + 1) (upd H4 Dl (.lst (acc ++ [y]))) else Cp H1 P Dl (c + 1) H3
    rw [e0]
    exact ⟨hw _, cp_turn p (by omega) (he c H1 (e.trans e1) (by omega))⟩)
    (fun H' p => by
      obtain ⟨p1, p2, ys, p3, p4, p5⟩ := p
      exact q Dl ys H' (fresh_back e1 p1) (e1.trans p2) p3 (by omega) p5)⟩
/-- over enumerate(list): the pair is new -/
theorem elp_lcE {ta : TA} {a : Addr} {xs : List V} {j1 j2 : Nat} {vs : List Nat} (h : EvA ta σ H [.ref a]) (hx : SqL K H a xs) (hz : xs.length ≤ n) (hn : n ≤ 40000)
    (hw : ∀ x y, wipe (((wipe σ vs).set j1 (some x)).set j2 (some y)) vs = wipe σ vs)
    (he : ∀ (i : Nat) (x : V) H1, Ex H H1 → xs[i]? = some x → EvP te (((wipe σ vs).set j1 (some (.int i))).set j2 (some x)) H1 P) :
    EvLP (tLc (iEnum K ta) (gTup K 2 (gCons (gName j1) (gCons (gName j2) gNil))) tYes te vs) σ H n P := fun H0 e Q q =>
  h H0 e _ fun H1 e1 => ⟨a, xs, rfl, ex_l (e.trans e1) hx, fun Dl hD =>
    lc_it (walk_enum (K := K) (a := a) (xs := xs)) (Cp H1 P Dl) ⟨hD, Ex.new hD, [], upd_same, Nat.le_refl _, fun _ h => nomatch h⟩ (fun i H' _ p => ex_l ((e.trans e1).trans p.2.1) hx) (fun i x H2 H3 hi p y => by
      obtain ⟨T, a1, a2, rfl, hT, rfl, h1, h2⟩ := y
      cases h1
      obtain ⟨p1, p2, ys, p3, p4, p5⟩ := p
      have p' : Cp H1 P Dl i (upd H2 T (.tup [.int (i : Nat), a2])) := ⟨p1, p2.trans (Ex.new hT), ys, by rw [upd_ne (ne_of_none p3 hT)]; exact p3, p4, p5⟩
      exact ⟨T, _, rfl, st_of upd_same, rfl, _, _, rfl, _, [], rfl, rfl, hw _ _, cp_turn p' (by omega) (he i a2 H1 (e.trans e1) h2)⟩)
      (fun H' p => by
        obtain ⟨p1, p2, ys, p3, p4, p5⟩ := p
        exact q Dl ys H' (fresh_back e1 p1) (e1.trans p2) p3 (by omega) p5)⟩
/-- the same, some fall away: told -/
theorem el_lcE {ta : TA} {a : Addr} {xs : List V} {j1 j2 : Nat} {vs : List Nat} (f : Nat → Bool) (g : Nat → V) (h : EvA ta σ H [.ref a]) (hx : SqL K H a xs) (hz : xs.length ≤ 40000)
    (hw : ∀ x y, wipe (((wipe σ vs).set j1 (some x)).set j2 (some y)) vs = wipe σ vs)
    (ht : ∀ (i : Nat) (x : V) H1, Ex H H1 → xs[i]? = some x → EvT t (((wipe σ vs).set j1 (some (.int i))).set j2 (some x)) H1 (f i))
    (he : ∀ (i : Nat) (x : V) H1, Ex H H1 → xs[i]? = some x → f i = true → Ev te (((wipe σ vs).set j1 (some (.int i))).set j2 (some x)) H1 (g i)) :
    EvL (tLc (iEnum K ta) (gTup K 2 (gCons (gName j1) (gCons (gName j2) gNil))) t te vs) σ H (given xs.length f g) := fun H0 e Q q =>
  h H0 e _ fun H1 e1 => ⟨a, xs, rfl, ex_l (e.trans e1) hx, fun Dl hD =>
    lc_it (walk_enum (K := K) (a := a) (xs := xs)) (Cw H1 f g Dl) ⟨hD, Ex.new hD, upd_same⟩ (fun i H' _ p => ex_l ((e.trans e1).trans p.2.1) hx) (fun i x H2 H3 hi p y => by
      obtain ⟨T, a1, a2, rfl, hT, rfl, h1, h2⟩ := y
      cases h1
      have p' : Cw H1 f g Dl i (upd H2 T (.tup [.int (i : Nat), a2])) := ⟨p.1, p.2.1.trans (Ex.new hT), by rw [upd_ne (ne_of_none p.2.2 hT)]; exact p.2.2⟩
      exact ⟨T, _, rfl, st_of upd_same, rfl, _, _, rfl, _, [], rfl, rfl, hw _ _, cw_turn p' (by omega) (ht i a2 H1 (e.trans e1) h2) fun hf => he i a2 H1 (e.trans e1) h2 hf⟩)
      (fun H' p => q Dl H' (fresh_back e1 p.1) (e1.trans p.2.1) p.2.2)⟩
/-! ### calls and statements -/
def SpP (pre : List V → Hp → Prop) (P : V → Prop) : Sp := fun vs H Q _ => pre vs H ∧ ∀ v H', Ex H H' → P v → Q v H'
theorem evp_call {pre : List V → Hp → Prop} {dvs vs : List V} {E : XK} {ta : TA} (h : EvA ta σ H vs) (hs : ∀ H1, Ex H H1 → pre (vs ++ dvs) H1) : EvP (tCall (SpP pre P) dvs E ta) σ H P := fun H1 e _ q =>
  h H1 e _ fun H2 e2 => ⟨hs H2 (e.trans e2), fun v H3 e3 p => q v H3 (e2.trans e3) p⟩
variable {D : Ends} {tz : TS}
theorem q_asgP {i : Nat} (h : EvP te σ H P) (k : ∀ v H1, Ex H H1 → P v → tz D (σ.set i (some v)) H1) : tSeq (tAsg te (gName i)) tz D σ H := h H (Ex.refl H) _ fun v H1 e p => k v H1 e p
theorem q_asgLP {i : Nat} (h : EvLP te σ H n P) (k : ∀ p xs H1, H p = none → Ex H H1 → H1 p = some (.lst xs) → xs.length ≤ n → (∀ x ∈ xs, P x) → tz D (σ.set i (some (.ref p))) H1) : tSeq (tAsg te (gName i)) tz D σ H := h H (Ex.refl H) _ k
theorem s_retP (h : EvP te σ H P) (k : ∀ v H1, Ex H H1 → P v → D.rt v H1) : tRet te D σ H := h H (Ex.refl H) _ k
theorem s_retLP (h : EvLP te σ H n P) (k : ∀ p xs H1, H p = none → Ex H H1 → H1 p = some (.lst xs) → xs.length ≤ n → (∀ x ∈ xs, P x) → D.rt (.ref p) H1) : tRet te D σ H := h H (Ex.refl H) _ k
end
section
variable {K : PySem.W.Frag} {σ : L2.St} {H H' : Hp} {ta tb tc te tx : TE} {t u : TT} {x y z v : V} {r : R2} {P P1 P2 : V → Prop} {n m k : Nat} {D : Ends} {tz : TS}
theorem ev_neNil {p : Addr} {xs : List V} (ha : Ev ta σ H (.ref p)) (hp : H p = some (.lst xs)) (hf : xs.all flatOk = true) : Ev (tOp (rNeD K) ta (tLst tNil)) σ H (.bl (!xs.isEmpty)) := fun H1 e Q q =>
  ha H1 e _ fun H2 e2 => ⟨by show 0 ≤ sizeLine; exact Nat.zero_le _, fun l hl => by
    have e3 : Ex H2 (upd H2 l (.lst [])) := Ex.new hl
    refine ⟨.list (xs.map dpOf), .list [], .lst (sq_of (e3 p _ (e2 p _ (e p _ hp)))) (dps_flat hf), .lst (sq_of upd_same) .nil, shaped_flat hf, by decide, ?_⟩
    have z : PyData.eqv (.list (xs.map dpOf)) (.list []) = xs.isEmpty := by
      cases xs <;> rfl
    rw [z]
    exact q _ (e2.trans e3)⟩
/-- xs.append(e), e of a kind -/
theorem q_appP {l : Addr} {xs : List V} (hl : H l = some (.lst xs)) (ha : Ev ta σ H (.ref l)) (h : EvP te σ H P) (hz : xs.length < 100000) (k : ∀ v H1, Ex H H1 → P v → tz D σ (upd H1 l (.lst (xs ++ [v])))) :
    tSeq (tDrop (tBM K "list" rAppend ta (tCons te tNil))) tz D σ H := ha H (Ex.refl H) _ fun H1 e1 =>
  ⟨Or.inl ⟨rfl, xs, sq_of (e1 l _ hl)⟩, h H1 e1 _ fun v H2 e2 p => ⟨l, xs, v, rfl, rfl, e2 l _ (e1 l _ hl), sz_lt hz, k v H2 (e1.trans e2) p⟩⟩
/-! ### displays of things of a kind, by the heap -/
def EvG (R : Hp → V → Prop) (te : TE) (σ : L2.St) (H : Hp) : Prop := ∀ H1, Ex H H1 → ∀ Q : VK, (∀ v H2, Ex H1 H2 → R H2 v → Q v H2) → te σ H1 Q
def EvGs (R : Hp → V → Prop) (ta : TA) (σ : L2.St) (H : Hp) (n : Nat) : Prop := ∀ H1, Ex H H1 → ∀ Q : List V → Hp → Prop, (∀ vs H2, Ex H1 H2 → vs.length = n → (∀ v ∈ vs, R H2 v) → Q vs H2) → ta σ H1 Q
variable {R : Hp → V → Prop}
theorem eg_v (h : Ev te σ H v) (p : ∀ H1, Ex H H1 → R H1 v) : EvG R te σ H := fun H1 e _ q => h H1 e _ fun H2 e2 => q v H2 e2 (p H2 (e.trans e2))
theorem eg_l {xs : List V} (h : EvL te σ H xs) (p : ∀ a H1, H1 a = some (.lst xs) → R H1 (.ref a)) : EvG R te σ H := fun H1 e _ q => h H1 e _ fun a H2 _ e2 h2 => q _ H2 e2 (p a H2 h2)
theorem eg_u {xs : List V} (h : EvU te σ H xs) (p : ∀ a H1, H1 a = some (.tup xs) → R H1 (.ref a)) : EvG R te σ H := fun H1 e _ q => h H1 e _ fun a H2 _ e2 h2 => q _ H2 e2 (p a H2 h2)
theorem eg_d (p : ∀ a H1, H1 a = some (.dK []) → R H1 (.ref a)) : EvG R tDNewK σ H := fun H1 e _ q => fun a ha => q _ _ (Ex.new ha) (p a _ upd_same)
theorem egs_nil : EvGs R tNil σ H 0 := fun H1 _ _ q => q [] H1 (Ex.refl H1) rfl fun _ h => nomatch h
theorem egs_cons (mo : ∀ H H' v, Ex H H' → R H v → R H' v) {tr : TA} (h : EvG R te σ H) (hr : EvGs R tr σ H n) : EvGs R (tCons te tr) σ H (n + 1) := fun H1 e _ q =>
  h H1 e _ fun v H2 e2 hv => hr H2 (e.trans e2) _ fun vs H3 e3 hl hvs => q (v :: vs) H3 (e2.trans e3) (by rw [List.length_cons, hl]) fun w hw => by
    rcases List.mem_cons.mp hw with rfl | hw
    · exact mo _ _ _ e3 hv
    · exact hvs w hw
/-- one of a display -/
theorem q_asgIx (mo : ∀ H H' v, Ex H H' → R H v → R H' v) {ta : TA} {j : Nat} {i : Int} (h : EvGs R ta σ H n) (hb : ∀ H1, Ex H H1 → Ev tb σ H1 (.int i)) (h0 : 0 ≤ i) (h1 : i < n) (hn : n ≤ 1000)
    (k : ∀ v H1, Ex H H1 → R H1 v → tz D (σ.set j (some v)) H1) : tSeq (tAsg (tOp (rIxL K) (tLst ta) tb) (gName j)) tz D σ H :=
  h H (Ex.refl H) _ fun vs H1 e hl hvs => ⟨by rw [hl]; exact sz_of (by omega), fun p hp => by
    have e2 : Ex H1 (upd H1 p (.lst vs)) := Ex.new hp
    refine hb _ (e.trans e2) _ (Ex.refl _) _ fun H3 e3 => ?_
    obtain ⟨v, hv, vm⟩ := at_mem (xs := vs) (i := i) h0 (by rw [hl]; exact h1)
    exact ⟨p, vs, i, v, rfl, rfl, sq_of (e3 _ _ upd_same), hv, k v H3 ((e.trans e2).trans e3) (mo _ _ _ (e2.trans e3) (hvs v vm))⟩⟩
end
/-! ### drawn signs of a text -/
def drawnW (w : Str) (n : Nat) (g : Nat → Int) : Str := Txt.join "" ((List.range n).map fun i => sgn w (g i))
theorem drawnW_len (w : Str) (n : Nat) (g : Nat → Int) : (drawnW w n g).length = n := by
  unfold drawnW
  rw [join_len, List.map_map]
  induction n with
  | zero => rfl
  | succ n ih =>
    rw [List.range_succ, List.map_append, List.sum_append, ih]
    rfl
theorem drawnW_signs {w : Str} (h : signs w) (n : Nat) (g : Nat → Int) : signs (drawnW w n g) := join_signs fun y hy => by
  obtain ⟨i, _, rfl⟩ := List.mem_map.mp hy
  exact sgn_signs h _
theorem sum_onesW {w : Str} {n : Nat} {g : Nat → Int} : ((((List.range n).map fun i => sgn w (g i)).map (·.length)).sum + ((List.range n).map fun i => sgn w (g i)).length * ("" : Str).length) = n := by
  rw [emp_len, Nat.mul_zero, Nat.add_zero, List.map_map]
  induction n with
  | zero => rfl
  | succ n ih =>
    rw [List.range_succ, List.map_append, List.sum_append, ih]
    rfl
end Evl

set_option Elab.async false
set_option linter.all false
set_option maxRecDepth 100000
set_option maxHeartbeats 2000000
namespace My
open PySem L2 Evl Com TX Rd
def top (i : Nat) : Stmt := PySem.Challenge.pw_wordmend_k02_conditions.main.body.getD i (.Pass ⟨0, 0, 0, 0⟩)
abbrev s_are_letters : Stmt := top 17
abbrev N_are_letters : List Str := ["thing"]
abbrev P_are_letters : List Str := ["thing"]
theorem sc_are_letters : FnScope N_are_letters P_are_letters (defScope s_are_letters) := ⟨rfl, rfl, rfl, by decide +kernel, rfl, by decide +kernel, by decide +kernel⟩
abbrev s_all_but : Stmt := top 21
abbrev N_all_but : List Str := ["letters", "letter"]
abbrev P_all_but : List Str := ["letters"]
theorem sc_all_but : FnScope N_all_but P_all_but (defScope s_all_but) := ⟨rfl, rfl, rfl, by decide +kernel, rfl, by decide +kernel, by decide +kernel⟩
abbrev s_is_bracketed : Stmt := top 22
abbrev N_is_bracketed : List Str := ["letters"]
abbrev P_is_bracketed : List Str := ["letters"]
theorem sc_is_bracketed : FnScope N_is_bracketed P_is_bracketed (defScope s_is_bracketed) := ⟨rfl, rfl, rfl, by decide +kernel, rfl, by decide +kernel, by decide +kernel⟩
abbrev s_read_brackets : Stmt := top 23
abbrev N_read_brackets : List Str := ["told", "begin", "close", "inner", "letters"]
abbrev P_read_brackets : List Str := ["told", "begin"]
theorem sc_read_brackets : FnScope N_read_brackets P_read_brackets (defScope s_read_brackets) := ⟨rfl, rfl, rfl, by decide +kernel, rfl, by decide +kernel, by decide +kernel⟩
abbrev s_read_place : Stmt := top 24
abbrev N_read_place : List Str := ["told", "begin", "sign"]
abbrev P_read_place : List Str := ["told", "begin"]
theorem sc_read_place : FnScope N_read_place P_read_place (defScope s_read_place) := ⟨rfl, rfl, rfl, by decide +kernel, rfl, by decide +kernel, by decide +kernel⟩
abbrev s_read_places : Stmt := top 25
abbrev N_read_places : List Str := ["told", "places", "begin", "letters"]
abbrev P_read_places : List Str := ["told"]
theorem sc_read_places : FnScope N_read_places P_read_places (defScope s_read_places) := ⟨rfl, rfl, rfl, by decide +kernel, rfl, by decide +kernel, by decide +kernel⟩
abbrev s_are_let : Stmt := top 26
abbrev N_are_let : List Str := ["places", "letters", "let", "letter"]
abbrev P_are_let : List Str := ["places", "letters"]
theorem sc_are_let : FnScope N_are_let P_are_let (defScope s_are_let) := ⟨rfl, rfl, rfl, by decide +kernel, rfl, by decide +kernel, by decide +kernel⟩
abbrev s_Condition_init : Stmt := inClass (top 27) 0
abbrev N_Condition_init : List Str := ["self", "told"]
abbrev P_Condition_init : List Str := ["self", "told"]
theorem sc_Condition_init : FnScope N_Condition_init P_Condition_init (defScope s_Condition_init) := ⟨rfl, rfl, rfl, by decide +kernel, rfl, by decide +kernel, by decide +kernel⟩
abbrev s_Condition_ends : Stmt := inClass (top 27) 1
abbrev N_Condition_ends : List Str := ["self", "word", "begin"]
abbrev P_Condition_ends : List Str := ["self", "word"]
theorem sc_Condition_ends : FnScope N_Condition_ends P_Condition_ends (defScope s_Condition_ends) := ⟨rfl, rfl, rfl, by decide +kernel, rfl, by decide +kernel, by decide +kernel⟩
abbrev s_Condition_begins : Stmt := inClass (top 27) 2
abbrev N_Condition_begins : List Str := ["self", "word", "many"]
abbrev P_Condition_begins : List Str := ["self", "word"]
theorem sc_Condition_begins : FnScope N_Condition_begins P_Condition_begins (defScope s_Condition_begins) := ⟨rfl, rfl, rfl, by decide +kernel, rfl, by decide +kernel, by decide +kernel⟩
abbrev s_l_mixed : Stmt := top 29
abbrev N_l_mixed : List Str := ["_law_cell", "_law_k", "_law_number_here"]
abbrev P_l_mixed : List Str := ["_law_cell", "_law_k"]
theorem sc_l_mixed : FnScope N_l_mixed P_l_mixed (defScope s_l_mixed) := ⟨rfl, rfl, rfl, by decide +kernel, rfl, by decide +kernel, by decide +kernel⟩
abbrev s_l_number : Stmt := top 30
abbrev N_l_number : List Str := ["_law_script", "_law_k", "_law_cell"]
abbrev P_l_number : List Str := ["_law_script", "_law_k"]
theorem sc_l_number : FnScope N_l_number P_l_number (defScope s_l_number) := ⟨rfl, rfl, rfl, by decide +kernel, rfl, by decide +kernel, by decide +kernel⟩
abbrev s_l_kind : Stmt := top 31
abbrev N_l_kind : List Str := ["_law_e", "_law_found"]
abbrev P_l_kind : List Str := ["_law_e"]
theorem sc_l_kind : FnScope N_l_kind P_l_kind (defScope s_l_kind) := ⟨rfl, rfl, rfl, by decide +kernel, rfl, by decide +kernel, by decide +kernel⟩
abbrev s_l_letters : Stmt := top 32
abbrev N_l_letters : List Str := ["_law_script", "_law_at", "_law_size", "_law_few", "_law_k"]
abbrev P_l_letters : List Str := ["_law_script", "_law_at", "_law_size"]
theorem sc_l_letters : FnScope N_l_letters P_l_letters (defScope s_l_letters) := ⟨rfl, rfl, rfl, by decide +kernel, rfl, by decide +kernel, by decide +kernel⟩
abbrev s_l_condition : Stmt := top 33
abbrev N_l_condition : List Str := ["_law_script", "_law_at", "_law_letters_here", "_law_found", "_law_k", "_law_cell", "_law_first", "_law_some", "_law_word", "_law_j", "_law_sign"]
abbrev P_l_condition : List Str := ["_law_script", "_law_at"]
theorem sc_l_condition : FnScope N_l_condition P_l_condition (defScope s_l_condition) := ⟨rfl, rfl, rfl, by decide +kernel, rfl, by decide +kernel, by decide +kernel⟩
abbrev s_l_written : Stmt := top 34
abbrev N_l_written : List Str := ["_law_places", "_law_place"]
abbrev P_l_written : List Str := ["_law_places"]
theorem sc_l_written : FnScope N_l_written P_l_written (defScope s_l_written) := ⟨rfl, rfl, rfl, by decide +kernel, rfl, by decide +kernel, by decide +kernel⟩
abbrev s_l_read : Stmt := top 35
abbrev N_l_read : List Str := ["_law_text", "_law_letters_here", "_law_found", "_law_left", "_law_sign", "_law_inner", "_law_some", "_law_wrong", "_law_one"]
abbrev P_l_read : List Str := ["_law_text"]
theorem sc_l_read : FnScope N_l_read P_l_read (defScope s_l_read) := ⟨rfl, rfl, rfl, by decide +kernel, rfl, by decide +kernel, by decide +kernel⟩
abbrev s_l_fits : Stmt := top 36
abbrev N_l_fits : List Str := ["_law_places", "_law_letters_here", "_law_k"]
abbrev P_l_fits : List Str := ["_law_places", "_law_letters_here"]
theorem sc_l_fits : FnScope N_l_fits P_l_fits (defScope s_l_fits) := ⟨rfl, rfl, rfl, by decide +kernel, rfl, by decide +kernel, by decide +kernel⟩
abbrev s_l_refused : Stmt := top 37
abbrev N_l_refused : List Str := ["_law_thing", "_law_error", "_law_e"]
abbrev P_l_refused : List Str := ["_law_thing"]
theorem sc_l_refused : FnScope N_l_refused P_l_refused (defScope s_l_refused) := ⟨rfl, rfl, rfl, by decide +kernel, rfl, by decide +kernel, by decide +kernel⟩
abbrev s_l_right : Stmt := top 38
abbrev N_l_right : List Str := ["_law_text", "_law_words_here", "_law_places", "_law_condition_here", "_law_word", "_law_many", "_law_ends", "_law_begins"]
abbrev P_l_right : List Str := ["_law_text", "_law_words_here"]
theorem sc_l_right : FnScope N_l_right P_l_right (defScope s_l_right) := ⟨rfl, rfl, rfl, by decide +kernel, rfl, by decide +kernel, by decide +kernel⟩
abbrev s_l_bent : Stmt := top 39
abbrev N_l_bent : List Str := ["_law_text", "_law_cell", "_law_at", "_law_sign"]
abbrev P_l_bent : List Str := ["_law_text", "_law_cell"]
theorem sc_l_bent : FnScope N_l_bent P_l_bent (defScope s_l_bent) := ⟨rfl, rfl, rfl, by decide +kernel, rfl, by decide +kernel, by decide +kernel⟩
abbrev s_l_words : Stmt := top 40
abbrev N_l_words : List Str := ["_law_script", "_law_at", "_law_places", "_law_size", "_law_word", "_law_fit", "_law_some", "_law_other", "_law_spot", "_law_k", "_law_place", "_law_one"]
abbrev P_l_words : List Str := ["_law_script", "_law_at", "_law_places"]
theorem sc_l_words : FnScope N_l_words P_l_words (defScope s_l_words) := ⟨rfl, rfl, rfl, by decide +kernel, rfl, by decide +kernel, by decide +kernel⟩
abbrev s_law : Stmt := top 41
abbrev N_law : List Str := ["_law_script", "_law_k", "_law_at", "_law_places", "_law_words_here", "_law_text", "_law_cell", "_law_odd"]
abbrev P_law : List Str := ["_law_script"]
theorem sc_law : FnScope N_law P_law (defScope s_law) := ⟨rfl, rfl, rfl, by decide +kernel, rfl, by decide +kernel, by decide +kernel⟩
/-- where the top left its classes and defs -/
structure Ad where
  c_MendError : Addr
  c_BadWord : Addr
  c_BadRule : Addr
  c_BadText : Addr
  c_Twice : Addr
  c_NoStem : Addr
  c_NoClass : Addr
  c_InUse : Addr
  c_TooMany : Addr
  c_NoNumber : Addr
  c_NoWord : Addr
  c_BadPrice : Addr
  c_NoPlace : Addr
  c_BadPattern : Addr
  c_Condition : Addr
  f_are_letters : Addr
  d_are_letters : FuncData
  f_all_but : Addr
  d_all_but : FuncData
  f_is_bracketed : Addr
  d_is_bracketed : FuncData
  f_read_brackets : Addr
  d_read_brackets : FuncData
  f_read_place : Addr
  d_read_place : FuncData
  f_read_places : Addr
  d_read_places : FuncData
  f_are_let : Addr
  d_are_let : FuncData
  f_Condition_init : Addr
  d_Condition_init : FuncData
  f_Condition_ends : Addr
  d_Condition_ends : FuncData
  f_Condition_begins : Addr
  d_Condition_begins : FuncData
  f_l_mixed : Addr
  d_l_mixed : FuncData
  f_l_number : Addr
  d_l_number : FuncData
  f_l_kind : Addr
  d_l_kind : FuncData
  f_l_letters : Addr
  d_l_letters : FuncData
  f_l_condition : Addr
  d_l_condition : FuncData
  f_l_written : Addr
  d_l_written : FuncData
  f_l_read : Addr
  d_l_read : FuncData
  f_l_fits : Addr
  d_l_fits : FuncData
  f_l_refused : Addr
  d_l_refused : FuncData
  f_l_right : Addr
  d_l_right : FuncData
  f_l_bent : Addr
  d_l_bent : FuncData
  f_l_words : Addr
  d_l_words : FuncData
  f_law : Addr
  d_law : FuncData
/-- what the top has written -/
structure Txt (K : PySem.W.Frag) (mg : Str → Option Value) (A : Ad) : Prop where
  n_isinstance : mg "isinstance" = none
  n_str : mg "str" = none
  n_len : mg "len" = none
  n_int : mg "int" = none
  n_ValueError : mg "ValueError" = none
  n_set : mg "set" = none
  n_all : mg "all" = none
  n_zip : mg "zip" = none
  n_range : mg "range" = none
  n_enumerate : mg "enumerate" = none
  n_repr : mg "repr" = none
  n_min : mg "min" = none
  g_LETTERS : ∃ t, mg "LETTERS" = some (.str "abcdefghijklmnopqrstuvwxyz" t)
  g_MOST_IN_BRACKETS : ∃ t, mg "MOST_IN_BRACKETS" = some (.int 8 t)
  g_MOST_PLACES : ∃ t, mg "MOST_PLACES" = some (.int 3 t)
  g_MendError : mg "MendError" = some (.ref A.c_MendError)
  g_BadWord : mg "BadWord" = some (.ref A.c_BadWord)
  g_BadRule : mg "BadRule" = some (.ref A.c_BadRule)
  g_BadText : mg "BadText" = some (.ref A.c_BadText)
  g_Twice : mg "Twice" = some (.ref A.c_Twice)
  g_NoStem : mg "NoStem" = some (.ref A.c_NoStem)
  g_NoClass : mg "NoClass" = some (.ref A.c_NoClass)
  g_InUse : mg "InUse" = some (.ref A.c_InUse)
  g_TooMany : mg "TooMany" = some (.ref A.c_TooMany)
  g_NoNumber : mg "NoNumber" = some (.ref A.c_NoNumber)
  g_NoWord : mg "NoWord" = some (.ref A.c_NoWord)
  g_BadPrice : mg "BadPrice" = some (.ref A.c_BadPrice)
  g_NoPlace : mg "NoPlace" = some (.ref A.c_NoPlace)
  g_BadPattern : mg "BadPattern" = some (.ref A.c_BadPattern)
  x_BadRule : PySem.W.excIn K A.c_BadRule [.type "ValueError", .type "Exception", .type "BaseException", .type "object"] "ValueError.__new__" = true
  k_BadRule : PySem.W.keepIn K (.ref A.c_BadRule) = true
  s_BadRule : PySem.W.subIn K (.ref A.c_BadRule) (.type "BaseException") = some true
  t_BadRule : PySem.W.typeIn K (.ref A.c_BadRule) = some (.type "type")
  e_BadRule : ExcC K A.c_BadRule
  m_BadRule_MendError : PySem.W.exmOne K (.ref A.c_BadRule) (.ref A.c_MendError) = some true
  i_BadRule_MendError : PySem.W.kitOne K (.ref A.c_BadRule) (.ref A.c_MendError) = some true
  i_BadRule_BadWord : PySem.W.kitOne K (.ref A.c_BadRule) (.ref A.c_BadWord) = some false
  i_BadRule_BadRule : PySem.W.kitOne K (.ref A.c_BadRule) (.ref A.c_BadRule) = some true
  i_BadRule_BadText : PySem.W.kitOne K (.ref A.c_BadRule) (.ref A.c_BadText) = some false
  i_BadRule_Twice : PySem.W.kitOne K (.ref A.c_BadRule) (.ref A.c_Twice) = some false
  i_BadRule_NoStem : PySem.W.kitOne K (.ref A.c_BadRule) (.ref A.c_NoStem) = some false
  i_BadRule_NoClass : PySem.W.kitOne K (.ref A.c_BadRule) (.ref A.c_NoClass) = some false
  i_BadRule_InUse : PySem.W.kitOne K (.ref A.c_BadRule) (.ref A.c_InUse) = some false
  i_BadRule_TooMany : PySem.W.kitOne K (.ref A.c_BadRule) (.ref A.c_TooMany) = some false
  i_BadRule_NoNumber : PySem.W.kitOne K (.ref A.c_BadRule) (.ref A.c_NoNumber) = some false
  i_BadRule_NoWord : PySem.W.kitOne K (.ref A.c_BadRule) (.ref A.c_NoWord) = some false
  i_BadRule_BadPrice : PySem.W.kitOne K (.ref A.c_BadRule) (.ref A.c_BadPrice) = some false
  i_BadRule_NoPlace : PySem.W.kitOne K (.ref A.c_BadRule) (.ref A.c_NoPlace) = some false
  i_BadRule_BadPattern : PySem.W.kitOne K (.ref A.c_BadRule) (.ref A.c_BadPattern) = some false
  i_BadRule_ValueError : PySem.W.kitOne K (.ref A.c_BadRule) (.type "ValueError") = some true
  g_Condition : mg "Condition" = some (.ref A.c_Condition)
  cl_Condition : Cls K A.c_Condition
  M_Condition : Mk K A.c_Condition A.f_Condition_init
  na_Condition_places : NoAttr K A.c_Condition "places"
  na_Condition_told : NoAttr K A.c_Condition "told"
  mt_Condition_begins : Meth K A.c_Condition "begins" A.f_Condition_begins
  mt_Condition_ends : Meth K A.c_Condition "ends" A.f_Condition_ends
  g_are_letters : mg "are_letters" = some (.ref A.f_are_letters)
  k_are_letters : PySem.W.keepIn K (.ref A.f_are_letters) = true
  F_are_letters : Fun K "are_letters" "are_letters" s_are_letters A.f_are_letters A.d_are_letters
  b_are_letters : Binds K A.d_are_letters P_are_letters []
  g_all_but : mg "all_but" = some (.ref A.f_all_but)
  k_all_but : PySem.W.keepIn K (.ref A.f_all_but) = true
  F_all_but : Fun K "all_but" "all_but" s_all_but A.f_all_but A.d_all_but
  b_all_but : Binds K A.d_all_but P_all_but []
  g_is_bracketed : mg "is_bracketed" = some (.ref A.f_is_bracketed)
  k_is_bracketed : PySem.W.keepIn K (.ref A.f_is_bracketed) = true
  F_is_bracketed : Fun K "is_bracketed" "is_bracketed" s_is_bracketed A.f_is_bracketed A.d_is_bracketed
  b_is_bracketed : Binds K A.d_is_bracketed P_is_bracketed []
  g_read_brackets : mg "read_brackets" = some (.ref A.f_read_brackets)
  k_read_brackets : PySem.W.keepIn K (.ref A.f_read_brackets) = true
  F_read_brackets : Fun K "read_brackets" "read_brackets" s_read_brackets A.f_read_brackets A.d_read_brackets
  b_read_brackets : Binds K A.d_read_brackets P_read_brackets []
  g_read_place : mg "read_place" = some (.ref A.f_read_place)
  k_read_place : PySem.W.keepIn K (.ref A.f_read_place) = true
  F_read_place : Fun K "read_place" "read_place" s_read_place A.f_read_place A.d_read_place
  b_read_place : Binds K A.d_read_place P_read_place []
  g_read_places : mg "read_places" = some (.ref A.f_read_places)
  k_read_places : PySem.W.keepIn K (.ref A.f_read_places) = true
  F_read_places : Fun K "read_places" "read_places" s_read_places A.f_read_places A.d_read_places
  b_read_places : Binds K A.d_read_places P_read_places []
  g_are_let : mg "are_let" = some (.ref A.f_are_let)
  k_are_let : PySem.W.keepIn K (.ref A.f_are_let) = true
  F_are_let : Fun K "are_let" "are_let" s_are_let A.f_are_let A.d_are_let
  b_are_let : Binds K A.d_are_let P_are_let []
  F_Condition_init : Fun K "__init__" "Condition.__init__" s_Condition_init A.f_Condition_init A.d_Condition_init
  b_Condition_init : Binds K A.d_Condition_init P_Condition_init []
  F_Condition_ends : Fun K "ends" "Condition.ends" s_Condition_ends A.f_Condition_ends A.d_Condition_ends
  b_Condition_ends : Binds K A.d_Condition_ends P_Condition_ends []
  F_Condition_begins : Fun K "begins" "Condition.begins" s_Condition_begins A.f_Condition_begins A.d_Condition_begins
  b_Condition_begins : Binds K A.d_Condition_begins P_Condition_begins []
  g_l_mixed : mg "_law_mixed" = some (.ref A.f_l_mixed)
  k_l_mixed : PySem.W.keepIn K (.ref A.f_l_mixed) = true
  F_l_mixed : Fun K "_law_mixed" "_law_mixed" s_l_mixed A.f_l_mixed A.d_l_mixed
  b_l_mixed : Binds K A.d_l_mixed P_l_mixed []
  g_l_number : mg "_law_number" = some (.ref A.f_l_number)
  k_l_number : PySem.W.keepIn K (.ref A.f_l_number) = true
  F_l_number : Fun K "_law_number" "_law_number" s_l_number A.f_l_number A.d_l_number
  b_l_number : Binds K A.d_l_number P_l_number []
  g_l_kind : mg "_law_kind" = some (.ref A.f_l_kind)
  k_l_kind : PySem.W.keepIn K (.ref A.f_l_kind) = true
  F_l_kind : Fun K "_law_kind" "_law_kind" s_l_kind A.f_l_kind A.d_l_kind
  b_l_kind : Binds K A.d_l_kind P_l_kind []
  g_l_letters : mg "_law_letters" = some (.ref A.f_l_letters)
  k_l_letters : PySem.W.keepIn K (.ref A.f_l_letters) = true
  F_l_letters : Fun K "_law_letters" "_law_letters" s_l_letters A.f_l_letters A.d_l_letters
  b_l_letters : Binds K A.d_l_letters P_l_letters []
  g_l_condition : mg "_law_condition" = some (.ref A.f_l_condition)
  k_l_condition : PySem.W.keepIn K (.ref A.f_l_condition) = true
  F_l_condition : Fun K "_law_condition" "_law_condition" s_l_condition A.f_l_condition A.d_l_condition
  b_l_condition : Binds K A.d_l_condition P_l_condition []
  g_l_written : mg "_law_written" = some (.ref A.f_l_written)
  k_l_written : PySem.W.keepIn K (.ref A.f_l_written) = true
  F_l_written : Fun K "_law_written" "_law_written" s_l_written A.f_l_written A.d_l_written
  b_l_written : Binds K A.d_l_written P_l_written []
  g_l_read : mg "_law_read" = some (.ref A.f_l_read)
  k_l_read : PySem.W.keepIn K (.ref A.f_l_read) = true
  F_l_read : Fun K "_law_read" "_law_read" s_l_read A.f_l_read A.d_l_read
  b_l_read : Binds K A.d_l_read P_l_read []
  g_l_fits : mg "_law_fits" = some (.ref A.f_l_fits)
  k_l_fits : PySem.W.keepIn K (.ref A.f_l_fits) = true
  F_l_fits : Fun K "_law_fits" "_law_fits" s_l_fits A.f_l_fits A.d_l_fits
  b_l_fits : Binds K A.d_l_fits P_l_fits []
  g_l_refused : mg "_law_refused" = some (.ref A.f_l_refused)
  k_l_refused : PySem.W.keepIn K (.ref A.f_l_refused) = true
  F_l_refused : Fun K "_law_refused" "_law_refused" s_l_refused A.f_l_refused A.d_l_refused
  b_l_refused : Binds K A.d_l_refused P_l_refused []
  g_l_right : mg "_law_right" = some (.ref A.f_l_right)
  k_l_right : PySem.W.keepIn K (.ref A.f_l_right) = true
  F_l_right : Fun K "_law_right" "_law_right" s_l_right A.f_l_right A.d_l_right
  b_l_right : Binds K A.d_l_right P_l_right []
  g_l_bent : mg "_law_bent" = some (.ref A.f_l_bent)
  k_l_bent : PySem.W.keepIn K (.ref A.f_l_bent) = true
  F_l_bent : Fun K "_law_bent" "_law_bent" s_l_bent A.f_l_bent A.d_l_bent
  b_l_bent : Binds K A.d_l_bent P_l_bent []
  g_l_words : mg "_law_words" = some (.ref A.f_l_words)
  k_l_words : PySem.W.keepIn K (.ref A.f_l_words) = true
  F_l_words : Fun K "_law_words" "_law_words" s_l_words A.f_l_words A.d_l_words
  b_l_words : Binds K A.d_l_words P_l_words []
  g_law : mg "law" = some (.ref A.f_law)
  k_law : PySem.W.keepIn K (.ref A.f_law) = true
  F_law : Fun K "law" "law" s_law A.f_law A.d_law
  b_law : Binds K A.d_law P_law []
section
variable {P : Program} {w : World} {K : PySem.W.Frag} {mg : Str → Option Value} {base : Heap} {A : Ad}
theorem ok_are_letters (T : Txt K mg A) : FnOk P w K mg base CX0 1 A.f_are_letters A.d_are_letters P_are_letters (SpFn pThing rL) := by
  refine T.F_are_letters.ok sc_are_letters (fun vs H Q E h => ?_) (fun cdv A' outer s H vs Q E hr h => ?_)
  · obtain ⟨⟨v, rfl, _⟩, _⟩ := h
    rfl
  · obtain ⟨⟨v, rfl, hv⟩, k⟩ := h
    refine ⟨_, (pss_one (ps_ret (pe_and (pe_callB call_isi (by rfl) T.n_isinstance (by decide +kernel) (pa_cons (pv 0) (pa_cons (pe_bltn (v := .ty "str") (by rfl) T.n_str (by decide +kernel) rfl) pa_nil))) (pe_one (pe_cmpR op_eq (pe_bm PySem.F.plainAttrs_str PySem.F.slot_str_strip PySem.F.type_str_strip mt_stripChars (pv 0) (pa_cons (pe_glob (v := .str "abcdefghijklmnopqrstuvwxyz") rfl (T.g_LETTERS).choose_spec ⟨_, rfl⟩) pa_nil)) pe_str (nomark _)))))), ?_⟩
    refine s_ret (v := .bl (vL v)) (ev_is (ev_andV (a := isStr v) (b := vL v) (ev_cb (ea_cons (ev_var rfl) (ea_cons ev_c ea_nil)) (rc_isStr hv)) fun hs => ?_) ?_) k
    · obtain ⟨z, rfl⟩ := isStr_eq hs
      refine ev_is (ev_op (ev_bmS (v := .str (Txt.stripChars z "abcdefghijklmnopqrstuvwxyz")) (ev_var rfl) (ea_cons ev_c ea_nil) fun _ _ _ q => ⟨z, _, rfl, rfl, sz_of (Nat.le_trans hv.1 (by decide)), q⟩) ev_c (rv_eq rfl)) ?_
      exact congrArg V.bl (strip_lets z)
    · cases v <;> rfl

theorem ok_l_mixed (T : Txt K mg A) : FnOk P w K mg base CX0 1 A.f_l_mixed A.d_l_mixed P_l_mixed (SpFn pMix rMix) := by
  refine T.F_l_mixed.ok sc_l_mixed (fun vs H Q E h => ?_) (fun cdv A' outer s H vs Q E hr h => ?_)
  · obtain ⟨⟨c, k, rfl, _⟩, _⟩ := h
    rfl
  · obtain ⟨⟨c, k, rfl, h0, h1⟩, q⟩ := h
    refine ⟨_, (pss_cons (ps_set (i := 2) sc_l_mixed.nd rfl (Or.inl rfl) (pe_op op_mod (pe_op op_mul (pe_op op_add (pe_op op_add (pe_op op_add (pe_op op_mod (pv 0) pe_int) (pe_op op_mul (pe_op op_mul pe_int (pv 1)) (pv 1))) (pe_op op_mul pe_int (pv 1))) pe_int) pe_int) pe_int))
      (pss_one (ps_ret (pe_op op_fdiv (pe_op op_mod (pe_op op_mul (pv 2) (pe_op op_add (pe_op op_mod (pv 2) pe_int) pe_int)) pe_int) pe_int)))), ?_⟩
    have hb := mixN_bd c k
    refine q_asg (v := .int (mixN c k)) ?_ fun H1 e1 => s_ret (v := .int (mix c k)) ?_ fun H2 e2 => q H2 (e1.trans e2)
    · exact ev_op (ev_op (ev_op (ev_op (ev_op (ev_op (ev_var rfl) ev_c (rv_I (by show (0 : Int) < _; decide)))
        (ev_op (ev_op ev_c (ev_var rfl) (rv_I (.inl ⟨by decide, by decide⟩))) (ev_var rfl) (rv_I (.inr ⟨by omega, by omega⟩))) rv_I0)
        (ev_op ev_c (ev_var rfl) (rv_I (.inl ⟨by decide, by decide⟩))) rv_I0) ev_c rv_I0) ev_c (rv_I (.inr ⟨by decide, by decide⟩))) ev_c (rv_I (by show (0 : Int) < _; decide))
    · exact ev_op (ev_op (ev_op (ev_var rfl) (ev_op (ev_op (ev_var rfl) ev_c (rv_I (by show (0 : Int) < _; decide))) ev_c rv_I0) (rv_I (.inl ⟨by omega, by omega⟩))) ev_c
        (rv_I (by show (0 : Int) < _; decide))) ev_c (rv_I ⟨by decide, by decide⟩)

theorem ok_l_number (T : Txt K mg A) : FnOk P w K mg base CX0 2 A.f_l_number A.d_l_number P_l_number (spNum K) := by
  refine T.F_l_number.ok sc_l_number (fun vs H Q E h => ?_) (fun cdv A' outer s H vs Q E hr h => ?_)
  · obtain ⟨a, ns, k, rfl, _⟩ := h
    rfl
  · obtain ⟨a, ns, k, rfl, hS, h0, h1, q⟩ := h
    refine ⟨_, (pss_cons (ps_set (i := 2) sc_l_number.nd rfl (Or.inl rfl) pe_int)
      (pss_cons (ps_if (pt_cmpR op_gt (pe_callB call_len_seq (by rfl) T.n_len PySem.boot_len (pa_cons (pv 0) pa_nil)) pe_int (nomark _)) (pss_one (ps_set (i := 2) sc_l_number.nd rfl (Or.inl rfl) (pe_ix ix_list (pv 0) (pe_op op_mod (pv 1) (pe_callB call_len_seq (by rfl) T.n_len PySem.boot_len (pa_cons (pv 0) pa_nil))) (fun _ _ => rfl)))) pss_nil)
      (pss_one (ps_ret (pe_call (ok_l_mixed T) hr rfl T.g_l_mixed T.k_l_mixed T.b_l_mixed .nil pass0 (pa_cons (pv 2) (pa_cons (pv 1) pa_nil))))))), ?_⟩
    refine q_asg ev_c fun H1 e1 => ?_
    have hS1 := ex_l e1 hS
    have hl : Ev (tCB _ (tCons (tVar 0) tNil)) (([some (.ref a), some (.int k), none] : L2.St).set 2 (some (.int 0))) H1 (.int (ns.map V.int).length) := ev_cb (ea_cons (ev_var rfl) ea_nil) (rc_lenL hS1)
    rw [List.length_map] at hl
    refine q_ifAsg (b := decide ((0 : Int) < ns.length)) (v := .int (cell ns k)) (et_test (ev_is (ev_op hl ev_c rv_I0) rfl)) (fun hb => ?_) (fun hb => ?_) fun H2 e2 => ?_
    · have hb' : 0 < ns.length := by simpa using hb
      exact ev_op (ev_var rfl) (ev_op (ev_var rfl) hl (rv_I (by show (0 : Int) < _; omega))) (rv_ixL hS1 (cell_at hb'))
    · have hb' : ns.length = 0 := by simpa using hb
      have : cell ns k = 0 := by unfold cell; rw [if_neg (by omega)]
      rw [this]
      rfl
    · refine s_ret (v := .int (num ns k)) (ev_call (ea_cons (ev_var rfl) (ea_cons (ev_var rfl) ea_nil)) (spFn fun H3 e3 => ⟨_, _, rfl, h0, h1⟩)) fun H3 e3 => q H3 ((e1.trans e2).trans e3)

/-! ### the word of a refusal -/
/-- an error's class: which of the thirteen it is under, told in their order -/
structure Kin (K : PySem.W.Frag) (A : Ad) (D : Addr) (bs : Nat → Bool) : Prop where
  exc : ExcC K D
  k0 : PySem.W.kitOne K (.ref D) (.ref A.c_BadWord) = some (bs 0)
  k1 : PySem.W.kitOne K (.ref D) (.ref A.c_BadRule) = some (bs 1)
  k2 : PySem.W.kitOne K (.ref D) (.ref A.c_BadText) = some (bs 2)
  k3 : PySem.W.kitOne K (.ref D) (.ref A.c_Twice) = some (bs 3)
  k4 : PySem.W.kitOne K (.ref D) (.ref A.c_NoStem) = some (bs 4)
  k5 : PySem.W.kitOne K (.ref D) (.ref A.c_NoClass) = some (bs 5)
  k6 : PySem.W.kitOne K (.ref D) (.ref A.c_InUse) = some (bs 6)
  k7 : PySem.W.kitOne K (.ref D) (.ref A.c_TooMany) = some (bs 7)
  k8 : PySem.W.kitOne K (.ref D) (.ref A.c_NoNumber) = some (bs 8)
  k9 : PySem.W.kitOne K (.ref D) (.ref A.c_NoWord) = some (bs 9)
  k10 : PySem.W.kitOne K (.ref D) (.ref A.c_BadPrice) = some (bs 10)
  k11 : PySem.W.kitOne K (.ref D) (.ref A.c_NoPlace) = some (bs 11)
  k12 : PySem.W.kitOne K (.ref D) (.ref A.c_BadPattern) = some (bs 12)
  kv : PySem.W.kitOne K (.ref D) (.type "ValueError") = some true
def fl (b : Bool) (x : Str) : List Str := if b = true then [x] else []
def kw (bs : Nat → Bool) : List Str := fl (bs 0) "word" ++ fl (bs 1) "rule" ++ fl (bs 2) "text" ++ fl (bs 3) "twice" ++ fl (bs 4) "stem" ++ fl (bs 5) "class" ++ fl (bs 6) "use" ++ fl (bs 7) "many" ++ fl (bs 8) "number" ++ fl (bs 9) "none" ++ fl (bs 10) "price" ++ fl (bs 11) "place" ++ fl (bs 12) "pattern"
theorem fl_map (b : Bool) (x : Str) : (fl b x).map V.str = if b = true then [V.str x] else [] := by cases b <;> rfl
theorem fl_len (b : Bool) (x : Str) : (fl b x).length ≤ 1 := by cases b <;> simp [fl]
theorem ifl_len {b : Bool} {x : V} : (if b = true then [x] else [] : List V).length ≤ 1 := by cases b <;> simp
def spKind (K : PySem.W.Frag) (A : Ad) : Sp := fun vs H Q _ => ∃ a D bs, vs = [.ref a] ∧ H a = some (ErrO (.ref D) none a) ∧ Kin K A D bs ∧ ((kw bs).map (·.length)).sum + (kw bs).length * ("/" : Str).length ≤ 16777216 ∧ ∀ H', Ex H H' → Q (.str (Txt.join "/" (kw bs))) H'
theorem ok_l_kind (T : Txt K mg A) : FnOk P w K mg base CX0 1 A.f_l_kind A.d_l_kind P_l_kind (spKind K A) := by
  refine T.F_l_kind.ok sc_l_kind (fun vs H Q E h => ?_) (fun cdv A' outer s H vs Q E hr h => ?_)
  · obtain ⟨a, D, bs, rfl, _⟩ := h
    rfl
  · obtain ⟨a, D, bs, rfl, ha, C, hz, q⟩ := h
    refine ⟨_, (pss_cons (ps_set (i := 1) sc_l_kind.nd rfl (Or.inl rfl) (pe_op op_cat (pe_op op_rep (pe_lst (pa_cons pe_str pa_nil)) (pe_callTy call_int1 (by rfl) T.n_int (by decide +kernel) (pa_cons (pe_callB call_isErr (by rfl) T.n_isinstance (by decide +kernel) (pa_cons (pv 0) (pa_cons (pe_glob (v := .ref A.c_BadWord) rfl T.g_BadWord rfl) pa_nil))) pa_nil))) (pe_op op_rep (pe_lst (pa_cons pe_str pa_nil)) (pe_callTy call_int1 (by rfl) T.n_int (by decide +kernel) (pa_cons (pe_callB call_isErr (by rfl) T.n_isinstance (by decide +kernel) (pa_cons (pv 0) (pa_cons (pe_glob (v := .ref A.c_BadRule) rfl T.g_BadRule rfl) pa_nil))) pa_nil)))))
      (pss_cons (ps_set (i := 1) sc_l_kind.nd rfl (Or.inl rfl) (pe_op op_cat (pe_op op_cat (pv 1) (pe_op op_rep (pe_lst (pa_cons pe_str pa_nil)) (pe_callTy call_int1 (by rfl) T.n_int (by decide +kernel) (pa_cons (pe_callB call_isErr (by rfl) T.n_isinstance (by decide +kernel) (pa_cons (pv 0) (pa_cons (pe_glob (v := .ref A.c_BadText) rfl T.g_BadText rfl) pa_nil))) pa_nil)))) (pe_op op_rep (pe_lst (pa_cons pe_str pa_nil)) (pe_callTy call_int1 (by rfl) T.n_int (by decide +kernel) (pa_cons (pe_callB call_isErr (by rfl) T.n_isinstance (by decide +kernel) (pa_cons (pv 0) (pa_cons (pe_glob (v := .ref A.c_Twice) rfl T.g_Twice rfl) pa_nil))) pa_nil)))))
      (pss_cons (ps_set (i := 1) sc_l_kind.nd rfl (Or.inl rfl) (pe_op op_cat (pe_op op_cat (pv 1) (pe_op op_rep (pe_lst (pa_cons pe_str pa_nil)) (pe_callTy call_int1 (by rfl) T.n_int (by decide +kernel) (pa_cons (pe_callB call_isErr (by rfl) T.n_isinstance (by decide +kernel) (pa_cons (pv 0) (pa_cons (pe_glob (v := .ref A.c_NoStem) rfl T.g_NoStem rfl) pa_nil))) pa_nil)))) (pe_op op_rep (pe_lst (pa_cons pe_str pa_nil)) (pe_callTy call_int1 (by rfl) T.n_int (by decide +kernel) (pa_cons (pe_callB call_isErr (by rfl) T.n_isinstance (by decide +kernel) (pa_cons (pv 0) (pa_cons (pe_glob (v := .ref A.c_NoClass) rfl T.g_NoClass rfl) pa_nil))) pa_nil)))))
      (pss_cons (ps_set (i := 1) sc_l_kind.nd rfl (Or.inl rfl) (pe_op op_cat (pe_op op_cat (pv 1) (pe_op op_rep (pe_lst (pa_cons pe_str pa_nil)) (pe_callTy call_int1 (by rfl) T.n_int (by decide +kernel) (pa_cons (pe_callB call_isErr (by rfl) T.n_isinstance (by decide +kernel) (pa_cons (pv 0) (pa_cons (pe_glob (v := .ref A.c_InUse) rfl T.g_InUse rfl) pa_nil))) pa_nil)))) (pe_op op_rep (pe_lst (pa_cons pe_str pa_nil)) (pe_callTy call_int1 (by rfl) T.n_int (by decide +kernel) (pa_cons (pe_callB call_isErr (by rfl) T.n_isinstance (by decide +kernel) (pa_cons (pv 0) (pa_cons (pe_glob (v := .ref A.c_TooMany) rfl T.g_TooMany rfl) pa_nil))) pa_nil)))))
      (pss_cons (ps_set (i := 1) sc_l_kind.nd rfl (Or.inl rfl) (pe_op op_cat (pe_op op_cat (pv 1) (pe_op op_rep (pe_lst (pa_cons pe_str pa_nil)) (pe_callTy call_int1 (by rfl) T.n_int (by decide +kernel) (pa_cons (pe_callB call_isErr (by rfl) T.n_isinstance (by decide +kernel) (pa_cons (pv 0) (pa_cons (pe_glob (v := .ref A.c_NoNumber) rfl T.g_NoNumber rfl) pa_nil))) pa_nil)))) (pe_op op_rep (pe_lst (pa_cons pe_str pa_nil)) (pe_callTy call_int1 (by rfl) T.n_int (by decide +kernel) (pa_cons (pe_callB call_isErr (by rfl) T.n_isinstance (by decide +kernel) (pa_cons (pv 0) (pa_cons (pe_glob (v := .ref A.c_NoWord) rfl T.g_NoWord rfl) pa_nil))) pa_nil)))))
      (pss_cons (ps_set (i := 1) sc_l_kind.nd rfl (Or.inl rfl) (pe_op op_cat (pe_op op_cat (pv 1) (pe_op op_rep (pe_lst (pa_cons pe_str pa_nil)) (pe_callTy call_int1 (by rfl) T.n_int (by decide +kernel) (pa_cons (pe_callB call_isErr (by rfl) T.n_isinstance (by decide +kernel) (pa_cons (pv 0) (pa_cons (pe_glob (v := .ref A.c_BadPrice) rfl T.g_BadPrice rfl) pa_nil))) pa_nil)))) (pe_op op_rep (pe_lst (pa_cons pe_str pa_nil)) (pe_callTy call_int1 (by rfl) T.n_int (by decide +kernel) (pa_cons (pe_callB call_isErr (by rfl) T.n_isinstance (by decide +kernel) (pa_cons (pv 0) (pa_cons (pe_glob (v := .ref A.c_NoPlace) rfl T.g_NoPlace rfl) pa_nil))) pa_nil)))))
      (pss_cons (ps_set (i := 1) sc_l_kind.nd rfl (Or.inl rfl) (pe_op op_cat (pv 1) (pe_op op_rep (pe_lst (pa_cons pe_str pa_nil)) (pe_callTy call_int1 (by rfl) T.n_int (by decide +kernel) (pa_cons (pe_callB call_isErr (by rfl) T.n_isinstance (by decide +kernel) (pa_cons (pv 0) (pa_cons (pe_glob (v := .ref A.c_BadPattern) rfl T.g_BadPattern rfl) pa_nil))) pa_nil)))))
      (pss_one (ps_ret (pe_join pe_str (pe_op op_cat (pv 1) (pe_op op_rep (pe_lst (pa_cons pe_str pa_nil)) (pe_callTy call_int1 (by rfl) T.n_int (by decide +kernel) (pa_cons (pe_not (pe_callB call_isErr (by rfl) T.n_isinstance (by decide +kernel) (pa_cons (pv 0) (pa_cons (pe_bltn (v := .ty "ValueError") (by rfl) T.n_ValueError (by decide +kernel) rfl) pa_nil)))) pa_nil)))))))))))))), ?_⟩
    have l1 : ((if bs 0 = true then [V.str "word"] else []) ++ (if bs 1 = true then [V.str "rule"] else []) : List V).length ≤ 2 := by
      have a1 := @ifl_len (bs 0) (V.str "word")
      have a2 := @ifl_len (bs 1) (V.str "rule")
      simp only [List.length_append]
      omega
    refine q_asgL (el_catLL (el_flag rfl ha C.exc ev_c (.own _) C.k0) (el_flag rfl ha C.exc ev_c (.own _) C.k1) (by rw [List.length_append] at l1; omega)) fun p1 H1 _ e1 h1 => ?_
    have ha := e1 a _ ha
    generalize hx1 : ((if bs 0 = true then [V.str "word"] else []) ++ (if bs 1 = true then [V.str "rule"] else []) : List V) = x1 at h1 l1
    have l2 : (x1 ++ (if bs 2 = true then [V.str "text"] else []) ++ (if bs 3 = true then [V.str "twice"] else []) : List V).length ≤ 4 := by
      have a1 := @ifl_len (bs 2) (V.str "text")
      have a2 := @ifl_len (bs 3) (V.str "twice")
      simp only [List.length_append]
      omega
    refine q_asgL (el_catLL (el_catVL (ev_var rfl) h1 (el_flag rfl ha C.exc ev_c (.own _) C.k2) (by rw [List.length_append, List.length_append] at l2; omega)) (el_flag rfl ha C.exc ev_c (.own _) C.k3) (by rw [List.length_append] at l2; omega)) fun p2 H2 _ e2 h2 => ?_
    have ha := e2 a _ ha
    generalize hx2 : (x1 ++ (if bs 2 = true then [V.str "text"] else []) ++ (if bs 3 = true then [V.str "twice"] else []) : List V) = x2 at h2 l2
    have l3 : (x2 ++ (if bs 4 = true then [V.str "stem"] else []) ++ (if bs 5 = true then [V.str "class"] else []) : List V).length ≤ 6 := by
      have a1 := @ifl_len (bs 4) (V.str "stem")
      have a2 := @ifl_len (bs 5) (V.str "class")
      simp only [List.length_append]
      omega
    refine q_asgL (el_catLL (el_catVL (ev_var rfl) h2 (el_flag rfl ha C.exc ev_c (.own _) C.k4) (by rw [List.length_append, List.length_append] at l3; omega)) (el_flag rfl ha C.exc ev_c (.own _) C.k5) (by rw [List.length_append] at l3; omega)) fun p3 H3 _ e3 h3 => ?_
    have ha := e3 a _ ha
    generalize hx3 : (x2 ++ (if bs 4 = true then [V.str "stem"] else []) ++ (if bs 5 = true then [V.str "class"] else []) : List V) = x3 at h3 l3
    have l4 : (x3 ++ (if bs 6 = true then [V.str "use"] else []) ++ (if bs 7 = true then [V.str "many"] else []) : List V).length ≤ 8 := by
      have a1 := @ifl_len (bs 6) (V.str "use")
      have a2 := @ifl_len (bs 7) (V.str "many")
      simp only [List.length_append]
      omega
    refine q_asgL (el_catLL (el_catVL (ev_var rfl) h3 (el_flag rfl ha C.exc ev_c (.own _) C.k6) (by rw [List.length_append, List.length_append] at l4; omega)) (el_flag rfl ha C.exc ev_c (.own _) C.k7) (by rw [List.length_append] at l4; omega)) fun p4 H4 _ e4 h4 => ?_
    have ha := e4 a _ ha
    generalize hx4 : (x3 ++ (if bs 6 = true then [V.str "use"] else []) ++ (if bs 7 = true then [V.str "many"] else []) : List V) = x4 at h4 l4
    have l5 : (x4 ++ (if bs 8 = true then [V.str "number"] else []) ++ (if bs 9 = true then [V.str "none"] else []) : List V).length ≤ 10 := by
      have a1 := @ifl_len (bs 8) (V.str "number")
      have a2 := @ifl_len (bs 9) (V.str "none")
      simp only [List.length_append]
      omega
    refine q_asgL (el_catLL (el_catVL (ev_var rfl) h4 (el_flag rfl ha C.exc ev_c (.own _) C.k8) (by rw [List.length_append, List.length_append] at l5; omega)) (el_flag rfl ha C.exc ev_c (.own _) C.k9) (by rw [List.length_append] at l5; omega)) fun p5 H5 _ e5 h5 => ?_
    have ha := e5 a _ ha
    generalize hx5 : (x4 ++ (if bs 8 = true then [V.str "number"] else []) ++ (if bs 9 = true then [V.str "none"] else []) : List V) = x5 at h5 l5
    have l6 : (x5 ++ (if bs 10 = true then [V.str "price"] else []) ++ (if bs 11 = true then [V.str "place"] else []) : List V).length ≤ 12 := by
      have a1 := @ifl_len (bs 10) (V.str "price")
      have a2 := @ifl_len (bs 11) (V.str "place")
      simp only [List.length_append]
      omega
    refine q_asgL (el_catLL (el_catVL (ev_var rfl) h5 (el_flag rfl ha C.exc ev_c (.own _) C.k10) (by rw [List.length_append, List.length_append] at l6; omega)) (el_flag rfl ha C.exc ev_c (.own _) C.k11) (by rw [List.length_append] at l6; omega)) fun p6 H6 _ e6 h6 => ?_
    have ha := e6 a _ ha
    generalize hx6 : (x5 ++ (if bs 10 = true then [V.str "price"] else []) ++ (if bs 11 = true then [V.str "place"] else []) : List V) = x6 at h6 l6
    have l7 : (x6 ++ (if bs 12 = true then [V.str "pattern"] else []) : List V).length ≤ 13 := by
      have a1 := @ifl_len (bs 12) (V.str "pattern")
      simp only [List.length_append]
      omega
    refine q_asgL (el_catVL (ev_var rfl) h6 (el_flag rfl ha C.exc ev_c (.own _) C.k12) (by rw [List.length_append] at l7; omega)) fun p7 H7 _ e7 h7 => ?_
    have ha := e7 a _ ha
    generalize hx7 : (x6 ++ (if bs 12 = true then [V.str "pattern"] else []) : List V) = x7 at h7 l7
    have hk : x7 ++ (if true = true then [] else [V.str "base"]) = (kw bs).map V.str := by
      rw [if_pos rfl, List.append_nil, ← hx7, ← hx6, ← hx5, ← hx4, ← hx3, ← hx2, ← hx1]
      unfold kw
      simp only [List.map_append, fl_map]
    exact s_ret (ev_joinL (ys := kw bs) ev_c (el_catVL (ev_var rfl) h7 (el_flagN rfl ha C.exc ev_c (.ty _) C.kv) (by rw [if_pos rfl]; show x7.length + 0 ≤ 100000; omega)) hk hz) fun H8 e8 => q H8 (((((((e1.trans e2).trans e3).trans e4).trans e5).trans e6).trans e7).trans e8)

/-! ### all_but, is_bracketed -/
def pStr (vs : List V) (_ : Hp) : Prop := ∃ z, vs = [.str z] ∧ z.length ≤ 1000 ∧ signs z
def rOthers : List V → V | [.str z] => .str (T (others (L z))) | _ => .non
theorem ok_all_but (T : Txt K mg A) : FnOk P w K mg base CX0 1 A.f_all_but A.d_all_but P_all_but (SpFn pStr rOthers) := by
  refine T.F_all_but.ok sc_all_but (fun vs H Q E h => ?_) (fun cdv A' outer s H vs Q E hr h => ?_)
  · obtain ⟨⟨v, rfl, _⟩, _⟩ := h
    rfl
  · obtain ⟨⟨z, rfl, hz, hs⟩, k⟩ := h
    refine ⟨_, (pss_one (ps_ret (pe_join pe_str (pe_lc (own := [("letter", 1)]) (by rfl) sc_all_but.nd (pi_str (pe_glob (v := .str "abcdefghijklmnopqrstuvwxyz") rfl (T.g_LETTERS).choose_spec ⟨_, rfl⟩)) (blkOk_by (own := [("letter", 1)]) (N := N_all_but) (sc := defScope s_all_but) (by decide +kernel)) (fun _ _ _ _ _ => (pg_name (i := 1) sc_all_but.nd rfl (Or.inl rfl))) (fun _ _ _ _ _ => pts_one (pt_cmpR op_notIn_sign (pv 1) (pv 0) (by rfl))) (fun _ _ _ _ _ => (pv 1)))))), ?_⟩
    refine s_ret (v := .str (TX.T (others (L z)))) (ev_is (ev_joinL (ys := (others (L z)).map fun c => TX.T [c]) ev_c (el_lcS (w := alph) (fun i => !decide (alphL.getD i 0 ∈ L z)) (fun i => .str (TX.T [alphL.getD i 0])) ev_c (by decide +kernel) (fun _ => rfl)
      (fun i c H2 e2 hc => ?_) (fun i c H2 e2 hc _ => ?_)) ?_ ?_) ?_) k
    · have hd : alphL.getD i 0 = c := by
        show alph.cps.toList.getD i 0 = c
        rw [List.getD_eq_getElem?_getD, Array.getElem?_toList, hc]
        rfl
      rw [hd]
      exact et_test (ev_op (ev_var rfl) (ev_var rfl) rv_ninS)
    · have hd : alphL.getD i 0 = c := by
        show alph.cps.toList.getD i 0 = c
        rw [List.getD_eq_getElem?_getD, Array.getElem?_toList, hc]
        rfl
      rw [hd]
      exact ev_var rfl
    · rw [given_of alphL (fun c => !decide (c ∈ L z)) (fun c => V.str (TX.T [c])) _ (by show alph.cps.size = alph.cps.toList.length; rw [Array.length_toList]), List.map_map]
      rfl
    · have h1 : (others (L z)).length ≤ 26 := by
        have h2 : alphL.length = 26 := alph_list
        unfold others
        have := List.length_filter_le (fun c => !decide (c ∈ L z)) alphL
        omega
      have h2 : (((others (L z)).map fun c => TX.T [c]).map (·.length)).sum = (others (L z)).length := by
        rw [List.map_map]
        generalize others (L z) = l
        induction l with
        | nil => rfl
        | cons a r ih => rw [List.map_cons, List.sum_cons, ih, List.length_cons]; show 1 + r.length = r.length + 1; omega
      have h3 : ("" : Str).length = 0 := by decide +kernel
      rw [h2, h3]
      omega
    · apply congrArg V.str
      apply eq_L
      show (Txt.join "" _).cps.toList = _
      rw [join0, L_T, List.map_map]
      generalize others (L z) = l
      induction l with
      | nil => rfl
      | cons a r ih => rw [List.map_cons, List.flatten_cons, ih]; rfl
def rBr : List V → V | [.str z] => .bl (okBr (L z)) | _ => .non
theorem ok_is_bracketed (T : Txt K mg A) : FnOk P w K mg base CX0 2 A.f_is_bracketed A.d_is_bracketed P_is_bracketed (SpFn pStr rBr) := by
  refine T.F_is_bracketed.ok sc_is_bracketed (fun vs H Q E h => ?_) (fun cdv A' outer s H vs Q E hr h => ?_)
  · obtain ⟨⟨v, rfl, _⟩, _⟩ := h
    rfl
  · obtain ⟨⟨z, rfl, hz, hs⟩, k⟩ := h
    refine ⟨_, (pss_cons (ps_if (PW.pt (pw_or (pt_not (pt_val (pe_call (ok_are_letters T) hr rfl T.g_are_letters T.k_are_letters T.b_are_letters .nil pass0 (pa_cons (pv 0) pa_nil)))) (pw_or1 (pt_not (pt_chain op_le op_le pe_int (pe_callB call_len_str (by rfl) T.n_len PySem.boot_len (pa_cons (pv 0) pa_nil)) (pe_glob (v := .int 8) rfl (T.g_MOST_IN_BRACKETS).choose_spec ⟨_, rfl⟩)))))) (pss_one (ps_ret pe_bl)) pss_nil)
      (pss_one (ps_ret (pe_cmpR op_eq (pe_lenSetS (by rfl) T.n_len (by rfl) T.n_set (pv 0)) (pe_callB call_len_str (by rfl) T.n_len PySem.boot_len (pa_cons (pv 0) pa_nil)) (nomark _))))), ?_⟩
    have hl : z.length = (L z).length := len_L z
    refine q_when (b := !((L z).all small && (decide (1 ≤ (L z).length) && decide ((L z).length ≤ 8)))) (et_is (et_or (a := !(lets z)) (b := !(decide (1 ≤ (L z).length) && decide ((L z).length ≤ 8))) (et_not (et_B (ev_call (ea_cons (ev_var rfl) ea_nil) (spFn fun H1 e => ⟨.str z, rfl, hz, hs⟩))))
      fun _ => et_not (et_test (ev_is (ev_chain (x := .int 1) (y := .int z.length) (z := .int 8) ev_c (ev_cb (ea_cons (ev_var rfl) ea_nil) (rc_lenS (Nat.le_trans hz (by decide)))) rv_I0 (fun _ => ev_c) (fun _ => rv_I0)) ?_))) ?_) (fun hb H1 e1 => ?_) fun hb H1 e1 => ?_
    · rw [hl]
      congr 2 <;> (rw [decide_eq_decide]; omega)
    · show (!(L z).all small || _) = _
      cases (L z).all small <;> rfl
    · have : rBr [.str z] = .bl false := by
        show V.bl (okBr (L z)) = _
        unfold okBr
        simp only [Bool.not_eq_true'] at hb
        rw [hb]
        rfl
      exact s_ret ev_c fun H2 e2 => this ▸ k H2 (e1.trans e2)
    · refine s_ret (v := .bl (okBr (L z))) (ev_is (ev_op (ev_lenSetS (ev_var rfl) (Nat.le_trans hz (by decide))) (ev_cb (ea_cons (ev_var rfl) ea_nil) (rc_lenS (Nat.le_trans hz (by decide)))) (rv_eq rfl)) ?_) fun H2 e2 => k H2 (e1.trans e2)
      apply congrArg V.bl
      unfold okBr
      simp only [Bool.not_eq_false'] at hb
      rw [hb, Bool.true_and, dec_int, Bool.eq_iff_iff, beq_iff_eq, decide_eq_true_eq]
      have h1 := SetS.uniq_nodup (SetS.signsOf z)
      rw [SetS.signsOf_len, SetS.signsOf_nodup] at h1
      have h2 : z.cps.size = z.length := rfl
      rw [h2] at h1
      rw [← h1]
      omega
/-! ### a place is read -/
theorem s91 : ("[" : Str) = ⟨#[91]⟩ := by decide +kernel
theorem s93 : ("]" : Str) = ⟨#[93]⟩ := by decide +kernel
theorem s94 : ("^" : Str) = ⟨#[94]⟩ := by decide +kernel
theorem s46 : ("." : Str) = ⟨#[46]⟩ := by decide +kernel
/-- what a reading of a place tells: nothing, or a pair of the letters that it lets and the next place -/
def Told (A : Ad) (z : Str) (o : Option (List Nat × List Nat)) (H : Hp) (Q : VK) (E : XK) : Prop :=
  (o = none → ∀ H', Ex H H' → E (.ref A.c_BadRule) none H') ∧
  (∀ p rest, o = some (p, rest) → ∀ T0 H', H T0 = none → Ex H H' → H' T0 = some (.tup [.str (T p), .int (((L z).length - rest.length : Nat) : Int)]) → Q (.ref T0) H')
def spBrk (A : Ad) : Sp := fun vs H Q E => ∃ (z : Str) (b : Nat), vs = [.str z, .int b] ∧ z.length ≤ 1000 ∧ signs z ∧ (L z)[b]? = some 91 ∧ Told A z (brk ((L z).drop (b + 1))) H Q E
theorem cut_from (z : Str) (a b : Nat) (h : a ≤ b) (hb : b ≤ (L z).length) : cutS z (some (a : Int)) (some (b : Int)) = T (((L z).drop a).take (b - a)) := by
  unfold cutS
  have h1 : HT.sIx z.length 0 (some (a : Int)) = a := by rw [HT.sIx_nat, len_L]; omega
  have h2 : HT.sIx z.length z.length (some (b : Int)) = b := by rw [HT.sIx_nat, len_L]; omega
  rw [h1, h2]
theorem at_L {z : Str} {b c : Nat} (h : (L z)[b]? = some c) : atI z.cps.toList (b : Int) = some c := atI_nat h
theorem ok_read_brackets (T : Txt K mg A) : FnOk P w K mg base (L2.CX P w) 3 A.f_read_brackets A.d_read_brackets P_read_brackets (spBrk A) := by
  refine T.F_read_brackets.okX sc_read_brackets (fun vs H Q E h => ?_) (fun cdv A' outer s H vs Q E hr h => ?_)
  · obtain ⟨z, b, rfl, _⟩ := h
    rfl
  · obtain ⟨z, b, rfl, hz, hs, h91, kN, kS⟩ := h
    refine ⟨_, (pss_cons (ps_set (i := 2) sc_read_brackets.nd rfl (Or.inl rfl) (pe_bm PySem.F.plainAttrs_str PySem.F.slot_str_find PySem.F.type_str_find mt_find3 (pv 0) (pa_cons pe_str (pa_cons (pv 1) pa_nil))))
      (pss_cons (ps_if (pt_cmpR op_lt (pv 2) pe_int (nomark _)) (pss_one (ps_raise rfl (takes_of rfl rfl rfl rfl) (pmk_own PySem.F.excBase_ValueError T.x_BadRule T.g_BadRule T.k_BadRule (raises_own T.s_BadRule T.t_BadRule) rfl))) pss_nil)
      (pss_cons (ps_set (i := 3) sc_read_brackets.nd rfl (Or.inl rfl) (pe_slice sl_str (pv 0) (po_some (pe_op op_add (pv 1) pe_int)) (po_some (pv 2))))
      (pss_cons (ps_set (i := 4) sc_read_brackets.nd rfl (Or.inl rfl) (pe_bm PySem.F.plainAttrs_str PySem.F.slot_str_removeprefix PySem.F.type_str_removeprefix mt_removeprefix (pv 3) (pa_cons pe_str pa_nil)))
      (pss_cons (ps_if (pt_not (pt_val (pe_call (ok_is_bracketed T) hr rfl T.g_is_bracketed T.k_is_bracketed T.b_is_bracketed .nil pass0 (pa_cons (pv 4) pa_nil)))) (pss_one (ps_raise rfl (takes_of rfl rfl rfl rfl) (pmk_own PySem.F.excBase_ValueError T.x_BadRule T.g_BadRule T.k_BadRule (raises_own T.s_BadRule T.t_BadRule) rfl))) pss_nil)
      (pss_cons (ps_if (pt_val (pe_bm PySem.F.plainAttrs_str PySem.F.slot_str_startswith PySem.F.type_str_startswith mt_startswith (pv 3) (pa_cons pe_str pa_nil))) (pss_one (ps_ret (pe_tup (pa_cons (pe_call (ok_all_but T) (hr.mono (by decide)) rfl T.g_all_but T.k_all_but T.b_all_but .nil pass0 (pa_cons (pv 4) pa_nil)) (pa_cons (pe_op op_add (pv 2) pe_int) pa_nil))))) pss_nil)
      (pss_one (ps_ret (pe_tup (pa_cons (pv 4) (pa_cons (pe_op op_add (pv 2) pe_int) pa_nil))))))))))), ?_⟩
    have bl : b < (L z).length := (List.getElem?_eq_some_iff.mp h91).1
    have hzl := len_L z
    have hd : (L z).drop b = 91 :: (L z).drop (b + 1) := by
      rw [← List.getElem_cons_drop bl]
      congr 1
      have := List.getElem?_eq_getElem bl
      rw [h91] at this
      exact (Option.some.inj this).symm
    by_cases h93 : 93 ∈ (L z).drop (b + 1)
    · have h93' : 93 ∈ (L z).drop b := by rw [hd]; exact List.mem_cons_of_mem _ h93
      have ha : ahead 93 ((L z).drop b) = 91 :: ahead 93 ((L z).drop (b + 1)) := by rw [hd]; rfl
      have hal := ahead_lt h93
      rw [List.length_drop] at hal
      generalize hi : ahead 93 ((L z).drop (b + 1)) = i at ha hal
      have hf : Txt.find3 z ⟨#[93]⟩ (b : Int) = ((b + 1 + i.length : Nat) : Int) := by
        rw [find_some (by omega) h93', ha, List.length_cons]
        congr 1
        omega
      have hcut : cutS z (some ((b : Int) + 1)) (some ((b + 1 + i.length : Nat) : Int)) = TX.T i := by
        have e1 : (b : Int) + 1 = ((b + 1 : Nat) : Int) := by omega
        rw [e1, cut_from z (b + 1) (b + 1 + i.length) (by omega) (by omega)]
        congr 1
        rw [← hi, ahead_take 93 ((L z).drop (b + 1))]
        rw [List.length_take, List.length_drop]
        congr 1
        rw [hi]
        omega
      have hbr : brk ((L z).drop (b + 1)) = if okBr (core i) = true then some (lets' i, (L z).drop (b + 1 + i.length + 1)) else none := by
        unfold brk
        rw [if_pos h93, hi, List.drop_drop]
        congr 3
      have hpre : Txt.removeprefix (TX.T i) ⟨#[94]⟩ = TX.T (core i) := by
        rw [noprefix, L_T]
        unfold core
        split <;> rfl
      have hil : i.length ≤ 1000 := by omega
      have his : signs (TX.T i) := hcut ▸ signs_cut hs _ _
      have hcs : signs (TX.T (core i)) := by
        unfold signs at his ⊢
        rw [List.all_eq_true] at his ⊢
        intro x hx
        refine his x ?_
        show x ∈ L (TX.T i)
        rw [L_T]
        have hx' : x ∈ core i := by
          have : x ∈ L (TX.T (core i)) := hx
          rwa [L_T] at this
        unfold core at hx'
        split at hx'
        · exact List.mem_of_mem_tail hx'
        · exact hx'
      have hcl : (TX.T (core i)).length ≤ 1000 := by
        rw [len_T]
        unfold core
        split
        · rw [List.length_tail]; omega
        · exact hil
      refine q_asg (v := .int ((b + 1 + i.length : Nat) : Int)) (ev_is (ev_bmS (ev_var rfl) (ea_cons ev_c (ea_cons (ev_var rfl) ea_nil)) fun _ _ _ q => ⟨z, _, _, rfl, rfl, q⟩) (by rw [s93, hf])) fun H1 e1 => ?_
      refine q_when (et_test (ev_op (ev_var rfl) ev_c rv_I0)) (fun hb => absurd hb (by simp; omega)) fun _ H2 e2 => ?_
      refine q_asg (v := .str (TX.T i)) (ev_is (ev_slS (ev_var rfl) (eo_some (ev_op (ev_var rfl) ev_c rv_I0)) (eo_some (ev_var rfl)) (by omega)) (by rw [hcut])) fun H3 e3 => ?_
      refine q_asg (v := .str (TX.T (core i))) (ev_is (ev_bmS (ev_var rfl) (ea_cons ev_c ea_nil) fun _ _ _ q => ⟨TX.T i, _, rfl, rfl, by rw [len_T]; exact sz_of (by omega), q⟩) (by rw [s94, hpre])) fun H4 e4 => ?_
      have e04 := ((e1.trans e2).trans e3).trans e4
      refine q_when (b := !(okBr (core i))) (et_is (et_not (et_B (ev_call (ea_cons (ev_var rfl) ea_nil) (spFn fun H1 e => ⟨TX.T (core i), rfl, hcl, hcs⟩)))) (by rw [L_T])) (fun hb H5 e5 => ?_) fun hb H5 e5 => ?_
      · refine kN ?_ H5 (e04.trans e5)
        rw [hbr, if_neg (by simpa using hb)]
      · have hk := kS (lets' i) ((L z).drop (b + 1 + i.length + 1)) (by rw [hbr, if_pos (by simpa using hb)])
        have hn : (((L z).length - ((L z).drop (b + 1 + i.length + 1)).length : Nat) : Int) = ((b + 1 + i.length : Nat) : Int) + 1 := by
          rw [List.length_drop]
          omega
        rw [hn] at hk
        refine q_when (b := decide (i[0]? = some 94)) (et_B (ev_is (ev_bmS (ev_var rfl) (ea_cons ev_c ea_nil) fun _ _ _ q => ⟨TX.T i, _, rfl, rfl, q⟩) (by rw [s94, starts, L_T]))) (fun hc H6 e6 => ?_) fun hc H6 e6 => ?_
        · have hc' : i[0]? = some 94 := by simpa using hc
          have hl : lets' i = others (core i) := by unfold lets' core; rw [if_pos hc', if_pos hc']
          rw [hl] at hk
          refine s_retU (eu_tup (ea_cons (ev_is (ev_call (ea_cons (ev_var rfl) ea_nil) (spFn fun H1 e => ⟨TX.T (core i), rfl, hcl, hcs⟩)) (by show V.str (TX.T (others (L (TX.T (core i))))) = _; rw [L_T])) (ea_cons (ev_op (ev_var rfl) ev_c rv_I0) ea_nil)) (by show 2 ≤ 100000; decide)) fun p H7 hp e7 h7 => ?_
          exact hk p H7 (fresh_back ((e04.trans e5).trans e6) hp) (((e04.trans e5).trans e6).trans e7) h7
        · have hc' : ¬ i[0]? = some 94 := by simpa using hc
          have hl : lets' i = core i := by unfold lets' core; rw [if_neg hc', if_neg hc']
          rw [hl] at hk
          refine s_retU (eu_tup (ea_cons (ev_var rfl) (ea_cons (ev_op (ev_var rfl) ev_c rv_I0) ea_nil)) (by show 2 ≤ 100000; decide)) fun p H7 hp e7 h7 => ?_
          exact hk p H7 (fresh_back ((e04.trans e5).trans e6) hp) (((e04.trans e5).trans e6).trans e7) h7
    · have h93' : 93 ∉ (L z).drop b := by
        rw [hd]
        intro h
        rcases List.mem_cons.mp h with q | q
        · cases q
        · exact h93 q
      refine q_asg (v := .int (-1)) (ev_is (ev_bmS (ev_var rfl) (ea_cons ev_c (ea_cons (ev_var rfl) ea_nil)) fun _ _ _ q => ⟨z, _, _, rfl, rfl, q⟩) (by rw [s93, find_none (by omega) h93'])) fun H1 e1 => ?_
      refine q_when (et_test (ev_op (ev_var rfl) ev_c rv_I0)) (fun _ H2 e2 => ?_) fun hb => absurd hb (by decide)
      refine kN ?_ H2 (e1.trans e2)
      unfold brk
      rw [if_neg h93]
def spPlace (A : Ad) : Sp := fun vs H Q E => ∃ (z : Str) (b c : Nat), vs = [.str z, .int b] ∧ z.length ≤ 1000 ∧ signs z ∧ (L z)[b]? = some c ∧ Told A z (place c ((L z).drop (b + 1))) H Q E
theorem eq_one (c d : Nat) : decide (V.str (⟨#[c]⟩ : Str) = V.str ⟨#[d]⟩) = decide (c = d) := by
  rw [decide_eq_decide]
  constructor
  · intro h
    have h1 : (#[c] : Array Nat) = #[d] := Str.mk.inj (V.str.inj h)
    simpa using h1
  · rintro rfl
    rfl
theorem ok_read_place (T : Txt K mg A) : FnOk P w K mg base (L2.CX P w) 4 A.f_read_place A.d_read_place P_read_place (spPlace A) := by
  refine T.F_read_place.okX sc_read_place (fun vs H Q E h => ?_) (fun cdv A' outer s H vs Q E hr h => ?_)
  · obtain ⟨z, b, c, rfl, _⟩ := h
    rfl
  · obtain ⟨z, b, c, rfl, hz, hs, hc, kN, kS⟩ := h
    refine ⟨_, (pss_cons (ps_set (i := 2) sc_read_place.nd rfl (Or.inl rfl) (pe_ix ix_str (pv 0) (pv 1) (fun _ _ => rfl)))
      (pss_cons (ps_if (pt_cmpR op_eq (pv 2) pe_str (nomark _)) (pss_one (ps_ret (pe_call (E := E) (ok_read_brackets T) hr rfl T.g_read_brackets T.k_read_brackets T.b_read_brackets .nil (passes_call (takes_of rfl rfl rfl rfl) fun _ _ _ _ z => z) (pa_cons (pv 0) (pa_cons (pv 1) pa_nil))))) pss_nil)
      (pss_cons (ps_if (pt_cmpR op_eq (pv 2) pe_str (nomark _)) (pss_one (ps_ret (pe_tup (pa_cons (pe_glob (v := .str "abcdefghijklmnopqrstuvwxyz") rfl (T.g_LETTERS).choose_spec ⟨_, rfl⟩) (pa_cons (pe_op op_add (pv 1) pe_int) pa_nil))))) pss_nil)
      (pss_cons (ps_if (pt_not (pt_val (pe_call (ok_are_letters T) (hr.mono (by decide)) rfl T.g_are_letters T.k_are_letters T.b_are_letters .nil pass0 (pa_cons (pv 2) pa_nil)))) (pss_one (ps_raise rfl (takes_of rfl rfl rfl rfl) (pmk_own PySem.F.excBase_ValueError T.x_BadRule T.g_BadRule T.k_BadRule (raises_own T.s_BadRule T.t_BadRule) rfl))) pss_nil)
      (pss_one (ps_ret (pe_tup (pa_cons (pv 2) (pa_cons (pe_op op_add (pv 1) pe_int) pa_nil))))))))), ?_⟩
    have bl : b < (L z).length := (List.getElem?_eq_some_iff.mp hc).1
    have hzl := len_L z
    refine q_asg (v := .str ⟨#[c]⟩) (ev_op (ev_var rfl) (ev_var rfl) (rv_ixS (by omega) (at_L hc))) fun H1 e1 => ?_
    refine q_when (b := decide (c = 91)) (et_test (ev_is (ev_op (ev_var rfl) ev_c (rv_eq rfl)) (by rw [s91, eq_one]))) (fun hb H2 e2 => ?_) fun hb H2 e2 => ?_
    · have hb' : c = 91 := by simpa using hb
      subst hb'
      have hp : place 91 ((L z).drop (b + 1)) = brk ((L z).drop (b + 1)) := rfl
      rw [hp] at kN kS
      have e12 := e1.trans e2
      refine ⟨_, rfl, _, rfl, z, b, rfl, hz, hs, hc, fun h H' e => kN h H' (e12.trans e), fun p rest h T0 H' h0 e ht => kS p rest h T0 H' (fresh_back e12 h0) (e12.trans e) ht⟩
    · have hb1 : ¬ c = 91 := by simpa using hb
      refine q_when (b := decide (c = 46)) (et_test (ev_is (ev_op (ev_var rfl) ev_c (rv_eq rfl)) (by rw [s46, eq_one]))) (fun hb H3 e3 => ?_) fun hb H3 e3 => ?_
      · have hb' : c = 46 := by simpa using hb
        have hp : place c ((L z).drop (b + 1)) = some (alphL, (L z).drop (b + 1)) := by
          unfold place
          rw [if_neg hb1, if_pos hb']
        have hk := kS _ _ hp
        have hn : (((L z).length - ((L z).drop (b + 1)).length : Nat) : Int) = (b : Int) + 1 := by
          rw [List.length_drop]
          omega
        rw [hn, show TX.T alphL = alph from T_L alph] at hk
        refine s_retU (eu_tup (ea_cons ev_c (ea_cons (ev_op (ev_var rfl) ev_c rv_I0) ea_nil)) (by show 2 ≤ 100000; decide)) fun p H7 hp e7 h7 => ?_
        exact hk p H7 (fresh_back ((e1.trans e2).trans e3) hp) (((e1.trans e2).trans e3).trans e7) h7
      · have hb2 : ¬ c = 46 := by simpa using hb
        have hsg : c < 1114112 := by
          have := getD_signs hs b
          rw [List.getD_eq_getElem?_getD, hc] at this
          exact this
        have hth : ∀ {H : Hp}, Thing H (.str ⟨#[c]⟩) := ⟨by show 1 ≤ 1000; decide, by simpa using hsg⟩
        have hlt : vL (.str ⟨#[c]⟩) = small c := by
          show ([c] : List Nat).all small = small c
          simp
        refine q_when (b := !(small c)) (et_is (et_not (et_B (ev_call (ea_cons (ev_var rfl) ea_nil) (spFn fun H1 e => ⟨_, rfl, hth⟩)))) (by rw [← hlt])) (fun hb H4 e4 => ?_) fun hb H4 e4 => ?_
        · refine kN ?_ H4 (((e1.trans e2).trans e3).trans e4)
          unfold place
          rw [if_neg hb1, if_neg hb2, if_neg (by simpa using hb)]
        · have hp : place c ((L z).drop (b + 1)) = some ([c], (L z).drop (b + 1)) := by
            unfold place
            rw [if_neg hb1, if_neg hb2, if_pos (by simpa using hb)]
          have hk := kS _ _ hp
          have hn : (((L z).length - ((L z).drop (b + 1)).length : Nat) : Int) = (b : Int) + 1 := by
            rw [List.length_drop]
            omega
          rw [hn] at hk
          refine s_retU (eu_tup (ea_cons (ev_var rfl) (ea_cons (ev_op (ev_var rfl) ev_c rv_I0) ea_nil)) (by show 2 ≤ 100000; decide)) fun p H7 hp e7 h7 => ?_
          exact hk p H7 (fresh_back (((e1.trans e2).trans e3).trans e4) hp) ((((e1.trans e2).trans e3).trans e4).trans e7) h7
def spPlaces (A : Ad) : Sp := fun vs H Q E => ∃ v, vs = [v] ∧ Thing H v ∧
  (∀ z ps, v = .str z → conds (L z) = some ps → ∀ p H', H p = none → H' p = some (.lst (ps.map fun l => V.str (T l))) → Ex H H' → Q (.ref p) H') ∧
  ((∀ z, v = .str z → conds (L z) = none) → ∀ H', Ex H H' → E (.ref A.c_BadRule) none H')
theorem rv_eqI {i j : Int} {H : Hp} : RV rEq (.int i) (.int j) H (.bl (decide (i = j))) := fun H1 _ _ q => ⟨rfl, by
  have e : decide (V.int i = V.int j) = decide (i = j) := by rw [decide_eq_decide]; exact ⟨fun h => V.int.inj h, fun h => h ▸ rfl⟩
  rw [e]
  exact q H1 (Ex.refl H1)⟩
theorem ok_read_places (T : Txt K mg A) : FnOk P w K mg base (L2.CX P w) 5 A.f_read_places A.d_read_places P_read_places (spPlaces A) := by
  refine T.F_read_places.okX sc_read_places (fun vs H Q E h => ?_) (fun cdv A' outer s H vs Q E hr h => ?_)
  · obtain ⟨v, rfl, _⟩ := h
    rfl
  · obtain ⟨v, rfl, hv, kS, kN⟩ := h
    refine ⟨_, (pss_cons (ps_if (pt_not (pt_val (pe_callB call_isi (by rfl) T.n_isinstance (by decide +kernel) (pa_cons (pv 0) (pa_cons (pe_bltn (v := .ty "str") (by rfl) T.n_str (by decide +kernel) rfl) pa_nil))))) (pss_one (ps_raise rfl (takes_of rfl rfl rfl rfl) (pmk_own PySem.F.excBase_ValueError T.x_BadRule T.g_BadRule T.k_BadRule (raises_own T.s_BadRule T.t_BadRule) rfl))) pss_nil)
      (pss_cons (ps_set (i := 1) sc_read_places.nd rfl (Or.inl rfl) (pe_lst pa_nil))
      (pss_cons (ps_set (i := 2) sc_read_places.nd rfl (Or.inl rfl) pe_int)
      (pss_cons (ps_while (passes_of rfl) (pt_cmpR op_lt (pv 2) (pe_callB call_len_str (by rfl) T.n_len PySem.boot_len (pa_cons (pv 0) pa_nil)) (nomark _))
      (pss_cons (ps_if (pt_cmpR op_eq (pe_callB call_len_seq (by rfl) T.n_len PySem.boot_len (pa_cons (pv 1) pa_nil)) (pe_glob (v := .int 3) rfl (T.g_MOST_PLACES).choose_spec ⟨_, rfl⟩) (nomark _)) (pss_one (ps_raise rfl (takes_of rfl rfl rfl rfl) (pmk_own PySem.F.excBase_ValueError T.x_BadRule T.g_BadRule T.k_BadRule (raises_own T.s_BadRule T.t_BadRule) rfl))) pss_nil)
      (pss_cons (ps_asg (pe_call (E := E) (ok_read_place T) hr rfl T.g_read_place T.k_read_place T.b_read_place .nil (passes_call (takes_of rfl rfl rfl rfl) fun _ _ _ _ z => z) (pa_cons (pv 0) (pa_cons (pv 2) pa_nil))) (pg_tup (by rfl) (pgs_cons (pg_name (i := 3) sc_read_places.nd rfl (Or.inl rfl)) (pgs_cons (pg_name (i := 2) sc_read_places.nd rfl (Or.inl rfl)) pgs_nil))))
      (pss_one (ps_expr (pe_bm PySem.F.plainAttrs_list PySem.F.slot_list_append PySem.F.type_list_append mt_append (pv 1) (pa_cons (pv 3) pa_nil)))))))
      (pss_one (ps_ret (pv 1))))))), ?_⟩
    refine q_when (b := !(isStr v)) (et_not (et_B (ev_cb (ea_cons (ev_var rfl) (ea_cons ev_c ea_nil)) (rc_isStr hv)))) (fun hb H1 e1 => ?_) fun hb H1 e1 => ?_
    · refine kN (fun z hz => ?_) H1 e1
      subst hz
      cases hb
    · obtain ⟨z, rfl⟩ := isStr_eq (v := v) (by simpa using hb)
      obtain ⟨hz, hs⟩ := hv
      have hzl := len_L z
      refine q_asgL (el_lst ea_nil (by show 0 ≤ 100000; decide)) fun q H2 hq e2 h2 => q_asg ev_c fun H3 e3 => ?_
      have nq : H q = none := fresh_back e1 hq
      refine q_while (fun m σ' H' => ∃ (b : Nat) (ps : List (List Nat)) (o : Option V), σ' = [some (.str z), some (.ref q), some (.int b), o] ∧ H' q = some (.lst (ps.map fun l => V.str (TX.T l))) ∧ Ex H H' ∧
        b ≤ (L z).length ∧ ps.length ≤ 3 ∧ Upto (L z) ps ((L z).drop b) ∧ m = (L z).length - b) ((L z).length - 0) ⟨0, [], none, rfl, e3 q _ h2, (e1.trans e2).trans e3, Nat.zero_le _, by decide, Upto.start _, rfl⟩ ?_
      rintro m σ' H' ⟨b, ps, o, rfl, hq', eH, hb, hps, hu, rfl⟩
      refine ⟨decide (b < (L z).length), et_is (et_test (ev_op (ev_var rfl) (ev_cb (ea_cons (ev_var rfl) ea_nil) (rc_lenS (by omega))) rv_I0)) (by rw [decide_eq_decide]; omega), fun ht H4 e4 => ?_, fun hf H4 e4 => ?_⟩
      · have bl : b < (L z).length := by simpa using ht
        refine ⟨fun σ2 H2 => ∃ m', m' < (L z).length - b ∧ ∃ (b : Nat) (ps : List (List Nat)) (o : Option V), σ2 = [some (.str z), some (.ref q), some (.int b), o] ∧ H2 q = some (.lst (ps.map fun l => V.str (TX.T l))) ∧ Ex H H2 ∧
          b ≤ (L z).length ∧ ps.length ≤ 3 ∧ Upto (L z) ps ((L z).drop b) ∧ m' = (L z).length - b, fun _ _ h => h, ?_⟩
        have hq4 := e4 q _ hq'
        have hd : (L z).drop b = (L z)[b] :: (L z).drop (b + 1) := (List.getElem_cons_drop bl).symm
        have hc : (L z)[b]? = some (L z)[b] := List.getElem?_eq_getElem bl
        generalize (L z)[b] = c at hd hc
        rw [hd] at hu
        refine q_when (b := decide (ps.length = 3)) (et_is (et_test (ev_op (ev_cb (ea_cons (ev_var rfl) ea_nil) (rc_lenL (sq_of hq4))) ev_c rv_eqI)) (by rw [List.length_map, decide_eq_decide]; omega)) (fun h3 H5 e5 => ?_) fun h3 H5 e5 => ?_
        · refine kN (fun z' hz' => ?_) H5 ((eH.trans e4).trans e5)
          cases hz'
          exact hu.many (by have : ps.length = 3 := by simpa using h3
                            omega)
        · have h3' : ps.length < 3 := by
            have : ¬ ps.length = 3 := by simpa using h3
            omega
          have e05 := (eH.trans e4).trans e5
          refine ⟨_, rfl, _, rfl, z, b, c, rfl, hz, hs, hc, fun hn H6 e6 => ?_, fun p rest hp T0 H6 hT e6 h6 => ?_⟩
          · refine kN (fun z' hz' => ?_) H6 (e05.trans e6)
            cases hz'
            exact conds_none (hu.bad hn)
          · have hpl := place_le hp
            rw [List.length_drop] at hpl
            have hrest : rest = (L z).drop ((L z).length - rest.length) := by
              have := hpl.2
              rw [List.drop_drop] at this
              have e : b + 1 + ((L z).length - (b + 1) - rest.length) = (L z).length - rest.length := by omega
              rw [e] at this
              exact this
            refine ⟨T0, _, rfl, st_of h6, rfl, _, _, rfl, _, _, rfl, rfl, ?_⟩
            have hq6 := e6 q _ (e5 q _ hq4)
            refine s_app (l := q) hq6 (ev_var rfl) (ev_var rfl) (by rw [List.length_map]; omega) fun H7 e7 => ?_
            refine ⟨rest.length, by omega, (L z).length - rest.length, ps ++ [p], _, rfl, ?_, ?_, by omega, by rw [List.length_append, List.length_singleton]; omega, ?_, by omega⟩
            · rw [upd_same, List.map_append]
              rfl
            · exact Ex.mut ((e05.trans e6).trans e7) nq
            · rw [← hrest]
              exact hu.step hp
      · have hbl : b = (L z).length := by
          have : ¬ b < (L z).length := by simpa using hf
          omega
        subst hbl
        rw [List.drop_length] at hu
        refine s_ret (ev_var rfl) fun H5 e5 => ?_
        exact kS z ps rfl (conds_of hu.end_ (by omega)) q H5 nq (e5 q _ (e4 q _ hq')) ((eH.trans e4).trans e5)
/-! ### letters let -/
def spLet (K : PySem.W.Frag) : Sp := fun vs H Q _ => ∃ a z ps, vs = [.ref a, .str z] ∧ SqL K H a (ps.map fun l => V.str (T l)) ∧ ps.length ≤ 1000 ∧ ∀ H', Ex H H' → Q (.bl (fits ps (L z))) H'
theorem spLet_v {a : Addr} {z : Str} {ps : List (List Nat)} {H : Hp} (hS : SqL K H a (ps.map fun l => V.str (T l))) (hl : ps.length ≤ 1000) : SpV (spLet K) [.ref a, .str z] H (.bl (fits ps (L z))) :=
  fun _ e _ q _ => ⟨a, z, ps, rfl, ex_l e hS, hl, q⟩
theorem zip_map (ps : List (List Nat)) (l : List Nat) : List.zipWith (fun p c => decide (c ∈ p)) ps l = (List.range (min ps.length l.length)).map fun i => decide (l.getD i 0 ∈ ps.getD i []) := by
  apply List.ext_getElem
  · simp
  · intro i h1 h2
    simp at h1
    have h3 := Nat.lt_min.mp h1
    simp [List.getD, h3.1, h3.2]
theorem ok_are_let (T : Txt K mg A) : FnOk P w K mg base CX0 1 A.f_are_let A.d_are_let P_are_let (spLet K) := by
  refine T.F_are_let.ok sc_are_let (fun vs H Q E h => ?_) (fun cdv A' outer s H vs Q E hr h => ?_)
  · obtain ⟨a, z, ps, rfl, _⟩ := h
    rfl
  · obtain ⟨a, z, ps, rfl, hS, hl, k⟩ := h
    refine ⟨_, (pss_one (ps_ret (pe_callB (cr_all (by rfl)) (by rfl) T.n_all (by decide +kernel) (pa_cons (pe_lc (g := gTup K 2 (gCons (gName 2) (gCons (gName 3) gNil))) (own := [("let", 2), ("letter", 3)]) (by rfl) sc_are_let.nd (pi_zipS (by rfl) T.n_zip (pa_cons (pv 0) (pa_cons (pv 1) pa_nil))) (blkOk_by (own := [("let", 2), ("letter", 3)]) (N := N_are_let) (sc := defScope s_are_let) (by decide +kernel)) (fun _ _ _ _ _ => (pg_tup (by rfl) (pgs_cons (pg_name (i := 2) sc_are_let.nd rfl (Or.inl rfl)) (pgs_cons (pg_name (i := 3) sc_are_let.nd rfl (Or.inl rfl)) pgs_nil)))) (fun _ _ _ _ _ => pts_nil) (fun _ _ _ _ _ => (pe_cmpR op_in_sign (pv 3) (pv 2) (by rfl)))) pa_nil)))), ?_⟩
    refine s_ret (v := .bl (fits ps (L z))) (ev_allL (el_lcZS (fun i => V.bl (decide ((L z).getD i 0 ∈ ps.getD i []))) (a := a) (w := z) ?_ hS (by rw [List.length_map]; omega) ?_ fun i c x H2 e2 hx hc => ?_) ?_) k
    · exact ea_cons (ev_var rfl) (ea_cons (ev_var rfl) ea_nil)
    · intro _ _
      rfl
    · rw [List.getElem?_map] at hx
      have hd : (L z).getD i 0 = c := by
        show z.cps.toList.getD i 0 = c
        rw [List.getD_eq_getElem?_getD, Array.getElem?_toList, hc]
        rfl
      cases hps : ps[i]? with
      | none => rw [hps] at hx; cases hx
      | some p =>
        rw [hps] at hx
        cases hx
        have hd2 : ps.getD i [] = p := by
          rw [List.getD_eq_getElem?_getD, hps]
          rfl
        rw [hd, hd2]
        refine ev_is (ev_op (ev_var rfl) (ev_var rfl) rv_inS) ?_
        show V.bl (decide (c ∈ L (TX.T p))) = _
        rw [L_T]
    · have e : (L z).length = z.cps.size := Array.length_toList
      rw [zip_map, List.map_map, List.length_map, e]
      rfl
/-! ### a condition -/
/-- the condition's fields -/
def cFlds (q : Addr) (z : Str) : List (Str × V) := putF "told" (.str z) (putF "places" (.ref q) [])
theorem kPT : ¬ (("places" : Str) = "told") := by decide +kernel
/-- a condition at p, its places at q -/
structure CondAt (C : Addr) (H : Hp) (p : Addr) (z : Str) (ps : List (List Nat)) : Prop where
  ob : ∃ dx q, H p = some (.ins C dx (cFlds q z)) ∧ H q = some (.lst (ps.map fun l => V.str (T l)))
  rd : conds (L z) = some ps
theorem CondAt.mono {C p : Addr} {H H' : Hp} {z : Str} {ps : List (List Nat)} (c : CondAt C H p z ps) (e : Ex H H') : CondAt C H' p z ps := by
  obtain ⟨⟨dx, q, h1, h2⟩, r⟩ := c
  exact ⟨⟨dx, q, e _ _ h1, e _ _ h2⟩, r⟩
/-- the same, the places' list told -/
structure CondQ (C : Addr) (H : Hp) (p q : Addr) (z : Str) (ps : List (List Nat)) : Prop where
  ob : ∃ dx, H p = some (.ins C dx (cFlds q z))
  ls : H q = some (.lst (ps.map fun l => V.str (T l)))
  rd : conds (L z) = some ps
theorem CondQ.at {C p q : Addr} {H : Hp} {z : Str} {ps : List (List Nat)} (c : CondQ C H p q z ps) : CondAt C H p z ps := by
  obtain ⟨⟨dx, h1⟩, h2, r⟩ := c
  exact ⟨⟨dx, q, h1, h2⟩, r⟩
theorem CondQ.mono {C p q : Addr} {H H' : Hp} {z : Str} {ps : List (List Nat)} (c : CondQ C H p q z ps) (e : Ex H H') : CondQ C H' p q z ps := by
  obtain ⟨⟨dx, h1⟩, h2, r⟩ := c
  exact ⟨⟨dx, e _ _ h1⟩, e _ _ h2, r⟩
theorem CondQ.upd {C p q y : Addr} {o : HO} {H : Hp} {z : Str} {ps : List (List Nat)} (c : CondQ C H p q z ps) (h1 : p ≠ y) (h2 : q ≠ y) : CondQ C (upd H y o) p q z ps := by
  obtain ⟨⟨dx, g1⟩, g2, r⟩ := c
  exact ⟨⟨dx, by rw [upd_ne h1]; exact g1⟩, by rw [upd_ne h2]; exact g2, r⟩
theorem conds_len {l : List Nat} {ps : List (List Nat)} (h : conds l = some ps) : ps.length < 4 := by
  unfold conds at h
  cases hr : rdAll l with
  | none => rw [hr] at h; cases h
  | some x =>
    rw [hr] at h
    have h' : (if x.length < 4 then some x else none) = some ps := h
    split at h'
    · cases h'
      assumption
    · cases h'
theorem CondAt.len {C p : Addr} {H : Hp} {z : Str} {ps : List (List Nat)} (c : CondAt C H p z ps) : ps.length < 4 := conds_len c.rd
/-- Condition(told): the new object stands at x, bare -/
def spCInit (A : Ad) : Sp := fun vs H Q E => ∃ x dx v, vs = [.ref x, v] ∧ H x = some (.ins A.c_Condition dx []) ∧ Thing H v ∧
  (∀ z ps, v = .str z → conds (L z) = some ps → ∀ H' q, H q = none → CondQ A.c_Condition H' x q z ps → (∀ b o, b ≠ x → H b = some o → H' b = some o) → Q .non H') ∧
  ((∀ z, v = .str z → conds (L z) = none) → ∀ H', Ex H H' → E (.ref A.c_BadRule) none H')
theorem ok_Condition_init (T : Txt K mg A) : FnOk P w K mg base (L2.CX P w) 6 A.f_Condition_init A.d_Condition_init P_Condition_init (spCInit A) := by
  refine T.F_Condition_init.okX sc_Condition_init (fun vs H Q E h => ?_) (fun cdv A' outer s H vs Q E hr h => ?_)
  · obtain ⟨x, dx, v, rfl, _⟩ := h
    rfl
  · obtain ⟨x, dx, v, rfl, hx, hv, kS, kN⟩ := h
    refine ⟨_, (pss_cons (ps_fld (pv 0) (pe_call (E := E) (ok_read_places T) hr rfl T.g_read_places T.k_read_places T.b_read_places .nil (passes_call (takes_of rfl rfl rfl rfl) fun _ _ _ _ z => z) (pa_cons (pv 1) pa_nil)) rfl)
      (pss_one (ps_fld (pv 0) (pv 1) rfl))), ?_⟩
    refine ⟨_, rfl, v, rfl, hv, fun z ps hz hc p H' hp h' e => ?_, fun hn H' e => kN hn H' e⟩
    subst hz
    have hx' := e _ _ hx
    have npx : p ≠ x := fun q => by rw [q, hx] at hp; cases hp
    refine ⟨_, rfl, x, A.c_Condition, dx, [], rfl, hx', T.cl_Condition, T.na_Condition_places, (by show 0 < 1000; decide), ?_⟩
    refine ⟨_, rfl, _, rfl, x, A.c_Condition, dx, _, rfl, upd_same, T.cl_Condition, T.na_Condition_told, (by show 1 < 1000; decide), ?_⟩
    refine kS z ps rfl hc _ p hp ⟨⟨dx, upd_same⟩, by rw [upd_ne npx, upd_ne npx]; exact h', hc⟩ fun b o hb hh => ?_
    rw [upd_ne hb, upd_ne hb]
    exact e b o hh
def pFit (A : Ad) (vs : List V) (H : Hp) (f : List (List Nat) → List Nat → Bool) (Q : VK) : Prop := ∃ p z ps w, vs = [.ref p, .str w] ∧ CondAt A.c_Condition H p z ps ∧ w.length ≤ 1000 ∧ ∀ H', Ex H H' → Q (.bl (f ps (L w))) H'
def spEnds (A : Ad) : Sp := fun vs H Q _ => pFit A vs H fitE Q
def spBegins (A : Ad) : Sp := fun vs H Q _ => pFit A vs H fitB Q
theorem told_places {z : Str} {q : Addr} : (cFlds q z).lookup ("places" : Str) = some (.ref q) := by
  unfold cFlds
  rw [lookup_putF, if_neg kPT, lookup_putF, if_pos rfl]
theorem told_told {z : Str} {q : Addr} : (cFlds q z).lookup ("told" : Str) = some (.str z) := by
  unfold cFlds
  rw [lookup_putF, if_pos rfl]
/-- o.f -/
theorem ev_fld {σ : L2.St} {H : Hp} {ta : TE} {a C dx : Addr} {fs : List (Str × V)} {f : Str} {v : V} (h : Ev ta σ H (.ref a)) (ho : H a = some (.ins C dx fs)) (hc : Cls K C) (hn : NoAttr K C f) (hl : fs.lookup f = some v) : Ev (tFld K ta f) σ H v :=
  fun H1 e Q q => h H1 e _ fun H2 e2 => ⟨a, C, dx, fs, v, rfl, e2 _ _ (e _ _ ho), hc, hn, hl, q H2 e2⟩
theorem cut_end (z : Str) (a : Nat) (h : a ≤ (L z).length) : cutS z (some (a : Int)) none = T ((L z).drop a) := by
  unfold cutS
  have h1 : HT.sIx z.length 0 (some (a : Int)) = a := by rw [HT.sIx_nat, len_L]; omega
  have h2 : HT.sIx z.length z.length none = z.length := rfl
  rw [h1, h2, len_L]
  congr 1
  have h3 : (L z).length = z.cps.toList.length := rfl
  rw [List.take_of_length_le (by rw [List.length_drop]; omega)]
theorem cut_begin (z : Str) (b : Nat) (hb : b ≤ (L z).length) : cutS z none (some (b : Int)) = T ((L z).take b) := by
  have := cut_from z 0 b (Nat.zero_le _) hb
  unfold cutS at *
  have h1 : HT.sIx z.length 0 (some ((0 : Nat) : Int)) = 0 := by rw [HT.sIx_nat]; omega
  have h2 : HT.sIx z.length 0 none = 0 := rfl
  rw [h1] at this
  rw [h2, this, Nat.sub_zero]
  rfl
theorem ok_Condition_ends (T : Txt K mg A) : FnOk P w K mg base CX0 2 A.f_Condition_ends A.d_Condition_ends P_Condition_ends (spEnds A) := by
  refine T.F_Condition_ends.ok sc_Condition_ends (fun vs H Q E h => ?_) (fun cdv A' outer s H vs Q E hr h => ?_)
  · obtain ⟨p, z, ps, w, rfl, _⟩ := h
    rfl
  · obtain ⟨p, z, ps, w, rfl, c, hw, k⟩ := h
    refine ⟨_, (pss_cons (ps_set (i := 2) sc_Condition_ends.nd rfl (Or.inl rfl) (pe_op op_sub (pe_callB call_len_str (by rfl) T.n_len PySem.boot_len (pa_cons (pv 1) pa_nil)) (pe_callB call_len_seq (by rfl) T.n_len PySem.boot_len (pa_cons (pe_fld (pv 0) rfl) pa_nil))))
      (pss_one (ps_ret (pe_and (pe_cmpR op_ge (pv 2) pe_int (nomark _)) (pe_one (pe_call (ok_are_let T) hr rfl T.g_are_let T.k_are_let T.b_are_let .nil pass0 (pa_cons (pe_fld (pv 0) rfl) (pa_cons (pe_slice sl_str (pv 1) (po_some (pv 2)) po_none) pa_nil)))))))), ?_⟩
    have hl := c.len
    obtain ⟨⟨dx, q, h1, h2⟩, _⟩ := c
    have hwl := len_L w
    refine q_asg (v := .int ((w.length : Int) - (ps.length : Int))) (ev_is (ev_op (ev_cb (ea_cons (ev_var rfl) ea_nil) (rc_lenS (by omega))) (ev_cb (ea_cons (ev_fld (ev_var rfl) h1 T.cl_Condition T.na_Condition_places told_places) ea_nil) (rc_lenL (sq_of h2))) rv_I0) (by rw [List.length_map])) fun H1 e1 => ?_
    refine s_ret (v := .bl (fitE ps (L w))) (ev_andV (a := decide (ps.length ≤ (L w).length)) (b := fits ps ((L w).drop ((L w).length - ps.length))) (ev_is (ev_op (ev_var rfl) ev_c rv_I0) (by apply congrArg V.bl; rw [decide_eq_decide]; omega)) fun ht => ?_) fun H2 e2 => k H2 (e1.trans e2)
    have hle : ps.length ≤ (L w).length := by simpa using ht
    have e1' : ((w.length : Int) - (ps.length : Int)) = (((L w).length - ps.length : Nat) : Int) := by omega
    refine ev_is (ev_call (ea_cons (ev_fld (ev_var rfl) (e1 _ _ h1) T.cl_Condition T.na_Condition_places told_places) (ea_cons (ev_slS (ev_var rfl) (eo_some (ev_var rfl)) eo_none (by omega)) ea_nil)) (spLet_v (sq_of (e1 _ _ h2)) (by omega))) ?_
    rw [e1', cut_end w _ (by omega), L_T]
theorem ok_Condition_begins (T : Txt K mg A) : FnOk P w K mg base CX0 2 A.f_Condition_begins A.d_Condition_begins P_Condition_begins (spBegins A) := by
  refine T.F_Condition_begins.ok sc_Condition_begins (fun vs H Q E h => ?_) (fun cdv A' outer s H vs Q E hr h => ?_)
  · obtain ⟨p, z, ps, w, rfl, _⟩ := h
    rfl
  · obtain ⟨p, z, ps, w, rfl, c, hw, k⟩ := h
    refine ⟨_, (pss_cons (ps_set (i := 2) sc_Condition_begins.nd rfl (Or.inl rfl) (pe_callB call_len_seq (by rfl) T.n_len PySem.boot_len (pa_cons (pe_fld (pv 0) rfl) pa_nil)))
      (pss_one (ps_ret (pe_and (pe_cmpR op_ge (pe_callB call_len_str (by rfl) T.n_len PySem.boot_len (pa_cons (pv 1) pa_nil)) (pv 2) (nomark _)) (pe_one (pe_call (ok_are_let T) hr rfl T.g_are_let T.k_are_let T.b_are_let .nil pass0 (pa_cons (pe_fld (pv 0) rfl) (pa_cons (pe_slice sl_str (pv 1) po_none (po_some (pv 2))) pa_nil)))))))), ?_⟩
    have hl := c.len
    obtain ⟨⟨dx, q, h1, h2⟩, _⟩ := c
    have hwl := len_L w
    refine q_asg (v := .int (ps.length : Int)) (ev_is (ev_cb (ea_cons (ev_fld (ev_var rfl) h1 T.cl_Condition T.na_Condition_places told_places) ea_nil) (rc_lenL (sq_of h2))) (by rw [List.length_map])) fun H1 e1 => ?_
    refine s_ret (v := .bl (fitB ps (L w))) (ev_andV (a := decide (ps.length ≤ (L w).length)) (b := fits ps ((L w).take ps.length)) (ev_is (ev_op (ev_cb (ea_cons (ev_var rfl) ea_nil) (rc_lenS (by omega))) (ev_var rfl) rv_I0) (by apply congrArg V.bl; rw [decide_eq_decide]; omega)) fun ht => ?_) fun H2 e2 => k H2 (e1.trans e2)
    have hle : ps.length ≤ (L w).length := by simpa using ht
    refine ev_is (ev_call (ea_cons (ev_fld (ev_var rfl) (e1 _ _ h1) T.cl_Condition T.na_Condition_places told_places) (ea_cons (ev_slS (ev_var rfl) eo_none (eo_some (ev_var rfl)) (by omega)) ea_nil)) (spLet_v (sq_of (e1 _ _ h2)) (by omega))) ?_
    rw [cut_begin w _ hle, L_T]

/-! ### the law's letters -/
def Few (w : Str) : Prop := signs w ∧ 1 ≤ w.length ∧ w.length ≤ 26
theorem few_ab : Few "ab" := by unfold Few signs; decide +kernel
theorem few_aeist : Few "aeist" := by unfold Few signs; decide +kernel
theorem few_alph : Few alph := by unfold Few signs; decide +kernel
theorem few_at {i : Int} (h0 : 0 ≤ i) (h1 : i < 3) : ∃ w, atI [V.str "ab", V.str "aeist", V.str alph] i = some (.str w) ∧ Few w := by
  obtain ⟨v, hv, hm⟩ := at_mem (xs := [V.str "ab", V.str "aeist", V.str alph]) h0 (by show i < 3; exact h1)
  simp only [List.mem_cons, List.not_mem_nil, or_false] at hm
  rcases hm with rfl | rfl | rfl
  · exact ⟨_, hv, few_ab⟩
  · exact ⟨_, hv, few_aeist⟩
  · exact ⟨_, hv, few_alph⟩
def spLetters (K : PySem.W.Frag) : Sp := fun vs H Q _ => ∃ (a : Addr) (ns : List Int) (at_ size : Int), vs = [.ref a, .int at_, .int size] ∧ SqL K H a (ns.map V.int) ∧ 0 ≤ at_ ∧ at_ ≤ 100000 ∧ 0 ≤ size ∧ size ≤ 100 ∧
  ∀ z H', (z.length : Int) = size → signs z → Ex H H' → Q (.str z) H'
theorem ok_l_letters (T : Txt K mg A) : FnOk P w K mg base CX0 3 A.f_l_letters A.d_l_letters P_l_letters (spLetters K) := by
  refine T.F_l_letters.ok sc_l_letters (fun vs H Q E h => ?_) (fun cdv A' outer s H vs Q E hr h => ?_)
  · obtain ⟨a, ns, at_, size, rfl, _⟩ := h
    rfl
  · obtain ⟨a, ns, at_, size, rfl, hS, h0, h1, h2, h3, k⟩ := h
    refine ⟨_, (pss_cons (ps_set (i := 3) sc_l_letters.nd rfl (Or.inr rfl) (pe_ix ix_list (pe_lst (pa_cons pe_str (pa_cons pe_str (pa_cons pe_str pa_nil)))) (pe_op op_mod (pe_call (ok_l_number T) hr rfl T.g_l_number T.k_l_number T.b_l_number .nil pass0 (pa_cons (pv 0) (pa_cons (pv 1) pa_nil))) pe_int) (fun _ _ => rfl)))
      (pss_one (ps_ret (pe_join pe_str (pe_lc (own := [("_law_k", 4)]) (by rfl) sc_l_letters.nd (pi_range1 rfl T.n_range (pa_cons (pv 2) pa_nil)) (blkOk_by (own := [("_law_k", 4)]) (N := N_l_letters) (sc := defScope s_l_letters) (by decide +kernel)) (fun _ _ _ _ _ => (pg_name (i := 4) sc_l_letters.nd rfl (Or.inl rfl))) (fun _ _ _ _ _ => pts_nil) (fun _ _ _ _ _ => (pe_ix ix_str (pv 3) (pe_op op_mod (pe_op op_fdiv (pe_call (ok_l_number T) hr rfl T.g_l_number T.k_l_number T.b_l_number .nil pass0 (pa_cons (pv 0) (pa_cons (pe_op op_add (pe_op op_add (pv 1) pe_int) (pv 4)) pa_nil))) pe_int) (pe_callB call_len_str (by rfl) T.n_len PySem.boot_len (pa_cons (pv 3) pa_nil))) (fun _ _ => rfl)))))))), ?_⟩
    have nb : ∀ j, 0 ≤ num ns j ∧ num ns j < 536870908 := fun j => mix_bd _ _
    obtain ⟨w, hw, ws, wl, wu⟩ := few_at (i := num ns at_ % 3) (Int.emod_nonneg _ (by decide)) (Int.emod_lt_of_pos _ (by decide))
    have hwl : w.length = w.cps.toList.length := len_L w
    refine q_asg (v := .str w) (ev_opL1 (el_lst (ea_cons ev_c (ea_cons ev_c (ea_cons ev_c ea_nil))) (by show 3 ≤ 100000; decide)) (fun H2 e2 => ev_op (ev_call (ea_cons (ev_var rfl) (ea_cons (ev_var rfl) ea_nil)) (spNum_v (ex_l e2 hS) h0 (by omega))) ev_c (rv_I (by show (0 : Int) < _; decide)))
      (fun p H2 hp e2 => rv_ixL (sq_of hp) hw)) fun H1 e1 => ?_
    refine s_ret (v := .str (drawnW w size.toNat fun i => num ns (at_ + 1 + i) / 3 % w.length)) (ev_joinL ev_c (el_lcR1 (fun _ => true) (fun i => .str (sgn w (num ns (at_ + 1 + i) / 3 % w.length))) (ea_cons (ev_var rfl) ea_nil) ⟨by omega, by omega⟩ (fun _ => rfl)
      (fun i H3 e3 hi => et_yes)
      (fun i H3 e3 hi _ => ev_sgn (ev_var rfl) (ev_op (ev_op (ev_call (ea_cons (ev_var rfl) (ea_cons (ev_op (ev_op (ev_var rfl) ev_c rv_I0) (ev_var rfl) rv_I0) ea_nil)) (spNum_v (ex_l (e1.trans e3) hS) (by omega) (by omega))) ev_c (rv_I ⟨by decide, by decide⟩))
          (ev_cb (ea_cons (ev_var rfl) ea_nil) (rc_lenS (by omega))) (rv_I (by show (0 : Int) < _; omega)))
        (by omega) (Int.emod_nonneg _ (by omega)) (by rw [← hwl]; exact Int.emod_lt_of_pos _ (by omega))))
      (by rw [given_all, List.map_map]; rfl) (by rw [sum_onesW]; omega)) fun H2 e2 => ?_
    exact k _ H2 (by rw [drawnW_len]; omega) (drawnW_signs ws _ _) (e1.trans e2)
/-! ### the law's condition -/
def Pl (H : Hp) (x : V) : Prop := ∃ T0 t l, x = .ref T0 ∧ H T0 = some (.tup [.str t, .str l]) ∧ t.length ≤ 12 ∧ signs t ∧ 1 ≤ l.length ∧ l.length ≤ 26 ∧ signs l
theorem Pl.mono {H H' : Hp} {x : V} (h : Pl H x) (e : Ex H H') : Pl H' x := by
  obtain ⟨T0, t, l, rfl, h1, r⟩ := h
  exact ⟨T0, t, l, rfl, e _ _ h1, r⟩
theorem Pl.mut {H : Hp} {x : V} {f : Addr} {xs : List V} {o : HO} (h : Pl H x) (hf : H f = some (.lst xs)) : Pl (upd H f o) x := by
  obtain ⟨T0, t, l, rfl, h1, r⟩ := h
  refine ⟨T0, t, l, rfl, ?_, r⟩
  rw [upd_ne (ne_of h1 hf (fun z => by cases z))]
  exact h1
theorem sub_len {α : Type} [DecidableEq α] : ∀ (l m : List α), l.Nodup → (∀ x ∈ l, x ∈ m) → l.length ≤ m.length
  | [], _, _, _ => Nat.zero_le _
  | a :: l, m, hn, hs => by
    rw [List.nodup_cons] at hn
    have h1 := sub_len l (m.erase a) hn.2 fun x hx => by
      have hne : x ≠ a := fun e => hn.1 (e ▸ hx)
      exact (List.mem_erase_of_ne hne).mpr (hs x (List.mem_cons_of_mem _ hx))
    have h2 := List.length_erase_of_mem (hs a List.mem_cons_self)
    have h3 := List.length_pos_of_mem (hs a List.mem_cons_self)
    rw [List.length_cons]
    omega
theorem inV_strs {x : Str} {ys : List Str} : inV (.str x) (ys.map V.str) = decide (x ∈ ys) := by
  unfold inV
  rw [List.any_map, Bool.eq_iff_iff, List.any_eq_true, decide_eq_true_eq]
  constructor
  · rintro ⟨y, hy, e⟩
    have : (y == x) = true := e
    exact (eq_of_beq this) ▸ hy
  · intro h
    exact ⟨x, h, by show (x == x) = true; exact beq_self_eq_true x⟩
theorem flat_strs (ys : List Str) : (ys.map V.str).all flatV = true := by
  rw [List.all_map, List.all_eq_true]
  intro _ _
  rfl
theorem dedup_ok {Pp : Str → Prop} {ws : List Str} (h : 1 ≤ ws.length) (hw : ∀ y ∈ ws, Pp y) :
    ∃ ys : List Str, given ws.length (fun i => !inV (.str (ws.getD i "")) (cutV (ws.map V.str) none (some (i : Int)))) (fun i => .str (ws.getD i "")) = ys.map V.str ∧ 1 ≤ ys.length ∧ ys.length ≤ ws.length ∧ ∀ y ∈ ys, Pp y := by
  refine ⟨((List.range ws.length).filter fun i => !inV (.str (ws.getD i "")) (cutV (ws.map V.str) none (some (i : Int)))).map fun i => ws.getD i "", ?_, ?_, ?_, ?_⟩
  · unfold given
    rw [List.map_map]
    rfl
  · rw [List.length_map]
    refine List.length_pos_of_mem (a := 0) (List.mem_filter.mpr ⟨List.mem_range.mpr h, ?_⟩)
    have : cutV (ws.map V.str) none (some ((0 : Nat) : Int)) = [] := by
      unfold cutV
      rw [HT.sIx_nat]
      simp
    rw [this]
    rfl
  · rw [List.length_map]
    have := List.length_filter_le (fun i : Nat => !inV (.str (ws.getD i "")) (cutV (ws.map V.str) none (some (i : Int)))) (List.range ws.length)
    rw [List.length_range] at this
    exact this
  · intro y hy
    obtain ⟨i, hi, rfl⟩ := List.mem_map.mp hy
    have hi' := List.mem_range.mp (List.mem_filter.mp hi).1
    have e : ws.getD i "" = ws[i] := by rw [List.getD_eq_getElem?_getD, List.getElem?_eq_getElem hi']; rfl
    rw [e]
    exact hw _ (List.getElem_mem hi')
abbrev w31 : Str := "aeist" ++ alph
theorem w31_len : w31.length = 31 := by decide +kernel
theorem w31_list : w31.cps.toList.length = 31 := by decide +kernel
theorem w31_signs : signs w31 := by unfold signs; decide +kernel
theorem ones_len {ys : List Str} (h : ∀ y ∈ ys, y.length = 1 ∧ signs y) : (ys.map (·.length)).sum = ys.length := by
  induction ys with
  | nil => rfl
  | cons y r ih =>
    rw [List.map_cons, List.sum_cons, ih fun z hz => h z (List.mem_cons_of_mem _ hz), (h y List.mem_cons_self).1, List.length_cons]
    omega
def spCond (K : PySem.W.Frag) : Sp := fun vs H Q _ => ∃ (a : Addr) (ns : List Int) (at_ : Int), vs = [.ref a, .int at_] ∧ SqL K H a (ns.map V.int) ∧ 0 ≤ at_ ∧ at_ ≤ 100000 ∧
  ∀ p xs H', H' p = some (.lst xs) → xs.length ≤ 3 → (∀ x ∈ xs, Pl H' x) → Ex H H' → Q (.ref p) H'
theorem alph_nodup : alphL.Nodup := by
  show alph.cps.toList.Nodup
  rw [letters_cps]
  decide
theorem ok_l_condition (T : Txt K mg A) : FnOk P w K mg base CX0 3 A.f_l_condition A.d_l_condition P_l_condition (spCond K) := by
  refine T.F_l_condition.ok sc_l_condition (fun vs H Q E h => ?_) (fun cdv A' outer s H vs Q E hr h => ?_)
  · obtain ⟨a, ns, at_, rfl, _⟩ := h
    rfl
  · obtain ⟨a, ns, at_, rfl, hS, h0, h1, kk⟩ := h
    refine ⟨_, (pss_cons (ps_set (i := 2) sc_l_condition.nd rfl (Or.inl rfl) pe_str)
      (pss_cons (ps_set (i := 3) sc_l_condition.nd rfl (Or.inl rfl) (pe_lst pa_nil))
      (pss_cons (ps_for PassesOwn.never rfl (pi_range1 rfl T.n_range (pa_cons (pe_op op_mod (pe_call (ok_l_number T) hr rfl T.g_l_number T.k_l_number T.b_l_number .nil pass0 (pa_cons (pv 0) (pa_cons (pv 1) pa_nil))) pe_int) pa_nil)) (pg_name (i := 4) sc_l_condition.nd rfl (Or.inl rfl))
      (pss_cons (ps_set (i := 5) sc_l_condition.nd rfl (Or.inr rfl) (pe_call (ok_l_number T) hr rfl T.g_l_number T.k_l_number T.b_l_number .nil pass0 (pa_cons (pv 0) (pa_cons (pe_op op_add (pe_op op_add (pv 1) pe_int) (pv 4)) pa_nil))))
      (pss_cons (ps_set (i := 6) sc_l_condition.nd rfl (Or.inr rfl) (pe_op op_add_str pe_str (pv 2)))
      (pss_cons (ps_set (i := 7) sc_l_condition.nd rfl (Or.inr rfl) (pe_lc (own := [("_law_j", 9)]) (by rfl) sc_l_condition.nd (pi_range1 rfl T.n_range (pa_cons (pe_op op_add pe_int (pe_op op_mod (pe_op op_fdiv (pv 5) pe_int) pe_int)) pa_nil)) (blkOk_by (own := [("_law_j", 9)]) (N := N_l_condition) (sc := defScope s_l_condition) (by decide +kernel)) (fun _ _ _ _ _ => (pg_name (i := 9) sc_l_condition.nd rfl (Or.inl rfl))) (fun _ _ _ _ _ => pts_nil) (fun _ _ _ _ _ => (pe_ix ix_str (pv 6) (pe_op op_mod (pe_op op_add (pe_op op_fdiv (pv 5) pe_int) (pe_op op_mul (pv 9) (pe_op op_add pe_int (pe_op op_mod (pe_op op_fdiv (pv 5) pe_int) pe_int)))) pe_int) (fun _ _ => rfl)))))
      (pss_cons (ps_set (i := 7) sc_l_condition.nd rfl (Or.inr rfl) (pe_lc (g := gTup K 2 (gCons (gName 9) (gCons (gName 10) gNil))) (own := [("_law_j", 9), ("_law_sign", 10)]) (by rfl) sc_l_condition.nd (pi_enum (by rfl) T.n_enumerate (pa_cons (pv 7) pa_nil)) (blkOk_by (own := [("_law_j", 9), ("_law_sign", 10)]) (N := N_l_condition) (sc := defScope s_l_condition) (by decide +kernel)) (fun _ _ _ _ _ => (pg_tup (by rfl) (pgs_cons (pg_name (i := 9) sc_l_condition.nd rfl (Or.inl rfl)) (pgs_cons (pg_name (i := 10) sc_l_condition.nd rfl (Or.inl rfl)) pgs_nil)))) (fun _ _ _ _ _ => pts_one (pt_cmpR (op_notIn_seqK (K := K) rfl) (pv 10) (pe_slice (sl_listK (K := K) rfl) (pv 7) po_none (po_some (pv 9))) (by rfl))) (fun _ _ _ _ _ => (pv 10))))
      (pss_cons (ps_set (i := 8) sc_l_condition.nd rfl (Or.inl rfl) (pe_join pe_str (pv 7)))
      (pss_one (ps_if (pt_cmpR op_eq (pe_op op_mod (pv 5) pe_int) pe_int (nomark _)) (pss_one (ps_expr (pe_bm PySem.F.plainAttrs_list PySem.F.slot_list_append PySem.F.type_list_append mt_append (pv 3) (pa_cons (pe_tup (pa_cons (pe_ix ix_list (pv 7) pe_int (fun _ _ => rfl)) (pa_cons (pe_ix ix_list (pv 7) pe_int (fun _ _ => rfl)) pa_nil))) pa_nil)))) (pss_one (ps_if (pt_cmpR op_eq (pe_op op_mod (pv 5) pe_int) pe_int (nomark _)) (pss_one (ps_expr (pe_bm PySem.F.plainAttrs_list PySem.F.slot_list_append PySem.F.type_list_append mt_append (pv 3) (pa_cons (pe_tup (pa_cons pe_str (pa_cons (pv 2) pa_nil))) pa_nil)))) (pss_one (ps_if (pt_cmpR op_eq (pe_op op_mod (pv 5) pe_int) pe_int (nomark _)) (pss_one (ps_expr (pe_bm PySem.F.plainAttrs_list PySem.F.slot_list_append PySem.F.type_list_append mt_append (pv 3) (pa_cons (pe_tup (pa_cons (pe_op op_add_str (pe_op op_add_str pe_str (pv 8)) pe_str) (pa_cons (pv 8) pa_nil))) pa_nil)))) (pss_one (ps_expr (pe_bm PySem.F.plainAttrs_list PySem.F.slot_list_append PySem.F.type_list_append mt_append (pv 3) (pa_cons (pe_tup (pa_cons (pe_op op_add_str (pe_op op_add_str pe_str (pv 8)) pe_str) (pa_cons (pe_join pe_str (pe_lc (own := [("_law_sign", 10)]) (by rfl) sc_l_condition.nd (pi_str (pv 2)) (blkOk_by (own := [("_law_sign", 10)]) (N := N_l_condition) (sc := defScope s_l_condition) (by decide +kernel)) (fun _ _ _ _ _ => (pg_name (i := 10) sc_l_condition.nd rfl (Or.inl rfl))) (fun _ _ _ _ _ => pts_one (pt_cmpR (op_notIn_seqK (K := K) rfl) (pv 10) (pv 7) (by rfl))) (fun _ _ _ _ _ => (pv 10)))) pa_nil))) pa_nil))))))))))))))))
      (pss_one (ps_ret (pv 3)))))), ?_⟩
    refine q_asg (v := .str alph) ev_c fun H1 e1 => q_asgL (el_lst ea_nil (by show 0 ≤ 100000; decide)) fun f H2 hf e2 h2 => ?_
    have nf : H f = none := fresh_back e1 hf
    have m0 : 0 ≤ num ns at_ % 4 := Int.emod_nonneg _ (by decide)
    have m1 : num ns at_ % 4 < 4 := Int.emod_lt_of_pos _ (by decide)
    refine q_forR1 (n := num ns at_ % 4) (ea_cons (ev_op (ev_call (ea_cons (ev_var rfl) (ea_cons (ev_var rfl) ea_nil)) (spNum_v (ex_l (e1.trans e2) hS) h0 (by omega))) ev_c (rv_I (by show (0 : Int) < _; decide))) ea_nil) ⟨m0, by omega⟩
      (fun i σ' H' => ∃ xs v4 v5 v6 v7 v8 v9 v10, σ' = [some (.ref a), some (.int at_), some (.str alph), some (.ref f), v4, v5, v6, v7, v8, v9, v10] ∧ Ex H H' ∧ H' f = some (.lst xs) ∧ xs.length ≤ i ∧ ∀ x ∈ xs, Pl H' x)
      (fun H3 e3 => ⟨[], none, none, none, none, none, none, none, rfl, (e1.trans e2).trans e3, e3 _ _ h2, Nat.le_refl _, fun _ h => nomatch h⟩) ?_ ?_
    · rintro i σ' H' hi ⟨xs, v4, v5, v6, v7, v8, v9, v10, rfl, eH, hfx, hxl, hxp⟩
      have cb : 0 ≤ num ns (at_ + 1 + i) := (mix_bd _ _).1
      generalize hcc : num ns (at_ + 1 + i) = c at cb
      have s0 : 0 ≤ 1 + c / 1000 % 8 := by omega
      have s1 : 1 + c / 1000 % 8 ≤ 8 := by omega
      have nm : ∀ {H1 : Hp}, Ex H' H1 → SpV (spNum K) [.ref a, .int (at_ + 1 + i)] H1 (.int c) := fun e => hcc ▸ spNum_v (ex_l (eH.trans e) hS) (by omega) (by omega)
      refine q_asg (v := .int c) (ev_call (ea_cons (ev_var rfl) (ea_cons (ev_op (ev_op (ev_var rfl) ev_c rv_I0) (ev_var rfl) rv_I0) ea_nil)) (nm (Ex.refl _))) fun H3 e3 => ?_
      refine q_asg (v := .str w31) (ev_op ev_c (ev_var rfl) (rv_addS (by decide +kernel))) fun H4 e4 => ?_
      refine q_asgL (xs := ((List.range (1 + c / 1000 % 8).toNat).map fun (j : Nat) => sgn w31 ((c / 8 + (j : Int) * (1 + c / 300 % 3)) % 31)).map V.str) (el_is (el_lcR1 (fun _ => true) (fun j => .str (sgn w31 ((c / 8 + (j : Int) * (1 + c / 300 % 3)) % 31))) (ea_cons (ev_op ev_c (ev_op (ev_op (ev_var rfl) ev_c (rv_I ⟨by decide, by decide⟩)) ev_c (rv_I (by show (0 : Int) < _; decide))) rv_I0) ea_nil) ⟨by omega, by omega⟩ (fun _ => rfl)
        (fun j H5 e5 hj => et_yes)
        (fun j H5 e5 hj _ => ev_sgn (ev_var rfl) (ev_op (ev_op (ev_op (ev_var rfl) ev_c (rv_I ⟨by decide, by decide⟩)) (ev_op (ev_var rfl) (ev_op ev_c (ev_op (ev_op (ev_var rfl) ev_c (rv_I ⟨by decide, by decide⟩)) ev_c (rv_I (by show (0 : Int) < _; decide))) rv_I0) (rv_I (.inl ⟨by omega, by omega⟩))) rv_I0) ev_c (rv_I (by show (0 : Int) < _; decide)))
          (by rw [w31_len]; decide) (Int.emod_nonneg _ (by decide)) (by rw [w31_list]; exact Int.emod_lt_of_pos _ (by decide)))) (by rw [given_all, List.map_map]; rfl)) fun p1 H5 _ e5 h5 => ?_
      have wl : ((List.range (1 + c / 1000 % 8).toNat).map fun (j : Nat) => sgn w31 ((c / 8 + (j : Int) * (1 + c / 300 % 3)) % 31)).length = (1 + c / 1000 % 8).toNat := by rw [List.length_map, List.length_range]
      have wo : ∀ y ∈ ((List.range (1 + c / 1000 % 8).toNat).map fun (j : Nat) => sgn w31 ((c / 8 + (j : Int) * (1 + c / 300 % 3)) % 31)), y.length = 1 ∧ signs y := by
        intro y hy
        obtain ⟨j, _, rfl⟩ := List.mem_map.mp hy
        exact ⟨rfl, sgn_signs w31_signs _⟩
      generalize ((List.range (1 + c / 1000 % 8).toNat).map fun (j : Nat) => sgn w31 ((c / 8 + (j : Int) * (1 + c / 300 % 3)) % 31)) = ws at h5 wl wo
      obtain ⟨ys, hys, y1, y2, yo⟩ := dedup_ok (Pp := fun y => y.length = 1 ∧ signs y) (ws := ws) (by omega) wo
      refine q_asgL (xs := ys.map V.str) (el_is (el_lcE (xs := ws.map V.str) (fun j => !inV (.str (ws.getD j "")) (cutV (ws.map V.str) none (some (j : Int)))) (fun j => .str (ws.getD j "")) (ea_cons (ev_var rfl) ea_nil) (sq_of h5) (by rw [List.length_map]; omega) (fun _ _ => rfl)
        (fun j x H6 e6 hx => ?_) (fun j x H6 e6 hx _ => ?_)) (by rw [List.length_map]; exact hys)) fun p2 H6 _ e6 h6 => ?_
      · have hx2 : x = .str (ws.getD j "") := by
          rw [List.getElem?_map] at hx
          cases hw : ws[j]? with
          | none => rw [hw] at hx; cases hx
          | some y => rw [hw] at hx; cases hx; rw [List.getD_eq_getElem?_getD, hw]; rfl
        subst hx2
        refine et_test (ev_opL (ev_var rfl) (el_sl (ev_var rfl) eo_none (eo_some (ev_var rfl)) (sq_of (e6 _ _ h5))) fun p H7 hp e7 => rv_niL (sq_of hp) rfl ?_)
        rw [List.all_eq_true]
        intro v hv
        have hv2 : v ∈ ws.map V.str := by
          unfold cutV at hv
          exact List.mem_of_mem_drop (List.mem_of_mem_take hv)
        obtain ⟨y, _, rfl⟩ := List.mem_map.mp hv2
        rfl
      · have hx2 : x = .str (ws.getD j "") := by
          rw [List.getElem?_map] at hx
          cases hw : ws[j]? with
          | none => rw [hw] at hx; cases hx
          | some y => rw [hw] at hx; cases hx; rw [List.getD_eq_getElem?_getD, hw]; rfl
        subst hx2
        exact ev_var rfl
      have yl := ones_len yo
      refine q_asg (v := .str (Txt.join "" ys)) (ev_joinV ev_c (ev_var rfl) (sq_of h6) (by rw [emp_len, Nat.mul_zero, Nat.add_zero, yl]; omega)) fun H7 e7 => ?_
      have jl : (Txt.join "" ys).length = ys.length := by rw [join_len, yl]
      have js : signs (Txt.join "" ys) := join_signs fun y hy => (yo y hy).2
      generalize Txt.join "" ys = word at jl js
      have e37 := (((e3.trans e4).trans e5).trans e6).trans e7
      have hf7 := e37 _ _ hfx
      have h67 := e7 _ _ h6
      have fin : ∀ {H8 : Hp} {T0 : Addr} {t l : Str}, Ex H' H8 → H8 T0 = some (.tup [.str t, .str l]) → t.length ≤ 12 → signs t → 1 ≤ l.length → l.length ≤ 26 → signs l → ∀ v8 v9 v10,
          ∃ xs' v4 v5 v6 v7 v8' v9' v10', ([some (.ref a), some (.int at_), some (.str alph), some (.ref f), some (.int (i : Int)), some (.int c), some (.str w31), some (.ref p2), v8, v9, v10] : L2.St) = [some (.ref a), some (.int at_), some (.str alph), some (.ref f), v4, v5, v6, v7, v8', v9', v10'] ∧ Ex H (upd H8 f (.lst (xs ++ [.ref T0]))) ∧
            upd H8 f (.lst (xs ++ [.ref T0])) f = some (.lst xs') ∧ xs'.length ≤ i + 1 ∧ ∀ x ∈ xs', Pl (upd H8 f (.lst (xs ++ [.ref T0]))) x := by
        intro H8 T0 t l e8 ht t1 t2 l1 l2 l3 v8 v9 v10
        have hf8 := e8 _ _ hfx
        refine ⟨xs ++ [.ref T0], _, _, _, _, _, _, _, rfl, Ex.mut (eH.trans e8) nf, upd_same, by rw [List.length_append, List.length_singleton]; omega, fun x hx => ?_⟩
        rcases List.mem_append.mp hx with hx | hx
        · exact ((hxp x hx).mono e8).mut hf8
        · rw [List.mem_singleton] at hx
          subst hx
          exact Pl.mut ⟨T0, t, l, rfl, ht, t1, t2, l1, l2, l3⟩ hf8
      have m4 : ∀ {H8 : Hp} {σ : L2.St} {d : Int}, σ[5]? = some (some (.int c)) → Ev (tOp rEq (tOp (rI (fun x j => 0 < j) fun i j => V.int (i % j)) (tVar 5) (tC (V.int 4))) (tC (V.int d))) σ H8 (.bl (decide (c % 4 = d))) := fun h5 => ev_op (ev_op (ev_var h5) ev_c (rv_I (by show (0 : Int) < _; decide))) ev_c rv_eqI
      refine s_if (et_test (m4 rfl)) (fun _ H8 e8 => ?_) fun _ H8 e8 => ?_
      · have hy0 : (ys.map V.str)[0]? = some (.str (ys[0]'(by omega))) := by rw [List.getElem?_map, List.getElem?_eq_getElem (by omega)]; rfl
        have hyo := yo _ (List.getElem_mem (show 0 < ys.length by omega))
        generalize ys[0]'(by omega) = y0 at hy0 hyo
        have ix : ∀ {σ : L2.St}, σ[7]? = some (some (.ref p2)) → Ev (tOp (rIxL K) (tVar 7) (tC (V.int 0))) σ H8 (.str y0) := fun h => ev_op (ev_var h) ev_c (rv_ixL (sq_of (e8 _ _ h67)) (atI_nat (j := 0) hy0))
        refine s_appU (xs := xs) (e8 _ _ hf7) (ev_var rfl) (eu_tup (ea_cons (ix rfl) (ea_cons (ix rfl) ea_nil)) (by show 2 ≤ 100000; decide)) (by omega) fun T0 H9 _ e9 h9 => ?_
        exact fin ((e37.trans e8).trans e9) h9 (by omega) hyo.2 (by omega) (by omega) hyo.2 _ _ _
      · refine s_if (et_test (m4 rfl)) (fun _ H9 e9 => ?_) fun _ H9 e9 => ?_
        · refine s_appU (xs := xs) (e9 _ _ (e8 _ _ hf7)) (ev_var rfl) (eu_tup (ea_cons ev_c (ea_cons (ev_var rfl) ea_nil)) (by show 2 ≤ 100000; decide)) (by omega) fun T0 H10 _ e10 h10 => ?_
          exact fin (((e37.trans e8).trans e9).trans e10) h10 (by decide +kernel) (by unfold signs; decide +kernel) (by rw [alph_len]; decide) (by rw [alph_len]; decide) alph_signs _ _ _
        · refine s_if (et_test (m4 rfl)) (fun _ H10 e10 => ?_) fun _ H10 e10 => ?_
          · have o1 : ("[" : Str).length = 1 := by decide +kernel
            have o2 : ("]" : Str).length = 1 := by decide +kernel
            have o3 : signs ("[" : Str) := by unfold signs; decide +kernel
            have o4 : signs ("]" : Str) := by unfold signs; decide +kernel
            refine s_appU (xs := xs) (e10 _ _ (e9 _ _ (e8 _ _ hf7))) (ev_var rfl) (eu_tup (ea_cons (ev_op (ev_op ev_c (ev_var rfl) (rv_addS (by omega))) ev_c (rv_addS (by rw [Str.length_append]; omega))) (ea_cons (ev_var rfl) ea_nil)) (by show 2 ≤ 100000; decide)) (by omega) fun T0 H11 _ e11 h11 => ?_
            exact fin ((((e37.trans e8).trans e9).trans e10).trans e11) h11 (by rw [Str.length_append, Str.length_append]; omega) (signs_add (signs_add o3 js) o4) (by omega) (by omega) js _ _ _
          · have o1 : ("[^" : Str).length = 2 := by decide +kernel
            have o2 : ("]" : Str).length = 1 := by decide +kernel
            have o3 : signs ("[^" : Str) := by unfold signs; decide +kernel
            have o4 : signs ("]" : Str) := by unfold signs; decide +kernel
            have h610 := e10 _ _ (e9 _ _ (e8 _ _ h67))
            generalize hr : alphL.filter (fun d => !decide (TX.T [d] ∈ ys)) = rest
            have r1 : 1 ≤ rest.length := by
              refine Nat.pos_of_ne_zero fun hz => ?_
              have hnil : alphL.filter (fun d => !decide (TX.T [d] ∈ ys)) = [] := by rw [hr]; exact List.length_eq_zero_iff.mp hz
              have h3 : (alphL.map fun d => TX.T [d]).length ≤ ys.length := by
                refine sub_len _ _ ?_ fun x hx => ?_
                · refine List.Pairwise.map _ (fun p q hpq e => hpq ?_) alph_nodup
                  have := T_inj e
                  simpa using this
                · obtain ⟨d, hd, rfl⟩ := List.mem_map.mp hx
                  rw [List.filter_eq_nil_iff] at hnil
                  simpa using hnil d hd
              have h4 : alphL.length = 26 := alph_list
              rw [List.length_map] at h3
              omega
            have r2 : rest.length ≤ 26 := by
              rw [← hr]
              have h4 : alphL.length = 26 := alph_list
              have := List.length_filter_le (fun d => !decide (TX.T [d] ∈ ys)) alphL
              omega
            have r3 : ∀ y ∈ rest.map fun d => TX.T [d], y.length = 1 ∧ signs y := by
              intro y hy
              obtain ⟨d, hd, rfl⟩ := List.mem_map.mp hy
              refine ⟨rfl, ?_⟩
              rw [← hr] at hd
              have h5 := (List.mem_filter.mp hd).1
              have h6 := alph_signs
              unfold signs at h6 ⊢
              rw [List.all_eq_true] at h6
              simpa using h6 d h5
            have r4 := ones_len r3
            rw [List.length_map] at r4
            refine s_appU (xs := xs) (e10 _ _ (e9 _ _ (e8 _ _ hf7))) (ev_var rfl) (eu_tup (ea_cons (ev_op (ev_op ev_c (ev_var rfl) (rv_addS (by omega))) ev_c (rv_addS (by rw [Str.length_append]; omega))) (ea_cons (ev_joinL (ys := rest.map fun d => TX.T [d]) ev_c (el_lcS (w := alph) (fun j => !decide (TX.T [alphL.getD j 0] ∈ ys)) (fun j => .str (TX.T [alphL.getD j 0])) (ev_var rfl) (by decide +kernel) (fun _ => rfl)
              (fun j d H11 e11 hd => ?_) (fun j d H11 e11 hd _ => ?_)) ?_ ?_) ea_nil)) (by show 2 ≤ 100000; decide)) (by omega) fun T0 H11 _ e11 h11 => ?_
            · have hd2 : alphL.getD j 0 = d := by
                show alph.cps.toList.getD j 0 = d
                rw [List.getD_eq_getElem?_getD, Array.getElem?_toList, hd]
                rfl
              rw [hd2]
              refine et_test (ev_is (ev_op (ev_var rfl) (ev_var rfl) (rv_niL (sq_of (e11 _ _ h610)) rfl (flat_strs ys))) ?_)
              rw [inV_strs]
            · have hd2 : alphL.getD j 0 = d := by
                show alph.cps.toList.getD j 0 = d
                rw [List.getD_eq_getElem?_getD, Array.getElem?_toList, hd]
                rfl
              rw [hd2]
              exact ev_var rfl
            · rw [given_of alphL (fun d => !decide (TX.T [d] ∈ ys)) (fun d => V.str (TX.T [d])) _ (by show alph.cps.size = alph.cps.toList.length; rw [Array.length_toList]), List.map_map, hr]
              rfl
            · rw [emp_len, Nat.mul_zero, Nat.add_zero, r4]
              omega
            · exact fin ((((e37.trans e8).trans e9).trans e10).trans e11) h11 (by rw [Str.length_append, Str.length_append]; omega) (signs_add (signs_add o3 js) o4) (by rw [join_len, r4]; omega) (by rw [join_len, r4]; omega) (join_signs fun y hy => (r3 y hy).2) _ _ _
    · rintro σ' H' ⟨xs, v4, v5, v6, v7, v8, v9, v10, rfl, eH, hfx, hxl, hxp⟩
      refine s_ret (ev_var rfl) fun H3 e3 => kk f xs H3 (e3 _ _ hfx) (by omega) (fun x hx => (hxp x hx).mono e3) (eH.trans e3)

/-! ### the law's texts -/
def spWritten (K : PySem.W.Frag) : Sp := fun vs H Q _ => ∃ (a : Addr) (xs : List V), vs = [.ref a] ∧ SqL K H a xs ∧ xs.length ≤ 3 ∧ (∀ x ∈ xs, Pl H x) ∧ ∀ z H', z.length ≤ 40 → signs z → Ex H H' → Q (.str z) H'
theorem ok_l_written (T : Txt K mg A) : FnOk P w K mg base CX0 1 A.f_l_written A.d_l_written P_l_written (spWritten K) := by
  refine T.F_l_written.ok sc_l_written (fun vs H Q E h => ?_) (fun cdv A' outer s H vs Q E hr h => ?_)
  · obtain ⟨a, xs, rfl, _⟩ := h
    rfl
  · obtain ⟨a, xs, rfl, hS, hl, hp, k⟩ := h
    refine ⟨_, (pss_one (ps_ret (pe_join pe_str (pe_lc (own := [("_law_place", 1)]) (by rfl) sc_l_written.nd (pi_list (pv 0)) (blkOk_by (own := [("_law_place", 1)]) (N := N_l_written) (sc := defScope s_l_written) (by decide +kernel)) (fun _ _ _ _ _ => (pg_name (i := 1) sc_l_written.nd rfl (Or.inl rfl))) (fun _ _ _ _ _ => pts_nil) (fun _ _ _ _ _ => (pe_ix (ix_tupK (K := K) rfl) (pv 1) pe_int (fun _ _ => rfl))))))), ?_⟩
    refine s_retP (evp_join (n := 3) (m := 12) (k := 40) (elp_lcL (ev_var rfl) hS hl (by decide) (fun _ => rfl) fun i x H1 e1 hx => ?_) (by decide) (by decide)) fun v H1 e1 hv => ?_
    · obtain ⟨T0, t, l, rfl, h1, t1, t2, _⟩ := (hp x (List.mem_of_getElem? hx)).mono e1
      exact evp_v (ev_op (ev_var rfl) ev_c (rv_ixT (st_of h1) (atI_nat (j := 0) rfl))) ⟨t, rfl, t1, t2⟩
    · obtain ⟨z, rfl, z1, z2⟩ := hv
      exact k z H1 z1 z2 e1
/-! ### the law's own reading -/
theorem alph_mem (c : Nat) : decide (c ∈ L alph) = small c := by
  rw [← letters_in c, Bool.eq_iff_iff, decide_eq_true_eq, Array.contains_iff_mem]
  exact Array.mem_toList_iff
theorem drop1 (c : Nat) (r : List Nat) : cutS (T (c :: r)) (some 1) none = T r := by
  have := cut_end (T (c :: r)) 1 (by rw [L_T]; simp)
  rw [L_T] at this
  exact this
theorem signs_T {l : List Nat} : signs (T l) ↔ ∀ x ∈ l, x < 1114112 := by
  unfold signs
  show (L (T l)).all _ = true ↔ _
  rw [L_T, List.all_eq_true]
  simp
def spRead : Sp := fun vs H Q _ => ∃ z, vs = [.str z] ∧ z.length ≤ 1000 ∧ signs z ∧
  (∀ ps, conds (L z) = some ps → ∀ p H', H' p = some (.lst (ps.map fun l => V.str (T l))) → Ex H H' → Q (.ref p) H') ∧ (conds (L z) = none → ∀ H', Ex H H' → Q .non H')
theorem eqT (a b : List Nat) : decide (V.str (T a) = V.str (T b)) = decide (a = b) := by
  rw [decide_eq_decide]
  exact ⟨fun h => T_inj (V.str.inj h), fun h => h ▸ rfl⟩
theorem empT : ("" : Str) = T [] := empty_cps
theorem ok_l_read (T : Txt K mg A) : FnOk P w K mg base CX0 1 A.f_l_read A.d_l_read P_l_read spRead := by
  refine T.F_l_read.ok sc_l_read (fun vs H Q E h => ?_) (fun cdv A' outer s H vs Q E hr h => ?_)
  · obtain ⟨z, rfl, _⟩ := h
    rfl
  · obtain ⟨z, rfl, hz, hs, kS, kN⟩ := h
    refine ⟨_, (pss_cons (ps_set (i := 1) sc_l_read.nd rfl (Or.inr rfl) pe_str)
      (pss_cons (ps_set (i := 2) sc_l_read.nd rfl (Or.inl rfl) (pe_lst pa_nil))
      (pss_cons (ps_set (i := 3) sc_l_read.nd rfl (Or.inl rfl) (pv 0))
      (pss_cons (ps_while PassesOwn.never (pt_cmpR op_ne (pv 3) pe_str (nomark _))
      (pss_cons (ps_set (i := 4) sc_l_read.nd rfl (Or.inl rfl) (pe_ix ix_str (pv 3) pe_int (fun _ _ => rfl)))
      (pss_cons (ps_set (i := 3) sc_l_read.nd rfl (Or.inl rfl) (pe_slice sl_str (pv 3) (po_some pe_int) po_none))
      (pss_one (ps_if (pt_cmpR op_eq (pv 4) pe_str (nomark _)) (pss_one (ps_expr (pe_bm PySem.F.plainAttrs_list PySem.F.slot_list_append PySem.F.type_list_append mt_append (pv 2) (pa_cons (pv 1) pa_nil)))) (pss_one (ps_if (pt_cmpR op_in_sign (pv 4) (pv 1) (by rfl)) (pss_one (ps_expr (pe_bm PySem.F.plainAttrs_list PySem.F.slot_list_append PySem.F.type_list_append mt_append (pv 2) (pa_cons (pv 4) pa_nil)))) (pss_one (ps_if (PW.pt (pw_and (pt_cmpR op_eq (pv 4) pe_str (nomark _)) (pw_and1 (pt_cmpR op_in_sign pe_str (pv 3) (by rfl))))) (pss_cons (ps_set (i := 5) sc_l_read.nd rfl (Or.inl rfl) (pe_slice sl_str (pv 3) po_none (po_some (pe_bm PySem.F.plainAttrs_str PySem.F.slot_str_index PySem.F.type_str_index mt_sindex (pv 3) (pa_cons pe_str pa_nil)))))
      (pss_cons (ps_set (i := 3) sc_l_read.nd rfl (Or.inl rfl) (pe_slice sl_str (pv 3) (po_some (pe_op op_add (pe_callB call_len_str (by rfl) T.n_len PySem.boot_len (pa_cons (pv 5) pa_nil)) pe_int)) po_none))
      (pss_cons (ps_set (i := 6) sc_l_read.nd rfl (Or.inr rfl) (pe_ifExp (pt_cmpR op_eq (pe_slice sl_str (pv 5) po_none (po_some pe_int)) pe_str (nomark _)) (pe_slice sl_str (pv 5) (po_some pe_int) po_none) (pv 5)))
      (pss_cons (ps_setLc (i := 7) (own := [("_law_one", 8)]) (by rfl) sc_l_read.nd rfl rfl (sw_true rfl rfl rfl (by decide +kernel)) (pi_str (pv 6)) (blkOk_by (own := [("_law_one", 8)]) (N := N_l_read) (sc := defScope s_l_read) (by decide +kernel)) (fun _ _ _ _ _ => (pg_name (i := 8) sc_l_read.nd rfl (Or.inl rfl))) (fun _ _ _ _ _ => pts_one (pt_cmpR op_notIn_sign (pv 8) (pv 1) (by rfl))) (fun _ _ _ _ _ => (pv 8)))
      (pss_cons (ps_if (PW.pt (pw_or (pt_cmpR (op_neD hr.units) (pv 7) (pe_lst pa_nil) (nomark _)) (pw_or (pt_not (pt_chain op_le op_le pe_int (pe_callB call_len_str (by rfl) T.n_len PySem.boot_len (pa_cons (pv 6) pa_nil)) pe_int)) (pw_or1 (pt_cmpR op_lt (pe_lenSetS (by rfl) T.n_len (by rfl) T.n_set (pv 6)) (pe_callB call_len_str (by rfl) T.n_len PySem.boot_len (pa_cons (pv 6) pa_nil)) (nomark _)))))) (pss_one (ps_ret pe_non)) pss_nil)
      (pss_one (ps_expr (pe_bm PySem.F.plainAttrs_list PySem.F.slot_list_append PySem.F.type_list_append mt_append (pv 2) (pa_cons (pe_ifExp (pt_cmpR op_eq (pv 6) (pv 5) (nomark _)) (pv 6) (pe_join pe_str (pe_lc (own := [("_law_one", 8)]) (by rfl) sc_l_read.nd (pi_str (pv 1)) (blkOk_by (own := [("_law_one", 8)]) (N := N_l_read) (sc := defScope s_l_read) (by decide +kernel)) (fun _ _ _ _ _ => (pg_name (i := 8) sc_l_read.nd rfl (Or.inl rfl))) (fun _ _ _ _ _ => pts_one (pt_cmpR op_notIn_sign (pv 8) (pv 6) (by rfl))) (fun _ _ _ _ _ => (pv 8))))) pa_nil))))))))) (pss_one (ps_ret pe_non)))))))))))
      (pss_one (ps_ret (pe_ifExp (pt_cmpR op_lt (pe_callB call_len_seq (by rfl) T.n_len PySem.boot_len (pa_cons (pv 2) pa_nil)) pe_int (nomark _)) (pv 2) pe_non))))))), ?_⟩
    have hzl := len_L z
    refine q_asg (v := .str alph) ev_c fun H1 e1 => q_asgL (el_lst ea_nil (by show 0 ≤ 100000; decide)) fun f H2 hf e2 h2 => ?_
    have nf : H f = none := fresh_back e1 hf
    refine q_asg (v := .str (TX.T (L z))) (ev_is (ev_var rfl) (by rw [T_L])) fun H3 e3 => ?_
    have hsT : signs (TX.T (L z)) := by rw [T_L]; exact hs
    refine q_while (fun m σ' H' => ∃ (l : List Nat) (ps : List (List Nat)) (o4 o5 o6 o7 o8 : Option V), σ' = [some (.str z), some (.str alph), some (.ref f), some (.str (TX.T l)), o4, o5, o6, o7, o8] ∧ H' f = some (.lst (ps.map fun l => V.str (TX.T l))) ∧ Ex H H' ∧
      signs (TX.T l) ∧ ps.length + l.length ≤ 1000 ∧ Upto (L z) ps l ∧ m = l.length) (L z).length ⟨L z, [], none, none, none, none, none, rfl, e3 _ _ h2, (e1.trans e2).trans e3, hsT, by rw [List.length_nil]; omega, Upto.start _, rfl⟩ ?_
    rintro m σ' H' ⟨l, ps, o4, o5, o6, o7, o8, rfl, hf', eH, hsl, hpl, hu, rfl⟩
    refine ⟨!decide (l = []), et_is (et_test (ev_op (ev_var rfl) (ev_is ev_c (congrArg V.str empT)) (rv_ne rfl))) (by rw [eqT]), fun ht H4 e4 => ?_, fun hf H4 e4 => ?_⟩
    · obtain ⟨c, r, rfl⟩ : ∃ c r, l = c :: r := by
        cases l with
        | nil => cases ht
        | cons c r => exact ⟨c, r, rfl⟩
      refine ⟨fun σ2 H2 => ∃ m', m' < (c :: r).length ∧ ∃ (l : List Nat) (ps : List (List Nat)) (o4 o5 o6 o7 o8 : Option V), σ2 = [some (.str z), some (.str alph), some (.ref f), some (.str (TX.T l)), o4, o5, o6, o7, o8] ∧ H2 f = some (.lst (ps.map fun l => V.str (TX.T l))) ∧ Ex H H2 ∧
        signs (TX.T l) ∧ ps.length + l.length ≤ 1000 ∧ Upto (L z) ps l ∧ m' = l.length, fun _ _ h => h, ?_⟩
      rw [List.length_cons] at hpl
      have hsr : ∀ x ∈ r, x < 1114112 := fun x hx => signs_T.mp hsl x (List.mem_cons_of_mem _ hx)
      have step : ∀ {p q : List Nat} {H5 : Hp} {o4 o5 o6 o7 o8 : Option V}, place c r = some (p, q) → Ex H H5 → H5 f = some (.lst (ps.map fun l => V.str (TX.T l))) →
          ∃ m', m' < (c :: r).length ∧ ∃ (l : List Nat) (ps' : List (List Nat)) (a4 a5 a6 a7 a8 : Option V), ([some (.str z), some (.str alph), some (.ref f), some (.str (TX.T q)), o4, o5, o6, o7, o8] : L2.St) = [some (.str z), some (.str alph), some (.ref f), some (.str (TX.T l)), a4, a5, a6, a7, a8] ∧
            upd H5 f (.lst (ps.map (fun l => V.str (TX.T l)) ++ [.str (TX.T p)])) f = some (.lst (ps'.map fun l => V.str (TX.T l))) ∧ Ex H (upd H5 f (.lst (ps.map (fun l => V.str (TX.T l)) ++ [.str (TX.T p)]))) ∧
            signs (TX.T l) ∧ ps'.length + l.length ≤ 1000 ∧ Upto (L z) ps' l ∧ m' = l.length := by
        intro p q H5 o4 o5 o6 o7 o8 hp e5 h5
        have h6 := place_le hp
        refine ⟨q.length, by rw [List.length_cons]; omega, q, ps ++ [p], _, _, _, _, _, rfl, ?_, Ex.mut e5 nf, ?_, ?_, hu.step hp, rfl⟩
        · rw [upd_same, List.map_append]
          rfl
        · rw [signs_T]
          intro x hx
          rw [h6.2] at hx
          exact hsr x (List.mem_of_mem_drop hx)
        · rw [List.length_append, List.length_singleton]
          omega
      have out : ∀ {H5 : Hp}, place c r = none → Ex H H5 → Q .non H5 := fun hp e5 => kN (conds_none (hu.bad hp)) _ e5
      have lenT : ∀ l : List Nat, (TX.T l).length = l.length := len_T
      refine q_asg (v := .str ⟨#[c]⟩) (ev_op (ev_var rfl) ev_c (rv_ixS (by rw [lenT, List.length_cons]; omega) (atI_nat (j := 0) (by show (L (TX.T (c :: r)))[0]? = some c; rw [L_T]; rfl)))) fun H5 e5 => ?_
      refine q_asg (v := .str (TX.T r)) (ev_is (ev_slS (ev_var rfl) (eo_some ev_c) eo_none (by rw [lenT, List.length_cons]; omega)) (by rw [drop1])) fun H6 e6 => ?_
      have e06 := ((eH.trans e4).trans e5).trans e6
      have hf6 := e6 _ _ (e5 _ _ (e4 _ _ hf'))
      refine s_if (b := decide (c = 46)) (et_test (ev_is (ev_op (ev_var rfl) ev_c (rv_eq rfl)) (by rw [s46, eq_one]))) (fun hb H7 e7 => ?_) fun hb H7 e7 => ?_
      · have hc : c = 46 := by simpa using hb
        have hp : place c r = some (alphL, r) := by
          subst hc
          rfl
        refine s_app (l := f) (e7 _ _ hf6) (ev_var rfl) (ev_is (ev_var rfl) (congrArg V.str (T_L alph).symm)) (by rw [List.length_map]; omega) fun H8 e8 => ?_
        exact step hp ((e06.trans e7).trans e8) (e8 _ _ (e7 _ _ hf6))
      · have hc1 : ¬ c = 46 := by simpa using hb
        refine s_if (b := small c) (et_test (ev_is (ev_op (ev_var rfl) (ev_var rfl) rv_inS) (congrArg V.bl (alph_mem c)))) (fun hb H8 e8 => ?_) fun hb H8 e8 => ?_
        · have hc9 : ¬ c = 91 := by
            rintro rfl
            revert hb
            decide
          have hp : place c r = some ([c], r) := by
            unfold place
            rw [if_neg hc9, if_neg hc1, if_pos hb]
          refine s_app (l := f) (e8 _ _ (e7 _ _ hf6)) (ev_var rfl) (ev_var rfl) (by rw [List.length_map]; omega) fun H9 e9 => ?_
          exact step hp (((e06.trans e7).trans e8).trans e9) (e9 _ _ (e8 _ _ (e7 _ _ hf6)))
        · have e08 := (e06.trans e7).trans e8
          have hf8 := e8 _ _ (e7 _ _ hf6)
          refine s_if (b := decide (c = 91) && decide (93 ∈ r)) (et_and (et_test (ev_is (ev_op (ev_var rfl) ev_c (rv_eq rfl)) (by rw [s91, eq_one]))) fun _ => et_test (ev_is (ev_op (ev_is ev_c (congrArg V.str s93)) (ev_var rfl) rv_inS) (by show V.bl (decide (93 ∈ L (TX.T r))) = _; rw [L_T]))) (fun hb H9 e9 => ?_) fun hb H9 e9 => ?_
          · rw [Bool.and_eq_true, decide_eq_true_eq, decide_eq_true_eq] at hb
            obtain ⟨rfl, h93⟩ := hb
            have hal := ahead_lt h93
            have hat := ahead_at h93
            have hno := fun i h => ahead_no (c := 93) (l := r) (i := i) h
            have hpl2 : place 91 r = if okBr (core (ahead 93 r)) = true then some (lets' (ahead 93 r), r.drop ((ahead 93 r).length + 1)) else none := by
              show brk r = _
              unfold brk
              rw [if_pos h93]
            have htk := ahead_take 93 r
            generalize ahead 93 r = i at hal hat hno hpl2 htk
            have hocc : Builtin.Str.occurrences (TX.T r) ⟨#[93]⟩ 0 (TX.T r).length 1 = [i.length] := occ1_some (Nat.zero_le _) (by rw [L_T]; exact hat) (fun j _ hj => by rw [L_T]; exact hno j hj)
            have his : signs (TX.T i) := signs_T.mpr fun x hx => hsr x (List.mem_of_mem_take (htk ▸ hx))
            have il : i.length ≤ 1000 := by omega
            refine q_asg (v := .str (TX.T i)) (ev_is (ev_slS (hi := some (i.length : Int)) (ev_var rfl) eo_none (eo_some (ev_bmS (ev_var rfl) (ea_cons ev_c ea_nil) fun _ _ _ q => ⟨TX.T r, ⟨#[93]⟩, i.length, [], rfl, by rw [s93], hocc, q⟩)) (by rw [lenT]; omega)) (by rw [cut_begin _ _ (by rw [L_T]; omega), L_T, ← htk])) fun H10 e10 => ?_
            refine q_asg (v := .str (TX.T (r.drop (i.length + 1)))) (ev_is (ev_slS (lo := some ((i.length + 1 : Nat) : Int)) (ev_var rfl) (eo_some (ev_is (ev_op (ev_cb (ea_cons (ev_var rfl) ea_nil) (rc_lenS (by rw [lenT]; omega))) ev_c rv_I0) (by rw [lenT]; rfl))) eo_none (by rw [lenT]; omega)) (by rw [cut_end _ _ (by rw [L_T]; omega), L_T])) fun H11 e11 => ?_
            have hcond : ∀ {H : Hp} {σ : L2.St}, σ[5]? = some (some (.str (TX.T i))) → EvT (tTest (tOp rEq (tSl rSlS (tVar 5) tNoPart (tPart (tC (.int 1)))) (tC (.str "^")))) σ H (decide (i[0]? = some 94)) := fun h5 =>
              et_is (et_test (ev_op (ev_slS (hi := some ((1 : Nat) : Int)) (ev_var h5) eo_none (eo_some ev_c) (by rw [lenT]; omega)) (ev_is ev_c (congrArg V.str s94)) (rv_eq rfl))) (by
                cases i with
                | nil =>
                  have : cutS (TX.T []) none (some ((1 : Nat) : Int)) = TX.T [] := by
                    apply eq_L
                    rw [L_T]
                    unfold cutS
                    show (((([] : List Nat).toArray.toList).drop _).take _).toArray.toList = []
                    simp
                  rw [this, show (⟨#[94]⟩ : Str) = TX.T [94] from rfl, eqT]
                  rfl
                | cons a b =>
                  rw [cut_begin _ 1 (by rw [L_T]; simp), L_T, show (⟨#[94]⟩ : Str) = TX.T [94] from rfl, eqT, decide_eq_decide]
                  simp)
            refine q_asg (v := .str (TX.T (core i))) (ev_if (hcond rfl) (fun hb => ?_) fun hb => ?_) fun H12 e12 => ?_
            · have hb' : i[0]? = some 94 := by simpa using hb
              obtain ⟨y, ys, rfl⟩ : ∃ y ys, i = y :: ys := by
                cases i with
                | nil => cases hb'
                | cons y ys => exact ⟨y, ys, rfl⟩
              refine ev_is (ev_slS (ev_var rfl) (eo_some ev_c) eo_none (by rw [lenT]; omega)) ?_
              unfold core
              rw [drop1, if_pos hb']
              rfl
            · have hb' : ¬ i[0]? = some 94 := by simpa using hb
              refine ev_is (ev_var rfl) ?_
              unfold core
              rw [if_neg hb']
            have hcm : ∀ x ∈ core i, x ∈ i := by
              intro x hx
              unfold core at hx
              split at hx
              · exact List.mem_of_mem_tail hx
              · exact hx
            have hcl : (core i).length ≤ i.length := by
              unfold core
              split
              · rw [List.length_tail]; omega
              · exact Nat.le_refl _
            have hcs : ∀ x ∈ core i, x < 1114112 := fun x hx => signs_T.mp his x (hcm x hx)
            have csz : (TX.T (core i)).cps.size = (core i).length := by simp [TX.T]
            refine q_asgL (xs := ((core i).filter fun c => !small c).map fun c => V.str (TX.T [c])) (el_is (el_lcS (w := TX.T (core i)) (fun j => !small ((core i).getD j 0)) (fun j => .str (TX.T [(core i).getD j 0])) (ev_var rfl) (by rw [csz]; omega) (fun _ => rfl)
              (fun j d H13 e13 hd => ?_) (fun j d H13 e13 hd _ => ?_)) (given_of (core i) (fun c => !small c) (fun c => V.str (TX.T [c])) _ csz)) fun p H13 _ e13 h13 => ?_
            · have hd2 : (core i).getD j 0 = d := by
                have : (core i)[j]? = some d := by simpa [TX.T] using hd
                rw [List.getD_eq_getElem?_getD, this]
                rfl
              rw [hd2, ← alph_mem]
              exact et_test (ev_op (ev_var rfl) (ev_var rfl) rv_ninS)
            · have hd2 : (core i).getD j 0 = d := by
                have : (core i)[j]? = some d := by simpa [TX.T] using hd
                rw [List.getD_eq_getElem?_getD, this]
                rfl
              rw [hd2]
              exact ev_var rfl
            have e9 := e9
            have e013 := ((((e08.trans e9).trans e10).trans e11).trans e12).trans e13
            have hf13 := e13 _ _ (e12 _ _ (e11 _ _ (e10 _ _ (e9 _ _ hf8))))
            have hfl : (((core i).filter fun c => !small c).map fun c => V.str (TX.T [c])).all flatOk = true := by
              rw [List.all_map, List.all_eq_true]
              intro x hx
              have := hcs x (List.mem_filter.mp hx).1
              show ((#[x] : Array Nat).all _) = true
              simpa using this
            have hem : (((core i).filter fun c => !small c).map fun c => V.str (TX.T [c])).isEmpty = (core i).all small := by
              rw [List.isEmpty_map, Bool.eq_iff_iff, List.isEmpty_iff, List.filter_eq_nil_iff, List.all_eq_true]
              simp
            have huq : decide ((((SetS.uniq (SetS.signsOf (TX.T (core i)))).length : Nat) : Int) < ((TX.T (core i)).length : Int)) = !decide (core i).Nodup := by
              have h1 := SetS.uniq_nodup (SetS.signsOf (TX.T (core i)))
              have h2 := SetS.uniq_le (SetS.signsOf (TX.T (core i)))
              rw [SetS.signsOf_len, SetS.signsOf_nodup, csz] at h1
              rw [SetS.signsOf_len, csz] at h2
              have h3 : L (TX.T (core i)) = core i := L_T _
              rw [show (TX.T (core i)).cps.toList = core i from h3] at h1
              rw [lenT, Bool.eq_iff_iff, decide_eq_true_eq, Bool.not_eq_true', decide_eq_false_iff_not, ← h1]
              omega
            refine q_when (b := !(okBr (core i))) (et_is (et_or (a := !((core i).all small)) (et_is (et_test (ev_neNil (ev_var rfl) h13 hfl)) (by rw [hem])) fun _ => et_or (a := !(decide (1 ≤ (core i).length) && decide ((core i).length ≤ 8))) (et_not (et_test (ev_is (ev_chain (x := .int 1) (y := .int (TX.T (core i)).length) (z := .int 8) ev_c (ev_cb (ea_cons (ev_var rfl) ea_nil) (rc_lenS (by rw [lenT]; omega))) rv_I0 (fun _ => ev_c) (fun _ => rv_I0)) (by rw [lenT]; congr 2 <;> (rw [decide_eq_decide]; omega)))))
              fun _ => et_test (ev_is (ev_op (ev_lenSetS (ev_var rfl) (by rw [lenT]; omega)) (ev_cb (ea_cons (ev_var rfl) ea_nil) (rc_lenS (by rw [lenT]; omega))) rv_I0) (congrArg V.bl huq))) ?_) (fun hb H14 e14 => ?_) fun hb H14 e14 => ?_
            · unfold okBr
              cases (core i).all small <;> cases (decide (1 ≤ (core i).length) && decide ((core i).length ≤ 8)) <;> cases decide (core i).Nodup <;> rfl
            · refine s_ret ev_c fun H15 e15 => out ?_ ((e013.trans e14).trans e15)
              rw [hpl2, if_neg (by simpa using hb)]
            · have hp : place 91 r = some (lets' i, r.drop (i.length + 1)) := by rw [hpl2, if_pos (by simpa using hb)]
              refine s_app (l := f) (v := .str (TX.T (lets' i))) (e14 _ _ hf13) (ev_var rfl) (ev_if (b := decide (¬ i[0]? = some 94)) (et_is (et_test (ev_op (ev_var rfl) (ev_var rfl) (rv_eq rfl))) ?_) (fun hc => ?_) fun hc => ?_) (by rw [List.length_map]; omega) fun H15 e15 => ?_
              · rw [eqT, decide_eq_decide]
                unfold core
                constructor
                · intro h h0
                  rw [if_pos h0] at h
                  have : i.tail.length = i.length := by rw [h]
                  rw [List.length_tail] at this
                  have : 0 < i.length := (List.getElem?_eq_some_iff.mp h0).1
                  omega
                · intro h
                  rw [if_neg h]
              · have hc' : ¬ i[0]? = some 94 := by simpa using hc
                refine ev_is (ev_var rfl) ?_
                unfold lets' core
                rw [if_neg hc', if_neg hc']
              · have hc' : i[0]? = some 94 := by simpa using hc
                have ho : lets' i = others (core i) := by unfold lets' core; rw [if_pos hc', if_pos hc']
                rw [ho]
                refine ev_is (ev_joinL (ys := (others (core i)).map fun c => TX.T [c]) ev_c (el_lcS (w := alph) (fun j => !decide (alphL.getD j 0 ∈ core i)) (fun j => .str (TX.T [alphL.getD j 0])) (ev_var rfl) (by decide +kernel) (fun _ => rfl)
                  (fun j d H15 e15 hd => ?_) (fun j d H15 e15 hd _ => ?_)) ?_ ?_) ?_
                · have hd2 : alphL.getD j 0 = d := by
                    show alph.cps.toList.getD j 0 = d
                    rw [List.getD_eq_getElem?_getD, Array.getElem?_toList, hd]
                    rfl
                  rw [hd2]
                  refine et_test (ev_is (ev_op (ev_var rfl) (ev_var rfl) rv_ninS) ?_)
                  show V.bl (!decide (d ∈ L (TX.T (core i)))) = _
                  rw [L_T]
                · have hd2 : alphL.getD j 0 = d := by
                    show alph.cps.toList.getD j 0 = d
                    rw [List.getD_eq_getElem?_getD, Array.getElem?_toList, hd]
                    rfl
                  rw [hd2]
                  exact ev_var rfl
                · rw [given_of alphL (fun c => !decide (c ∈ core i)) (fun c => V.str (TX.T [c])) _ (by show alph.cps.size = alph.cps.toList.length; rw [Array.length_toList]), List.map_map]
                  rfl
                · have h1 : (others (core i)).length ≤ 26 := by
                    have h2 : alphL.length = 26 := alph_list
                    unfold others
                    have := List.length_filter_le (fun c => !decide (c ∈ core i)) alphL
                    omega
                  have h3 := sum_le (n := 1) (ys := (others (core i)).map fun c => TX.T [c]) (fun y hy => by
                    obtain ⟨d, _, rfl⟩ := List.mem_map.mp hy
                    exact Nat.le_refl _)
                  rw [List.length_map] at h3
                  rw [emp_len]
                  omega
                · apply congrArg V.str
                  apply eq_L
                  show (Txt.join "" _).cps.toList = _
                  rw [join0, L_T, List.map_map]
                  generalize others (core i) = l
                  induction l with
                  | nil => rfl
                  | cons a r ih => rw [List.map_cons, List.flatten_cons, ih]; rfl
              · exact step hp ((e013.trans e14).trans e15) (e15 _ _ (e14 _ _ hf13))
          · refine s_ret ev_c fun H10 e10 => out ?_ ((e08.trans e9).trans e10)
            unfold place
            have hsm : small c = false := by simpa using ‹small c = false›
            by_cases h91 : c = 91
            · rw [if_pos h91]
              unfold brk
              rw [if_neg]
              intro h93
              rw [decide_eq_true h91, decide_eq_true h93] at hb
              cases hb
            · rw [if_neg h91, if_neg hc1, if_neg (by rw [hsm]; decide)]
    · have hl : l = [] := by simpa using hf
      subst hl
      have hend := hu.end_
      have hf4 := e4 _ _ hf'
      rw [List.length_nil] at hpl
      by_cases hp4 : ps.length < 4
      · refine s_ret (ev_if (b := true) (et_is (et_test (ev_op (ev_cb (ea_cons (ev_var rfl) ea_nil) (rc_lenL (sq_of hf4))) ev_c rv_I0)) (by rw [List.length_map, decide_eq_true_eq]; omega)) (fun _ => ev_var rfl) fun h => nomatch h) fun H5 e5 => ?_
        exact kS ps (conds_of hend hp4) f H5 (e5 _ _ hf4) ((eH.trans e4).trans e5)
      · refine s_ret (ev_if (b := false) (et_is (et_test (ev_op (ev_cb (ea_cons (ev_var rfl) ea_nil) (rc_lenL (sq_of hf4))) ev_c rv_I0)) (by rw [List.length_map, decide_eq_false_iff_not]; omega)) (fun h => nomatch h) fun _ => ev_c) fun H5 e5 => ?_
        exact kN (conds_big hend hp4) H5 ((eH.trans e4).trans e5)
/-! ### the law's fit -/
def spFits (K : PySem.W.Frag) : Sp := fun vs H Q _ => ∃ a z ps, vs = [.ref a, .str z] ∧ SqL K H a (ps.map fun l => V.str (T l)) ∧ ps.length ≤ 1000 ∧ z.length ≤ 1000 ∧ ps.length ≤ (L z).length ∧ ∀ H', Ex H H' → Q (.bl (fits ps (L z))) H'
theorem spFits_v {a : Addr} {z : Str} {ps : List (List Nat)} {H : Hp} (hS : SqL K H a (ps.map fun l => V.str (T l))) (hl : ps.length ≤ 1000) (hz : z.length ≤ 1000) (h : ps.length ≤ (L z).length) : SpV (spFits K) [.ref a, .str z] H (.bl (fits ps (L z))) :=
  fun _ e _ q _ => ⟨a, z, ps, rfl, ex_l e hS, hl, hz, h, q⟩
theorem ok_l_fits (T : Txt K mg A) : FnOk P w K mg base CX0 1 A.f_l_fits A.d_l_fits P_l_fits (spFits K) := by
  refine T.F_l_fits.ok sc_l_fits (fun vs H Q E h => ?_) (fun cdv A' outer s H vs Q E hr h => ?_)
  · obtain ⟨a, z, ps, rfl, _⟩ := h
    rfl
  · obtain ⟨a, z, ps, rfl, hS, hl, hz, hle, k⟩ := h
    refine ⟨_, (pss_one (ps_ret (pe_cmpR (op_eqD hr.units) (pe_lc (own := [("_law_k", 2)]) (by rfl) sc_l_fits.nd (pi_range1 rfl T.n_range (pa_cons (pe_callB call_len_seq (by rfl) T.n_len PySem.boot_len (pa_cons (pv 0) pa_nil)) pa_nil)) (blkOk_by (own := [("_law_k", 2)]) (N := N_l_fits) (sc := defScope s_l_fits) (by decide +kernel)) (fun _ _ _ _ _ => (pg_name (i := 2) sc_l_fits.nd rfl (Or.inl rfl))) (fun _ _ _ _ _ => pts_one (pt_cmpR op_notIn_sign (pe_ix ix_str (pv 1) (pv 2) (fun _ _ => rfl)) (pe_ix (ix_listK (K := K) rfl) (pv 0) (pv 2) (fun _ _ => rfl)) (by rfl))) (fun _ _ _ _ _ => (pv 2))) (pe_lst pa_nil) (nomark _)))), ?_⟩
    have hzl := len_L z
    refine s_ret (v := .bl (fits ps (L z))) (ev_is (ev_eqNil (el_lcR1 (n := ((ps.map fun l => V.str (TX.T l)).length : Int)) (fun i => !decide ((L z).getD i 0 ∈ ps.getD i [])) (fun i => .int (i : Int)) (ea_cons (ev_cb (ea_cons (ev_var rfl) ea_nil) (rc_lenL hS)) ea_nil) (by rw [List.length_map]; omega) (fun _ => rfl)
      (fun i H1 e1 hi => ?_) (fun i H1 e1 hi _ => ev_var rfl)) ?_) ?_) k
    · rw [List.length_map] at hi
      have hi' : i < ps.length := by omega
      have h1 : (L z)[i]? = some ((L z).getD i 0) := by
        rw [List.getD_eq_getElem?_getD, List.getElem?_eq_getElem (show i < (L z).length by omega)]
        rfl
      have h2 : (ps.map fun l => V.str (TX.T l))[i]? = some (.str (TX.T (ps.getD i []))) := by
        rw [List.getElem?_map, List.getD_eq_getElem?_getD, List.getElem?_eq_getElem hi']
        rfl
      refine et_test (ev_is (ev_op (ev_op (ev_var rfl) (ev_var rfl) (rv_ixS (by omega) (at_L h1))) (ev_op (ev_var rfl) (ev_var rfl) (rv_ixL (ex_l e1 hS) (atI_nat h2))) rv_ninS) ?_)
      show V.bl (!decide (_ ∈ L (TX.T (ps.getD i [])))) = _
      rw [L_T]
    · unfold given
      rw [List.all_map, List.all_eq_true]
      intro _ _
      rfl
    · apply congrArg V.bl
      rw [List.length_map]
      unfold given fits
      rw [List.isEmpty_map, zip_map, Nat.min_eq_left hle, List.all_map, Bool.eq_iff_iff, List.isEmpty_iff, List.filter_eq_nil_iff, List.all_eq_true]
      simp
/-! ### the law's question of a refusal -/
def cv : V → Option (List (List Nat)) | .str z => conds (L z) | _ => none
def rRefd : List V → V | [v] => .bl (cv v).isNone | _ => .non
def ruleIs (i : Nat) : Bool := i == 1
theorem kw_rule : Txt.join "/" (kw ruleIs) = "rule" := by decide +kernel
theorem kin_rule (T : Txt K mg A) : Kin K A A.c_BadRule ruleIs :=
  ⟨T.e_BadRule, T.i_BadRule_BadWord, T.i_BadRule_BadRule, T.i_BadRule_BadText, T.i_BadRule_Twice, T.i_BadRule_NoStem, T.i_BadRule_NoClass, T.i_BadRule_InUse, T.i_BadRule_TooMany, T.i_BadRule_NoNumber, T.i_BadRule_NoWord, T.i_BadRule_BadPrice, T.i_BadRule_NoPlace, T.i_BadRule_BadPattern, T.i_BadRule_ValueError⟩
theorem spKind_v (T : Txt K mg A) {a : Addr} {H : Hp} (ha : H a = some (ErrO (.ref A.c_BadRule) none a)) : SpV (spKind K A) [.ref a] H (.str "rule") :=
  fun H5 e5 Q5 q5 E5 => ⟨a, A.c_BadRule, ruleIs, rfl, e5 a _ ha, kin_rule T, by decide +kernel, fun H6 e6 => by rw [kw_rule]; exact q5 H6 e6⟩
theorem Ex.made {H : Hp} {x dx : Addr} {o1 o2 : HO} (h1 : H x = none) (h2 : H dx = none) (h3 : dx ≠ x) : Ex H (upd (upd H dx o1) x o2) :=
  (Ex.new h2).trans (Ex.new (by rw [upd_ne (Ne.symm h3)]; exact h1))
theorem ok_l_refused (T : Txt K mg A) : FnOk P w K mg base CX0 8 A.f_l_refused A.d_l_refused P_l_refused (SpFn pThing rRefd) := by
  refine T.F_l_refused.ok sc_l_refused (fun vs H Q E h => ?_) (fun cdv A' outer s H vs Q E hr h => ?_)
  · obtain ⟨⟨v, rfl, _⟩, _⟩ := h
    rfl
  · obtain ⟨⟨v, rfl, hv⟩, k⟩ := h
    refine ⟨_, (pss_cons (ps_set (i := 1) sc_l_refused.nd rfl (Or.inl rfl) pe_non)
      (pss_cons (ps_try_keep (i := 2) (Wout := fun _ _ _ _ => False) rfl rfl sc_l_refused.nd rfl rfl ⟨rfl, by decide, Or.inl T.g_MendError⟩ takes0 rfl
      (fun W pn xe tk _ => (pss_one (ps_expr (pe_makeS T.M_Condition (ok_Condition_init T) hr rfl T.g_Condition T.b_Condition_init (fun σ => passAt tk σ) (pa_cons (pv 0) pa_nil)))))
      (fun _ _ => (pss_one (ps_set (i := 1) sc_l_refused.nd rfl (Or.inl rfl) (pv 2)))))
      (pss_one (ps_ret (pe_and (pe_cmpR op_notN (pv 1) pe_non (nomark _)) (pe_one (pe_cmpR op_eq (pe_call (ok_l_kind T) (hr.mono (by decide)) rfl T.g_l_kind T.k_l_kind T.b_l_kind .nil pass0 (pa_cons (pv 1) pa_nil)) pe_str (nomark _)))))))), ?_⟩
    refine q_asg ev_c fun H1 e1 => ?_
    refine ⟨_, rfl, fun x dx hx hdx hne => ?_⟩
    have em : Ex H1 (upd (upd H1 dx (.own x)) x (.ins A.c_Condition dx [])) := Ex.made hx hdx hne
    refine ⟨x, dx, v, rfl, upd_same, (hv.mono e1).mono em, fun z ps hz hc H2 _ _ _ e2 => ⟨rfl, ?_⟩, fun hn H2 e2 => ?_⟩
    · subst hz
      have e12 : Ex H1 H2 := fun b o hb => e2 b o (ne_of_none hb hx) (em b o hb)
      have hcv : cv (.str z) = some ps := hc
      refine s_ret (v := .bl false) (ev_is (ev_andV (b := false) (ev_op (ev_var rfl) ev_c rv_notN) fun h => by simp at h) (by simp)) fun H3 e3 => ?_
      have : rRefd [.str z] = .bl false := by show V.bl (cv (.str z)).isNone = _; rw [hcv]; rfl
      exact this ▸ k H3 ((e1.trans e12).trans e3)
    · refine ⟨true, T.m_BadRule_MendError, fun _ a na => ?_, fun q => nomatch q⟩
      have hcv : cv v = none := by
        cases v with
        | str z => exact hn z rfl
        | _ => rfl
      refine s_asg (ev_var rfl) fun H4 e4 => ?_
      have e3 : Ex H2 (upd H2 a (ErrO (.ref A.c_BadRule) none a)) := Ex.new na
      have ha : H4 a = some (ErrO (.ref A.c_BadRule) none a) := e4 a _ upd_same
      refine s_ret (v := .bl true) (ev_is (ev_andV (b := true) (ev_op (ev_var rfl) ev_c rv_notN) fun _ => ev_is (ev_op (x := .str "rule") (y := .str "rule") (ev_call (ea_cons (ev_var rfl) ea_nil) (spKind_v T ha)) ev_c (rv_eq rfl)) (by simp)) (by simp)) fun H5 e5 => ?_
      have : rRefd [v] = .bl true := by show V.bl (cv v).isNone = _; rw [hcv]; rfl
      exact this ▸ k H5 (((((e1.trans em).trans e2).trans e3).trans e4).trans e5)
/-! ### the law at one text -/
def pRight (K : PySem.W.Frag) (vs : List V) (H : Hp) : Prop := ∃ z a ws, vs = [.str z, .ref a] ∧ z.length ≤ 1000 ∧ signs z ∧ SqL K H a ws ∧ ws.length ≤ 100 ∧ ∀ w ∈ ws, Tx 1000 w
theorem spEnds_v {p : Addr} {z w : Str} {ps : List (List Nat)} {H : Hp} (c : CondAt A.c_Condition H p z ps) (hw : w.length ≤ 1000) : SpV (spEnds A) [.ref p, .str w] H (.bl (fitE ps (L w))) :=
  fun _ e _ q _ => ⟨p, z, ps, w, rfl, c.mono e, hw, q⟩
theorem spBegins_v {p : Addr} {z w : Str} {ps : List (List Nat)} {H : Hp} (c : CondAt A.c_Condition H p z ps) (hw : w.length ≤ 1000) : SpV (spBegins A) [.ref p, .str w] H (.bl (fitB ps (L w))) :=
  fun _ e _ q _ => ⟨p, z, ps, w, rfl, c.mono e, hw, q⟩
/-- o.m(e), o an instance -/
theorem ev_meth {σ : L2.St} {H : Hp} {C a dx : Addr} {m : Str} {sp : Sp} {E : XK} {ta : TE} {t : TA} {vs : List V} {v : V} {fs : List (Str × V)} (h : Ev ta σ H (.ref a)) (ho : H a = some (.ins C dx fs)) (hm : fs.lookup m = none) (ht : EvA t σ H vs) (hs : SpV sp (.ref a :: vs) H v) :
    Ev (tMeth C m sp [] E ta t) σ H v := fun H1 e Q q => h H1 e _ fun H2 e2 => ⟨a, dx, fs, rfl, e2 _ _ (e _ _ ho), hm, ht H2 (e.trans e2) _ fun H3 e3 => by
      rw [List.append_nil]
      exact hs H3 ((e.trans e2).trans e3) Q (fun H4 e4 => q H4 ((e2.trans e3).trans e4)) E⟩
theorem no_ends {q : Addr} {z : Str} : (cFlds q z).lookup ("ends" : Str) = none := by
  unfold cFlds
  rw [lookup_putF, if_neg (by decide +kernel), lookup_putF, if_neg (by decide +kernel)]
  rfl
theorem no_begins {q : Addr} {z : Str} : (cFlds q z).lookup ("begins" : Str) = none := by
  unfold cFlds
  rw [lookup_putF, if_neg (by decide +kernel), lookup_putF, if_neg (by decide +kernel)]
  rfl
theorem ok_l_right (T : Txt K mg A) : FnOk P w K mg base CX0 9 A.f_l_right A.d_l_right P_l_right (SpFn (pRight K) fun _ => .bl true) := by
  refine T.F_l_right.ok sc_l_right (fun vs H Q E h => ?_) (fun cdv A' outer s H vs Q E hr h => ?_)
  · obtain ⟨⟨z, a, ws, rfl, _⟩, _⟩ := h
    rfl
  · obtain ⟨⟨z, a, ws, rfl, hz, hs, hS, hl, hw⟩, k⟩ := h
    refine ⟨_, (pss_cons (ps_set (i := 2) sc_l_right.nd rfl (Or.inl rfl) (pe_call (ok_l_read T) (hr.mono (by decide)) rfl T.g_l_read T.k_l_read T.b_l_read .nil pass0 (pa_cons (pv 0) pa_nil)))
      (pss_cons (ps_if (pt_cmpR op_isN (pv 2) pe_non (nomark _)) (pss_one (ps_ret (pe_call (ok_l_refused T) hr rfl T.g_l_refused T.k_l_refused T.b_l_refused .nil pass0 (pa_cons (pv 0) pa_nil)))) pss_nil)
      (pss_cons (ps_set (i := 3) sc_l_right.nd rfl (Or.inl rfl) (pe_make T.M_Condition (ok_Condition_init T) (hr.mono (by decide)) rfl T.g_Condition T.b_Condition_init .nil passL (pa_cons (pv 0) pa_nil)))
      (pss_cons (ps_if (pt_cmpR op_ne (pe_fld (pv 3) rfl) (pv 0) (nomark _)) (pss_one (ps_ret pe_bl)) pss_nil)
      (pss_cons (ps_for PassesOwn.never rfl (pi_list (pv 1)) (pg_name (i := 4) sc_l_right.nd rfl (Or.inl rfl))
      (pss_cons (ps_set (i := 5) sc_l_right.nd rfl (Or.inl rfl) (pe_callB call_len_seq (by rfl) T.n_len PySem.boot_len (pa_cons (pv 2) pa_nil)))
      (pss_cons (ps_set (i := 6) sc_l_right.nd rfl (Or.inl rfl) (pe_and (pe_cmpR op_ge (pe_callB call_len_str (by rfl) T.n_len PySem.boot_len (pa_cons (pv 4) pa_nil)) (pv 5) (nomark _)) (pe_one (pe_call (ok_l_fits T) (hr.mono (by decide)) rfl T.g_l_fits T.k_l_fits T.b_l_fits .nil pass0 (pa_cons (pv 2) (pa_cons (pe_slice sl_str (pv 4) (po_some (pe_op op_sub (pe_callB call_len_str (by rfl) T.n_len PySem.boot_len (pa_cons (pv 4) pa_nil)) (pv 5))) po_none) pa_nil))))))
      (pss_cons (ps_set (i := 7) sc_l_right.nd rfl (Or.inl rfl) (pe_and (pe_cmpR op_ge (pe_callB call_len_str (by rfl) T.n_len PySem.boot_len (pa_cons (pv 4) pa_nil)) (pv 5) (nomark _)) (pe_one (pe_call (ok_l_fits T) (hr.mono (by decide)) rfl T.g_l_fits T.k_l_fits T.b_l_fits .nil pass0 (pa_cons (pv 2) (pa_cons (pe_slice sl_str (pv 4) po_none (po_some (pv 5))) pa_nil))))))
      (pss_one (ps_if (PW.pt (pw_or (pt_cmpR op_ne (pe_callB call_repr_bl (by rfl) T.n_repr (by decide +kernel) (pa_cons (pe_meth (pv 3) T.cl_Condition T.mt_Condition_ends (ok_Condition_ends T) (hr.mono (by decide)) T.b_Condition_ends .nil pass0 (pa_cons (pv 4) pa_nil)) pa_nil)) (pe_callB call_repr_bl (by rfl) T.n_repr (by decide +kernel) (pa_cons (pv 6) pa_nil)) (nomark _)) (pw_or1 (pt_cmpR op_ne (pe_callB call_repr_bl (by rfl) T.n_repr (by decide +kernel) (pa_cons (pe_meth (pv 3) T.cl_Condition T.mt_Condition_begins (ok_Condition_begins T) (hr.mono (by decide)) T.b_Condition_begins .nil pass0 (pa_cons (pv 4) pa_nil)) pa_nil)) (pe_callB call_repr_bl (by rfl) T.n_repr (by decide +kernel) (pa_cons (pv 7) pa_nil)) (nomark _))))) (pss_one (ps_ret pe_bl)) pss_nil))))))
      (pss_one (ps_ret pe_bl))))))), ?_⟩
    refine ⟨_, rfl, z, rfl, hz, hs, fun ps hc pp H1 hpp e1 => ?_, fun hc H1 e1 => ?_⟩
    · refine q_when (et_test (ev_op (ev_var rfl) ev_c rv_isN)) (fun hb => nomatch hb) fun _ H2 e2 => ?_
      refine ⟨_, rfl, fun x dx hx hdx hne => ?_⟩
      have em : Ex H2 (upd (upd H2 dx (.own x)) x (.ins A.c_Condition dx [])) := Ex.made hx hdx hne
      refine ⟨x, dx, .str z, rfl, upd_same, ⟨hz, hs⟩, fun z' ps' hz' hc' H3 q3 nq3 hcondq e3 => ⟨rfl, ?_⟩, fun hn => absurd (hn z rfl) (by rw [hc]; simp)⟩
      cases hz'
      rw [hc] at hc'
      cases hc'
      have e23 : Ex H2 H3 := fun b o hb => e3 b o (ne_of_none hb hx) (em b o hb)
      have e13 := (e1.trans e2).trans e23
      have hpp3 := e23 _ _ (e2 _ _ hpp)
      have hcond := hcondq.at
      have hlen := hcond.len
      obtain ⟨dx3, q3, ho, hq⟩ := hcond.ob
      refine q_when (b := false) (et_is (et_test (ev_op (ev_fld (ev_var rfl) ho T.cl_Condition T.na_Condition_told told_told) (ev_var rfl) (rv_ne rfl))) (by simp)) (fun hb => nomatch hb) fun _ H4 e4 => ?_
      refine q_forLn (xs := ws) (ev_var rfl) (ex_l (e13.trans e4) hS) (fun i σ' H' => ∃ v4 v5 v6 v7, σ' = [some (.str z), some (.ref a), some (.ref pp), some (.ref x), v4, v5, v6, v7] ∧ Ex H4 H') (fun H5 e5 => ⟨none, none, none, none, rfl, e5⟩) (fun i σ' H' _ ⟨_, _, _, _, _, e⟩ => ex_l ((e13.trans e4).trans e) hS) ?_ ?_
      · rintro i wv σ' H' hi ⟨v4, v5, v6, v7, rfl, e5⟩
        obtain ⟨w, rfl, w1, w2⟩ := hw wv (List.mem_of_getElem? hi)
        have hwl := len_L w
        have hS5 : H' pp = some (.lst (ps.map fun l => V.str (TX.T l))) := e5 _ _ (e4 _ _ hpp3)
        have hc5 := (hcond.mono e4).mono e5
        have ho5 := e5 _ _ (e4 _ _ ho)
        refine q_asg (v := .int (ps.length : Int)) (ev_is (ev_cb (ea_cons (ev_var rfl) ea_nil) (rc_lenL (sq_of hS5))) (by rw [List.length_map])) fun H6 e6 => ?_
        refine q_asg (v := .bl (fitE ps (L w))) (ev_andV (a := decide (ps.length ≤ (L w).length)) (b := fits ps ((L w).drop ((L w).length - ps.length))) (ev_is (ev_op (ev_cb (ea_cons (ev_var rfl) ea_nil) (rc_lenS (by omega))) (ev_var rfl) rv_I0) (by apply congrArg V.bl; rw [decide_eq_decide]; omega)) fun ht => ?_) fun H7 e7 => ?_
        · have hle : ps.length ≤ (L w).length := by simpa using ht
          have ec : cutS w (some ((w.length : Int) - (ps.length : Int))) none = TX.T ((L w).drop ((L w).length - ps.length)) := by
            rw [show ((w.length : Int) - (ps.length : Int)) = (((L w).length - ps.length : Nat) : Int) by omega, cut_end w _ (by omega)]
          refine ev_is (ev_call (ea_cons (ev_var rfl) (ea_cons (ev_is (ev_slS (ev_var rfl) (eo_some (ev_op (ev_cb (ea_cons (ev_var rfl) ea_nil) (rc_lenS (by omega))) (ev_var rfl) rv_I0)) eo_none (by omega)) (congrArg V.str ec)) ea_nil)) (spFits_v (sq_of (e6 _ _ hS5)) (by omega) (by rw [len_T, List.length_drop]; omega) (by rw [L_T, List.length_drop]; omega))) ?_
          rw [L_T]
        refine q_asg (v := .bl (fitB ps (L w))) (ev_andV (a := decide (ps.length ≤ (L w).length)) (b := fits ps ((L w).take ps.length)) (ev_is (ev_op (ev_cb (ea_cons (ev_var rfl) ea_nil) (rc_lenS (by omega))) (ev_var rfl) rv_I0) (by apply congrArg V.bl; rw [decide_eq_decide]; omega)) fun ht => ?_) fun H8 e8 => ?_
        · have hle : ps.length ≤ (L w).length := by simpa using ht
          refine ev_is (ev_call (ea_cons (ev_var rfl) (ea_cons (ev_is (ev_slS (ev_var rfl) eo_none (eo_some (ev_var rfl)) (by omega)) (congrArg V.str (cut_begin w _ hle))) ea_nil)) (spFits_v (sq_of (e7 _ _ (e6 _ _ hS5))) (by omega) (by rw [len_T, List.length_take]; omega) (by rw [L_T, List.length_take]; omega))) ?_
          rw [L_T]
        have e58 := (e6.trans e7).trans e8
        have hc8 := hc5.mono e58
        have ho8 := e58 _ _ ho5
        refine s_when (b := false) (et_is (et_or (et_test (ev_op (ev_cb (ea_cons (ev_meth (ev_var rfl) ho8 no_ends (ea_cons (ev_var rfl) ea_nil) (spEnds_v hc8 w1)) ea_nil) rc_repr) (ev_cb (ea_cons (ev_var rfl) ea_nil) rc_repr) (rv_ne rfl)))
          fun _ => et_test (ev_op (ev_cb (ea_cons (ev_meth (ev_var rfl) ho8 no_begins (ea_cons (ev_var rfl) ea_nil) (spBegins_v hc8 w1)) ea_nil) rc_repr) (ev_cb (ea_cons (ev_var rfl) ea_nil) rc_repr) (rv_ne rfl))) (by simp)) (fun hb => nomatch hb) fun _ H9 e9 => ?_
        exact ⟨_, _, _, _, rfl, (e5.trans e58).trans e9⟩
      · rintro σ' H' ⟨v4, v5, v6, v7, rfl, e5⟩
        exact s_ret ev_c fun H6 e6 => k H6 (((e13.trans e4).trans e5).trans e6)
    · refine q_when (et_test (ev_op (ev_var rfl) ev_c rv_isN)) (fun _ H2 e2 => ?_) fun hb => nomatch hb
      refine s_ret (v := .bl true) (ev_is (ev_call (ea_cons (ev_var rfl) ea_nil) (spFn fun H3 e3 => ⟨.str z, rfl, hz, hs⟩)) ?_) fun H3 e3 => k H3 ((e1.trans e2).trans e3)
      show V.bl (cv (.str z)).isNone = _
      rw [show cv (.str z) = none from hc]
      rfl
/-! ### bent texts -/
abbrev bends : Str := "abz.[]^[]^A0 -"
theorem bends_len : bends.length = 14 := by decide +kernel
theorem bends_list : bends.cps.toList.length = 14 := by decide +kernel
theorem bends_signs : signs bends := by unfold signs; decide +kernel
def pBent (vs : List V) (_ : Hp) : Prop := ∃ z c, vs = [.str z, .int c] ∧ z.length ≤ 40 ∧ signs z
theorem ok_l_bent (T : Txt K mg A) : FnOk P w K mg base CX0 1 A.f_l_bent A.d_l_bent P_l_bent (SpP pBent (Tx 100)) := by
  refine T.F_l_bent.ok sc_l_bent (fun vs H Q E h => ?_) (fun cdv A' outer s H vs Q E hr h => ?_)
  · obtain ⟨⟨z, c, rfl, _⟩, _⟩ := h
    rfl
  · obtain ⟨⟨z, c, rfl, hz, hs⟩, k⟩ := h
    refine ⟨_, (pss_cons (ps_set (i := 2) sc_l_bent.nd rfl (Or.inl rfl) (pe_op op_mod (pe_op op_fdiv (pv 1) pe_int) (pe_op op_add (pe_callB call_len_str (by rfl) T.n_len PySem.boot_len (pa_cons (pv 0) pa_nil)) pe_int)))
      (pss_cons (ps_set (i := 3) sc_l_bent.nd rfl (Or.inl rfl) (pe_ix ix_str pe_str (pe_op op_mod (pe_op op_fdiv (pv 1) pe_int) pe_int) (fun _ _ => rfl)))
      (pss_cons (ps_if (pt_cmpR op_eq (pe_op op_mod (pv 1) pe_int) pe_int (nomark _)) (pss_one (ps_ret (pe_op op_add_str (pe_slice sl_str (pv 0) po_none (po_some (pv 2))) (pe_slice sl_str (pv 0) (po_some (pe_op op_add (pv 2) pe_int)) po_none)))) pss_nil)
      (pss_one (ps_ret (pe_op op_add_str (pe_op op_add_str (pe_slice sl_str (pv 0) po_none (po_some (pv 2))) (pv 3)) (pe_slice sl_str (pv 0) (po_some (pe_op op_add (pv 2) (pe_op op_mod (pv 1) pe_int))) po_none))))))), ?_⟩
    have tz : Tx 40 (.str z) := ⟨z, rfl, hz, hs⟩
    refine q_asg (ev_op (ev_op (ev_var rfl) ev_c (rv_I ⟨by decide, by decide⟩)) (ev_op (ev_cb (ea_cons (ev_var rfl) ea_nil) (rc_lenS (by omega))) ev_c rv_I0) (rv_I (by show (0 : Int) < _; omega))) fun H1 e1 => ?_
    refine q_asg (v := .str (sgn bends (c / 400 % 14))) (ev_sgn ev_c (ev_op (ev_op (ev_var rfl) ev_c (rv_I ⟨by decide, by decide⟩)) ev_c (rv_I (by show (0 : Int) < _; decide))) (by rw [bends_len]; decide) (Int.emod_nonneg _ (by decide)) (by rw [bends_list]; exact Int.emod_lt_of_pos _ (by decide))) fun H2 e2 => ?_
    have ts : Tx 1 (.str (sgn bends (c / 400 % 14))) := ⟨_, rfl, Nat.le_refl _, sgn_signs bends_signs _⟩
    refine q_when (et_test (ev_op (ev_op (ev_var rfl) ev_c (rv_I (by show (0 : Int) < _; decide))) ev_c (rv_eq rfl))) (fun _ H3 e3 => ?_) fun _ H3 e3 => ?_
    · refine s_retP (evp_add (n := 40) (m := 40) (evp_sl (evp_v (ev_var rfl) tz) eo_none (eo_some (ev_var rfl)) (by decide)) (evp_sl (evp_v (ev_var rfl) tz) (eo_some (ev_op (ev_var rfl) ev_c rv_I0)) eo_none (by decide)) (by decide) (by decide)) fun v H4 e4 hv => k v H4 (((e1.trans e2).trans e3).trans e4) hv
    · refine s_retP (evp_add (n := 41) (m := 40) (evp_add (n := 40) (m := 1) (evp_sl (evp_v (ev_var rfl) tz) eo_none (eo_some (ev_var rfl)) (by decide)) (evp_v (ev_var rfl) ts) (by decide) (by decide)) (evp_sl (evp_v (ev_var rfl) tz) (eo_some (ev_op (ev_var rfl) (ev_op (ev_var rfl) ev_c (rv_I (by show (0 : Int) < _; decide))) rv_I0)) eo_none (by decide)) (by decide) (by decide)) fun v H4 e4 hv => k v H4 (((e1.trans e2).trans e3).trans e4) hv
/-! ### words -/
def spWords (K : PySem.W.Frag) : Sp := fun vs H Q _ => ∃ (a : Addr) (ns : List Int) (at_ : Int) (b : Addr) (xs : List V), vs = [.ref a, .int at_, .ref b] ∧ SqL K H a (ns.map V.int) ∧ 0 ≤ at_ ∧ at_ ≤ 50000 ∧ SqL K H b xs ∧ xs.length ≤ 3 ∧ (∀ x ∈ xs, Pl H x) ∧
  ∀ p ys H', H' p = some (.lst ys) → ys.length ≤ 20 → (∀ y ∈ ys, Tx 100 y) → Ex H H' → Q (.ref p) H'
theorem ok_l_words (T : Txt K mg A) : FnOk P w K mg base CX0 4 A.f_l_words A.d_l_words P_l_words (spWords K) := by
  refine T.F_l_words.ok sc_l_words (fun vs H Q E h => ?_) (fun cdv A' outer s H vs Q E hr h => ?_)
  · obtain ⟨a, ns, at_, b, xs, rfl, _⟩ := h
    rfl
  · obtain ⟨a, ns, at_, b, xs, rfl, hS, h0, h1, hB, hl, hp, k⟩ := h
    refine ⟨_, (pss_cons (ps_set (i := 3) sc_l_words.nd rfl (Or.inl rfl) (pe_op op_add pe_int (pe_op op_mod (pe_call (ok_l_number T) (hr.mono (by decide)) rfl T.g_l_number T.k_l_number T.b_l_number .nil pass0 (pa_cons (pv 0) (pa_cons (pv 1) pa_nil))) pe_int)))
      (pss_cons (ps_set (i := 4) sc_l_words.nd rfl (Or.inl rfl) (pe_call (ok_l_letters T) hr rfl T.g_l_letters T.k_l_letters T.b_l_letters .nil pass0 (pa_cons (pv 0) (pa_cons (pe_op op_add (pv 1) pe_int) (pa_cons (pv 3) pa_nil)))))
      (pss_cons (ps_set (i := 5) sc_l_words.nd rfl (Or.inl rfl) (pe_join pe_str (pe_lc (g := gTup K 2 (gCons (gName 9) (gCons (gName 10) gNil))) (own := [("_law_k", 9), ("_law_place", 10)]) (by rfl) sc_l_words.nd (pi_enum (by rfl) T.n_enumerate (pa_cons (pv 2) pa_nil)) (blkOk_by (own := [("_law_k", 9), ("_law_place", 10)]) (N := N_l_words) (sc := defScope s_l_words) (by decide +kernel)) (fun _ _ _ _ _ => (pg_tup (by rfl) (pgs_cons (pg_name (i := 9) sc_l_words.nd rfl (Or.inl rfl)) (pgs_cons (pg_name (i := 10) sc_l_words.nd rfl (Or.inl rfl)) pgs_nil)))) (fun _ _ _ _ _ => pts_nil) (fun _ _ _ _ _ => (pe_ix ix_str (pe_ix (ix_tupK (K := K) rfl) (pv 10) pe_int (fun _ _ => rfl)) (pe_op op_mod (pe_call (ok_l_number T) (hr.mono (by decide)) rfl T.g_l_number T.k_l_number T.b_l_number .nil pass0 (pa_cons (pv 0) (pa_cons (pe_op op_add (pe_op op_add (pv 1) pe_int) (pv 9)) pa_nil))) (pe_callB call_len_str (by rfl) T.n_len PySem.boot_len (pa_cons (pe_ix (ix_tupK (K := K) rfl) (pv 10) pe_int (fun _ _ => rfl)) pa_nil))) (fun _ _ => rfl))))))
      (pss_cons (ps_set (i := 6) sc_l_words.nd rfl (Or.inl rfl) (pe_lst (pa_cons (pv 4) (pa_cons (pe_op op_add_str (pv 5) (pv 4)) (pa_cons (pe_op op_add_str (pv 4) (pv 5)) (pa_cons (pe_op op_add_str (pe_op op_add_str (pv 5) pe_str) (pv 5)) pa_nil))))))
      (pss_cons (ps_set (i := 7) sc_l_words.nd rfl (Or.inl rfl) (pe_ix ix_str pe_str (pe_op op_mod (pe_call (ok_l_number T) (hr.mono (by decide)) rfl T.g_l_number T.k_l_number T.b_l_number .nil pass0 (pa_cons (pv 0) (pa_cons (pe_op op_add (pv 1) pe_int) pa_nil))) pe_int) (fun _ _ => rfl)))
      (pss_cons (ps_set (i := 8) sc_l_words.nd rfl (Or.inl rfl) (pe_op op_mod (pe_call (ok_l_number T) (hr.mono (by decide)) rfl T.g_l_number T.k_l_number T.b_l_number .nil pass0 (pa_cons (pv 0) (pa_cons (pe_op op_add (pv 1) pe_int) pa_nil))) (pe_op op_add (pe_callB call_len_str (by rfl) T.n_len PySem.boot_len (pa_cons (pv 4) pa_nil)) (pe_callB call_len_str (by rfl) T.n_len PySem.boot_len (pa_cons (pv 5) pa_nil)))))
      (pss_cons (ps_expr (pe_bm PySem.F.plainAttrs_list PySem.F.slot_list_append PySem.F.type_list_append mt_append (pv 6) (pa_cons (pe_op op_add_str (pe_op op_add_str (pe_slice sl_str (pe_op op_add_str (pv 4) (pv 5)) po_none (po_some (pv 8))) (pv 7)) (pe_slice sl_str (pe_op op_add_str (pv 4) (pv 5)) (po_some (pe_op op_add (pv 8) pe_int)) po_none)) pa_nil)))
      (pss_one (ps_ret (pe_op op_cat (pe_lc (own := [("_law_one", 11)]) (by rfl) sc_l_words.nd (pi_list (pv 6)) (blkOk_by (own := [("_law_one", 11)]) (N := N_l_words) (sc := defScope s_l_words) (by decide +kernel)) (fun _ _ _ _ _ => (pg_name (i := 11) sc_l_words.nd rfl (Or.inl rfl))) (fun _ _ _ _ _ => pts_nil) (fun _ _ _ _ _ => (pe_slice sl_str (pv 11) po_none (po_some pe_int)))) (pe_lc (own := [("_law_one", 11)]) (by rfl) sc_l_words.nd (pi_list (pv 6)) (blkOk_by (own := [("_law_one", 11)]) (N := N_l_words) (sc := defScope s_l_words) (by decide +kernel)) (fun _ _ _ _ _ => (pg_name (i := 11) sc_l_words.nd rfl (Or.inl rfl))) (fun _ _ _ _ _ => pts_nil) (fun _ _ _ _ _ => (pe_slice sl_str (pv 11) (po_some (pe_un un_neg pe_int)) po_none))))))))))))), ?_⟩
    have nm : ∀ {H1 : Hp} {j : Int}, Ex H H1 → 0 ≤ j → j ≤ 1000000 → SpV (spNum K) [.ref a, .int j] H1 (.int (num ns j)) := fun e g1 g2 => spNum_v (ex_l e hS) g1 g2
    have z0 : 0 ≤ num ns at_ % 16 := Int.emod_nonneg _ (by decide)
    have z1 : num ns at_ % 16 < 16 := Int.emod_lt_of_pos _ (by decide)
    refine q_asg (v := .int (1 + num ns at_ % 16)) (ev_op ev_c (ev_op (ev_call (ea_cons (ev_var rfl) (ea_cons (ev_var rfl) ea_nil)) (nm (Ex.refl _) h0 (by omega))) ev_c (rv_I (by show (0 : Int) < _; decide))) rv_I0) fun H1 e1 => ?_
    refine q_asgC (ea_cons (ev_var rfl) (ea_cons (ev_op (ev_var rfl) ev_c rv_I0) (ea_cons (ev_var rfl) ea_nil))) fun H2 e2 => ⟨a, ns, _, _, rfl, ex_l (e1.trans e2) hS, by omega, by omega, by omega, by omega, fun word H3 wl wsg e3 => ?_⟩
    have e03 := (e1.trans e2).trans e3
    have tw : Tx 16 (.str word) := ⟨word, rfl, by omega, wsg⟩
    refine q_asgP (P := Tx 3) (evp_join (n := 3) (m := 1) (elp_lcE (ea_cons (ev_var rfl) ea_nil) (ex_l e03 hB) hl (by decide) (fun _ _ => rfl) fun i x H4 e4 hx => ?_) (by decide) (by decide)) fun fv H4 e4 hf => ?_
    · have hi : i < 3 := by
        have := (List.getElem?_eq_some_iff.mp hx).1
        omega
      obtain ⟨T0, t, l, rfl, ht, t1, t2, l1, l2, l3⟩ := (hp x (List.mem_of_getElem? hx)).mono (e03.trans e4)
      have hll := len_L l
      have pl : ∀ {H5 : Hp} {σ : L2.St} {j : Nat}, Ex H4 H5 → σ[j]? = some (some (.ref T0)) → Ev (tOp (rIxT K) (tVar j) (tC (.int 1))) σ H5 (.str l) := fun e h => ev_op (ev_var h) ev_c (rv_ixT (st_of (e _ _ ht)) (atI_nat (j := 1) rfl))
      refine evp_v (ev_sgn (pl (Ex.refl _) rfl) (ev_op (ev_call (ea_cons (ev_var rfl) (ea_cons (ev_op (ev_op (ev_var rfl) ev_c rv_I0) (ev_var rfl) rv_I0) ea_nil)) (nm (e03.trans e4) (by omega) (by omega))) (ev_cb (ea_cons (pl (Ex.refl _) rfl) ea_nil) (rc_lenS (by omega))) (rv_I (by show (0 : Int) < _; omega)))
        (by omega) (Int.emod_nonneg _ (by omega)) (by rw [← hll]; exact Int.emod_lt_of_pos _ (by omega))) ⟨_, rfl, Nat.le_refl _, sgn_signs l3 _⟩
    obtain ⟨fit, rfl, f1, f2⟩ := hf
    have tf : Tx 3 (.str fit) := ⟨fit, rfl, f1, f2⟩
    have e04 := e03.trans e4
    refine q_asgLP (n := 4) (P := Tx 40) (elp_lst (eap_cons (evp_v (ev_var rfl) (tw.mono (by decide))) (eap_cons (evp_add (evp_v (ev_var rfl) tf) (evp_v (ev_var rfl) tw) (by decide) (by decide)) (eap_cons (evp_add (evp_v (ev_var rfl) tw) (evp_v (ev_var rfl) tf) (by decide) (by decide))
      (eap_cons (evp_add (n := 4) (m := 3) (evp_add (n := 3) (m := 1) (evp_v (ev_var rfl) tf) (evp_v ev_c ⟨_, rfl, by decide +kernel, by unfold signs; decide +kernel⟩) (by decide) (by decide)) (evp_v (ev_var rfl) tf) (by decide) (by decide)) eap_nil)))) (by decide)) fun p ys H5 hpn e5 h5 yl yp => ?_
    have np : H p = none := fresh_back e04 hpn
    refine q_asg (v := .str (sgn alph (num ns (at_ + 30) % 26))) (ev_sgn ev_c (ev_op (ev_call (ea_cons (ev_var rfl) (ea_cons (ev_op (ev_var rfl) ev_c rv_I0) ea_nil)) (nm (e04.trans e5) (by omega) (by omega))) ev_c (rv_I (by show (0 : Int) < _; decide))) (by rw [alph_len]; decide) (Int.emod_nonneg _ (by decide)) (by rw [alph_list]; exact Int.emod_lt_of_pos _ (by decide))) fun H6 e6 => ?_
    have to_ : Tx 1 (.str (sgn alph (num ns (at_ + 30) % 26))) := ⟨_, rfl, Nat.le_refl _, sgn_signs alph_signs _⟩
    refine q_asg (ev_op (ev_call (ea_cons (ev_var rfl) (ea_cons (ev_op (ev_var rfl) ev_c rv_I0) ea_nil)) (nm ((e04.trans e5).trans e6) (by omega) (by omega))) (ev_op (ev_cb (ea_cons (ev_var rfl) ea_nil) (rc_lenS (by omega))) (ev_cb (ea_cons (ev_var rfl) ea_nil) (rc_lenS (by omega))) rv_I0) (rv_I (by show (0 : Int) < _; omega))) fun H7 e7 => ?_
    have h7 := e7 _ _ (e6 _ _ h5)
    refine q_appP (P := Tx 40) h7 (ev_var rfl) (evp_add (n := 20) (m := 19) (evp_add (n := 19) (m := 1) (evp_sl (evp_add (evp_v (ev_var rfl) tw) (evp_v (ev_var rfl) tf) (by decide) (by decide)) eo_none (eo_some (ev_var rfl)) (by decide)) (evp_v (ev_var rfl) to_) (by decide) (by decide))
      (evp_sl (evp_add (evp_v (ev_var rfl) tw) (evp_v (ev_var rfl) tf) (by decide) (by decide)) (eo_some (ev_op (ev_var rfl) ev_c rv_I0)) eo_none (by decide)) (by decide) (by decide)) (by omega) fun v H8 e8 hv => ?_
    have h8 : (upd H8 p (.lst (ys ++ [v]))) p = some (.lst (ys ++ [v])) := upd_same
    have yl2 : (ys ++ [v]).length ≤ 10 := by rw [List.length_append, List.length_singleton]; omega
    have yp2 : ∀ y ∈ ys ++ [v], Tx 40 y := by
      intro y hy
      rcases List.mem_append.mp hy with hy | hy
      · exact yp y hy
      · rw [List.mem_singleton] at hy
        exact hy ▸ hv
    have e9 : Ex H (upd H8 p (.lst (ys ++ [v]))) := Ex.mut ((((e04.trans e5).trans e6).trans e7).trans e8) np
    refine s_retLP (n := 20) (P := Tx 100) (elp_cat (n := 10) (m := 10) (elp_lcL (ev_var rfl) (sq_of h8) yl2 (by decide) (fun _ => rfl) fun i x H9 e9 hx => ?_) (elp_lcL (ev_var rfl) (sq_of h8) yl2 (by decide) (fun _ => rfl) fun i x H9 e9 hx => ?_) (by decide) (by decide)) fun q zs H9 hq e10 h9 zl zp => ?_
    · exact evp_imp (evp_sl (n := 40) (evp_v (ev_var rfl) (yp2 x (List.mem_of_getElem? hx))) eo_none (eo_some ev_c) (by decide)) fun v hv => hv.mono (by decide)
    · exact evp_imp (evp_sl (n := 40) (evp_v (ev_var rfl) (yp2 x (List.mem_of_getElem? hx))) (eo_some (ev_un ev_c ru_neg)) eo_none (by decide)) fun v hv => hv.mono (by decide)
    · exact k q zs H9 h9 zl zp (e9.trans e10)
/-! ### the law -/
def Odd (H : Hp) (v : V) : Prop := Thing H v ∧ cv v = none
theorem Odd.mo : ∀ H H' v, Ex H H' → Odd H v → Odd H' v := fun _ _ _ e h => ⟨h.1.mono e, h.2⟩
theorem odd_dots : conds (L ("...." : Str)) = none := by decide +kernel
theorem odd_empty : conds (L ("[]" : Str)) = none := by decide +kernel
theorem odd_open : conds (L ("[a" : Str)) = none := by decide +kernel
def spLaw (K : PySem.W.Frag) : Sp := fun vs H Q _ => ∃ (a : Addr) (ns : List Int), vs = [.ref a] ∧ SqL K H a (ns.map V.int) ∧ ns.length ≤ 63 ∧ ∀ H', Q (.bl true) H'
theorem ok_law (T : Txt K mg A) : FnOk P w K mg base CX0 10 A.f_law A.d_law P_law (spLaw K) := by
  refine T.F_law.ok sc_law (fun vs H Q E h => ?_) (fun cdv A' outer s H vs Q E hr h => ?_)
  · obtain ⟨a, ns, rfl, _⟩ := h
    rfl
  · obtain ⟨a, ns, rfl, hS, hlen, k⟩ := h
    refine ⟨_, (pss_cons (ps_for PassesOwn.never rfl (pi_range1 rfl T.n_range (pa_cons (pe_op op_add pe_int (pe_callB (call_min2 rfl) (by rfl) T.n_min (by decide +kernel) (pa_cons pe_int (pa_cons (pe_callB call_len_seq (by rfl) T.n_len PySem.boot_len (pa_cons (pv 0) pa_nil)) pa_nil)))) pa_nil)) (pg_name (i := 1) sc_law.nd rfl (Or.inl rfl))
      (pss_cons (ps_set (i := 2) sc_law.nd rfl (Or.inl rfl) (pe_op op_mul pe_int (pv 1)))
      (pss_cons (ps_set (i := 3) sc_law.nd rfl (Or.inl rfl) (pe_call (ok_l_condition T) (hr.mono (by decide)) rfl T.g_l_condition T.k_l_condition T.b_l_condition .nil pass0 (pa_cons (pv 0) (pa_cons (pv 2) pa_nil))))
      (pss_cons (ps_set (i := 4) sc_law.nd rfl (Or.inl rfl) (pe_call (ok_l_words T) (hr.mono (by decide)) rfl T.g_l_words T.k_l_words T.b_l_words .nil pass0 (pa_cons (pv 0) (pa_cons (pe_op op_add (pv 2) pe_int) (pa_cons (pv 3) pa_nil)))))
      (pss_cons (ps_set (i := 5) sc_law.nd rfl (Or.inl rfl) (pe_call (ok_l_written T) (hr.mono (by decide)) rfl T.g_l_written T.k_l_written T.b_l_written .nil pass0 (pa_cons (pv 3) pa_nil)))
      (pss_cons (ps_set (i := 6) sc_law.nd rfl (Or.inl rfl) (pe_call (ok_l_number T) (hr.mono (by decide)) rfl T.g_l_number T.k_l_number T.b_l_number .nil pass0 (pa_cons (pv 0) (pa_cons (pe_op op_add (pv 2) pe_int) pa_nil))))
      (pss_cons (ps_if (PW.pt (pw_or (pt_not (pt_val (pe_call (ok_l_right T) hr rfl T.g_l_right T.k_l_right T.b_l_right .nil pass0 (pa_cons (pv 5) (pa_cons (pv 4) pa_nil))))) (pw_or1 (pt_not (pt_val (pe_call (ok_l_right T) hr rfl T.g_l_right T.k_l_right T.b_l_right .nil pass0 (pa_cons (pe_call (ok_l_bent T) (hr.mono (by decide)) rfl T.g_l_bent T.k_l_bent T.b_l_bent .nil pass0 (pa_cons (pv 5) (pa_cons (pv 6) pa_nil))) (pa_cons (pv 4) pa_nil)))))))) (pss_one (ps_ret pe_bl)) pss_nil)
      (pss_cons (ps_set (i := 7) sc_law.nd rfl (Or.inl rfl) (pe_ix ix_list (pe_lst (pa_cons pe_non (pa_cons pe_int (pa_cons pe_bl (pa_cons (pe_lst (pa_cons (pv 5) pa_nil)) (pa_cons (pe_tup (pa_cons (pv 5) pa_nil)) (pa_cons pe_dnewK (pa_cons pe_str (pa_cons pe_str (pa_cons pe_str pa_nil)))))))))) (pe_op op_mod (pe_op op_fdiv (pv 6) pe_int) pe_int) (fun _ _ => rfl)))
      (pss_one (ps_if (PW.pt (pw_or (pt_not (pt_val (pe_call (ok_l_refused T) (hr.mono (by decide)) rfl T.g_l_refused T.k_l_refused T.b_l_refused .nil pass0 (pa_cons (pv 7) pa_nil)))) (pw_or1 (pt_not (pt_val (pe_call (ok_l_right T) hr rfl T.g_l_right T.k_l_right T.b_l_right .nil pass0 (pa_cons (pv 5) (pa_cons (pv 4) pa_nil)))))))) (pss_one (ps_ret pe_bl)) pss_nil))))))))))
      (pss_one (ps_ret pe_bl))), ?_⟩
    have hl : ∀ {σ : L2.St}, σ[0]? = some (some (.ref a)) → Ev (tCB (fun vs H Q => ∃ p ys, vs = [.ref p] ∧ (SqL K H p ys ∨ SqT K H p ys) ∧ Q (.int ys.length) H) (tCons (tVar 0) tNil)) σ H (.int (ns.map V.int).length) := fun hi => ev_cb (ea_cons (ev_var hi) ea_nil) (rc_lenL hS)
    refine q_forR1 (n := 1 + (if ((ns.map V.int).length : Int) < 31 then ((ns.map V.int).length : Int) else 31)) (ea_cons (ev_op ev_c (ev_cb (ea_cons ev_c (ea_cons (hl rfl) ea_nil)) rc_min) rv_I0) ea_nil) (by rw [List.length_map]; split <;> omega)
      (fun i σ' H' => Ex H H' ∧ ∃ v1 v2 v3 v4 v5 v6 v7, σ' = [some (.ref a), v1, v2, v3, v4, v5, v6, v7]) (fun H1 e => ⟨e, none, none, none, none, none, none, none, rfl⟩) ?_ ?_
    · rintro i σ' H' hi ⟨eH, v1, v2, v3, v4, v5, v6, v7, rfl⟩
      have hi' : (i : Int) ≤ 31 := by
        rw [List.length_map] at hi
        split at hi <;> omega
      refine q_asg (v := .int (40 * (i : Int))) (ev_op ev_c (ev_var rfl) (rv_I (.inl ⟨by decide, by decide⟩))) fun H1 e1 => ?_
      refine q_asgC (ea_cons (ev_var rfl) (ea_cons (ev_var rfl) ea_nil)) fun H2 e2 => ⟨a, ns, _, rfl, ex_l ((eH.trans e1).trans e2) hS, by omega, by omega, fun pp xs H3 hpp xl xp e3 => ?_⟩
      have e03 := ((eH.trans e1).trans e2).trans e3
      refine q_asgC (ea_cons (ev_var rfl) (ea_cons (ev_op (ev_var rfl) ev_c rv_I0) (ea_cons (ev_var rfl) ea_nil))) fun H4 e4 => ⟨a, ns, _, pp, xs, rfl, ex_l (e03.trans e4) hS, by omega, by omega, sq_of (e4 _ _ hpp), xl, fun x hx => (xp x hx).mono e4, fun pw ws H5 hpw wl wp e5 => ?_⟩
      have e05 := (e03.trans e4).trans e5
      refine q_asgC (ea_cons (ev_var rfl) ea_nil) fun H6 e6 => ⟨pp, xs, rfl, sq_of (e6 _ _ (e5 _ _ (e4 _ _ hpp))), xl, fun x hx => (xp x hx).mono ((e4.trans e5).trans e6), fun z H7 zl zs e7 => ?_⟩
      have e57 := e6.trans e7
      have hpw7 := e57 _ _ hpw
      have pr : ∀ {H8 : Hp} {z : Str}, Ex H7 H8 → z.length ≤ 1000 → signs z → SpV (SpFn (pRight K) fun _ => .bl true) [.str z, .ref pw] H8 (.bl true) := fun e g1 g2 => spFn fun H9 e9 => ⟨_, pw, ws, rfl, g1, g2, sq_of (e9 _ _ (e _ _ hpw7)), by omega, fun w hw => (wp w hw).mono (by decide)⟩
      refine q_asg (v := .int (num ns (40 * (i : Int) + 38))) (ev_call (ea_cons (ev_var rfl) (ea_cons (ev_op (ev_var rfl) ev_c rv_I0) ea_nil)) (spNum_v (ex_l (e05.trans e57) hS) (by omega) (by omega))) fun H8 e8 => ?_
      refine q_when (b := false) (fun H9 e9 Q9 q9 => ?_) (fun hb => nomatch hb) fun _ H9 e9 => ?_
      · -- the text, then the bent one
        refine (ev_call (ea_cons (ev_var rfl) (ea_cons (ev_var rfl) ea_nil)) (pr e8 (by omega) zs)) H9 e9 _ fun H10 e10 => ⟨true, rfl, ?_⟩
        refine iteF (A := Q9 true H10) (B := tNot _ _ H10 Q9) ?_
        show tCall (SpP pBent (Tx 100)) [] E0 _ _ H10 _
        refine evp_call (ea_cons (ev_var rfl) (ea_cons (ev_var rfl) ea_nil)) (fun H1 _ => ⟨z, _, rfl, zl, zs⟩) H10 (Ex.refl _) _ fun v H11 e11 hv => ?_
        obtain ⟨zb, rfl, b1, b2⟩ := hv
        exact (ea_cons (ev_var rfl) ea_nil) H11 (Ex.refl _) _ fun H12 e12 => pr (((e8.trans e9).trans e10).trans (e11.trans e12)) (by omega) b2 H12 (Ex.refl _) _ (fun H13 e13 => ⟨true, rfl, q9 H13 (((e10.trans e11).trans e12).trans e13)⟩) _
      have tz : ∀ {H : Hp}, Thing H (.str z) := ⟨by omega, zs⟩
      refine q_asgIx (R := Odd) (n := 9) Odd.mo (egs_cons Odd.mo (eg_v ev_c fun _ _ => ⟨True.intro, rfl⟩) (egs_cons Odd.mo (eg_v ev_c fun _ _ => ⟨True.intro, rfl⟩) (egs_cons Odd.mo (eg_v ev_c fun _ _ => ⟨True.intro, rfl⟩)
        (egs_cons Odd.mo (eg_l (el_lst (ea_cons (ev_var rfl) ea_nil) (by show 1 ≤ 100000; decide)) fun _ _ h => ⟨Or.inl ⟨_, h⟩, rfl⟩) (egs_cons Odd.mo (eg_u (eu_tup (ea_cons (ev_var rfl) ea_nil) (by show 1 ≤ 100000; decide)) fun _ _ h => ⟨Or.inr (Or.inl ⟨_, h⟩), rfl⟩) (egs_cons Odd.mo (eg_d fun _ _ h => ⟨Or.inr (Or.inr ⟨_, h⟩), rfl⟩)
        (egs_cons Odd.mo (eg_v ev_c fun _ _ => ⟨by show Thing _ (.str "...."); exact ⟨by decide +kernel, by decide +kernel⟩, odd_dots⟩) (egs_cons Odd.mo (eg_v ev_c fun _ _ => ⟨by show Thing _ (.str "[]"); exact ⟨by decide +kernel, by decide +kernel⟩, odd_empty⟩) (egs_cons Odd.mo (eg_v ev_c fun _ _ => ⟨by show Thing _ (.str "[a"); exact ⟨by decide +kernel, by decide +kernel⟩, odd_open⟩) egs_nil)))))))))
        (fun H10 e10 => ev_op (ev_op (ev_var rfl) ev_c (rv_I ⟨by decide, by decide⟩)) ev_c (rv_I (by show (0 : Int) < _; decide))) (Int.emod_nonneg _ (by decide)) (Int.emod_lt_of_pos _ (by decide)) (by decide) fun v H10 e10 hv => ?_
      refine s_when (b := false) (et_is (et_or (a := false) (et_is (et_not (et_B (ev_is (ev_call (ea_cons (ev_var rfl) ea_nil) (spFn fun H1 e => ⟨_, rfl, hv.1.mono e⟩)) (by show V.bl (cv v).isNone = V.bl true; rw [hv.2]; rfl)))) rfl) fun _ =>
        et_not (et_B (ev_call (ea_cons (ev_var rfl) (ea_cons (ev_var rfl) ea_nil)) (pr ((e8.trans e9).trans e10) (by omega) zs)))) rfl) (fun hb => nomatch hb) fun _ H11 e11 => ?_
      exact ⟨((((e05.trans e57).trans e8).trans e9).trans e10).trans e11, _, _, _, _, _, _, _, rfl⟩
    · rintro σ' H' _
      exact s_ret ev_c fun H1 _ => k H1

end
theorem all_mk {l : PySem.W.OpenLaw} {w : World} {K : PySem.W.Frag} {h : Heap} {mg : Str → Option Value} {fa : Addr} (X : K.In h) (G : h.Ns mainGlobals mg) (hfa : mg "law" = some (.ref fa))
    {t_LETTERS : Tok}
    {t_MOST_IN_BRACKETS : Tok}
    {t_MOST_PLACES : Tok}
    {c_MendError : Addr}
    {c_BadWord : Addr}
    {c_BadRule : Addr}
    {c_BadText : Addr}
    {c_Twice : Addr}
    {c_NoStem : Addr}
    {c_NoClass : Addr}
    {c_InUse : Addr}
    {c_TooMany : Addr}
    {c_NoNumber : Addr}
    {c_NoWord : Addr}
    {c_BadPrice : Addr}
    {c_NoPlace : Addr}
    {c_BadPattern : Addr}
    {c_Condition : Addr}
    {f_are_letters : Addr} {od_are_letters an_are_letters : Option Addr} {sl_are_letters : Array (Option Value)} {oc_are_letters kV_are_letters dc_are_letters pm_are_letters cd_are_letters ct_are_letters : Value}
    {f_all_but : Addr} {od_all_but an_all_but : Option Addr} {sl_all_but : Array (Option Value)} {oc_all_but kV_all_but dc_all_but pm_all_but cd_all_but ct_all_but : Value}
    {f_is_bracketed : Addr} {od_is_bracketed an_is_bracketed : Option Addr} {sl_is_bracketed : Array (Option Value)} {oc_is_bracketed kV_is_bracketed dc_is_bracketed pm_is_bracketed cd_is_bracketed ct_is_bracketed : Value}
    {f_read_brackets : Addr} {od_read_brackets an_read_brackets : Option Addr} {sl_read_brackets : Array (Option Value)} {oc_read_brackets kV_read_brackets dc_read_brackets pm_read_brackets cd_read_brackets ct_read_brackets : Value}
    {f_read_place : Addr} {od_read_place an_read_place : Option Addr} {sl_read_place : Array (Option Value)} {oc_read_place kV_read_place dc_read_place pm_read_place cd_read_place ct_read_place : Value}
    {f_read_places : Addr} {od_read_places an_read_places : Option Addr} {sl_read_places : Array (Option Value)} {oc_read_places kV_read_places dc_read_places pm_read_places cd_read_places ct_read_places : Value}
    {f_are_let : Addr} {od_are_let an_are_let : Option Addr} {sl_are_let : Array (Option Value)} {oc_are_let kV_are_let dc_are_let pm_are_let cd_are_let ct_are_let : Value}
    {f_Condition_init : Addr} {od_Condition_init an_Condition_init : Option Addr} {sl_Condition_init : Array (Option Value)} {oc_Condition_init kV_Condition_init dc_Condition_init pm_Condition_init cd_Condition_init ct_Condition_init : Value}
    {f_Condition_ends : Addr} {od_Condition_ends an_Condition_ends : Option Addr} {sl_Condition_ends : Array (Option Value)} {oc_Condition_ends kV_Condition_ends dc_Condition_ends pm_Condition_ends cd_Condition_ends ct_Condition_ends : Value}
    {f_Condition_begins : Addr} {od_Condition_begins an_Condition_begins : Option Addr} {sl_Condition_begins : Array (Option Value)} {oc_Condition_begins kV_Condition_begins dc_Condition_begins pm_Condition_begins cd_Condition_begins ct_Condition_begins : Value}
    {f_l_mixed : Addr} {od_l_mixed an_l_mixed : Option Addr} {sl_l_mixed : Array (Option Value)} {oc_l_mixed kV_l_mixed dc_l_mixed pm_l_mixed cd_l_mixed ct_l_mixed : Value}
    {f_l_number : Addr} {od_l_number an_l_number : Option Addr} {sl_l_number : Array (Option Value)} {oc_l_number kV_l_number dc_l_number pm_l_number cd_l_number ct_l_number : Value}
    {f_l_kind : Addr} {od_l_kind an_l_kind : Option Addr} {sl_l_kind : Array (Option Value)} {oc_l_kind kV_l_kind dc_l_kind pm_l_kind cd_l_kind ct_l_kind : Value}
    {f_l_letters : Addr} {od_l_letters an_l_letters : Option Addr} {sl_l_letters : Array (Option Value)} {oc_l_letters kV_l_letters dc_l_letters pm_l_letters cd_l_letters ct_l_letters : Value}
    {f_l_condition : Addr} {od_l_condition an_l_condition : Option Addr} {sl_l_condition : Array (Option Value)} {oc_l_condition kV_l_condition dc_l_condition pm_l_condition cd_l_condition ct_l_condition : Value}
    {f_l_written : Addr} {od_l_written an_l_written : Option Addr} {sl_l_written : Array (Option Value)} {oc_l_written kV_l_written dc_l_written pm_l_written cd_l_written ct_l_written : Value}
    {f_l_read : Addr} {od_l_read an_l_read : Option Addr} {sl_l_read : Array (Option Value)} {oc_l_read kV_l_read dc_l_read pm_l_read cd_l_read ct_l_read : Value}
    {f_l_fits : Addr} {od_l_fits an_l_fits : Option Addr} {sl_l_fits : Array (Option Value)} {oc_l_fits kV_l_fits dc_l_fits pm_l_fits cd_l_fits ct_l_fits : Value}
    {f_l_refused : Addr} {od_l_refused an_l_refused : Option Addr} {sl_l_refused : Array (Option Value)} {oc_l_refused kV_l_refused dc_l_refused pm_l_refused cd_l_refused ct_l_refused : Value}
    {f_l_right : Addr} {od_l_right an_l_right : Option Addr} {sl_l_right : Array (Option Value)} {oc_l_right kV_l_right dc_l_right pm_l_right cd_l_right ct_l_right : Value}
    {f_l_bent : Addr} {od_l_bent an_l_bent : Option Addr} {sl_l_bent : Array (Option Value)} {oc_l_bent kV_l_bent dc_l_bent pm_l_bent cd_l_bent ct_l_bent : Value}
    {f_l_words : Addr} {od_l_words an_l_words : Option Addr} {sl_l_words : Array (Option Value)} {oc_l_words kV_l_words dc_l_words pm_l_words cd_l_words ct_l_words : Value}
    {f_law : Addr} {od_law an_law : Option Addr} {sl_law : Array (Option Value)} {oc_law kV_law dc_law pm_law cd_law ct_law : Value}
    (h_n_isinstance : PySem.W.nsIn K mainGlobals "isinstance" = some none)
    (h_n_str : PySem.W.nsIn K mainGlobals "str" = some none)
    (h_n_len : PySem.W.nsIn K mainGlobals "len" = some none)
    (h_n_int : PySem.W.nsIn K mainGlobals "int" = some none)
    (h_n_ValueError : PySem.W.nsIn K mainGlobals "ValueError" = some none)
    (h_n_set : PySem.W.nsIn K mainGlobals "set" = some none)
    (h_n_all : PySem.W.nsIn K mainGlobals "all" = some none)
    (h_n_zip : PySem.W.nsIn K mainGlobals "zip" = some none)
    (h_n_range : PySem.W.nsIn K mainGlobals "range" = some none)
    (h_n_enumerate : PySem.W.nsIn K mainGlobals "enumerate" = some none)
    (h_n_repr : PySem.W.nsIn K mainGlobals "repr" = some none)
    (h_n_min : PySem.W.nsIn K mainGlobals "min" = some none)
    (h_g_LETTERS : PySem.W.nsIn K mainGlobals "LETTERS" = some (some (.str "abcdefghijklmnopqrstuvwxyz" t_LETTERS)))
    (h_g_MOST_IN_BRACKETS : PySem.W.nsIn K mainGlobals "MOST_IN_BRACKETS" = some (some (.int 8 t_MOST_IN_BRACKETS)))
    (h_g_MOST_PLACES : PySem.W.nsIn K mainGlobals "MOST_PLACES" = some (some (.int 3 t_MOST_PLACES)))
    (h_g_MendError : PySem.W.nsIn K mainGlobals "MendError" = some (some (.ref c_MendError)))
    (h_g_BadWord : PySem.W.nsIn K mainGlobals "BadWord" = some (some (.ref c_BadWord)))
    (h_g_BadRule : PySem.W.nsIn K mainGlobals "BadRule" = some (some (.ref c_BadRule)))
    (h_g_BadText : PySem.W.nsIn K mainGlobals "BadText" = some (some (.ref c_BadText)))
    (h_g_Twice : PySem.W.nsIn K mainGlobals "Twice" = some (some (.ref c_Twice)))
    (h_g_NoStem : PySem.W.nsIn K mainGlobals "NoStem" = some (some (.ref c_NoStem)))
    (h_g_NoClass : PySem.W.nsIn K mainGlobals "NoClass" = some (some (.ref c_NoClass)))
    (h_g_InUse : PySem.W.nsIn K mainGlobals "InUse" = some (some (.ref c_InUse)))
    (h_g_TooMany : PySem.W.nsIn K mainGlobals "TooMany" = some (some (.ref c_TooMany)))
    (h_g_NoNumber : PySem.W.nsIn K mainGlobals "NoNumber" = some (some (.ref c_NoNumber)))
    (h_g_NoWord : PySem.W.nsIn K mainGlobals "NoWord" = some (some (.ref c_NoWord)))
    (h_g_BadPrice : PySem.W.nsIn K mainGlobals "BadPrice" = some (some (.ref c_BadPrice)))
    (h_g_NoPlace : PySem.W.nsIn K mainGlobals "NoPlace" = some (some (.ref c_NoPlace)))
    (h_g_BadPattern : PySem.W.nsIn K mainGlobals "BadPattern" = some (some (.ref c_BadPattern)))
    (h_x_BadRule : PySem.W.excIn K c_BadRule [.type "ValueError", .type "Exception", .type "BaseException", .type "object"] "ValueError.__new__" = true)
    (h_k_BadRule : PySem.W.keepIn K (.ref c_BadRule) = true)
    (h_s_BadRule : PySem.W.subIn K (.ref c_BadRule) (.type "BaseException") = some true)
    (h_t_BadRule : PySem.W.typeIn K (.ref c_BadRule) = some (.type "type"))
    (h_ga_BadRule : PySem.W.findIn K (.ref c_BadRule) "__getattribute__" = some (some (.builtin "BaseException.__getattribute__")))
    (h_gg_BadRule : PySem.W.findIn K (.ref c_BadRule) "__getattr__" = some none)
    (h_hd_BadRule : PySem.W.hasDictIn K c_BadRule = true)
    (h_cl_BadRule : PySem.W.findIn K (.ref c_BadRule) "__class__" = some (some (.builtin "object.__class__")))
    (h_hm_BadRule : PySem.W.mroIn K c_BadRule (.type "object") = some true)
    (h_sm_BadRule_MendError : PySem.W.subIn K (.ref c_BadRule) (.ref c_MendError) = some true)
    (h_i_BadRule_MendError : PySem.W.kitOne K (.ref c_BadRule) (.ref c_MendError) = some true)
    (h_i_BadRule_BadWord : PySem.W.kitOne K (.ref c_BadRule) (.ref c_BadWord) = some false)
    (h_i_BadRule_BadRule : PySem.W.kitOne K (.ref c_BadRule) (.ref c_BadRule) = some true)
    (h_i_BadRule_BadText : PySem.W.kitOne K (.ref c_BadRule) (.ref c_BadText) = some false)
    (h_i_BadRule_Twice : PySem.W.kitOne K (.ref c_BadRule) (.ref c_Twice) = some false)
    (h_i_BadRule_NoStem : PySem.W.kitOne K (.ref c_BadRule) (.ref c_NoStem) = some false)
    (h_i_BadRule_NoClass : PySem.W.kitOne K (.ref c_BadRule) (.ref c_NoClass) = some false)
    (h_i_BadRule_InUse : PySem.W.kitOne K (.ref c_BadRule) (.ref c_InUse) = some false)
    (h_i_BadRule_TooMany : PySem.W.kitOne K (.ref c_BadRule) (.ref c_TooMany) = some false)
    (h_i_BadRule_NoNumber : PySem.W.kitOne K (.ref c_BadRule) (.ref c_NoNumber) = some false)
    (h_i_BadRule_NoWord : PySem.W.kitOne K (.ref c_BadRule) (.ref c_NoWord) = some false)
    (h_i_BadRule_BadPrice : PySem.W.kitOne K (.ref c_BadRule) (.ref c_BadPrice) = some false)
    (h_i_BadRule_NoPlace : PySem.W.kitOne K (.ref c_BadRule) (.ref c_NoPlace) = some false)
    (h_i_BadRule_BadPattern : PySem.W.kitOne K (.ref c_BadRule) (.ref c_BadPattern) = some false)
    (h_i_BadRule_ValueError : PySem.W.kitOne K (.ref c_BadRule) (.type "ValueError") = some true)
    (h_gd : PySem.W.specialIn K (.builtin "object.__class__") "__get__" = some (some (.builtin "getset_descriptor.__get__")))
    (h_tk : PySem.W.takesIn K (.builtin "object.__class__") = some true)
    (h_s2_MendError : PySem.W.subIn K (.ref c_MendError) (.type "BaseException") = some true)
    (h_hd2_MendError : PySem.W.hasDictIn K c_MendError = true)
    (h_t2_MendError : PySem.W.typeIn K (.ref c_MendError) = some (.type "type"))
    (h_g_Condition : PySem.W.nsIn K mainGlobals "Condition" = some (some (.ref c_Condition)))
    (h_pg_Condition : PySem.W.plainGet K c_Condition Str.empty = true)
    (h_hd_Condition : PySem.W.hasDictIn K c_Condition = true)
    (h_po_Condition : PySem.W.plainOver K c_Condition = true)
    (h_sa_Condition : PySem.W.findIn K (.ref c_Condition) "__setattr__" = some (some (.builtin "object.__setattr__")))
    (h_mk_Condition : PySem.W.makesIn K c_Condition = true)
    (h_kc_Condition : PySem.W.keepIn K (.ref c_Condition) = true)
    (h_na_Condition_places : PySem.W.findIn K (.ref c_Condition) "places" = some none)
    (h_na_Condition_told : PySem.W.findIn K (.ref c_Condition) "told" = some none)
    (h_g_are_letters : PySem.W.nsIn K mainGlobals "are_letters" = some (some (.ref f_are_letters)))
    (h_l_are_letters : K.lookup f_are_letters = some ⟨oc_are_letters, od_are_letters, .func (PySem.W.fnOf "are_letters" "are_letters" (defArgs s_are_letters) (defBody s_are_letters) (defScope s_are_letters) .none kV_are_letters dc_are_letters pm_are_letters an_are_letters cd_are_letters ct_are_letters), sl_are_letters⟩)
    (h_c_are_letters : PySem.W.codeIn K cd_are_letters "are_letters" = true)
    (h_k_are_letters : PySem.W.keepIn K (.ref f_are_letters) = true)
    (h_g_all_but : PySem.W.nsIn K mainGlobals "all_but" = some (some (.ref f_all_but)))
    (h_l_all_but : K.lookup f_all_but = some ⟨oc_all_but, od_all_but, .func (PySem.W.fnOf "all_but" "all_but" (defArgs s_all_but) (defBody s_all_but) (defScope s_all_but) .none kV_all_but dc_all_but pm_all_but an_all_but cd_all_but ct_all_but), sl_all_but⟩)
    (h_c_all_but : PySem.W.codeIn K cd_all_but "all_but" = true)
    (h_k_all_but : PySem.W.keepIn K (.ref f_all_but) = true)
    (h_g_is_bracketed : PySem.W.nsIn K mainGlobals "is_bracketed" = some (some (.ref f_is_bracketed)))
    (h_l_is_bracketed : K.lookup f_is_bracketed = some ⟨oc_is_bracketed, od_is_bracketed, .func (PySem.W.fnOf "is_bracketed" "is_bracketed" (defArgs s_is_bracketed) (defBody s_is_bracketed) (defScope s_is_bracketed) .none kV_is_bracketed dc_is_bracketed pm_is_bracketed an_is_bracketed cd_is_bracketed ct_is_bracketed), sl_is_bracketed⟩)
    (h_c_is_bracketed : PySem.W.codeIn K cd_is_bracketed "is_bracketed" = true)
    (h_k_is_bracketed : PySem.W.keepIn K (.ref f_is_bracketed) = true)
    (h_g_read_brackets : PySem.W.nsIn K mainGlobals "read_brackets" = some (some (.ref f_read_brackets)))
    (h_l_read_brackets : K.lookup f_read_brackets = some ⟨oc_read_brackets, od_read_brackets, .func (PySem.W.fnOf "read_brackets" "read_brackets" (defArgs s_read_brackets) (defBody s_read_brackets) (defScope s_read_brackets) .none kV_read_brackets dc_read_brackets pm_read_brackets an_read_brackets cd_read_brackets ct_read_brackets), sl_read_brackets⟩)
    (h_c_read_brackets : PySem.W.codeIn K cd_read_brackets "read_brackets" = true)
    (h_k_read_brackets : PySem.W.keepIn K (.ref f_read_brackets) = true)
    (h_g_read_place : PySem.W.nsIn K mainGlobals "read_place" = some (some (.ref f_read_place)))
    (h_l_read_place : K.lookup f_read_place = some ⟨oc_read_place, od_read_place, .func (PySem.W.fnOf "read_place" "read_place" (defArgs s_read_place) (defBody s_read_place) (defScope s_read_place) .none kV_read_place dc_read_place pm_read_place an_read_place cd_read_place ct_read_place), sl_read_place⟩)
    (h_c_read_place : PySem.W.codeIn K cd_read_place "read_place" = true)
    (h_k_read_place : PySem.W.keepIn K (.ref f_read_place) = true)
    (h_g_read_places : PySem.W.nsIn K mainGlobals "read_places" = some (some (.ref f_read_places)))
    (h_l_read_places : K.lookup f_read_places = some ⟨oc_read_places, od_read_places, .func (PySem.W.fnOf "read_places" "read_places" (defArgs s_read_places) (defBody s_read_places) (defScope s_read_places) .none kV_read_places dc_read_places pm_read_places an_read_places cd_read_places ct_read_places), sl_read_places⟩)
    (h_c_read_places : PySem.W.codeIn K cd_read_places "read_places" = true)
    (h_k_read_places : PySem.W.keepIn K (.ref f_read_places) = true)
    (h_g_are_let : PySem.W.nsIn K mainGlobals "are_let" = some (some (.ref f_are_let)))
    (h_l_are_let : K.lookup f_are_let = some ⟨oc_are_let, od_are_let, .func (PySem.W.fnOf "are_let" "are_let" (defArgs s_are_let) (defBody s_are_let) (defScope s_are_let) .none kV_are_let dc_are_let pm_are_let an_are_let cd_are_let ct_are_let), sl_are_let⟩)
    (h_c_are_let : PySem.W.codeIn K cd_are_let "are_let" = true)
    (h_k_are_let : PySem.W.keepIn K (.ref f_are_let) = true)
    (h_a_Condition_init : PySem.W.findIn K (.ref c_Condition) "__init__" = some (some (.ref f_Condition_init)))
    (h_i_Condition_init : PySem.W.isFn K (.ref f_Condition_init) = true)
    (h_l_Condition_init : K.lookup f_Condition_init = some ⟨oc_Condition_init, od_Condition_init, .func (PySem.W.fnOf "__init__" "Condition.__init__" (defArgs s_Condition_init) (defBody s_Condition_init) (defScope s_Condition_init) .none kV_Condition_init dc_Condition_init pm_Condition_init an_Condition_init cd_Condition_init ct_Condition_init), sl_Condition_init⟩)
    (h_c_Condition_init : PySem.W.codeIn K cd_Condition_init "Condition.__init__" = true)
    (h_k_Condition_init : PySem.W.keepIn K (.ref f_Condition_init) = true)
    (h_a_Condition_ends : PySem.W.findIn K (.ref c_Condition) "ends" = some (some (.ref f_Condition_ends)))
    (h_i_Condition_ends : PySem.W.isFn K (.ref f_Condition_ends) = true)
    (h_l_Condition_ends : K.lookup f_Condition_ends = some ⟨oc_Condition_ends, od_Condition_ends, .func (PySem.W.fnOf "ends" "Condition.ends" (defArgs s_Condition_ends) (defBody s_Condition_ends) (defScope s_Condition_ends) .none kV_Condition_ends dc_Condition_ends pm_Condition_ends an_Condition_ends cd_Condition_ends ct_Condition_ends), sl_Condition_ends⟩)
    (h_c_Condition_ends : PySem.W.codeIn K cd_Condition_ends "Condition.ends" = true)
    (h_k_Condition_ends : PySem.W.keepIn K (.ref f_Condition_ends) = true)
    (h_a_Condition_begins : PySem.W.findIn K (.ref c_Condition) "begins" = some (some (.ref f_Condition_begins)))
    (h_i_Condition_begins : PySem.W.isFn K (.ref f_Condition_begins) = true)
    (h_l_Condition_begins : K.lookup f_Condition_begins = some ⟨oc_Condition_begins, od_Condition_begins, .func (PySem.W.fnOf "begins" "Condition.begins" (defArgs s_Condition_begins) (defBody s_Condition_begins) (defScope s_Condition_begins) .none kV_Condition_begins dc_Condition_begins pm_Condition_begins an_Condition_begins cd_Condition_begins ct_Condition_begins), sl_Condition_begins⟩)
    (h_c_Condition_begins : PySem.W.codeIn K cd_Condition_begins "Condition.begins" = true)
    (h_k_Condition_begins : PySem.W.keepIn K (.ref f_Condition_begins) = true)
    (h_g_l_mixed : PySem.W.nsIn K mainGlobals "_law_mixed" = some (some (.ref f_l_mixed)))
    (h_l_l_mixed : K.lookup f_l_mixed = some ⟨oc_l_mixed, od_l_mixed, .func (PySem.W.fnOf "_law_mixed" "_law_mixed" (defArgs s_l_mixed) (defBody s_l_mixed) (defScope s_l_mixed) .none kV_l_mixed dc_l_mixed pm_l_mixed an_l_mixed cd_l_mixed ct_l_mixed), sl_l_mixed⟩)
    (h_c_l_mixed : PySem.W.codeIn K cd_l_mixed "_law_mixed" = true)
    (h_k_l_mixed : PySem.W.keepIn K (.ref f_l_mixed) = true)
    (h_g_l_number : PySem.W.nsIn K mainGlobals "_law_number" = some (some (.ref f_l_number)))
    (h_l_l_number : K.lookup f_l_number = some ⟨oc_l_number, od_l_number, .func (PySem.W.fnOf "_law_number" "_law_number" (defArgs s_l_number) (defBody s_l_number) (defScope s_l_number) .none kV_l_number dc_l_number pm_l_number an_l_number cd_l_number ct_l_number), sl_l_number⟩)
    (h_c_l_number : PySem.W.codeIn K cd_l_number "_law_number" = true)
    (h_k_l_number : PySem.W.keepIn K (.ref f_l_number) = true)
    (h_g_l_kind : PySem.W.nsIn K mainGlobals "_law_kind" = some (some (.ref f_l_kind)))
    (h_l_l_kind : K.lookup f_l_kind = some ⟨oc_l_kind, od_l_kind, .func (PySem.W.fnOf "_law_kind" "_law_kind" (defArgs s_l_kind) (defBody s_l_kind) (defScope s_l_kind) .none kV_l_kind dc_l_kind pm_l_kind an_l_kind cd_l_kind ct_l_kind), sl_l_kind⟩)
    (h_c_l_kind : PySem.W.codeIn K cd_l_kind "_law_kind" = true)
    (h_k_l_kind : PySem.W.keepIn K (.ref f_l_kind) = true)
    (h_g_l_letters : PySem.W.nsIn K mainGlobals "_law_letters" = some (some (.ref f_l_letters)))
    (h_l_l_letters : K.lookup f_l_letters = some ⟨oc_l_letters, od_l_letters, .func (PySem.W.fnOf "_law_letters" "_law_letters" (defArgs s_l_letters) (defBody s_l_letters) (defScope s_l_letters) .none kV_l_letters dc_l_letters pm_l_letters an_l_letters cd_l_letters ct_l_letters), sl_l_letters⟩)
    (h_c_l_letters : PySem.W.codeIn K cd_l_letters "_law_letters" = true)
    (h_k_l_letters : PySem.W.keepIn K (.ref f_l_letters) = true)
    (h_g_l_condition : PySem.W.nsIn K mainGlobals "_law_condition" = some (some (.ref f_l_condition)))
    (h_l_l_condition : K.lookup f_l_condition = some ⟨oc_l_condition, od_l_condition, .func (PySem.W.fnOf "_law_condition" "_law_condition" (defArgs s_l_condition) (defBody s_l_condition) (defScope s_l_condition) .none kV_l_condition dc_l_condition pm_l_condition an_l_condition cd_l_condition ct_l_condition), sl_l_condition⟩)
    (h_c_l_condition : PySem.W.codeIn K cd_l_condition "_law_condition" = true)
    (h_k_l_condition : PySem.W.keepIn K (.ref f_l_condition) = true)
    (h_g_l_written : PySem.W.nsIn K mainGlobals "_law_written" = some (some (.ref f_l_written)))
    (h_l_l_written : K.lookup f_l_written = some ⟨oc_l_written, od_l_written, .func (PySem.W.fnOf "_law_written" "_law_written" (defArgs s_l_written) (defBody s_l_written) (defScope s_l_written) .none kV_l_written dc_l_written pm_l_written an_l_written cd_l_written ct_l_written), sl_l_written⟩)
    (h_c_l_written : PySem.W.codeIn K cd_l_written "_law_written" = true)
    (h_k_l_written : PySem.W.keepIn K (.ref f_l_written) = true)
    (h_g_l_read : PySem.W.nsIn K mainGlobals "_law_read" = some (some (.ref f_l_read)))
    (h_l_l_read : K.lookup f_l_read = some ⟨oc_l_read, od_l_read, .func (PySem.W.fnOf "_law_read" "_law_read" (defArgs s_l_read) (defBody s_l_read) (defScope s_l_read) .none kV_l_read dc_l_read pm_l_read an_l_read cd_l_read ct_l_read), sl_l_read⟩)
    (h_c_l_read : PySem.W.codeIn K cd_l_read "_law_read" = true)
    (h_k_l_read : PySem.W.keepIn K (.ref f_l_read) = true)
    (h_g_l_fits : PySem.W.nsIn K mainGlobals "_law_fits" = some (some (.ref f_l_fits)))
    (h_l_l_fits : K.lookup f_l_fits = some ⟨oc_l_fits, od_l_fits, .func (PySem.W.fnOf "_law_fits" "_law_fits" (defArgs s_l_fits) (defBody s_l_fits) (defScope s_l_fits) .none kV_l_fits dc_l_fits pm_l_fits an_l_fits cd_l_fits ct_l_fits), sl_l_fits⟩)
    (h_c_l_fits : PySem.W.codeIn K cd_l_fits "_law_fits" = true)
    (h_k_l_fits : PySem.W.keepIn K (.ref f_l_fits) = true)
    (h_g_l_refused : PySem.W.nsIn K mainGlobals "_law_refused" = some (some (.ref f_l_refused)))
    (h_l_l_refused : K.lookup f_l_refused = some ⟨oc_l_refused, od_l_refused, .func (PySem.W.fnOf "_law_refused" "_law_refused" (defArgs s_l_refused) (defBody s_l_refused) (defScope s_l_refused) .none kV_l_refused dc_l_refused pm_l_refused an_l_refused cd_l_refused ct_l_refused), sl_l_refused⟩)
    (h_c_l_refused : PySem.W.codeIn K cd_l_refused "_law_refused" = true)
    (h_k_l_refused : PySem.W.keepIn K (.ref f_l_refused) = true)
    (h_g_l_right : PySem.W.nsIn K mainGlobals "_law_right" = some (some (.ref f_l_right)))
    (h_l_l_right : K.lookup f_l_right = some ⟨oc_l_right, od_l_right, .func (PySem.W.fnOf "_law_right" "_law_right" (defArgs s_l_right) (defBody s_l_right) (defScope s_l_right) .none kV_l_right dc_l_right pm_l_right an_l_right cd_l_right ct_l_right), sl_l_right⟩)
    (h_c_l_right : PySem.W.codeIn K cd_l_right "_law_right" = true)
    (h_k_l_right : PySem.W.keepIn K (.ref f_l_right) = true)
    (h_g_l_bent : PySem.W.nsIn K mainGlobals "_law_bent" = some (some (.ref f_l_bent)))
    (h_l_l_bent : K.lookup f_l_bent = some ⟨oc_l_bent, od_l_bent, .func (PySem.W.fnOf "_law_bent" "_law_bent" (defArgs s_l_bent) (defBody s_l_bent) (defScope s_l_bent) .none kV_l_bent dc_l_bent pm_l_bent an_l_bent cd_l_bent ct_l_bent), sl_l_bent⟩)
    (h_c_l_bent : PySem.W.codeIn K cd_l_bent "_law_bent" = true)
    (h_k_l_bent : PySem.W.keepIn K (.ref f_l_bent) = true)
    (h_g_l_words : PySem.W.nsIn K mainGlobals "_law_words" = some (some (.ref f_l_words)))
    (h_l_l_words : K.lookup f_l_words = some ⟨oc_l_words, od_l_words, .func (PySem.W.fnOf "_law_words" "_law_words" (defArgs s_l_words) (defBody s_l_words) (defScope s_l_words) .none kV_l_words dc_l_words pm_l_words an_l_words cd_l_words ct_l_words), sl_l_words⟩)
    (h_c_l_words : PySem.W.codeIn K cd_l_words "_law_words" = true)
    (h_k_l_words : PySem.W.keepIn K (.ref f_l_words) = true)
    (h_g_law : PySem.W.nsIn K mainGlobals "law" = some (some (.ref f_law)))
    (h_l_law : K.lookup f_law = some ⟨oc_law, od_law, .func (PySem.W.fnOf "law" "law" (defArgs s_law) (defBody s_law) (defScope s_law) .none kV_law dc_law pm_law an_law cd_law ct_law), sl_law⟩)
    (h_c_law : PySem.W.codeIn K cd_law "law" = true)
    (h_k_law : PySem.W.keepIn K (.ref f_law) = true) :
    ∃ fd : FuncData, (∀ (s : Shared) (v : Value), BindsTo s fd ⟨[v], []⟩ [("_law_script", v)]) ∧ ∀ base : Heap, K.In base → base.Ns mainGlobals mg → FnOk l.prog w K mg base CX0 10 fa fd P_law (spLaw K) := by
  have e := hfa.symm.trans (PySem.W.mg_of X G h_g_law)
  cases e
  have T : Txt K mg { c_MendError := c_MendError, c_BadWord := c_BadWord, c_BadRule := c_BadRule, c_BadText := c_BadText, c_Twice := c_Twice, c_NoStem := c_NoStem, c_NoClass := c_NoClass, c_InUse := c_InUse, c_TooMany := c_TooMany, c_NoNumber := c_NoNumber, c_NoWord := c_NoWord, c_BadPrice := c_BadPrice, c_NoPlace := c_NoPlace, c_BadPattern := c_BadPattern, c_Condition := c_Condition, f_are_letters := f_are_letters, d_are_letters := _, f_all_but := f_all_but, d_all_but := _, f_is_bracketed := f_is_bracketed, d_is_bracketed := _, f_read_brackets := f_read_brackets, d_read_brackets := _, f_read_place := f_read_place, d_read_place := _, f_read_places := f_read_places, d_read_places := _, f_are_let := f_are_let, d_are_let := _, f_Condition_init := f_Condition_init, d_Condition_init := _, f_Condition_ends := f_Condition_ends, d_Condition_ends := _, f_Condition_begins := f_Condition_begins, d_Condition_begins := _, f_l_mixed := f_l_mixed, d_l_mixed := _, f_l_number := f_l_number, d_l_number := _, f_l_kind := f_l_kind, d_l_kind := _, f_l_letters := f_l_letters, d_l_letters := _, f_l_condition := f_l_condition, d_l_condition := _, f_l_written := f_l_written, d_l_written := _, f_l_read := f_l_read, d_l_read := _, f_l_fits := f_l_fits, d_l_fits := _, f_l_refused := f_l_refused, d_l_refused := _, f_l_right := f_l_right, d_l_right := _, f_l_bent := f_l_bent, d_l_bent := _, f_l_words := f_l_words, d_l_words := _, f_law := fa, d_law := _ } := {
    n_isinstance := PySem.W.mg_none_of X G h_n_isinstance
    n_str := PySem.W.mg_none_of X G h_n_str
    n_len := PySem.W.mg_none_of X G h_n_len
    n_int := PySem.W.mg_none_of X G h_n_int
    n_ValueError := PySem.W.mg_none_of X G h_n_ValueError
    n_set := PySem.W.mg_none_of X G h_n_set
    n_all := PySem.W.mg_none_of X G h_n_all
    n_zip := PySem.W.mg_none_of X G h_n_zip
    n_range := PySem.W.mg_none_of X G h_n_range
    n_enumerate := PySem.W.mg_none_of X G h_n_enumerate
    n_repr := PySem.W.mg_none_of X G h_n_repr
    n_min := PySem.W.mg_none_of X G h_n_min
    g_LETTERS := ⟨_, PySem.W.mg_of X G h_g_LETTERS⟩
    g_MOST_IN_BRACKETS := ⟨_, PySem.W.mg_of X G h_g_MOST_IN_BRACKETS⟩
    g_MOST_PLACES := ⟨_, PySem.W.mg_of X G h_g_MOST_PLACES⟩
    g_MendError := PySem.W.mg_of X G h_g_MendError
    g_BadWord := PySem.W.mg_of X G h_g_BadWord
    g_BadRule := PySem.W.mg_of X G h_g_BadRule
    g_BadText := PySem.W.mg_of X G h_g_BadText
    g_Twice := PySem.W.mg_of X G h_g_Twice
    g_NoStem := PySem.W.mg_of X G h_g_NoStem
    g_NoClass := PySem.W.mg_of X G h_g_NoClass
    g_InUse := PySem.W.mg_of X G h_g_InUse
    g_TooMany := PySem.W.mg_of X G h_g_TooMany
    g_NoNumber := PySem.W.mg_of X G h_g_NoNumber
    g_NoWord := PySem.W.mg_of X G h_g_NoWord
    g_BadPrice := PySem.W.mg_of X G h_g_BadPrice
    g_NoPlace := PySem.W.mg_of X G h_g_NoPlace
    g_BadPattern := PySem.W.mg_of X G h_g_BadPattern
    x_BadRule := h_x_BadRule
    k_BadRule := h_k_BadRule
    s_BadRule := h_s_BadRule
    t_BadRule := h_t_BadRule
    e_BadRule := ⟨h_ga_BadRule, h_gg_BadRule, h_s_BadRule, h_hd_BadRule, h_cl_BadRule, h_gd, h_tk, h_hm_BadRule⟩
    m_BadRule_MendError := PySem.W.exm_ref h_s2_MendError h_hd2_MendError h_t2_MendError h_sm_BadRule_MendError
    i_BadRule_MendError := h_i_BadRule_MendError
    i_BadRule_BadWord := h_i_BadRule_BadWord
    i_BadRule_BadRule := h_i_BadRule_BadRule
    i_BadRule_BadText := h_i_BadRule_BadText
    i_BadRule_Twice := h_i_BadRule_Twice
    i_BadRule_NoStem := h_i_BadRule_NoStem
    i_BadRule_NoClass := h_i_BadRule_NoClass
    i_BadRule_InUse := h_i_BadRule_InUse
    i_BadRule_TooMany := h_i_BadRule_TooMany
    i_BadRule_NoNumber := h_i_BadRule_NoNumber
    i_BadRule_NoWord := h_i_BadRule_NoWord
    i_BadRule_BadPrice := h_i_BadRule_BadPrice
    i_BadRule_NoPlace := h_i_BadRule_NoPlace
    i_BadRule_BadPattern := h_i_BadRule_BadPattern
    i_BadRule_ValueError := h_i_BadRule_ValueError
    g_Condition := PySem.W.mg_of X G h_g_Condition
    cl_Condition := ⟨h_pg_Condition, h_hd_Condition, h_po_Condition, h_sa_Condition⟩
    M_Condition := ⟨h_mk_Condition, h_a_Condition_init, h_i_Condition_init, h_kc_Condition⟩
    na_Condition_places := h_na_Condition_places
    na_Condition_told := h_na_Condition_told
    mt_Condition_begins := ⟨h_a_Condition_begins, h_i_Condition_begins, h_k_Condition_begins⟩
    mt_Condition_ends := ⟨h_a_Condition_ends, h_i_Condition_ends, h_k_Condition_ends⟩
    g_are_letters := PySem.W.mg_of X G h_g_are_letters
    k_are_letters := h_k_are_letters
    F_are_letters := fun_mk (st := s_are_letters) h_l_are_letters h_c_are_letters h_k_are_letters
    b_are_letters := (fun_mk (st := s_are_letters) h_l_are_letters h_c_are_letters h_k_are_letters).binds (ps := P_are_letters) fun _ _ _ _ _ _ us hl => match us, hl with | [_], _ => rfl
    g_all_but := PySem.W.mg_of X G h_g_all_but
    k_all_but := h_k_all_but
    F_all_but := fun_mk (st := s_all_but) h_l_all_but h_c_all_but h_k_all_but
    b_all_but := (fun_mk (st := s_all_but) h_l_all_but h_c_all_but h_k_all_but).binds (ps := P_all_but) fun _ _ _ _ _ _ us hl => match us, hl with | [_], _ => rfl
    g_is_bracketed := PySem.W.mg_of X G h_g_is_bracketed
    k_is_bracketed := h_k_is_bracketed
    F_is_bracketed := fun_mk (st := s_is_bracketed) h_l_is_bracketed h_c_is_bracketed h_k_is_bracketed
    b_is_bracketed := (fun_mk (st := s_is_bracketed) h_l_is_bracketed h_c_is_bracketed h_k_is_bracketed).binds (ps := P_is_bracketed) fun _ _ _ _ _ _ us hl => match us, hl with | [_], _ => rfl
    g_read_brackets := PySem.W.mg_of X G h_g_read_brackets
    k_read_brackets := h_k_read_brackets
    F_read_brackets := fun_mk (st := s_read_brackets) h_l_read_brackets h_c_read_brackets h_k_read_brackets
    b_read_brackets := (fun_mk (st := s_read_brackets) h_l_read_brackets h_c_read_brackets h_k_read_brackets).binds (ps := P_read_brackets) fun _ _ _ _ _ _ us hl => match us, hl with | [_, _], _ => rfl
    g_read_place := PySem.W.mg_of X G h_g_read_place
    k_read_place := h_k_read_place
    F_read_place := fun_mk (st := s_read_place) h_l_read_place h_c_read_place h_k_read_place
    b_read_place := (fun_mk (st := s_read_place) h_l_read_place h_c_read_place h_k_read_place).binds (ps := P_read_place) fun _ _ _ _ _ _ us hl => match us, hl with | [_, _], _ => rfl
    g_read_places := PySem.W.mg_of X G h_g_read_places
    k_read_places := h_k_read_places
    F_read_places := fun_mk (st := s_read_places) h_l_read_places h_c_read_places h_k_read_places
    b_read_places := (fun_mk (st := s_read_places) h_l_read_places h_c_read_places h_k_read_places).binds (ps := P_read_places) fun _ _ _ _ _ _ us hl => match us, hl with | [_], _ => rfl
    g_are_let := PySem.W.mg_of X G h_g_are_let
    k_are_let := h_k_are_let
    F_are_let := fun_mk (st := s_are_let) h_l_are_let h_c_are_let h_k_are_let
    b_are_let := (fun_mk (st := s_are_let) h_l_are_let h_c_are_let h_k_are_let).binds (ps := P_are_let) fun _ _ _ _ _ _ us hl => match us, hl with | [_, _], _ => rfl
    F_Condition_init := fun_mk (st := s_Condition_init) h_l_Condition_init h_c_Condition_init h_k_Condition_init
    b_Condition_init := (fun_mk (st := s_Condition_init) h_l_Condition_init h_c_Condition_init h_k_Condition_init).binds (ps := P_Condition_init) fun _ _ _ _ _ _ us hl => match us, hl with | [_, _], _ => rfl
    F_Condition_ends := fun_mk (st := s_Condition_ends) h_l_Condition_ends h_c_Condition_ends h_k_Condition_ends
    b_Condition_ends := (fun_mk (st := s_Condition_ends) h_l_Condition_ends h_c_Condition_ends h_k_Condition_ends).binds (ps := P_Condition_ends) fun _ _ _ _ _ _ us hl => match us, hl with | [_, _], _ => rfl
    F_Condition_begins := fun_mk (st := s_Condition_begins) h_l_Condition_begins h_c_Condition_begins h_k_Condition_begins
    b_Condition_begins := (fun_mk (st := s_Condition_begins) h_l_Condition_begins h_c_Condition_begins h_k_Condition_begins).binds (ps := P_Condition_begins) fun _ _ _ _ _ _ us hl => match us, hl with | [_, _], _ => rfl
    g_l_mixed := PySem.W.mg_of X G h_g_l_mixed
    k_l_mixed := h_k_l_mixed
    F_l_mixed := fun_mk (st := s_l_mixed) h_l_l_mixed h_c_l_mixed h_k_l_mixed
    b_l_mixed := (fun_mk (st := s_l_mixed) h_l_l_mixed h_c_l_mixed h_k_l_mixed).binds (ps := P_l_mixed) fun _ _ _ _ _ _ us hl => match us, hl with | [_, _], _ => rfl
    g_l_number := PySem.W.mg_of X G h_g_l_number
    k_l_number := h_k_l_number
    F_l_number := fun_mk (st := s_l_number) h_l_l_number h_c_l_number h_k_l_number
    b_l_number := (fun_mk (st := s_l_number) h_l_l_number h_c_l_number h_k_l_number).binds (ps := P_l_number) fun _ _ _ _ _ _ us hl => match us, hl with | [_, _], _ => rfl
    g_l_kind := PySem.W.mg_of X G h_g_l_kind
    k_l_kind := h_k_l_kind
    F_l_kind := fun_mk (st := s_l_kind) h_l_l_kind h_c_l_kind h_k_l_kind
    b_l_kind := (fun_mk (st := s_l_kind) h_l_l_kind h_c_l_kind h_k_l_kind).binds (ps := P_l_kind) fun _ _ _ _ _ _ us hl => match us, hl with | [_], _ => rfl
    g_l_letters := PySem.W.mg_of X G h_g_l_letters
    k_l_letters := h_k_l_letters
    F_l_letters := fun_mk (st := s_l_letters) h_l_l_letters h_c_l_letters h_k_l_letters
    b_l_letters := (fun_mk (st := s_l_letters) h_l_l_letters h_c_l_letters h_k_l_letters).binds (ps := P_l_letters) fun _ _ _ _ _ _ us hl => match us, hl with | [_, _, _], _ => rfl
    g_l_condition := PySem.W.mg_of X G h_g_l_condition
    k_l_condition := h_k_l_condition
    F_l_condition := fun_mk (st := s_l_condition) h_l_l_condition h_c_l_condition h_k_l_condition
    b_l_condition := (fun_mk (st := s_l_condition) h_l_l_condition h_c_l_condition h_k_l_condition).binds (ps := P_l_condition) fun _ _ _ _ _ _ us hl => match us, hl with | [_, _], _ => rfl
    g_l_written := PySem.W.mg_of X G h_g_l_written
    k_l_written := h_k_l_written
    F_l_written := fun_mk (st := s_l_written) h_l_l_written h_c_l_written h_k_l_written
    b_l_written := (fun_mk (st := s_l_written) h_l_l_written h_c_l_written h_k_l_written).binds (ps := P_l_written) fun _ _ _ _ _ _ us hl => match us, hl with | [_], _ => rfl
    g_l_read := PySem.W.mg_of X G h_g_l_read
    k_l_read := h_k_l_read
    F_l_read := fun_mk (st := s_l_read) h_l_l_read h_c_l_read h_k_l_read
    b_l_read := (fun_mk (st := s_l_read) h_l_l_read h_c_l_read h_k_l_read).binds (ps := P_l_read) fun _ _ _ _ _ _ us hl => match us, hl with | [_], _ => rfl
    g_l_fits := PySem.W.mg_of X G h_g_l_fits
    k_l_fits := h_k_l_fits
    F_l_fits := fun_mk (st := s_l_fits) h_l_l_fits h_c_l_fits h_k_l_fits
    b_l_fits := (fun_mk (st := s_l_fits) h_l_l_fits h_c_l_fits h_k_l_fits).binds (ps := P_l_fits) fun _ _ _ _ _ _ us hl => match us, hl with | [_, _], _ => rfl
    g_l_refused := PySem.W.mg_of X G h_g_l_refused
    k_l_refused := h_k_l_refused
    F_l_refused := fun_mk (st := s_l_refused) h_l_l_refused h_c_l_refused h_k_l_refused
    b_l_refused := (fun_mk (st := s_l_refused) h_l_l_refused h_c_l_refused h_k_l_refused).binds (ps := P_l_refused) fun _ _ _ _ _ _ us hl => match us, hl with | [_], _ => rfl
    g_l_right := PySem.W.mg_of X G h_g_l_right
    k_l_right := h_k_l_right
    F_l_right := fun_mk (st := s_l_right) h_l_l_right h_c_l_right h_k_l_right
    b_l_right := (fun_mk (st := s_l_right) h_l_l_right h_c_l_right h_k_l_right).binds (ps := P_l_right) fun _ _ _ _ _ _ us hl => match us, hl with | [_, _], _ => rfl
    g_l_bent := PySem.W.mg_of X G h_g_l_bent
    k_l_bent := h_k_l_bent
    F_l_bent := fun_mk (st := s_l_bent) h_l_l_bent h_c_l_bent h_k_l_bent
    b_l_bent := (fun_mk (st := s_l_bent) h_l_l_bent h_c_l_bent h_k_l_bent).binds (ps := P_l_bent) fun _ _ _ _ _ _ us hl => match us, hl with | [_, _], _ => rfl
    g_l_words := PySem.W.mg_of X G h_g_l_words
    k_l_words := h_k_l_words
    F_l_words := fun_mk (st := s_l_words) h_l_l_words h_c_l_words h_k_l_words
    b_l_words := (fun_mk (st := s_l_words) h_l_l_words h_c_l_words h_k_l_words).binds (ps := P_l_words) fun _ _ _ _ _ _ us hl => match us, hl with | [_, _, _], _ => rfl
    g_law := PySem.W.mg_of X G h_g_law
    k_law := h_k_law
    F_law := fun_mk (st := s_law) h_l_law h_c_law h_k_law
    b_law := (fun_mk (st := s_law) h_l_law h_c_law h_k_law).binds (ps := P_law) fun _ _ _ _ _ _ us hl => match us, hl with | [_], _ => rfl
  }
  exact ⟨_, fun s v => .of_eq rfl, fun base _ _ => ok_law T⟩
theorem walk {l : PySem.W.OpenLaw} {q : Program} {loose : List Str} {XP : (Str → Option Value) → Heap → Prop} {YP : World → Heap → Prop} {d : DefRec} {K : Params → PySem.W.Frag} (hn : l.most = some 63) (hdf : d.params.defaults = [])
    (hY : ∀ (w : World) (h : Heap), YP w h → (K w.params).In h)
    (F : ∀ (w : World) (mg : Str → Option Value) (fa : Addr) (h : Heap), (K w.params).In h → h.Ns mainGlobals mg → mg d.name = some (.ref fa) →
      ∃ fd : FuncData, (∀ (s : Shared) (u : Value), BindsTo s fd ⟨[u], []⟩ [("_law_script", u)]) ∧ ∀ base : Heap, (K w.params).In base → base.Ns mainGlobals mg → FnOk l.prog w (K w.params) mg base CX0 10 fa fd P_law (spLaw (K w.params))) :
    PySem.W.WalkO q loose XP YP l.row.toRowW d [] (fun f vs => PySem.call f vs) :=
  L2.walk_of (n := 63) (k := 10) (x := "_law_script") (CX := fun _ => CX0) (sp := fun w => spLaw (K w.params)) hn (by decide) hdf ⟨rfl, by decide, by decide⟩ hY F (fun _ _ a ns hl _ hS => ⟨a, ns, rfl, hS, hl, fun _ => rfl⟩) fun _ _ _ _ _ z => z
end My
open PySem PySem.W PyProof.Rows
set_option maxRecDepth 100000 in
set_option maxHeartbeats 0 in
theorem PySem.Challenge.cw_wordmend_k02_conditions_holds : PySem.Challenge.rw_wordmend_k02_conditions.Holds := by
  w_on; o_law; k_head; (case hw => w_witness2)
  k_fill
  refine My.walk (l := PySem.Challenge.rw_wordmend_k02_conditions) rfl rfl (fun w h Y => PySem.W.kIn_of Y) ?F
  case F =>
    intro w mg fa h KX G hmg
    refine' My.all_mk KX G hmg ?h_n_isinstance ?h_n_str ?h_n_len ?h_n_int ?h_n_ValueError ?h_n_set ?h_n_all ?h_n_zip ?h_n_range ?h_n_enumerate ?h_n_repr ?h_n_min ?h_g_LETTERS ?h_g_MOST_IN_BRACKETS ?h_g_MOST_PLACES ?h_g_MendError ?h_g_BadWord ?h_g_BadRule ?h_g_BadText ?h_g_Twice ?h_g_NoStem ?h_g_NoClass ?h_g_InUse ?h_g_TooMany ?h_g_NoNumber ?h_g_NoWord ?h_g_BadPrice ?h_g_NoPlace ?h_g_BadPattern ?h_x_BadRule ?h_k_BadRule ?h_s_BadRule ?h_t_BadRule ?h_ga_BadRule ?h_gg_BadRule ?h_hd_BadRule ?h_cl_BadRule ?h_hm_BadRule ?h_sm_BadRule_MendError ?h_i_BadRule_MendError ?h_i_BadRule_BadWord ?h_i_BadRule_BadRule ?h_i_BadRule_BadText ?h_i_BadRule_Twice ?h_i_BadRule_NoStem ?h_i_BadRule_NoClass ?h_i_BadRule_InUse ?h_i_BadRule_TooMany ?h_i_BadRule_NoNumber ?h_i_BadRule_NoWord ?h_i_BadRule_BadPrice ?h_i_BadRule_NoPlace ?h_i_BadRule_BadPattern ?h_i_BadRule_ValueError ?h_gd ?h_tk ?h_s2_MendError ?h_hd2_MendError ?h_t2_MendError ?h_g_Condition ?h_pg_Condition ?h_hd_Condition ?h_po_Condition ?h_sa_Condition ?h_mk_Condition ?h_kc_Condition ?h_na_Condition_places ?h_na_Condition_told ?h_g_are_letters ?h_l_are_letters ?h_c_are_letters ?h_k_are_letters ?h_g_all_but ?h_l_all_but ?h_c_all_but ?h_k_all_but ?h_g_is_bracketed ?h_l_is_bracketed ?h_c_is_bracketed ?h_k_is_bracketed ?h_g_read_brackets ?h_l_read_brackets ?h_c_read_brackets ?h_k_read_brackets ?h_g_read_place ?h_l_read_place ?h_c_read_place ?h_k_read_place ?h_g_read_places ?h_l_read_places ?h_c_read_places ?h_k_read_places ?h_g_are_let ?h_l_are_let ?h_c_are_let ?h_k_are_let ?h_a_Condition_init ?h_i_Condition_init ?h_l_Condition_init ?h_c_Condition_init ?h_k_Condition_init ?h_a_Condition_ends ?h_i_Condition_ends ?h_l_Condition_ends ?h_c_Condition_ends ?h_k_Condition_ends ?h_a_Condition_begins ?h_i_Condition_begins ?h_l_Condition_begins ?h_c_Condition_begins ?h_k_Condition_begins ?h_g_l_mixed ?h_l_l_mixed ?h_c_l_mixed ?h_k_l_mixed ?h_g_l_number ?h_l_l_number ?h_c_l_number ?h_k_l_number ?h_g_l_kind ?h_l_l_kind ?h_c_l_kind ?h_k_l_kind ?h_g_l_letters ?h_l_l_letters ?h_c_l_letters ?h_k_l_letters ?h_g_l_condition ?h_l_l_condition ?h_c_l_condition ?h_k_l_condition ?h_g_l_written ?h_l_l_written ?h_c_l_written ?h_k_l_written ?h_g_l_read ?h_l_l_read ?h_c_l_read ?h_k_l_read ?h_g_l_fits ?h_l_l_fits ?h_c_l_fits ?h_k_l_fits ?h_g_l_refused ?h_l_l_refused ?h_c_l_refused ?h_k_l_refused ?h_g_l_right ?h_l_l_right ?h_c_l_right ?h_k_l_right ?h_g_l_bent ?h_l_l_bent ?h_c_l_bent ?h_k_l_bent ?h_g_l_words ?h_l_l_words ?h_c_l_words ?h_k_l_words ?h_g_law ?h_l_law ?h_c_law ?h_k_law
    (case h_n_isinstance => k_is)
    (case h_n_str => k_is)
    (case h_n_len => k_is)
    (case h_n_int => k_is)
    (case h_n_ValueError => k_is)
    (case h_n_set => k_is)
    (case h_n_all => k_is)
    (case h_n_zip => k_is)
    (case h_n_range => k_is)
    (case h_n_enumerate => k_is)
    (case h_n_repr => k_is)
    (case h_n_min => k_is)
    (case h_g_LETTERS => k_is)
    (case h_g_MOST_IN_BRACKETS => k_is)
    (case h_g_MOST_PLACES => k_is)
    (case h_g_MendError => k_is)
    (case h_g_BadWord => k_is)
    (case h_g_BadRule => k_is)
    (case h_g_BadText => k_is)
    (case h_g_Twice => k_is)
    (case h_g_NoStem => k_is)
    (case h_g_NoClass => k_is)
    (case h_g_InUse => k_is)
    (case h_g_TooMany => k_is)
    (case h_g_NoNumber => k_is)
    (case h_g_NoWord => k_is)
    (case h_g_BadPrice => k_is)
    (case h_g_NoPlace => k_is)
    (case h_g_BadPattern => k_is)
    (case h_x_BadRule => first | k_exc | k_is)
    (case h_k_BadRule => k_is)
    (case h_s_BadRule => k_is)
    (case h_t_BadRule => k_is)
    (case h_ga_BadRule => k_is)
    (case h_gg_BadRule => k_is)
    (case h_hd_BadRule => k_is)
    (case h_cl_BadRule => k_is)
    (case h_hm_BadRule => k_is)
    (case h_sm_BadRule_MendError => k_is)
    (case h_i_BadRule_MendError => first | rfl | k_is)
    (case h_i_BadRule_BadWord => first | rfl | k_is)
    (case h_i_BadRule_BadRule => first | rfl | k_is)
    (case h_i_BadRule_BadText => first | rfl | k_is)
    (case h_i_BadRule_Twice => first | rfl | k_is)
    (case h_i_BadRule_NoStem => first | rfl | k_is)
    (case h_i_BadRule_NoClass => first | rfl | k_is)
    (case h_i_BadRule_InUse => first | rfl | k_is)
    (case h_i_BadRule_TooMany => first | rfl | k_is)
    (case h_i_BadRule_NoNumber => first | rfl | k_is)
    (case h_i_BadRule_NoWord => first | rfl | k_is)
    (case h_i_BadRule_BadPrice => first | rfl | k_is)
    (case h_i_BadRule_NoPlace => first | rfl | k_is)
    (case h_i_BadRule_BadPattern => first | rfl | k_is)
    (case h_i_BadRule_ValueError => first | rfl | k_is)
    (case h_gd => k_is)
    (case h_tk => k_is)
    (case h_s2_MendError => k_is)
    (case h_hd2_MendError => k_is)
    (case h_t2_MendError => k_is)
    (case h_g_Condition => k_is)
    (case h_pg_Condition => k_is)
    (case h_hd_Condition => k_is)
    (case h_po_Condition => k_is)
    (case h_sa_Condition => k_is)
    (case h_mk_Condition => k_is)
    (case h_kc_Condition => k_is)
    (case h_na_Condition_places => k_is)
    (case h_na_Condition_told => k_is)
    (case h_g_are_letters => k_is)
    (case h_l_are_letters => k_is)
    (case h_c_are_letters => k_is)
    (case h_k_are_letters => k_is)
    (case h_g_all_but => k_is)
    (case h_l_all_but => k_is)
    (case h_c_all_but => k_is)
    (case h_k_all_but => k_is)
    (case h_g_is_bracketed => k_is)
    (case h_l_is_bracketed => k_is)
    (case h_c_is_bracketed => k_is)
    (case h_k_is_bracketed => k_is)
    (case h_g_read_brackets => k_is)
    (case h_l_read_brackets => k_is)
    (case h_c_read_brackets => k_is)
    (case h_k_read_brackets => k_is)
    (case h_g_read_place => k_is)
    (case h_l_read_place => k_is)
    (case h_c_read_place => k_is)
    (case h_k_read_place => k_is)
    (case h_g_read_places => k_is)
    (case h_l_read_places => k_is)
    (case h_c_read_places => k_is)
    (case h_k_read_places => k_is)
    (case h_g_are_let => k_is)
    (case h_l_are_let => k_is)
    (case h_c_are_let => k_is)
    (case h_k_are_let => k_is)
    (case h_a_Condition_init => k_is)
    (case h_i_Condition_init => k_is)
    (case h_l_Condition_init => k_is)
    (case h_c_Condition_init => k_is)
    (case h_k_Condition_init => k_is)
    (case h_a_Condition_ends => k_is)
    (case h_i_Condition_ends => k_is)
    (case h_l_Condition_ends => k_is)
    (case h_c_Condition_ends => k_is)
    (case h_k_Condition_ends => k_is)
    (case h_a_Condition_begins => k_is)
    (case h_i_Condition_begins => k_is)
    (case h_l_Condition_begins => k_is)
    (case h_c_Condition_begins => k_is)
    (case h_k_Condition_begins => k_is)
    (case h_g_l_mixed => k_is)
    (case h_l_l_mixed => k_is)
    (case h_c_l_mixed => k_is)
    (case h_k_l_mixed => k_is)
    (case h_g_l_number => k_is)
    (case h_l_l_number => k_is)
    (case h_c_l_number => k_is)
    (case h_k_l_number => k_is)
    (case h_g_l_kind => k_is)
    (case h_l_l_kind => k_is)
    (case h_c_l_kind => k_is)
    (case h_k_l_kind => k_is)
    (case h_g_l_letters => k_is)
    (case h_l_l_letters => k_is)
    (case h_c_l_letters => k_is)
    (case h_k_l_letters => k_is)
    (case h_g_l_condition => k_is)
    (case h_l_l_condition => k_is)
    (case h_c_l_condition => k_is)
    (case h_k_l_condition => k_is)
    (case h_g_l_written => k_is)
    (case h_l_l_written => k_is)
    (case h_c_l_written => k_is)
    (case h_k_l_written => k_is)
    (case h_g_l_read => k_is)
    (case h_l_l_read => k_is)
    (case h_c_l_read => k_is)
    (case h_k_l_read => k_is)
    (case h_g_l_fits => k_is)
    (case h_l_l_fits => k_is)
    (case h_c_l_fits => k_is)
    (case h_k_l_fits => k_is)
    (case h_g_l_refused => k_is)
    (case h_l_l_refused => k_is)
    (case h_c_l_refused => k_is)
    (case h_k_l_refused => k_is)
    (case h_g_l_right => k_is)
    (case h_l_l_right => k_is)
    (case h_c_l_right => k_is)
    (case h_k_l_right => k_is)
    (case h_g_l_bent => k_is)
    (case h_l_l_bent => k_is)
    (case h_c_l_bent => k_is)
    (case h_k_l_bent => k_is)
    (case h_g_l_words => k_is)
    (case h_l_l_words => k_is)
    (case h_c_l_words => k_is)
    (case h_k_l_words => k_is)
    (case h_g_law => k_is)
    (case h_l_law => k_is)
    (case h_c_law => k_is)
    (case h_k_law => k_is)

