import PyProof.Rows.All
import Wide.All
import OpenK.AllK
import Wide.FinOn
import PyProof.EqAt
import PyProof.EqKinds
import PyProof.TupleCall
import KE.KIsAll
import KE.KTryMore
import HandS.ForMost
import HandS.Exc
import HandS.TryOnly
import HandS.ExcOwn
import HandS.WordsExc
import HandS.IsInst
import HandS.ExcIs
import HandS.StrMore
import HandS.RaiseMore
import HandS.Evl
import HandS.Walk
import PyProof.Rows.SetFrom
import PyProof.StrWalks
import KE.GoesMore
import KE.GoesNew
import HandS.Replace
import HandS.List
import HandS.ClsMeth
import HandS.Defaults
import PyProof.CollectStr
import HandS.More
import HandS.Flow
import PyProof.ReprRoads
import HandS.SortKw
import KE.SortKeyHeap
import HandS.Conv
import HandS.DictComp
import PyProof.Rows.RegFStrParts
import KE.DataMinMax
import HandS.Style
import KE.KDictZip
import KE.KItemsList
import HandS.WordsDict
import KE.DataFind
import HandS.Deep
import HandS.Lambda
import HandS.EndTab
import PyProof.ListStr
import PySem.Challenge.RW_wordmend_k25_patterns
set_option Elab.async false
set_option linter.all false
set_option maxRecDepth 100000
set_option maxHeartbeats 2000000
/-! Our own layer: a caught error that is kept behind its suite, as an object that the heap tells of; and some rules of values. -/
namespace L2
open PySem PySem.Spec PyProof.Rows
/-- a kept error at a: its class, its own dict -/
def ErrO (cls : Value) (d : Option Addr) (a : Addr) : HO :=
  .ext fun h => ∃ oe vs, h.get? a = some oe ∧ oe.cls = cls ∧ oe.dict = d ∧ oe.data = .fields vs
section
variable {X : Cx} {pins : List (Addr × Obj)} {σ : St} {H : Hp} {s sI : Shared} {a : Addr} {o : HO}
/-- an object that came since the state sI is told of from now on -/
theorem Inv.track (I : Inv X pins σ H s) (J : Inv X pins σ H sI) (new : sI.heap.get? a = none) (hx : a ∉ X.ex)
    (na : H a = none) (nL : X.env.locals ≠ a) (nC : ∀ x c, X.env.cells.lookup x = some c → c ≠ a)
    (ok : ObjOk X.prog X.w (upd H a o) s.heap a o) : Inv X pins σ (upd H a o) s where
  ok := I.ok
  os := I.os
  bare := I.bare
  base :=
    { keep := I.base.keep
      slot := I.base.slot
      free := fun b ob q n hb => by
        have : b ≠ a := by
          rintro rfl
          obtain ⟨o', e⟩ := J.base.there b ob q hx
          rw [new] at e; cases e
        rw [upd_ne this]; exact I.base.free b ob q n hb
      there := I.base.there
      tups := fun b xs q => by
        have z := I.base.tups b xs q
        rw [upd_ne (ne_of_none z na)]; exact z
      frzs := fun b ob u q => by
        have z := I.base.frzs b ob u q
        rw [upd_ne (ne_of_none z na)]; exact z
      tbls := fun b ps q => by
        obtain ⟨m, z⟩ := I.base.tbls b ps q
        exact ⟨m, by rw [upd_ne (ne_of_none z na)]; exact z⟩ }
  loc := I.loc
  cell := I.cell
  free := by rw [upd_ne nL]; exact I.free
  freeC := fun x c e => by rw [upd_ne (nC x c e)]; exact I.freeC x c e
  pin := fun p hp => by
    obtain ⟨e, n, r⟩ := I.pin p hp
    have z := (J.pin p hp).1
    have : p.1 ≠ a := fun q => by rw [q, new] at z; cases z
    exact ⟨e, by rw [upd_ne this]; exact n, r⟩
  hok := fun b u q => by
    by_cases hb : b = a
    · subst hb; rw [upd_same] at q; cases q; exact ok
    · rw [upd_ne hb] at q
      exact (I.hok b u q).stay (fun _ _ _ r => r) (fun c r => by rw [upd_ne (ne_of_none r na)]; exact r)
        fun c xs r => by rw [upd_ne (ne_of_none r na)]; exact r
  len := I.len
/-- into the suite, the pins as they are -/
theorem Inv.intoSuite (I : Inv X pins σ H s) (a : Addr) : Inv (X.suite a (X.pn ++ pins)) [] σ H s where
  ok := I.ok.suite _ _
  os := I.os
  bare := I.bare
  base := I.base
  loc := I.loc
  cell := I.cell
  free := I.free
  freeC := I.freeC
  pin := fun p hp => I.pin p (by
    rw [List.append_nil] at hp
    exact hp)
  hok := I.hok
  len := I.len
theorem Inv.outSuite {pn' : List (Addr × Obj)} (I : Inv (X.suite a (X.pn ++ pins)) pn' σ H s) (ok : X.Ok) : Inv X pins σ H s where
  ok := ok
  os := I.os
  bare := I.bare
  base := I.base
  loc := I.loc
  cell := I.cell
  free := I.free
  freeC := I.freeC
  pin := fun p hp => I.pin p (List.mem_append_left _ hp)
  hok := I.hok
  len := I.len
end
/-- except x as n, the error told of in the heap from the suite on -/
def wKeep (K : PySem.W.Frag) (c : Value) (i : Nat) (ts : TS) (Wout : WX) (D : Ends) : WX := fun cls d σ H =>
  ∃ b, PySem.W.exmOne K cls c = some b ∧
    (b = true → ∀ a, H a = none →
      ts { nx := fun σ' H' => D.nx (σ'.set i none) H', rt := D.rt, bk := fun σ' H' => D.bk (σ'.set i none) H', ct := fun σ' H' => D.ct (σ'.set i none) H' }
        (σ.set i (some (.ref a))) (upd H a (ErrO cls d a))) ∧
    (b = false → Wout cls d σ H)
section
variable {X : Cx} {x n : Str} {c : Value} {i : Nat} {body suite : List Stmt} {b₀ : Stmt} {np pos pos' : Pos} {tb : WX → TS} {ts : TS} {Wout : WX}
theorem ps_try_keep (hs : X.stack = X.env :: X.outer) (hf : X.env.frame = some X.env.locals) (hN : X.N.Nodup)
    (hi : X.N[i]? = some n) (hln : X.env.kindOf n = some .local) (hc : Names X x c) (tk : Takes X Wout) (hex : X.ex = [])
    (hb : ∀ (W : WX) (pn : List (Addr × Obj)) (xe : Value → Shared → Prop), Takes (X.tr pn xe) W →
      PassesOwn (model X.prog X.w) X.A X.env xe → PSs (X.tr pn xe) body (tb W))
    (hsu : ∀ (a : Addr) (pn : List (Addr × Obj)), PSs (X.suite a pn) (b₀ :: suite) ts) :
    PS X (.Try body [.ExceptHandler (some (.Name x np)) (some n) (b₀ :: suite) pos'] [] [] pos)
      (fun D σ H => tb (wKeep X.K c i ts Wout D) D σ H) := by
  constructor
  intro pins s σ H D I h
  have ok := I.ok
  have frames : X.A.frames = some (X.env :: X.outer) := by
    rw [ok.frames, hs]
  have nloc : Loc X.env.scope n := Or.inl hln
  apply wpAny_Try_except
  have B := hb (wKeep X.K c i ts Wout D) (X.pn ++ pins)
    (fun e s₁ => wpAny (model X.prog X.w) X.A (noteFrame e X.env)
      (fun _ s₂ => wpAny (model X.prog X.w) X.A (setFlight e none)
        (fun _ s₃ => wpAny (model X.prog X.w) X.A
          (handleBy e X.env [.ExceptHandler (some (.Name x np)) (some n) (b₀ :: suite) pos'])
          (SP X pins D) X.xe s₃) X.xe s₂) X.xe s₁)
    (fun u s' air => ?_) PassesOwn.looking
  · refine wpAny_mono (B.run [] s σ H D (I.toTry _) h) (fun f s1 q => ?_) (fun _ _ z => z)
    match f, q with
    | .next, ⟨σ1, H1, J1, z⟩ => exact wpAny_execs_nil ⟨σ1, H1, J1.ofTry ok, z⟩
    | .brk, ⟨σ1, H1, J1, z⟩ => exact ⟨σ1, H1, J1.ofTry ok, z⟩
    | .cont, ⟨σ1, H1, J1, z⟩ => exact ⟨σ1, H1, J1.ofTry ok, z⟩
    | .ret _, ⟨v, σ1, H1, J1, r, z⟩ => exact ⟨v, σ1, H1, J1.ofTry ok, r, z⟩
  · obtain ⟨a, G, sI, pins1, σ1, H1, cls, d, hu, J0, ground, up, sky, na, os, bare, b, hb1, yes, no⟩ := air
    subst hu
    have J : Inv X pins σ1 H1 sI := J0.ofTry ok
    have sky2 : Sky G (X.env :: X.outer) a (Zc cls d) X.env.locals s'.heap := hs ▸ sky
    show wpAny (model X.prog X.w) X.A (noteFrame (.ref a) X.env) _ _ _
    apply Sky.land Zc.steady frames hf sky2
    intro h3 fly up3
    have J3 : Inv X pins σ1 H1 { s' with heap := h3 } := J.landed ground fly.1 (up.trans up3) os bare
    obtain ⟨oe3, vs3, get3, z3, dat3⟩ := fly.there
    have nfr : a ∉ frs (X.env :: X.outer) := fun hm => by
      obtain ⟨_, ob, e, hnf⟩ := fly.2.2.1.mem hm
      rw [get3] at e
      cases e
      exact hnf _ dat3
    have nL : a ≠ X.env.locals := fun z => nfr (List.mem_filterMap.mpr ⟨X.env, List.mem_cons_self, by rw [hf, z]⟩)
    have nF : a ∉ X.fs := fun hm => by
      obtain ⟨e, he, q⟩ := List.mem_filterMap.mp hm
      exact nfr (List.mem_filterMap.mpr ⟨e, List.mem_cons_of_mem _ he, q⟩)
    have fresh : sI.heap.get? a = none := by
      cases e : sI.heap.get? a with
      | none => rfl
      | some ob =>
        have z := ground a ob e (by rw [hs]; exact nfr)
        rw [fly.2.1] at z
        cases z
    have S3 := J3.suite get3 dat3 na nL nF
    refine wpAny_handleBy_cons (codeAny_handlers_test ?_) (fun q => nomatch q)
    have LT : PySem.W.Looks (model X.prog X.w) h3 (typeOf (.ref a)) cls := fun _ _ _ _ k q =>
      wpAny_typeOf_ref (k _ _ get3) (by rw [z3.1]; exact q)
    have LM := PySem.W.exm_one (M := model X.prog X.w) J3.kIn LT hb1
    have named : ∀ {Q E : Value → Shared → Prop}, Q c { s' with heap := h3 } →
        wpAny (model X.prog X.w) (X.A.mark (some (.ref a))) (eval (.Name x np) X.env) Q E { s' with heap := h3 } := fun {Q E} q => by
      obtain ⟨hg, hdbg, hm | ⟨hm, hv, hnn⟩⟩ := hc
      · exact ld_glob (X := X.suite a ((a, oe3) :: (X.pn ++ pins))) S3 hg hm q hdbg
      · exact ld_blt (X := X.suite a ((a, oe3) :: (X.pn ++ pins))) S3 hg hm hv q hnn hdbg
    apply named
    apply LM.here
    cases b with
    | true =>
      apply codeAny_handlers_suite_as
      apply HandSPX.lands_againZ fly
      intro h4 fly4 up4
      have J4 : Inv X pins σ1 H1 { s' with heap := h4 } := J.landed ground fly4.1 ((up.trans up3).trans up4) os bare
      obtain ⟨oe4, vs4, get4, z4, dat4⟩ := fly4.there
      have nC : ∀ y k, X.env.cells.lookup y = some k → k ≠ a := fun y k e z => by
        obtain ⟨v, oc, q1, q2⟩ := J4.cell y k e
        have q3 : h4.get? k = some oc := q1
        rw [z, get4] at q3
        cases q3
        rw [dat4] at q2
        cases q2
      have T4 : Inv X pins σ1 (upd H1 a (ErrO cls d a)) { s' with heap := h4 } :=
        J4.track J fresh (by rw [hex]; exact fun z => nomatch z) na (Ne.symm nL) nC
          ⟨⟨oe4, _, get4, z4.1, z4.2, dat4⟩, ⟨_, get4⟩, fun _ _ ⟨oe, vs, e1, e2⟩ k => ⟨oe, vs, k _ e1, e2⟩⟩
      have S4 := T4.intoSuite a
      refine store_ok (X := X.suite a (X.pn ++ pins)) (v := .ref a) S4 hN hi nloc rfl (fun s5 S5 => ?_) (Or.inr hln)
      refine wpAny_mono ((hsu a (X.pn ++ pins)).run [] s5 _ _ _ S5 (yes rfl a na)) (fun f s6 q => ?_) (fun _ _ z => False.elim z)
      have fin : ∀ {σ6 : St} {H6 : Hp} {Q : Shared → Prop}, Inv (X.suite a (X.pn ++ pins)) [] σ6 H6 s6 →
          (∀ s7, Inv X pins (σ6.set i none) H6 s7 → Q s7) →
          wpAny (model X.prog X.w) X.A (do bindName X.env n .none; unbindBehindTheSuite X.env n pos') (fun _ s7 => Q s7) X.xe s6 :=
        fun S6 hq => gone_ok (S6.outSuite ok) hN hi hln hq
      match f, q with
      | .next, ⟨σ6, H6, S6, z⟩ => exact fin S6 fun s7 J7 => ⟨_, _, J7, z⟩
      | .brk, ⟨σ6, H6, S6, z⟩ => exact fin S6 fun s7 J7 => ⟨_, _, J7, z⟩
      | .cont, ⟨σ6, H6, S6, z⟩ => exact fin S6 fun s7 J7 => ⟨_, _, J7, z⟩
      | .ret _, ⟨v6, σ6, H6, S6, r6, z⟩ => exact fin S6 fun s7 J7 => ⟨_, _, _, J7, r6, z⟩
    | false =>
      show wpAny _ X.A (handleBy (.ref a) X.env []) _ _ _
      apply wpAny_handleBy_nil
      obtain ⟨k1, k2, k3, oe, vs, T, oT, ts1, he, hz, hd, h1, hr⟩ := id fly
      unfold PySem.passOn
      apply wpAny_bind
      apply wpAny_field he hd h1
      rw [if_neg (show ¬ ((Value.ref T == Value.none) = true) from by simp)]
      have out : wpAny (model X.prog X.w) X.A (setFlight (.ref a) X.env.frame)
          (fun _ s4 => wpAny (model X.prog X.w) X.A (throw (.ref a) : Sem Flow) (SP X pins D) X.xe s4) X.xe { s' with heap := h3 } := by
        rw [hf]
        apply HandSPX.setFlight_upZ fly
        intro h4 hh4 up4
        exact wpAny_throw (tk _ _ ⟨a, G, sI, pins, σ1, H1, cls, d, rfl, J, ground, (up.trans up3).trans up4,
          Or.inr (Or.inr (by rw [hs]; exact hh4)), na, os, bare, no rfl⟩)
      first
        | exact wpAny_bind (wpAny_pure (wpAny_bind out))
        | exact wpAny_bind out
end
/-- isinstance(e, c), e a kept error without a dict of its own -/
def rIsErr (K : PySem.W.Frag) : List V → Hp → VK → Prop := fun xs H Q =>
  ∃ (a D : Addr) (c : V) (cv : Value) (b : Bool), xs = [.ref a, c] ∧ ExcC K D ∧ H a = some (ErrO (.ref D) none a) ∧
    ClsV c cv ∧ PySem.W.kitOne K (.ref D) cv = some b ∧ Q (.bl b) H
theorem call_isErr {X : Cx} : CallR X (.builtin "isinstance") (rIsErr X.K) := by
  intro pins s σ H xs us Q I r h
  obtain ⟨a, D, c, cv, b, rfl, C, ha, hcv, e, q⟩ := h
  obtain ⟨u1, u2, rfl, r1, r2⟩ := vals2 r
  cases r1
  have z := hcv.eq r2
  subst z
  obtain ⟨⟨oe, vs, g1, g2, g3, g4⟩, _, _⟩ := I.hok a _ ha
  have J : PySem.W.InstAt s.heap a oe D none := by
    obtain ⟨oc, od, oda, osl⟩ := oe
    dsimp only at g2 g3 g4
    subst g2 g3 g4
    exact ⟨g1, rfl, rfl, trivial⟩
  exact PySem.W.kia_one (PySem.W.handS_kitx_exc C.hg C.hk C.hs C.hd C.ha C.hn C.ht C.hm) I.kIn J e (fun z => nomatch z)
    fun tk => ⟨.bl b, H, I.tok tk, rfl, q⟩
/-- repr of a truth -/
def tBool (b : Bool) : Str := if b = true then "True" else "False"
end L2

set_option Elab.async false
set_option linter.all false
set_option maxRecDepth 100000
set_option maxHeartbeats 3200000
/-! Our own layer: set(text), and its length. -/
namespace SetS
open PySem PyProof.Rows
/-- a sign more, if it is new -/
def more (D : List Str) (x : Str) : List Str := if x ∈ D then D else D ++ [x]
def uniq (l : List Str) : List Str := l.foldl more []
theorem uniq_snoc (l : List Str) (x : Str) : uniq (l ++ [x]) = more (uniq l) x := by
  unfold uniq
  rw [List.foldl_append]
  rfl
theorem uniq_le (l : List Str) : (uniq l).length ≤ l.length := by
  unfold uniq
  suffices h : ∀ (l D : List Str), (l.foldl more D).length ≤ D.length + l.length by
    have := h l []
    simpa using this
  intro l
  induction l with
  | nil => intro D; simp
  | cons x r ih =>
    intro D
    have h1 := ih (more D x)
    have h2 : (more D x).length ≤ D.length + 1 := by
      unfold more
      split <;> simp
    rw [List.foldl_cons, List.length_cons]
    omega
theorem mem_more {D : List Str} {x y : Str} : y ∈ more D x ↔ y ∈ D ∨ y = x := by
  unfold more
  split
  · rename_i h
    constructor
    · exact Or.inl
    · rintro (h' | rfl)
      · exact h'
      · exact h
  · simp
/-- all its signs are unlike just where none fell away -/
theorem uniq_nodup (l : List Str) : (uniq l).length = l.length ↔ l.Nodup := by
  suffices h : ∀ (l D : List Str), D.Nodup → ((l.foldl more D).length = D.length + l.length ↔ (D ++ l).Nodup) by
    have := h l [] List.nodup_nil
    simpa [uniq] using this
  intro l
  induction l with
  | nil => intro D hD; simp [hD]
  | cons x r ih =>
    intro D hD
    rw [List.foldl_cons, List.length_cons]
    by_cases hx : x ∈ D
    · have e : more D x = D := by unfold more; rw [if_pos hx]
      rw [e]
      constructor
      · intro h
        have : (r.foldl more D).length ≤ D.length + r.length := by
          have h3 : ∀ (r D : List Str), (r.foldl more D).length ≤ D.length + r.length := by
            intro r
            induction r with
            | nil => intro D; simp
            | cons y r ih =>
              intro D
              have h1 := ih (more D y)
              have h2 : (more D y).length ≤ D.length + 1 := by
                unfold more
                split <;> simp
              rw [List.foldl_cons, List.length_cons]
              omega
          exact h3 r D
        omega
      · intro h
        rw [List.nodup_append] at h
        exact absurd rfl (h.2.2 x hx x (List.mem_cons_self))
    · have e : more D x = D ++ [x] := by unfold more; rw [if_neg hx]
      rw [e]
      have hD' : (D ++ [x]).Nodup := by
        rw [List.nodup_append]
        refine ⟨hD, by simp, ?_⟩
        intro a ha b hb
        rw [List.mem_singleton] at hb
        rintro rfl
        exact hx (hb ▸ ha)
      have := ih (D ++ [x]) hD'
      rw [List.length_append, List.length_singleton] at this
      rw [show D.length + (r.length + 1) = D.length + 1 + r.length by omega, this, List.append_assoc]
      rfl
/-- the signs of a text, as texts -/
def signsOf (z : Str) : List Str := z.cps.toList.map fun c => ⟨#[c]⟩
theorem signsOf_len (z : Str) : (signsOf z).length = z.cps.size := by
  unfold signsOf
  rw [List.length_map, Array.length_toList]
theorem signsOf_nodup (z : Str) : (signsOf z).Nodup ↔ z.cps.toList.Nodup := by
  unfold signsOf
  constructor
  · intro h
    rw [List.nodup_iff_pairwise_ne, List.pairwise_map] at h
    exact h.imp fun hab e => hab (by rw [e])
  · intro h
    refine List.Pairwise.map _ (fun a b hab e => hab ?_) h
    have e1 : (#[a] : Array Nat) = #[b] := Str.mk.inj e
    simpa using e1
theorem sub_str_set : isSubtype (.type "str") (.type "set") = pure false := by
  rw [isSubtype_type]
  kernel_rfl
theorem sub_str_frozenset : isSubtype (.type "str") (.type "frozenset") = pure false := by
  rw [isSubtype_type]
  kernel_rfl
section
variable {prog : Program} {w : World} {A : Around} {R : Result → Shared → Prop} {I : Addr} {fp wr : List Addr} {G : Array GenState → Array GenState → Prop} {n : Nat} {P : Nat → Value → Prop} {St : Nat → Shared → Prop}
theorem loop (W : WalksS prog w A.in1 I fp wr G n P St) (B : Addr) (hB : B ∉ fp) (xs : List Str) (hl : xs.length = n) (hn : n + 1 < scanBound)
    (val : ∀ i v, P i v → ∃ t x, xs[i]? = some x ∧ v = .str x t) : ∀ (k i : Nat) (s : Shared), n - i = k → i ≤ n → St i s →
      s.heap.SetOf (PySem.strKind prog w) B (fun y => decide (y ∈ uniq (xs.take i))) (uniq (xs.take i)).length →
      (∀ s', Moved (B :: wr) G s s' → s'.heap.SetOf (PySem.strKind prog w) B (fun y => decide (y ∈ uniq xs)) (uniq xs).length → R (.ok (.ret .none)) s') →
      codeAny (model prog w) A (.builtin "set.update.loop" ⟨[.ref B, .ref I], []⟩) R s := by
  have off : B ∉ wr := fun q => hB (W.sub _ q)
  have into : ∀ c ∈ wr, c ∈ B :: wr := fun c q => List.mem_cons_of_mem _ q
  intro k
  induction k with
  | zero =>
    intro i s e1 e2 st set goal
    obtain rfl : i = n := by omega
    refine codeAny_builtin F.entry_set_update_loop ?_
    rw [Around.under_plainId F.plain_set_update_loop _]
    show wpAny _ A.in1 (pyNext (.ref I) >>= _) _ _ s
    refine wpAny_bind (W.done s _ _ st fun s1 mv => ?_)
    show wpAny _ A.in1 (ret Value.none) _ _ s1
    refine wpAny_pure (goal s1 (mv.mono into) ?_)
    rw [List.take_of_length_le (by omega)] at set
    obtain ⟨ob, es, ep, tab, at1, more⟩ := set
    exact ⟨ob, es, ep, tab, mv.heap B _ off at1, more⟩
  | succ k ih =>
    intro i s e1 e2 st set goal
    have lt : i < n := by omega
    refine codeAny_builtin F.entry_set_update_loop ?_
    rw [Around.under_plainId F.plain_set_update_loop _]
    show wpAny _ A.in1 (pyNext (.ref I) >>= _) _ _ s
    refine wpAny_bind (W.item i s _ _ lt st fun v s1 hP st1 mv => ?_)
    obtain ⟨t, x, hx, rfl⟩ := val i v hP
    have set1 : s1.heap.SetOf (PySem.strKind prog w) B (fun y => decide (y ∈ uniq (xs.take i))) (uniq (xs.take i)).length := by
      obtain ⟨ob, es, ep, tab, at1, more⟩ := set
      exact ⟨ob, es, ep, tab, mv.heap B _ off at1, more⟩
    show wpAny _ A.in1 (holding [Value.str x t] (setAdd B (.str x t)) >>= _) _ _ s1
    refine wpAny_bind (wpAny_holding ?_)
    unfold setAdd
    refine wpAny_holding ?_
    refine wpAny_bind ((PySem.strKind prog w).pyHash (k := x) (strKind_is _ _ _ _) ?_)
    have room : (uniq (xs.take i)).length + 1 < scanBound := by
      have h1 := uniq_le (xs.take i)
      rw [List.length_take] at h1
      omega
    refine wpAny_setAddHashed_of (knd := PySem.strKind prog w) (s := { s1 with toks := s1.toks + 1 }) (strKind_is _ _ _ _) rfl set1 room fun h2 only set2 => ?_
    have tk : xs.take (i + 1) = xs.take i ++ [x] := by
      rw [List.take_add_one, hx]
      rfl
    have set3 : h2.SetOf (PySem.strKind prog w) B (fun y => decide (y ∈ uniq (xs.take (i + 1)))) (uniq (xs.take (i + 1))).length := by
      refine SetOf_congr set2 (fun y => ?_) ?_
      · rw [tk, uniq_snoc, Bool.eq_iff_iff]
        simp [mem_more]
      · rw [tk, uniq_snoc]
        unfold more
        by_cases q : x ∈ uniq (xs.take i)
        · simp [q]
        · simp [q]
    refine wpAny_pure ⟨plainId_quiet F.plain_set_update_loop _, ih (i + 1) _ (by omega) lt (W.frame _ s1 _ _ st1 (Nat.le_succ _) fun c hc o e => ?_) set3 fun s4 mv4 set4 => ?_⟩
    · rw [only.2 c (fun q : c = B => hB (q ▸ hc))]
      exact e
    · refine goal s4 (Moved.trans W.gtrans ((mv.mono into).then_heap (Nat.le_succ _) fun c o hc e => ?_) mv4) set4
      rw [only.2 c (fun q : c = B => hc (q ▸ List.mem_cons_self))]
      exact e
end
section
variable {prog : Program} {w : World} {A : Around} {E : Value → Shared → Prop} {s : Shared}
theorem walks (hh : A.handled = none) (I : Addr) (x : Str) (t : Tok) : ∃ St : Nat → Heap → Prop, Walks prog w A I [I] [I] x.cps.size (SignAt x) St ∧
    ∀ h, h.get? I = some { cls := .type (strIterType x), data := .fields #[.str x t, .int 0 0] } → St 0 h := by
  cases ha : x.cps.all (· < 128) with
  | true => exact ⟨_, Walks.strAscii hh I x t, fun h e => ⟨_, e, by simp [strIterType, ha], rfl⟩⟩
  | false => exact ⟨_, Walks.strWide hh I x t, fun h e => ⟨_, e, by simp [strIterType, ha], rfl⟩⟩
abbrev setO (led : Bool) : Obj := { cls := .type "set", dict := none, data := .set #[] 0 (.fresh 0 0 led) }
theorem call_set_text {x : Str} {t : Tok} {Q : Value → Shared → Prop} (hh : A.handled = none) (hb : x.cps.size + 1 < scanBound)
    (h : ∀ (h' : Heap) (tk : Nat), h'.SetOf (PySem.strKind prog w) s.heap.objs.size (fun y => decide (y ∈ uniq (signsOf x))) (uniq (signsOf x)).length →
      (∀ b o, b < s.heap.objs.size → s.heap.get? b = some o → h'.get? b = some o) → Q (.ref s.heap.objs.size) { s with heap := h', toks := tk }) :
    wpAny (model prog w) A (call (.type "set") [.str x t]) Q E s := by
  obtain ⟨c, tl, mro⟩ := PySem.F.called_set.mro
  have q1 := PySem.F.called_set.made
  have q2 := PySem.F.called_set.sub
  refine wpAny_call (codeAny_of_tree ?_)
  show wpAny _ _ (callAny (.type "set") _) _ _ _
  refine wpAny_pure ⟨Code.quiet_builtin _ (by decide +kernel), codeAny_builtin PySem.F.entry_type_call ?_⟩
  rw [Around.under_plain (weight_type_call_type "set" [.str x t] []) rfl]
  have q3 := PySem.F.called_set.notType
  have q4 := PySem.F.called_set.canCreate
  have q5 := PySem.F.typeCall_set_1 (.str x t)
  repeat (any_goals (first | assumption | wp_step))
  refine codeAny_mono (code_set_new_1 (.str x t) (E := E) (Q₁ := fun v s1 => ∃ led : Bool, v = .ref s.heap.objs.size ∧ s1 = { s with heap := s.heap.push (setO led) }) fun led => ⟨led, rfl, rfl⟩) fun r s1 hr => ?_
  match r, hr with
  | .error e, hr => exact hr
  | .ok .next, hr => exact hr.elim
  | .ok .brk, hr => exact hr.elim
  | .ok .cont, hr => exact hr.elim
  | .ok (.ret v), hr =>
    obtain ⟨led, rfl, rfl⟩ := hr
    have at0 : (s.heap.push (setO led)).get? s.heap.objs.size = some (setO led) := Heap.get?_push_size _ rfl
    have ty : Shared.TypeIs { s with heap := s.heap.push (setO led) } (.ref s.heap.objs.size) "set" := ⟨_, at0, rfl⟩
    have q6 := PySem.F.called_set.init.lookup
    have q7 := PySem.F.called_set.init.bind (.ref s.heap.objs.size)
    repeat (any_goals (first | assumption | wp_step))
    refine codeAny_mono (codeAny_call_builtin (R := wants (fun r s2 => r = .none ∧ ∃ h' tk, s2 = { s with heap := h', toks := tk } ∧
        h'.SetOf (PySem.strKind prog w) s.heap.objs.size (fun y => decide (y ∈ uniq (signsOf x))) (uniq (signsOf x)).length ∧
        ∀ b o, b < s.heap.objs.size → s.heap.get? b = some o → h'.get? b = some o) E) PySem.F.called_set.init.plain PySem.F.entry_set_init (check_set_init_1 ty ?_)) fun r2 s2 hr2 => ?_
    · have q8 := sub_str_set
      have q9 := sub_str_frozenset
      have q10 : (Value.type "str" == Value.type "dict") = false := by decide
      unfold Builtin.«set.__init__»
      unfold Builtin.Frozenset.updateFrom noKeywords
      generalize hPI : pyIter = PI
      wp_walk
      subst hPI
      refine wpAny_pyIter_strU ?_
      refine wpAny_bind (wpAny_runValue ?_)
      have hh3 : A.in1.in1.in1.handled = none := by simp [hh]
      obtain ⟨St, W, st0⟩ := walks (prog := prog) (w := w) hh3 (s.heap.push (setO led)).objs.size x t
      have offI : s.heap.objs.size ∉ [(s.heap.push (setO led)).objs.size] := by
        rw [Heap.size_push, List.mem_singleton]
        exact Nat.ne_of_lt (Nat.lt_succ_self _)
      refine loop W.toS s.heap.objs.size offI (signsOf x) (signsOf_len x) hb (fun i v q => ?_) (x.cps.size - 0) 0 _ (by omega) (Nat.zero_le _) (st0 _ (Heap.get?_push_size _ rfl)) ?_ ?_
      · obtain ⟨c, u, e1, e2⟩ := q
        refine ⟨u, ⟨#[c]⟩, ?_, e2⟩
        unfold signsOf
        rw [List.getElem?_map, Array.getElem?_toList, e1]
        rfl
      · have at1 : ((s.heap.push (setO led)).push { cls := .type (strIterType x), data := .fields #[.str x t, .int 0 0] }).get? s.heap.objs.size = some (setO led) := Heap.get?_push_of_some _ at0
        exact SetOf_congr ((setObjOf_fresh (knd := PySem.strKind prog w) led).setOf at1 (by unfold scanBound; omega)) (fun _ => rfl) rfl
      · intro s3 mv set
        obtain ⟨h3, g3, d3, tk3, os3⟩ := s3
        obtain rfl : g3 = s.gens := mv.gens
        obtain rfl : d3 = s.drawn := mv.drawn
        obtain rfl : os3 = s.os := mv.os
        show wpAny _ _ _ _ _ _
        refine wpAny_pure ?_
        show wpAny _ _ (ret Value.none) _ _ _
        refine wpAny_pure ⟨rfl, h3, tk3, rfl, set, fun b o hb e => ?_⟩
        refine mv.heap b o ?_ (Heap.get?_push_of_some _ (Heap.get?_push_of_some _ e))
        rw [List.mem_cons, List.mem_singleton, Heap.size_push]
        rintro (q | q)
        · exact Nat.ne_of_lt hb q
        · exact Nat.ne_of_lt (Nat.lt_succ_of_lt hb) q
    · match r2, hr2 with
      | .error e, hr2 => exact hr2
      | .ok .next, hr2 => exact hr2.elim
      | .ok .brk, hr2 => exact hr2.elim
      | .ok .cont, hr2 => exact hr2.elim
      | .ok (.ret v), hr2 =>
        obtain ⟨rfl, h', tk, rfl, set, keep⟩ := hr2
        repeat (any_goals (first | assumption | wp_step))
        exact h _ _ set keep
end
end SetS

set_option Elab.async false
set_option linter.all false
set_option maxRecDepth 100000
set_option maxHeartbeats 2000000
/-! Our own layer: more of what evaluates to what. -/
namespace L2
open PySem PySem.Spec PyProof.Rows
theorem call_repr_bl {X : Cx} : CallR X (.builtin "repr") (fun xs H Q => ∃ b, xs = [.bl b] ∧ Q (.str (tBool b)) H) := by
  intro pins s σ H xs us Q I r h
  obtain ⟨b, rfl, q⟩ := h
  obtain ⟨u, rfl, r1⟩ := vals1 r
  cases r1
  refine PySem.P.repr_of_bool ⟨.str (tBool b), H, I.tok _, ⟨s.toks, ?_⟩, q⟩
  cases b <;> rfl
theorem tBool_eq (a b : Bool) : decide (V.str (tBool a) = V.str (tBool b)) = decide (a = b) := by
  cases a <;> cases b <;> decide +kernel
end L2
namespace Evl
open PySem L2
section
variable {K : PySem.W.Frag} {σ : L2.St} {H H' : Hp} {ta tb tc te tx : TE} {t u : TT} {x y z v : V} {r : R2}
/-! ### promises that are functions -/
def SpFn (pre : List V → Hp → Prop) (res : List V → V) : Sp := fun vs H Q _ => pre vs H ∧ ∀ H', Ex H H' → Q (res vs) H'
theorem spFn {pre : List V → Hp → Prop} {res : List V → V} {vs : List V} (h : ∀ H1, Ex H H1 → pre vs H1) : SpV (SpFn pre res) vs H (res vs) :=
  fun H1 e _ q _ => ⟨h H1 e, q⟩
/-! ### values -/
theorem ev_chain {r' : R2} {k b : Bool} (ha : Ev ta σ H x) (hb : Ev tb σ H y) (h1 : RV r x y H (.bl k)) (hc : k = true → Ev tc σ H z)
    (h2 : k = true → RV r' y z H (.bl b)) : Ev (tChain r r' ta tb tc) σ H (.bl (k && b)) := fun H1 e Q q =>
  ha H1 e _ fun H2 e2 => hb H2 (e.trans e2) _ fun H3 e3 => h1 H3 ((e.trans e2).trans e3) _ fun H4 e4 => ⟨k, rfl, by
    cases k with
    | true =>
      refine iteT ?_
      exact hc rfl H4 (((e.trans e2).trans e3).trans e4) _ fun H5 e5 => h2 rfl H5 ((((e.trans e2).trans e3).trans e4).trans e5) Q
        fun H6 e6 => q H6 ((((e2.trans e3).trans e4).trans e5).trans e6)
    | false =>
      refine iteF ?_
      exact q H4 ((e2.trans e3).trans e4)⟩
theorem rv_addS {i j : Str} (h : i.length + j.length ≤ 100000) :
    RV (fun x y H Q => ∃ i j, x = .str i ∧ y = .str j ∧ i.length + j.length ≤ sizeLine ∧ Q (.str (i ++ j)) H) (.str i) (.str j) H (.str (i ++ j)) :=
  fun H1 _ _ q => ⟨i, j, rfl, rfl, sz_of h, q H1 (Ex.refl H1)⟩
theorem rv_leS {i j : Str} :
    RV (fun x y H Q => ∃ i j, x = .str i ∧ y = .str j ∧ Q (.bl (!decide (j.cps.toList < i.cps.toList))) H) (.str i) (.str j) H (.bl (!decide (j.cps.toList < i.cps.toList))) :=
  fun H1 _ _ q => ⟨i, j, rfl, rfl, q H1 (Ex.refl H1)⟩
theorem rv_isN : RV (fun x y H Q => y = .non ∧ Q (.bl (decide (x = .non))) H) x .non H (.bl (decide (x = .non))) := fun H1 _ _ q => ⟨rfl, q H1 (Ex.refl H1)⟩
theorem rv_notN : RV (fun x y H Q => y = .non ∧ Q (.bl (!decide (x = .non))) H) x .non H (.bl (!decide (x = .non))) := fun H1 _ _ q => ⟨rfl, q H1 (Ex.refl H1)⟩
theorem ev_slS {tl th : TO} {w : Str} {lo hi : Option Int} (h : Ev te σ H (.str w)) (h1 : EvO tl σ H lo) (h2 : EvO th σ H hi) (hz : w.length ≤ 100000) :
    Ev (tSl rSlS te tl th) σ H (.str (cutS w lo hi)) := fun H1 e _ q =>
  h H1 e _ fun H2 e2 => h1 H2 (e.trans e2) _ fun H3 e3 => h2 H3 ((e.trans e2).trans e3) _ fun H4 e4 => ⟨w, rfl, sz_of hz, q H4 ((e2.trans e3).trans e4)⟩
/-- what join asks -/
abbrev rJoin (K : PySem.W.Frag) : V → List V → Hp → VK → Prop := fun x xs H Q => ∃ a p, ∃ ys : List Str, x = .str a ∧ xs = [.ref p] ∧
  (SqL K H p (ys.map V.str) ∨ SqT K H p (ys.map V.str)) ∧ (ys.map (·.length)).sum + ys.length * a.length ≤ 16777216 ∧ Q (.str (Txt.join a ys)) H
theorem ev_joinL {a : Str} {ys : List Str} {xs : List V} (ha : Ev ta σ H (.str a)) (hb : EvL tb σ H xs) (hy : xs = ys.map V.str)
    (hz : (ys.map (·.length)).sum + ys.length * a.length ≤ 16777216) : Ev (tM1 (rJoin K) ta tb) σ H (.str (Txt.join a ys)) := fun H1 e _ q =>
  ha H1 e _ fun H2 e2 => ⟨⟨a, rfl⟩, hb H2 (e.trans e2) _ fun p H3 _ e3 h3 => ⟨a, p, ys, rfl, rfl, Or.inl (sq_of (hy ▸ h3)), hz, q H3 (e2.trans e3)⟩⟩
theorem ev_joinV {a : Str} {ys : List Str} {p : Addr} (ha : Ev ta σ H (.str a)) (hb : Ev tb σ H (.ref p)) (hp : SqL K H p (ys.map V.str))
    (hz : (ys.map (·.length)).sum + ys.length * a.length ≤ 16777216) : Ev (tM1 (rJoin K) ta tb) σ H (.str (Txt.join a ys)) := fun H1 e _ q =>
  ha H1 e _ fun H2 e2 => ⟨⟨a, rfl⟩, hb H2 (e.trans e2) _ fun H3 e3 => ⟨a, p, ys, rfl, rfl, Or.inl (ex_l ((e.trans e2).trans e3) hp), hz, q H3 (e2.trans e3)⟩⟩
theorem el_rep {xs : List V} {k : Int} (ha : EvL ta σ H xs) (hb : Ev tb σ H (.int k)) (h0 : 0 ≤ k) (hk : k ≤ 1000) (hz : xs.length ≤ 1000) :
    EvL (tOp rRep ta tb) σ H ((List.replicate k.toNat xs).flatten) := fun H1 e _ q =>
  ha H1 e _ fun p H2 hp e2 h2 => hb H2 (e.trans e2) _ fun H3 e3 =>
    ⟨p, k, xs, rfl, rfl, e3 p _ h2, by omega, by omega, by
      refine Nat.le_trans (Nat.mul_le_mul hz (show k.toNat ≤ 1000 by omega)) ?_
      decide, fun l hl => q l _ (fresh_back (e2.trans e3) hl) ((e2.trans e3).trans (Ex.new hl)) upd_same⟩
theorem el_catLL {xs ys : List V} (ha : EvL ta σ H xs) (hb : EvL tb σ H ys) (hz : xs.length + ys.length ≤ 100000) :
    EvL (tOp rCat ta tb) σ H (xs ++ ys) := fun H1 e _ q =>
  ha H1 e _ fun p H2 hp e2 h2 => hb H2 (e.trans e2) _ fun p' H3 hp' e3 h3 =>
    ⟨p, p', xs, ys, rfl, rfl, e3 p _ h2, h3, sz_of hz, fun l hl => q l _ (fresh_back (e2.trans e3) hl) ((e2.trans e3).trans (Ex.new hl)) upd_same⟩
theorem el_catVL {xs ys : List V} {p : Addr} (ha : Ev ta σ H (.ref p)) (hp : H p = some (.lst xs)) (hb : EvL tb σ H ys) (hz : xs.length + ys.length ≤ 100000) :
    EvL (tOp rCat ta tb) σ H (xs ++ ys) := fun H1 e _ q =>
  ha H1 e _ fun H2 e2 => hb H2 (e.trans e2) _ fun p' H3 hp' e3 h3 =>
    ⟨p, p', xs, ys, rfl, rfl, e3 p _ (e2 p _ (e p _ hp)), h3, sz_of hz, fun l hl => q l _ (fresh_back (e2.trans e3) hl) ((e2.trans e3).trans (Ex.new hl)) upd_same⟩
theorem el_is {xs ys : List V} (h : EvL te σ H xs) (e : xs = ys) : EvL te σ H ys := e ▸ h
/-! ### built-ins -/
theorem rc_val {r : List V → Hp → VK → Prop} {vs : List V} (h : ∀ H1, Ex H H1 → ∀ Q : VK, Q z H1 → r vs H1 Q) : RC r vs H z := fun H1 e Q q => h H1 e Q (q H1 (Ex.refl H1))
theorem rc_repr {b : Bool} : RC (fun xs H Q => ∃ b, xs = [.bl b] ∧ Q (.str (tBool b)) H) [.bl b] H (.str (tBool b)) := rc_val fun _ _ _ q => ⟨b, rfl, q⟩
theorem rc_int {b : Bool} : RC (fun xs H Q => (∃ i, xs = [.int i] ∧ Q (.int i) H) ∨ ∃ k, xs = [.bl k] ∧ Q (.int (if k then 1 else 0)) H) [.bl b] H (.int (if b then 1 else 0)) :=
  rc_val fun _ _ _ q => Or.inr ⟨b, rfl, q⟩
theorem rc_lenS {w : Str} (h : w.length ≤ 100000) : RC (fun xs H Q => ∃ z, xs = [.str z] ∧ z.length ≤ sizeLine ∧ Q (.int z.length) H) [.str w] H (.int w.length) :=
  rc_val fun _ _ _ q => ⟨w, rfl, sz_of h, q⟩
theorem rc_lenL {p : Addr} {xs : List V} (h : SqL K H p xs) : RC (fun vs H Q => ∃ p ys, vs = [.ref p] ∧ (SqL K H p ys ∨ SqT K H p ys) ∧ Q (.int ys.length) H) [.ref p] H (.int xs.length) :=
  rc_val fun _ e _ q => ⟨p, xs, rfl, Or.inl (ex_l e h), q⟩
theorem rc_min {i j : Int} : RC (fun xs H Q => ∃ i j, xs = [.int i, .int j] ∧ Q (.int (if j < i then j else i)) H) [.int i, .int j] H (.int (if j < i then j else i)) :=
  rc_val (z := .int (if j < i then j else i)) fun _ _ _ q => ⟨i, j, rfl, q⟩
theorem rc_err {a D : Addr} {c : V} {cv : Value} {b : Bool} (ha : H a = some (ErrO (.ref D) none a)) (C : ExcC K D) (k : ClsV c cv) (e : PySem.W.kitOne K (.ref D) cv = some b) :
    RC (rIsErr K) [.ref a, c] H (.bl b) := rc_val fun H1 ex _ q => ⟨a, D, c, cv, b, rfl, C, ex a _ ha, k, e, q⟩
/-! ### things of any kind -/
def isStr : V → Bool | .str _ => true | _ => false
/-- what is handed in: None, a truth, a whole number, a text of signs, a list, a tuple, a dict -/
def Thing (H : Hp) : V → Prop
  | .non => True | .bl _ => True | .int _ => True
  | .str z => z.length ≤ 1000 ∧ z.cps.toList.all (· < 1114112) = true
  | .ref a => (∃ xs, H a = some (.lst xs)) ∨ (∃ xs, H a = some (.tup xs)) ∨ ∃ kvs, H a = some (.dK kvs)
  | _ => False
theorem Thing.mono (e : Ex H H') (h : Thing H v) : Thing H' v := by
  cases v with
  | ref a =>
    rcases h with ⟨xs, h⟩ | ⟨xs, h⟩ | ⟨kvs, h⟩
    · exact Or.inl ⟨xs, e a _ h⟩
    · exact Or.inr (Or.inl ⟨xs, e a _ h⟩)
    · exact Or.inr (Or.inr ⟨kvs, e a _ h⟩)
  | _ => exact h
theorem Thing.ty (h : Thing H v) : ∃ T : String, TyX K H v (.type T) ∧ kitB T "str" = some (isStr v) := by
  cases v with
  | non => exact ⟨_, .base .non, by decide +kernel⟩
  | bl b => exact ⟨"bool", .base (.bl b), by show kitB "bool" "str" = some false; decide +kernel⟩
  | int i => exact ⟨"int", .base (.int i), by show kitB "int" "str" = some false; decide +kernel⟩
  | str z => exact ⟨"str", .base (.str z), by show kitB "str" "str" = some true; decide +kernel⟩
  | byt b => exact h.elim
  | flt b => exact h.elim
  | ty b => exact h.elim
  | ref a =>
    rcases h with ⟨xs, h⟩ | ⟨xs, h⟩ | ⟨kvs, h⟩
    · exact ⟨"list", .base (.lst h), by show kitB "list" "str" = some false; decide +kernel⟩
    · exact ⟨"tuple", .base (.tup h), by show kitB "tuple" "str" = some false; decide +kernel⟩
    · exact ⟨"dict", .base (.dK h), by show kitB "dict" "str" = some false; decide +kernel⟩
theorem rc_isStr (h : Thing H v) : RC (rIsi K) [v, .ty "str"] H (.bl (isStr v)) := rc_val fun H1 e Q q => by
  obtain ⟨T, ht, hk⟩ := (h.mono e).ty (K := K)
  exact ⟨v, .ty "str", .type T, .type "str", isStr v, rfl, .ty _, ht, kit_ty hk, q⟩
/-- evaluates to some thing -/
def EvTh (te : TE) (σ : L2.St) (H : Hp) : Prop := ∀ H1, Ex H H1 → ∀ Q : VK, (∀ v H2, Ex H1 H2 → Thing H2 v → Q v H2) → te σ H1 Q
def EvThs (ta : TA) (σ : L2.St) (H : Hp) (n : Nat) : Prop := ∀ H1, Ex H H1 → ∀ Q : List V → Hp → Prop, (∀ vs H2, Ex H1 H2 → vs.length = n → (∀ v ∈ vs, Thing H2 v) → Q vs H2) → ta σ H1 Q
theorem eth_v (h : Ev te σ H v) (p : ∀ H1, Ex H H1 → Thing H1 v) : EvTh te σ H := fun H1 e _ q => h H1 e _ fun H2 e2 => q v H2 e2 (p H2 (e.trans e2))
theorem eth_l {xs : List V} (h : EvL te σ H xs) : EvTh te σ H := fun H1 e _ q => h H1 e _ fun p H2 _ e2 h2 => q _ H2 e2 (Or.inl ⟨xs, h2⟩)
theorem eth_u {xs : List V} (h : EvU te σ H xs) : EvTh te σ H := fun H1 e _ q => h H1 e _ fun p H2 _ e2 h2 => q _ H2 e2 (Or.inr (Or.inl ⟨xs, h2⟩))
theorem eth_d : EvTh tDNewK σ H := fun H1 e _ q => fun p hp => q _ _ (Ex.new hp) (Or.inr (Or.inr ⟨[], upd_same⟩))
theorem eths_nil : EvThs tNil σ H 0 := fun H1 _ _ q => q [] H1 (Ex.refl H1) rfl fun _ h => nomatch h
theorem eths_cons {tr : TA} {n : Nat} (h : EvTh te σ H) (hr : EvThs tr σ H n) : EvThs (tCons te tr) σ H (n + 1) := fun H1 e _ q =>
  h H1 e _ fun v H2 e2 hv => hr H2 (e.trans e2) _ fun vs H3 e3 hl hvs => q (v :: vs) H3 (e2.trans e3) (by rw [List.length_cons, hl]) fun w hw => by
    rcases List.mem_cons.mp hw with rfl | hw
    · exact hv.mono e3
    · exact hvs w hw
/-! ### lists against the empty one -/
def dpOf : V → PyData | .non => .none | .bl b => .bool b | .int i => .int i | .str s => .str s | _ => .none
def flatOk : V → Bool | .non => true | .bl _ => true | .int _ => true | .str s => s.cps.all (· < 0x110000) | _ => false
theorem dp_flat (h : flatOk v = true) : Dp K H v (dpOf v) := by
  cases v with
  | non => exact .non
  | bl b => exact .bl b
  | int i => exact .int i
  | str s => exact .str s
  | _ => cases h
theorem dps_flat : ∀ {xs : List V}, xs.all flatOk = true → DpAll K H xs (xs.map dpOf)
  | [], _ => .nil
  | x :: xs, h => by
    rw [List.all_cons, Bool.and_eq_true] at h
    exact .cons (dp_flat h.1) (dps_flat h.2)
theorem depth_dpOf : PyData.depth (dpOf v) = 0 := by cases v <;> rfl
theorem canLay_dpOf (h : flatOk v = true) : PyData.canLay0 (dpOf v) = true := by
  cases v with
  | str s => exact h
  | non => rfl
  | bl b => rfl
  | int i => rfl
  | _ => cases h
theorem depths_flat : ∀ {xs : List V}, PyData.depthAll (xs.map dpOf) = 0
  | [] => rfl
  | x :: xs => by
    show max (PyData.depth (dpOf x)) (PyData.depthAll (xs.map dpOf)) = 0
    rw [depth_dpOf, depths_flat] <;> rfl
theorem canLays_flat : ∀ {xs : List V}, xs.all flatOk = true → PyData.canLayAll0 (xs.map dpOf) = true
  | [], _ => rfl
  | x :: xs, h => by
    rw [List.all_cons, Bool.and_eq_true] at h
    show (PyData.canLay0 (dpOf x) && PyData.canLayAll0 (xs.map dpOf)) = true
    rw [canLay_dpOf h.1, canLays_flat h.2] <;> rfl
theorem shaped_flat {xs : List V} (h : xs.all flatOk = true) : SeqAt.shaped (.list (xs.map dpOf)) = true := by
  unfold SeqAt.shaped
  rw [Bool.and_eq_true]
  constructor
  · show PyData.canLayAll0 (xs.map dpOf) = true
    exact canLays_flat h
  · have : PyData.depth (.list (xs.map dpOf)) = 1 := by
      show PyData.depthAll (xs.map dpOf) + 1 = 1
      rw [depths_flat]
    rw [this]
    rfl
theorem ev_eqNil {xs : List V} (ha : EvL ta σ H xs) (hf : xs.all flatOk = true) : Ev (tOp (rEqD K) ta (tLst tNil)) σ H (.bl xs.isEmpty) := fun H1 e Q q =>
  ha H1 e _ fun p H2 _ e2 h2 => ⟨by show 0 ≤ sizeLine; exact Nat.zero_le _, fun l hl => by
    have e3 : Ex H2 (upd H2 l (.lst [])) := Ex.new hl
    refine ⟨.list (xs.map dpOf), .list [], .lst (sq_of (e3 p _ h2)) (dps_flat hf), .lst (sq_of upd_same) .nil, shaped_flat hf, by decide, ?_⟩
    have z : PyData.eqv (.list (xs.map dpOf)) (.list []) = xs.isEmpty := by
      cases xs <;> rfl
    rw [z]
    exact q _ (e2.trans e3)⟩
/-! ### a comprehension over a text's signs -/
theorem el_lcS {w : Str} {ts : TE} {j : Nat} {vs : List Nat} (f : Nat → Bool) (g : Nat → V) (h : Ev ts σ H (.str w)) (hz : w.cps.size ≤ 40000)
    (hw : ∀ x, wipe ((wipe σ vs).set j (some x)) vs = wipe σ vs)
    (ht : ∀ (i c : Nat) H1, Ex H H1 → w.cps[i]? = some c → EvT t ((wipe σ vs).set j (some (.str ⟨#[c]⟩))) H1 (f i))
    (he : ∀ (i c : Nat) H1, Ex H H1 → w.cps[i]? = some c → f i = true → Ev te ((wipe σ vs).set j (some (.str ⟨#[c]⟩))) H1 (g i)) :
    EvL (tLc (iStr ts) (gName j) t te vs) σ H (given w.cps.size f g) := fun H0 e Q q => h H0 e _ fun H1 e1 => ⟨w, rfl, fun Dl hD =>
  lc_it (walk_str (z := w)) (Cw H1 f g Dl) ⟨hD, Ex.new hD, upd_same⟩ (fun _ _ _ _ => True.intro) (fun i x H2 H3 hi p y => by
    obtain ⟨rfl, c, hc, rfl⟩ := y
    exact ⟨hw _, cw_turn p (by omega) (ht i c H1 (e.trans e1) hc) (fun hf => he i c H1 (e.trans e1) hc hf)⟩)
    (fun H' p => q Dl H' (fresh_back e1 p.1) (e1.trans p.2.1) p.2.2)⟩
theorem et_yes : EvT tYes σ H true := fun H1 _ _ q => q H1 (Ex.refl H1)
theorem given_all (n : Nat) (g : Nat → V) : given n (fun _ => true) g = (List.range n).map g := by
  unfold given
  rw [List.filter_eq_self.mpr (fun _ _ => rfl)]
end
end Evl

set_option Elab.async false
set_option linter.all false
set_option maxRecDepth 100000
set_option maxHeartbeats 2000000
/-! Our own layer: len(set(text)); zip(list, text). -/
namespace L2
open PySem PySem.Spec PyProof.Rows
/-- len(set(s)), s a text -/
def tLenSetS (ta : TE) : TE := fun σ H Q => ta σ H fun x H1 => ∃ z, x = .str z ∧ z.length ≤ 4000 ∧ Q (.int ((SetS.uniq (SetS.signsOf z)).length : Nat)) H1
theorem pe_lenSetS {X : Cx} {a : Expr} {ta : TE} {p p2 q pos : Pos} (hg : Gl X "len") (hm : X.mg "len" = none) (hg2 : Gl X "set") (hm2 : X.mg "set" = none)
    (ha : PE X a ta) (hc : X.calm = true := by rfl) (na : starEach [a] X.env = (false, eval a X.env) :: starEach [] X.env := by rfl) :
    PE X (.Call (.Name "len" p) [.Call (.Name "set" p2) [a] [] q] [] pos) (tLenSetS ta) := by
  constructor
  intro pins s σ H Q I h
  refine Call_ (ld_blt I hg hm PySem.boot_len ?_)
  refine PyProof.Rows.callWith_builtin1 (PyProof.Rows.args_cons ?_ rfl) rfl rfl
  refine Call_ (ld_blt I hg2 hm2 PyProof.Rows.boot_set ?_)
  refine PyProof.Rows.callWith_type1 (PyProof.Rows.args_cons (thn (ha.run pins s σ H _ I h) fun v s1 hv => PyProof.Rows.args_nil ?_) na) na rfl
  obtain ⟨x, H1, I1, r1, z, rfl, hl, q1⟩ := hv
  obtain ⟨t, rfl⟩ := r1
  have hz : z.cps.size ≤ 4000 := hl
  refine SetS.call_set_text (I1.ok.hd hc) (by unfold scanBound; omega) fun h' tk hS hk => ?_
  refine PyProof.Rows.args_nil ?_
  obtain ⟨o, es, ep, tab, ho, hex, hd, _, _, _, hf, hn⟩ := hS
  have hle := SetS.uniq_le (SetS.signsOf z)
  rw [SetS.signsOf_len] at hle
  have I2 : Inv X pins σ H1 { s1 with heap := h', toks := tk } := I1.kept fun b o e => hk b o (Heap.lt_size e) e
  exact call_len_set ho hex hd hf (by rw [hn]; omega) ⟨.int _, H1, I2.tok _, ⟨_, by rw [hn]⟩, q1⟩
/-! ### zip(list, text) -/
/-- the list at a as it stands at each turn, the text's signs beside, in new pairs -/
def Itzs (K : PySem.W.Frag) (a : Addr) (z : Str) : It :=
  ⟨fun i H => ∃ (xs : List V) (x : V) (c : Nat), SqL K H a xs ∧ xs[i]? = some x ∧ z.cps[i]? = some c,
    fun i H v H' => ∃ T x c, v = .ref T ∧ H T = none ∧ H' = upd H T (.tup [x, .str ⟨#[c]⟩]) ∧ (∀ xs, SqL K H a xs → xs[i]? = some x) ∧ z.cps[i]? = some c,
    fun i H => ∃ xs : List V, SqL K H a xs ∧ i = min xs.length z.cps.size⟩
/-- the state ahead of turn i -/
structure ZsAt (zz TI TO i1 i2 a : Addr) (z : Str) (t : Tok) (i : Nat) (h : Heap) : Prop where
  zi : IsZip h zz TI TO .none
  ti : IsTupOf2 h TI (.ref i1) (.ref i2)
  to_ : ∃ a1 a2, IsTupOf2 h TO a1 a2
  l1 : h.IsListIter i1 a i
  l2 : h.IsStrIter i2 (strIterType z) z t i
theorem turn_zs {P : Program} {w : World} {K : PySem.W.Frag} {elts : List Expr} {kk : Nat} {tpos : Pos} {zz TI TO i1 i2 a : Addr} {z : Str} {t : Tok}
    (D : ZipSep2 zz TI TO i1 i2 [i1, a] [i2]) (hz : a ≠ zz) (h1 : a ≠ TI) (h2 : a ≠ TO) (h3 : a ≠ i1) (h4 : a ≠ i2) :
    Turn P w K (.Tuple elts kk tpos) (Itzs K a z) [zz, TI, TO, i1, i2] zz (ZsAt zz TI TO i1 i2 a z t) where
  mem := List.mem_cons_self
  obj := fun i h st c hc => by
    obtain ⟨e1, e2, ⟨a1, a2, e3⟩, ⟨o1, e4, _, d1⟩, ⟨o2, e5, _, d2⟩⟩ := st
    simp only [List.mem_cons, List.not_mem_nil, or_false] at hc
    rcases hc with rfl | rfl | rfl | rfl | rfl
    · exact ⟨_, e1, fun v q => nomatch q⟩
    · exact ⟨_, e2, fun v q => nomatch q⟩
    · exact ⟨_, e3, fun v q => nomatch q⟩
    · exact ⟨o1, e4, fun v q => by rw [d1] at q; cases q⟩
    · exact ⟨o2, e5, fun v q => by rw [d2] at q; cases q⟩
  keep := fun i h h' st k => by
    obtain ⟨e1, e2, ⟨a1, a2, e3⟩, ⟨o1, e4, r1⟩, ⟨o2, e5, r2⟩⟩ := st
    exact ⟨k zz (by simp) _ e1, k TI (by simp) _ e2, ⟨a1, a2, k TO (by simp) _ e3⟩, ⟨o1, k i1 (by simp) _ e4, r1⟩, ⟨o2, k i2 (by simp) _ e5, r2⟩⟩
  item := by
    intro X hP hw hK hc i pins s σ H E I hf st hg
    subst hP hw hK
    obtain ⟨xs, x, c, hq, hx, hcc⟩ := hg
    obtain ⟨its, rv, p, _⟩ := I.list hq
    have hh : X.A.in1.handled = none := by simp [I.ok.hd hc]
    have lx : i < its.toArray.size := by
      rw [List.size_toArray, ← rv.length]
      exact (List.getElem?_eq_some_iff.mp hx).1
    have lc : i < z.cps.size := (Array.getElem?_eq_some_iff.mp hcc).1
    refine (GoesN.zip2 D (Draws.list hh i1 a h3 its.toArray) (Draws.text hh i2 z t)).goes i s _ _ (Nat.lt_min.mpr ⟨lx, lc⟩)
      ⟨st.zi, st.ti, st.to_, ⟨st.l1, p.isList⟩, st.l2⟩ fun v h' tk hY st' hk htk => ?_
    obtain ⟨T, u1, u2, rfl, hT, e1, ⟨c2, tt, e2, rfl⟩, tup⟩ := hY
    rw [hcc] at e2
    cases e2
    obtain ⟨u, hu, ru⟩ := rv.get hx
    have eu : u1 = u := by
      have e1' : its[i]? = some u1 := by simpa using e1
      rw [hu] at e1'
      exact (Option.some.inj e1').symm
    subst eu
    obtain ⟨s1, s2, s3, ⟨s4, _⟩, s5⟩ := st'
    have new : ObjOk X.prog X.w (upd H T (.tup [x, .str ⟨#[c]⟩])) h' T (.tup [x, .str ⟨#[c]⟩]) :=
      ⟨by show 2 ≤ sizeLine; decide, [u1, .str ⟨#[c]⟩ tt], .cons ru (.cons ⟨tt, rfl⟩ .nil), tup⟩
    have sub : ∀ b, b ∉ [zz, TI, TO, i1, i2] → b ∉ [zz, TO, i1, i2] := fun b hb q => hb (by
      simp only [List.mem_cons, List.not_mem_nil, or_false] at q ⊢
      rcases q with q | q | q | q
      · exact Or.inl q
      · exact Or.inr (Or.inr (Or.inl q))
      · exact Or.inr (Or.inr (Or.inr (Or.inl q)))
      · exact Or.inr (Or.inr (Or.inr (Or.inr q))))
    have I1 := I.turnedNew (t' := tk) (ch := [zz, TI, TO, i1, i2]) (fun b o hb e => hk b o (sub b hb) e) hf hT new
    refine ⟨.ref T, _, I1, rfl, ⟨T, x, c, rfl, I.hok.fresh hT, rfl, fun l hl => by rw [I.list_inj hl hq]; exact hx, hcc⟩, ⟨s1, s2, s3, s4, s5⟩, fun b hb => ?_⟩
    have hlt : b < s.heap.objs.size := by
      obtain ⟨e1, e2, ⟨a1, a2, e3⟩, ⟨o1, e4, _⟩, ⟨o2, e5, _⟩⟩ := st
      simp only [List.mem_cons, List.not_mem_nil, or_false] at hb
      rcases hb with rfl | rfl | rfl | rfl | rfl
      · exact Heap.lt_size e1
      · exact Heap.lt_size e2
      · exact Heap.lt_size e3
      · exact Heap.lt_size e4
      · exact Heap.lt_size e5
    rw [upd_ne (Nat.ne_of_lt (Nat.lt_of_lt_of_le hlt hT))]
    exact (hf b hb).1
  done := by
    intro X hP hw hK hc i pins s σ H E I hf st hg
    subst hP hw hK
    obtain ⟨xs, hq, hend⟩ := hg
    obtain ⟨its, rv, p, _⟩ := I.list hq
    have hh : X.A.in1.handled = none := by simp [I.ok.hd hc]
    have en : i = min its.toArray.size z.cps.size := by
      rw [List.size_toArray, ← rv.length]
      exact hend
    subst en
    refine (GoesN.zip2 (elts := elts) (x1 := kk) (pos := tpos) D (Draws.list hh i1 a h3 its.toArray) (Draws.text hh i2 z t)).stops s _ _
      ⟨st.zi, st.ti, st.to_, ⟨st.l1, p.isList⟩, st.l2⟩ fun h' tk hk htk => ?_
    refine I.turnedL (t' := tk) (ch := [zz, TI, TO, i1, i2]) (fun b o hb e => hk b o (fun q => hb ?_) e) hf
    simp only [List.mem_cons, List.not_mem_nil, or_false] at q ⊢
    rcases q with q | q | q | q
    · exact Or.inl q
    · exact Or.inr (Or.inr (Or.inl q))
    · exact Or.inr (Or.inr (Or.inr (Or.inl q)))
    · exact Or.inr (Or.inr (Or.inr (Or.inr q)))
  self := fun A i s Q E st h => wpAny_pyIter_zip st.zi h
def iZipS (K : PySem.W.Frag) (ta : TA) : TI := fun σ H R => ta σ H fun vs H1 => ∃ a z xs, vs = [.ref a, .str z] ∧ SqL K H1 a xs ∧ R (Itzs K a z) H1
theorem pi_zipS {X : Cx} {e e2 : Expr} {ta : TA} {p pos tpos : Pos} {elts : List Expr} {kk : Nat} (hg : Gl X "zip") (hm : X.mg "zip" = none) (ha : PA X [e, e2] ta)
    (hs : starEach [e, e2] X.env = (false, eval e X.env) :: starEach [e2] X.env := by rfl) (hpl : (backTo pos (starEach [e2] X.env)).any (·.1) = false := by rfl) :
    PI X (.Tuple elts kk tpos) (.Call (.Name "zip" p) [e, e2] [] pos) (iZipS X.K ta) := by
  constructor
  intro pins s σ H R I h
  refine Call_ (ld_blt I hg hm PyProof.Rows.boot_zip (PyProof.Rows.callWith_type1 (thn (ha.run pos pins s σ H _ I h) fun us s1 hv => ?_) hs hpl))
  obtain ⟨vs, H1, I1, r1, a, z, xs, rfl, hq, q⟩ := hv
  cases r1 with
  | cons ra rr =>
    cases rr with
    | cons rz rr =>
      cases rr
      cases ra
      obtain ⟨t, rfl⟩ := rz
      obtain ⟨its, rv, pl, _⟩ := I1.list hq
      have la : a < s1.heap.objs.size := pl.lt
      refine zip_begins2 (begins_list a its.toArray) (begins_text z t) pl.isList trivial fun h' hz hTI hTO e1 e2 hsz hk => ?_
      have st : ZsAt (s1.heap.objs.size + 4) (s1.heap.objs.size + 2) (s1.heap.objs.size + 3) s1.heap.objs.size (s1.heap.objs.size + 1) a z t 0 h' :=
        ⟨hz, hTI, ⟨_, _, hTO⟩, ⟨_, e1, rfl, rfl⟩, ⟨_, e2, rfl, rfl⟩⟩
      refine wpAny_pyIter_zip st.zi ?_
      have I2 : Inv X pins σ H1 { s1 with heap := h' } := I1.kept (t' := s1.toks) hk
      have far : ∀ k : Nat, a ≠ s1.heap.objs.size + k := fun k => Nat.ne_of_lt (Nat.lt_of_lt_of_le la (Nat.le_add_right _ _))
      refine ⟨s1.heap.objs.size + 4, [s1.heap.objs.size + 4, s1.heap.objs.size + 2, s1.heap.objs.size + 3, s1.heap.objs.size, s1.heap.objs.size + 1], _, _, H1, rfl, I2,
        turn_zs (zip_sep2 (N := s1.heap.objs.size) (fp1 := [a]) (fp2 := []) (fun b hb => by rw [List.mem_singleton] at hb; exact hb ▸ la) (fun b hb => nomatch hb)) (far 4) (far 2) (far 3) (Nat.ne_of_lt la) (far 1),
        st, fun b hb => ?_, q⟩
      have le : s1.heap.objs.size ≤ b := by
        simp only [List.mem_cons, List.not_mem_nil, or_false] at hb
        rcases hb with rfl | rfl | rfl | rfl | rfl
        · exact Nat.le_add_right _ _
        · exact Nat.le_add_right _ _
        · exact Nat.le_add_right _ _
        · exact Nat.le_refl _
        · exact Nat.le_add_right _ _
      exact I1.fpOk le (I1.hok.fresh le)
theorem walk_zs {K : PySem.W.Frag} {a : Addr} {xs : List V} {z : Str} : Walk (Itzs K a z) (min xs.length z.cps.size) (fun H => SqL K H a xs)
    (YPair (fun i => xs[i]?) (fun i => z.cps[i]?.map fun c => .str ⟨#[c]⟩)) := by
  refine ⟨fun i H hi q => ?_, fun H q => ⟨xs, q, rfl⟩, fun i H v H' hi q y => ?_⟩
  · have h1 : i < xs.length := by omega
    have h2 : i < z.cps.size := by omega
    exact ⟨xs, xs[i], z.cps[i], q, by simp [h1], by simp [h2]⟩
  · obtain ⟨T, x, c, e1, e2, e3, e4, e5⟩ := y
    exact ⟨T, x, .str ⟨#[c]⟩, e1, e2, e3, e4 xs q, by simp [e5]⟩
end L2

set_option Elab.async false
set_option linter.all false
set_option maxRecDepth 100000
set_option maxHeartbeats 2000000
/-! Our own layer: texts by the lists of their signs. -/
namespace TX
open PySem
abbrev L (z : Str) : List Nat := z.cps.toList
abbrev T (l : List Nat) : Str := ⟨l.toArray⟩
theorem L_T (l : List Nat) : L (T l) = l := by simp [L, T]
theorem T_L (z : Str) : T (L z) = z := by cases z; simp [L, T]
theorem len_L (z : Str) : z.length = (L z).length := by simp [L, Str.length]
theorem len_T (l : List Nat) : (T l).length = l.length := by simp [T, Str.length]
theorem eq_L {a b : Str} (h : L a = L b) : a = b := by rw [← T_L a, ← T_L b, h]
theorem L_inj {a b : Str} : L a = L b ↔ a = b := ⟨eq_L, fun h => h ▸ rfl⟩
theorem L_add (a b : Str) : L (a ++ b) = L a ++ L b := by
  show (a ++ b).cps.toList = _
  rw [Str.cps_append, Array.toList_append]
theorem T_inj {a b : List Nat} (h : T a = T b) : a = b := by
  have := congrArg L h
  rwa [L_T, L_T] at this
theorem one_T (c : Nat) : (⟨#[c]⟩ : Str) = T [c] := rfl
/-! ### where a sign is -/
open Builtin Builtin.Str in
theorem full (x y : Str) (hi : Nat) : ∀ (l : List Nat) (st : Array Nat × Nat), 1 ≤ st.fst.size → (forIn l st (StrLaws.occBody x y hi 1)).run = st
  | [], _, _ => rfl
  | a :: l, st, h => by
    rw [List.forIn_cons]
    have e : StrLaws.occBody x y hi 1 a st = pure (ForInStep.yield st) := by
      unfold StrLaws.occBody
      rw [if_neg (by rintro ⟨⟨⟨q, _⟩, _⟩, _⟩; omega)]
    rw [e]
    exact full x y hi l st h
open Builtin Builtin.Str in
theorem run1 (x : Str) (c : Nat) : ∀ (l : List Nat) (free : Nat), (∀ i ∈ l, free ≤ i) →
    (forIn l ((#[] : Array Nat), free) (StrLaws.occBody x ⟨#[c]⟩ x.length 1)).run.fst.toList = (l.find? fun i => decide ((L x)[i]? = some c)).toList
  | [], _, _ => rfl
  | a :: l, free, hf => by
    rw [List.forIn_cons, List.find?_cons]
    by_cases q : (L x)[a]? = some c
    · have e : StrLaws.occBody x ⟨#[c]⟩ x.length 1 a (#[], free) = pure (ForInStep.yield (#[a], a + 1)) := by
        unfold StrLaws.occBody
        have := (StrLaws.subAt_one x c a).mpr q
        rw [if_pos ⟨⟨⟨by show (0 : Nat) < 1; decide, hf a List.mem_cons_self⟩, this.1⟩, this.2⟩]
        rfl
      rw [e, decide_eq_true q]
      show (forIn l (#[a], a + 1) (StrLaws.occBody x ⟨#[c]⟩ x.length 1)).run.fst.toList = _
      rw [full x ⟨#[c]⟩ x.length l (#[a], a + 1) (by show 1 ≤ 1; decide)]
      rfl
    · have e : StrLaws.occBody x ⟨#[c]⟩ x.length 1 a (#[], free) = pure (ForInStep.yield (#[], free)) := by
        unfold StrLaws.occBody
        rw [if_neg (by
          rintro ⟨⟨_, q1⟩, q2⟩
          exact q ((StrLaws.subAt_one x c a).mp ⟨q1, q2⟩))]
      rw [e, decide_eq_false q]
      exact run1 x c l free fun i hi => hf i (List.mem_cons_of_mem _ hi)
theorem occ1 (x : Str) (c lo : Nat) : Builtin.Str.occurrences x ⟨#[c]⟩ lo x.length 1 = ((List.range' lo (x.length + 1 - lo)).find? fun i => decide ((L x)[i]? = some c)).toList := by
  rw [StrLaws.occ_eq]
  exact run1 x c _ lo fun i hi => by
    rw [List.mem_range'] at hi
    obtain ⟨k, _, rfl⟩ := hi
    omega
theorem occ1_some {x : Str} {c lo j : Nat} (h1 : lo ≤ j) (h2 : (L x)[j]? = some c) (h3 : ∀ i, lo ≤ i → i < j → (L x)[i]? ≠ some c) : Builtin.Str.occurrences x ⟨#[c]⟩ lo x.length 1 = [j] := by
  rw [occ1]
  have lj : j < x.length := by
    rw [len_L]
    exact (List.getElem?_eq_some_iff.mp h2).1
  have : (List.range' lo (x.length + 1 - lo)).find? (fun i => decide ((L x)[i]? = some c)) = some j := by
    rw [List.find?_eq_some_iff_append]
    refine ⟨by simpa using h2, List.range' lo (j - lo), List.range' (j + 1) (x.length - j), ?_, ?_⟩
    · have e1 : x.length + 1 - lo = (j - lo) + ((x.length - j) + 1) := by omega
      rw [e1, ← List.range'_append_1, List.range'_succ]
      have e2 : lo + (j - lo) = j := by omega
      rw [e2]
    · intro i hi
      rw [List.mem_range'] at hi
      obtain ⟨k, hk, rfl⟩ := hi
      simpa using h3 (lo + 1 * k) (by omega) (by omega)
  rw [this]
  rfl
theorem occ1_none {x : Str} {c lo : Nat} (h3 : ∀ i, lo ≤ i → (L x)[i]? ≠ some c) : Builtin.Str.occurrences x ⟨#[c]⟩ lo x.length 1 = [] := by
  rw [occ1]
  have : (List.range' lo (x.length + 1 - lo)).find? (fun i => decide ((L x)[i]? = some c)) = none := by
    rw [List.find?_eq_none]
    intro i hi
    rw [List.mem_range'] at hi
    obtain ⟨k, _, rfl⟩ := hi
    simpa using h3 (lo + 1 * k) (by omega)
  rw [this]
  rfl
/-! ### what is ahead of a sign, and behind -/
def ahead (c : Nat) (l : List Nat) : List Nat := l.takeWhile fun x => !decide (x = c)
theorem ahead_at {c : Nat} : ∀ {l : List Nat}, c ∈ l → l[(ahead c l).length]? = some c
  | [], h => by cases h
  | a :: l, h => by
    unfold ahead
    rw [List.takeWhile_cons]
    by_cases e : a = c
    · subst e; simp
    · have h' : c ∈ l := by
        rcases List.mem_cons.mp h with q | q
        · exact absurd q.symm e
        · exact q
      simp only [e, decide_false, Bool.not_false, if_true, List.length_cons, List.getElem?_cons_succ]
      exact ahead_at h'
theorem ahead_no {c : Nat} : ∀ {l : List Nat} {i : Nat}, i < (ahead c l).length → l[i]? ≠ some c
  | [], i, h => by simp [ahead] at h
  | a :: l, i, h => by
    unfold ahead at h
    rw [List.takeWhile_cons] at h
    by_cases e : a = c
    · subst e; simp at h
    · simp only [e, decide_false, Bool.not_false, if_true, List.length_cons] at h
      cases i with
      | zero => simpa using e
      | succ i => rw [List.getElem?_cons_succ]; exact ahead_no (l := l) (by unfold ahead; omega)
theorem ahead_take (c : Nat) (l : List Nat) : ahead c l = l.take (ahead c l).length := by
  unfold ahead
  exact (List.prefix_iff_eq_take.mp (List.takeWhile_prefix _))
theorem ahead_le (c : Nat) (l : List Nat) : (ahead c l).length ≤ l.length := by
  rw [ahead_take, List.length_take]
  omega
theorem ahead_lt {c : Nat} {l : List Nat} (h : c ∈ l) : (ahead c l).length < l.length := (List.getElem?_eq_some_iff.mp (ahead_at h)).1
/-- find from a place on -/
theorem find_some {x : Str} {c b : Nat} (hb : b ≤ x.length) (h : c ∈ (L x).drop b) : Txt.find3 x ⟨#[c]⟩ (b : Int) = ((b + (ahead c ((L x).drop b)).length : Nat) : Int) := by
  unfold Txt.find3
  have e : PySem.fromIndex x.length (b : Int) = b := by unfold PySem.fromIndex; rw [if_neg (by omega)]; omega
  have h1 := ahead_at h
  rw [List.getElem?_drop] at h1
  first
    | rw [e]
    | simp only [e]
  rw [occ1_some (j := b + (ahead c ((L x).drop b)).length) (by omega) h1 (fun i h2 h3 => by
    have := ahead_no (c := c) (l := (L x).drop b) (i := i - b) (by omega)
    rw [List.getElem?_drop, show b + (i - b) = i by omega] at this
    exact this)]
theorem find_none {x : Str} {c b : Nat} (hb : b ≤ x.length) (h : c ∉ (L x).drop b) : Txt.find3 x ⟨#[c]⟩ (b : Int) = -1 := by
  unfold Txt.find3
  have e : PySem.fromIndex x.length (b : Int) = b := by unfold PySem.fromIndex; rw [if_neg (by omega)]; omega
  first
    | rw [e]
    | simp only [e]
  rw [occ1_none (fun i h2 h3 => h (by
    have : ((L x).drop b)[i - b]? = some c := by rw [List.getElem?_drop, show b + (i - b) = i by omega]; exact h3
    exact List.mem_of_getElem? this))]
/-! ### a sign at the beginning -/
theorem starts (x : Str) (c : Nat) : Txt.startswith x ⟨#[c]⟩ = decide ((L x)[0]? = some c) := by
  rw [Bool.eq_iff_iff, decide_eq_true_eq, ← StrLaws.subAt_one x c 0]
  unfold Txt.startswith
  rw [Bool.and_eq_true, decide_eq_true_eq]
theorem noprefix (x : Str) (c : Nat) : Txt.removeprefix x ⟨#[c]⟩ = if (L x)[0]? = some c then T (L x).tail else x := by
  unfold Txt.removeprefix
  by_cases h : (L x)[0]? = some c
  · have h1 := (StrLaws.subAt_one x c 0).mpr h
    rw [if_pos h, if_pos h1.2]
    have h2 : 0 + 1 ≤ x.length := h1.1
    have e1 : (⟨#[c]⟩ : Str).length = 1 := rfl
    rw [e1]
    unfold Txt.affix
    have e2 : (x.length - 1 == x.length) = false := by
      rw [beq_eq_false_iff_ne]
      omega
    show (if (x.length - 1 == x.length) = true then x else Builtin.Str.strSub x 1 x.length) = T (L x).tail
    rw [e2]
    apply eq_L
    rw [L_T]
    show (x.cps.extract 1 x.length).toList = x.cps.toList.tail
    rw [Array.toList_extract]
    have e3 : x.length = x.cps.toList.length := len_L x
    rw [e3]
    cases x.cps.toList with
    | nil => rfl
    | cons a r => simp [List.extract]
  · rw [if_neg h]
    by_cases h1 : Builtin.Str.subAt x ⟨#[c]⟩ 0 = true
    · by_cases h2 : 0 + (⟨#[c]⟩ : Str).length ≤ x.length
      · exact absurd ((StrLaws.subAt_one x c 0).mp ⟨h2, h1⟩) h
      · rw [if_pos h1]
        have e0 : x.length = 0 := by
          have e1 : (⟨#[c]⟩ : Str).length = 1 := rfl
          rw [e1] at h2
          omega
        unfold Txt.affix
        rw [e0]
        rfl
    · rw [if_neg h1]
      rfl
end TX

set_option Elab.async false
set_option linter.all false
set_option maxRecDepth 100000
set_option maxHeartbeats 2000000
/-! What the laws share that speaks of no text of theirs. -/
namespace Com
open PySem L2 Evl
section
variable {K : PySem.W.Frag}
/-! ### the mathematics -/
def small (c : Nat) : Bool := decide (97 ≤ c) && decide (c ≤ 122)
def lets (z : Str) : Bool := z.cps.toList.all small
def vL : V → Bool | .str z => lets z | _ => false
def vW : V → Bool | .str z => lets z && (decide (1 ≤ z.length) && decide (z.length ≤ 16)) | _ => false
theorem isStr_eq {v : V} (h : isStr v = true) : ∃ z, v = .str z := by
  cases v with
  | str z => exact ⟨z, rfl⟩
  | _ => cases h
theorem takeWhile_all {p : Nat → Bool} : ∀ {l : List Nat}, l.all p = true → l.takeWhile p = l
  | [], _ => rfl
  | a :: l, h => by
    rw [List.all_cons, Bool.and_eq_true] at h
    rw [List.takeWhile_cons, if_pos h.1, takeWhile_all h.2]
theorem takeWhile_lt {p : Nat → Bool} : ∀ {l : List Nat}, l.all p = false → (l.takeWhile p).length < l.length
  | [], h => by cases h
  | a :: l, h => by
    rw [List.takeWhile_cons]
    by_cases ha : p a = true
    · rw [if_pos ha]
      rw [List.all_cons, ha, Bool.true_and] at h
      have := takeWhile_lt h
      simp only [List.length_cons]
      omega
    · rw [if_neg ha]
      simp
theorem drop_takeWhile {p : Nat → Bool} : ∀ {l : List Nat}, l.all p = false → (l.drop (l.takeWhile p).length).all p = false
  | [], h => by cases h
  | a :: l, h => by
    rw [List.takeWhile_cons]
    by_cases ha : p a = true
    · rw [if_pos ha]
      rw [List.all_cons, ha, Bool.true_and] at h
      exact drop_takeWhile h
    · rw [if_neg ha]
      exact h
theorem stripBy_size {p : Nat → Bool} (z : Str) : ((Txt.stripBy p true true z).cps.size = 0) ↔ z.cps.toList.all p = true := by
  have hn : z.length = z.cps.toList.length := rfl
  unfold Txt.stripBy stripSame stripped Builtin.Str.strSub stripLo stripHi
  simp only [if_true]
  cases h : z.cps.toList.all p with
  | true =>
    rw [takeWhile_all h]
    have e1 : z.cps.toList.drop z.cps.toList.length = [] := List.drop_length
    rw [e1]
    have e2 : (([] : List Nat).reverse.takeWhile p).length = 0 := rfl
    rw [e2, Nat.sub_zero, hn]
    simp only [true_iff, iff_true]
    split
    · rename_i q
      rw [Bool.and_eq_true, beq_iff_eq] at q
      rw [Array.length_toList] at q
      exact q.1
    · simp
  | false =>
    have h1 := takeWhile_lt h
    have h2 := drop_takeWhile h
    have h3 : ((z.cps.toList.drop (z.cps.toList.takeWhile p).length).reverse.takeWhile p).length < (z.cps.toList.drop (z.cps.toList.takeWhile p).length).length := by
      have h4 : (z.cps.toList.drop (z.cps.toList.takeWhile p).length).reverse.all p = false := by rw [List.all_reverse]; exact h2
      have := takeWhile_lt h4
      rw [List.length_reverse] at this
      exact this
    rw [List.length_drop] at h3
    have h5 : z.cps.toList.length = z.cps.size := Array.length_toList
    simp only [iff_false, Bool.false_eq_true]
    split
    · rw [h5] at h1
      omega
    · show ¬ (Array.extract _ _ _).size = 0
      rw [Array.size_extract, hn]
      omega
theorem letters_cps : ("abcdefghijklmnopqrstuvwxyz" : Str).cps = #[97, 98, 99, 100, 101, 102, 103, 104, 105, 106, 107, 108, 109, 110, 111, 112, 113, 114, 115, 116, 117, 118, 119, 120, 121, 122] := by decide +kernel
theorem letters_in (c : Nat) : ("abcdefghijklmnopqrstuvwxyz" : Str).cps.contains c = small c := by
  rw [letters_cps, Bool.eq_iff_iff]
  simp only [small, Bool.and_eq_true, decide_eq_true_eq, Array.contains_iff_mem]
  simp
  omega
theorem empty_cps : ("" : Str) = ⟨#[]⟩ := by decide +kernel
theorem strip_lets (z : Str) : decide (V.str (Txt.stripChars z "abcdefghijklmnopqrstuvwxyz") = V.str "") = lets z := by
  rw [Bool.eq_iff_iff, decide_eq_true_eq]
  have e : lets z = z.cps.toList.all (("abcdefghijklmnopqrstuvwxyz" : Str).cps.contains) := by
    unfold lets
    congr 1
    funext c
    exact (letters_in c).symm
  rw [e, ← stripBy_size z, empty_cps]
  constructor
  · intro h
    have h' : Txt.stripChars z "abcdefghijklmnopqrstuvwxyz" = ⟨#[]⟩ := V.str.inj h
    show (Txt.stripChars z "abcdefghijklmnopqrstuvwxyz").cps.size = 0
    rw [h']
    rfl
  · intro h
    have h' : (Txt.stripChars z "abcdefghijklmnopqrstuvwxyz").cps.size = 0 := h
    congr 1
    have : (Txt.stripChars z "abcdefghijklmnopqrstuvwxyz").cps = #[] := Array.eq_empty_of_size_eq_zero h'
    show (⟨(Txt.stripChars z "abcdefghijklmnopqrstuvwxyz").cps⟩ : Str) = ⟨#[]⟩
    rw [this]
theorem ev_bmS {t : TA} {to : TE} {σ : L2.St} {H : Hp} {z : Str} {xs : List V} {v : V} {r : V → List V → Hp → VK → Prop} (ho : Ev to σ H (.str z)) (ha : EvA t σ H xs)
    (hr : ∀ H1, Ex H H1 → ∀ Q : VK, Q v H1 → r (.str z) xs H1 Q) : Ev (tBM K "str" r to t) σ H v := fun H1 e Q q =>
  ho H1 e _ fun H2 e2 => ⟨rfl, ha H2 (e.trans e2) _ fun H3 e3 => hr H3 ((e.trans e2).trans e3) Q (q H3 (e2.trans e3))⟩
def pThing (vs : List V) (H : Hp) : Prop := ∃ v, vs = [v] ∧ Thing H v
def rL : List V → V | [v] => .bl (vL v) | _ => .non
def rW : List V → V | [v] => .bl (vW v) | _ => .non
/-! ### the law's numbers -/
def mixN (c k : Int) : Int := (c % 1000000007 + 7919 * k * k + 31 * k + 17) * 48271 % 2147483647
def mix (c k : Int) : Int := mixN c k * (mixN c k % 65521 + 16807) % 2147483629 / 4
theorem mixN_bd (c k : Int) : 0 ≤ mixN c k ∧ mixN c k < 2147483647 := ⟨Int.emod_nonneg _ (by decide), Int.emod_lt_of_pos _ (by decide)⟩
theorem mix_bd (c k : Int) : 0 ≤ mix c k ∧ mix c k < 536870908 := by
  have h1 : 0 ≤ mixN c k * (mixN c k % 65521 + 16807) % 2147483629 := Int.emod_nonneg _ (by decide)
  have h2 : mixN c k * (mixN c k % 65521 + 16807) % 2147483629 < 2147483629 := Int.emod_lt_of_pos _ (by decide)
  unfold mix
  omega
def pMix (vs : List V) (_ : Hp) : Prop := ∃ c k, vs = [.int c, .int k] ∧ 0 ≤ k ∧ k ≤ 1000000
def rMix : List V → V | [.int c, .int k] => .int (mix c k) | _ => .non
def cell (ns : List Int) (k : Int) : Int := if 0 < ns.length then ns.getD (k % ns.length).toNat 0 else 0
def num (ns : List Int) (k : Int) : Int := mix (cell ns k) k
def spNum (K : PySem.W.Frag) : Sp := fun vs H Q _ => ∃ (a : Addr) (ns : List Int) (k : Int), vs = [.ref a, .int k] ∧ SqL K H a (ns.map V.int) ∧ 0 ≤ k ∧ k ≤ 1000000 ∧ ∀ H', Ex H H' → Q (.int (num ns k)) H'
theorem spNum_v {a : Addr} {ns : List Int} {k : Int} {H : Hp} (hS : SqL K H a (ns.map V.int)) (h0 : 0 ≤ k) (h1 : k ≤ 1000000) : SpV (spNum K) [.ref a, .int k] H (.int (num ns k)) :=
  fun _ e _ q _ => ⟨a, ns, k, rfl, ex_l e hS, h0, h1, q⟩
theorem cell_at {ns : List Int} {k : Int} (h : 0 < ns.length) : atI (ns.map V.int) (k % (ns.length : Int)) = some (.int (cell ns k)) := by
  have h1 : 0 ≤ k % (ns.length : Int) := Int.emod_nonneg _ (by omega)
  have h2 : k % (ns.length : Int) < ns.length := Int.emod_lt_of_pos _ (by omega)
  obtain ⟨j, hj⟩ : ∃ j : Nat, k % (ns.length : Int) = (j : Int) := ⟨(k % (ns.length : Int)).toNat, by omega⟩
  have h3 : j < ns.length := by omega
  unfold cell
  rw [if_pos h, hj]
  refine atI_nat ?_
  rw [List.getElem?_map, List.getElem?_eq_getElem h3]
  simp [List.getD, List.getElem?_eq_getElem h3]
theorem el_flag {σ : L2.St} {H : Hp} {x c : V} {tc : TE} {i : Nat} {a D : Addr} {cv : Value} {b : Bool} (hi : σ[i]? = some (some (.ref a))) (ha : H a = some (ErrO (.ref D) none a)) (C : ExcC K D)
    (hc : Ev tc σ H c) (k : ClsV c cv) (e : PySem.W.kitOne K (.ref D) cv = some b) :
    EvL (tOp rRep (tLst (tCons (tC x) tNil)) (tCB (fun xs H Q => (∃ i, xs = [.int i] ∧ Q (.int i) H) ∨ ∃ k, xs = [.bl k] ∧ Q (.int (if k then 1 else 0)) H)
      (tCons (tCB (rIsErr K) (tCons (tVar i) (tCons tc tNil))) tNil))) σ H (if b = true then [x] else []) := by
  refine el_is (el_rep (k := if b = true then 1 else 0) (el_lst (ea_cons ev_c ea_nil) (by show 1 ≤ 100000; decide)) (ev_cb (ea_cons (ev_cb (ea_cons (ev_var hi) (ea_cons hc ea_nil)) (rc_err ha C k e)) ea_nil) rc_int) (by cases b <;> decide) (by cases b <;> decide) (by show 1 ≤ 1000; decide)) ?_
  cases b <;> rfl
theorem el_flagN {σ : L2.St} {H : Hp} {x c : V} {tc : TE} {i : Nat} {a D : Addr} {cv : Value} {b : Bool} (hi : σ[i]? = some (some (.ref a))) (ha : H a = some (ErrO (.ref D) none a)) (C : ExcC K D)
    (hc : Ev tc σ H c) (k : ClsV c cv) (e : PySem.W.kitOne K (.ref D) cv = some b) :
    EvL (tOp rRep (tLst (tCons (tC x) tNil)) (tCB (fun xs H Q => (∃ i, xs = [.int i] ∧ Q (.int i) H) ∨ ∃ k, xs = [.bl k] ∧ Q (.int (if k then 1 else 0)) H)
      (tCons (tNotV (tCB (rIsErr K) (tCons (tVar i) (tCons tc tNil)))) tNil))) σ H (if b = true then [] else [x]) := by
  refine el_is (el_rep (k := if (!b) = true then 1 else 0) (el_lst (ea_cons ev_c ea_nil) (by show 1 ≤ 100000; decide)) (ev_cb (ea_cons (ev_notV (ev_cb (ea_cons (ev_var hi) (ea_cons hc ea_nil)) (rc_err ha C k e))) ea_nil) rc_int) (by cases b <;> decide) (by cases b <;> decide) (by show 1 ≤ 1000; decide)) ?_
  cases b <;> rfl
def signs (z : Str) : Prop := z.cps.toList.all (· < 1114112) = true
theorem join0 : ∀ ys : List Str, (Txt.join "" ys).cps.toList = (ys.map fun y => y.cps.toList).flatten := by
  intro ys
  show (Builtin.Str.glued "" ys).cps.toList = _
  rw [StrLaws.glued_eq_join]
  induction ys with
  | nil => rfl
  | cons x r ih =>
    cases r with
    | nil => show x.cps.toList = x.cps.toList ++ []; rw [List.append_nil]
    | cons y r =>
      show (x ++ "" ++ Str.join "" (y :: r)).cps.toList = x.cps.toList ++ _
      have e : (x ++ ("" : Str)) = x := by rw [empty_cps]; exact Str.append_empty x
      rw [e, ← ih, Str.cps_append, Array.toList_append]
theorem signs_add {a b : Str} (h : signs a) (h' : signs b) : signs (a ++ b) := by
  unfold signs at *
  rw [Str.cps_append, Array.toList_append, List.all_append, h, h'] <;> rfl
theorem signs_cut {a : Str} (h : signs a) (lo hi : Option Int) : signs (cutS a lo hi) := by
  unfold signs cutS at *
  rw [List.all_eq_true] at *
  intro x hx
  exact h x (List.mem_of_mem_drop (List.mem_of_mem_take hx))
theorem cut_len (a : Str) (lo hi : Option Int) : (cutS a lo hi).length ≤ a.length := by
  show (cutS a lo hi).cps.size ≤ a.cps.size
  unfold cutS
  rw [← Array.length_toList, ← Array.length_toList, List.length_take, List.length_drop]
  omega
theorem getD_at {ns : List Int} {i : Int} (h0 : 0 ≤ i) (h1 : i < ns.length) : atI (ns.map V.int) i = some (.int (ns.getD i.toNat 0)) := by
  obtain ⟨j, hj⟩ : ∃ j : Nat, i = (j : Int) := ⟨i.toNat, by omega⟩
  subst hj
  have h3 : j < ns.length := by omega
  refine atI_nat ?_
  rw [List.getElem?_map, List.getElem?_eq_getElem h3]
  simp [List.getD, List.getElem?_eq_getElem h3]
theorem sign_at {ns : List Nat} {i : Int} (h0 : 0 ≤ i) (h1 : i < ns.length) : atI ns i = some (ns.getD i.toNat 0) := by
  obtain ⟨j, hj⟩ : ∃ j : Nat, i = (j : Int) := ⟨i.toNat, by omega⟩
  subst hj
  have h3 : j < ns.length := by omega
  refine atI_nat ?_
  simp [List.getD, List.getElem?_eq_getElem h3]
theorem getD_signs {z : Str} (h : signs z) (i : Nat) : z.cps.toList.getD i 0 < 1114112 := by
  unfold signs at h
  rw [List.all_eq_true] at h
  by_cases hi : i < z.cps.toList.length
  · have e : z.cps.toList.getD i 0 = z.cps.toList[i] := by rw [List.getD_eq_getElem?_getD, List.getElem?_eq_getElem hi]; rfl
    rw [e]
    simpa using h _ (List.getElem_mem hi)
  · have e : z.cps.toList.getD i 0 = 0 := by simp [List.getD, List.getElem?_eq_none (Nat.le_of_not_lt hi)]
    rw [e]
    decide
abbrev alph : Str := "abcdefghijklmnopqrstuvwxyz"
theorem alph_len : alph.length = 26 := by decide +kernel
theorem alph_list : alph.cps.toList.length = 26 := by decide +kernel
theorem alph_signs : signs alph := by unfold signs; decide +kernel
/-- one sign of a text, at a place -/
def sgn (z : Str) (i : Int) : Str := ⟨#[z.cps.toList.getD i.toNat 0]⟩
theorem ev_sgn {σ : L2.St} {H : Hp} {ta tb : TE} {z : Str} {i : Int} (ha : Ev ta σ H (.str z)) (hb : Ev tb σ H (.int i)) (hz : z.length ≤ 100000) (h0 : 0 ≤ i) (h1 : i < z.cps.toList.length) : Ev (tOp rIxS ta tb) σ H (.str (sgn z i)) :=
  ev_op ha hb (rv_ixS hz (sign_at h0 h1))
theorem sgn_signs {z : Str} (h : signs z) (i : Int) : signs (sgn z i) := by
  unfold signs sgn
  simpa using getD_signs h i.toNat
/-- letters at drawn places -/
def drawn (n : Nat) (g : Nat → Int) : Str := Txt.join "" ((List.range n).map fun i => sgn alph (g i))
theorem drawn_list (n : Nat) (g : Nat → Int) : (drawn n g).cps.toList = (List.range n).map fun i => alph.cps.toList.getD (g i).toNat 0 := by
  unfold drawn
  rw [join0, List.map_map]
  induction n with
  | zero => rfl
  | succ n ih =>
    rw [List.range_succ, List.map_append, List.map_append, List.flatten_append, ih]
    rfl
theorem drawn_len (n : Nat) (g : Nat → Int) : (drawn n g).length = n := by
  show (drawn n g).cps.size = n
  rw [← Array.length_toList, drawn_list, List.length_map, List.length_range]
theorem drawn_signs (n : Nat) (g : Nat → Int) : signs (drawn n g) := by
  unfold signs
  rw [drawn_list, List.all_eq_true]
  intro x hx
  obtain ⟨i, _, rfl⟩ := List.mem_map.mp hx
  simpa using getD_signs alph_signs (g i).toNat
theorem sum_ones {n : Nat} {g : Nat → Int} : ((((List.range n).map fun i => sgn alph (g i)).map (·.length)).sum + ((List.range n).map fun i => sgn alph (g i)).length * ("" : Str).length) = n := by
  have e : ("" : Str).length = 0 := by decide +kernel
  rw [e, Nat.mul_zero, Nat.add_zero, List.map_map]
  induction n with
  | zero => rfl
  | succ n ih =>
    rw [List.range_succ, List.map_append, List.sum_append, ih]
    rfl
theorem leS (i j : List Nat) : (!decide (j < i)) = !decide (j < i) := rfl
def offS (c : Nat) : Bool := !((!decide ([c] < ([97] : List Nat))) && (!decide (([122] : List Nat) < [c])))
theorem offS_small (c : Nat) : offS c = !small c := by
  unfold offS small
  have h1 : decide ([c] < ([97] : List Nat)) = decide (c < 97) := by
    rw [decide_eq_decide]
    constructor
    · intro h
      rcases List.cons_lt_cons_iff.mp h with h | ⟨_, h⟩
      · exact h
      · exact absurd h (by simp)
    · intro h
      exact List.cons_lt_cons_iff.mpr (Or.inl h)
  have h2 : decide (([122] : List Nat) < [c]) = decide (122 < c) := by
    rw [decide_eq_decide]
    constructor
    · intro h
      rcases List.cons_lt_cons_iff.mp h with h | ⟨_, h⟩
      · exact h
      · exact absurd h (by simp)
    · intro h
      exact List.cons_lt_cons_iff.mpr (Or.inl h)
  rw [h1, h2]
  congr 1
  rw [Bool.eq_iff_iff]
  simp
theorem a_cps : ("a" : Str).cps.toList = [97] := by decide +kernel
theorem z_cps : ("z" : Str).cps.toList = [122] := by decide +kernel
theorem given_none (z : Str) (g : Nat → V) : (given z.cps.size (fun i => offS (z.cps.toList.getD i 0)) g).isEmpty = lets z := by
  unfold given
  rw [List.isEmpty_map, Bool.eq_iff_iff, List.isEmpty_iff, List.filter_eq_nil_iff]
  unfold lets
  rw [List.all_eq_true]
  constructor
  · intro h x hx
    obtain ⟨i, hi, rfl⟩ := List.mem_iff_getElem.mp hx
    have := h i (List.mem_range.mpr (by rw [Array.length_toList] at hi; exact hi))
    rw [offS_small, List.getD_eq_getElem?_getD, List.getElem?_eq_getElem hi] at this
    simpa using this
  · intro h i hi
    have hi' : i < z.cps.toList.length := by rw [Array.length_toList]; exact List.mem_range.mp hi
    rw [offS_small, List.getD_eq_getElem?_getD, List.getElem?_eq_getElem hi']
    simpa using h _ (List.getElem_mem hi')
theorem q_asgC {σ : L2.St} {H : Hp} {D : Ends} {tz : TS} {sp : Sp} {dvs vs : List V} {E : XK} {ta : TA} {i : Nat} (h : EvA ta σ H vs) (hs : ∀ H1, Ex H H1 → sp (vs ++ dvs) H1 (fun v H2 => tz D (σ.set i (some v)) H2) E) :
    tSeq (tAsg (tCall sp dvs E ta) (gName i)) tz D σ H := h H (Ex.refl H) _ fun H1 e => hs H1 e
theorem q_asgTh {σ : L2.St} {H : Hp} {D : Ends} {tz : TS} {ta : TA} {i n : Nat} (h : EvThs ta σ H n) (hn : n ≤ 1000)
    (k : ∀ p xs H1, Ex H H1 → H1 p = some (.lst xs) → xs.length = n → (∀ v ∈ xs, Thing H1 v) → tz D (σ.set i (some (.ref p))) H1) : tSeq (tAsg (tLst ta) (gName i)) tz D σ H :=
  h H (Ex.refl H) _ fun vs H1 e hl hvs => ⟨by rw [hl]; exact sz_of (by omega), fun p hp => k p vs _ (e.trans (Ex.new hp)) upd_same hl fun v hv => (hvs v hv).mono (Ex.new hp)⟩
theorem at_mem {xs : List V} {i : Int} (h0 : 0 ≤ i) (h1 : i < xs.length) : ∃ v, atI xs i = some v ∧ v ∈ xs := by
  obtain ⟨j, hj⟩ : ∃ j : Nat, i = (j : Int) := ⟨i.toNat, by omega⟩
  subst hj
  have h3 : j < xs.length := by omega
  exact ⟨xs[j], atI_nat (List.getElem?_eq_getElem h3), List.getElem_mem h3⟩
end
end Com

set_option Elab.async false
set_option linter.all false
set_option maxRecDepth 100000
set_option maxHeartbeats 2000000
/-! How a condition is read, over lists of signs. -/
namespace Rd
open PySem L2 Evl Com TX
abbrev alphL : List Nat := L alph
def okBr (l : List Nat) : Bool := l.all small && (decide (1 ≤ l.length) && decide (l.length ≤ 8)) && decide l.Nodup
def others (l : List Nat) : List Nat := alphL.filter fun c => !decide (c ∈ l)
def core (i : List Nat) : List Nat := if i[0]? = some 94 then i.tail else i
def lets' (i : List Nat) : List Nat := if i[0]? = some 94 then others i.tail else i
def brk (r : List Nat) : Option (List Nat × List Nat) :=
  if 93 ∈ r then (if okBr (core (ahead 93 r)) = true then some (lets' (ahead 93 r), r.drop ((ahead 93 r).length + 1)) else none) else none
def place (c : Nat) (r : List Nat) : Option (List Nat × List Nat) :=
  if c = 91 then brk r else if c = 46 then some (alphL, r) else if small c = true then some ([c], r) else none
def rds : Nat → List Nat → Option (List (List Nat))
  | _, [] => some []
  | 0, _ :: _ => none
  | n + 1, c :: r => (place c r).bind fun q => (rds n q.2).map (q.1 :: ·)
def rdAll (l : List Nat) : Option (List (List Nat)) := rds l.length l
def conds (l : List Nat) : Option (List (List Nat)) := (rdAll l).bind fun ps => if ps.length < 4 then some ps else none
theorem brk_le {r p q : List Nat} (h : brk r = some (p, q)) : q.length < r.length ∧ q = r.drop (r.length - q.length) := by
  unfold brk at h
  split at h
  · rename_i h1
    split at h
    · cases h
      have := ahead_lt h1
      rw [List.length_drop]
      refine ⟨by omega, ?_⟩
      congr 1
      omega
    · cases h
  · cases h
theorem place_le {c : Nat} {r p q : List Nat} (h : place c r = some (p, q)) : q.length ≤ r.length ∧ q = r.drop (r.length - q.length) := by
  unfold place at h
  split at h
  · have := brk_le h
    exact ⟨by omega, this.2⟩
  · split at h
    · cases h
      simp
    · split at h
      · cases h
        simp
      · cases h
theorem rds_more : ∀ (n : Nat) (l : List Nat), l.length ≤ n → rds n l = rdAll l := by
  suffices h : ∀ (n : Nat) (l : List Nat) (m : Nat), l.length ≤ n → l.length ≤ m → rds n l = rds m l from fun n l hl => h n l l.length hl (Nat.le_refl _)
  intro n
  induction n with
  | zero =>
    intro l m h1 h2
    cases l with
    | nil => cases m <;> rfl
    | cons a r => simp at h1
  | succ n ih =>
    intro l m h1 h2
    cases l with
    | nil => cases m <;> rfl
    | cons a r =>
      cases m with
      | zero => simp at h2
      | succ m =>
        show (place a r).bind _ = (place a r).bind _
        cases hp : place a r with
        | none => rfl
        | some q =>
          have hq := (place_le (p := q.1) (q := q.2) hp).1
          rw [List.length_cons] at h1 h2
          show (rds n q.2).map _ = (rds m q.2).map _
          rw [ih q.2 m (by omega) (by omega)]
theorem rdAll_nil : rdAll [] = some [] := rfl
theorem rdAll_cons (c : Nat) (r : List Nat) : rdAll (c :: r) = (place c r).bind fun q => (rdAll q.2).map (q.1 :: ·) := by
  show (place c r).bind _ = _
  cases hp : place c r with
  | none => rfl
  | some q =>
    show (rds r.length q.2).map _ = _
    rw [rds_more r.length q.2 (place_le (p := q.1) (q := q.2) hp).1]
    rfl
/-- some of it is read already -/
def Upto (l : List Nat) (ps : List (List Nat)) (rest : List Nat) : Prop := rdAll l = (rdAll rest).map (ps ++ ·)
theorem Upto.start (l : List Nat) : Upto l [] l := by
  unfold Upto
  cases rdAll l <;> rfl
theorem Upto.end_ {l : List Nat} {ps : List (List Nat)} (u : Upto l ps []) : rdAll l = some ps := by
  unfold Upto at u
  rw [u, rdAll_nil]
  show some (ps ++ []) = some ps
  rw [List.append_nil]
theorem Upto.step {l r p q : List Nat} {c : Nat} {ps : List (List Nat)} (u : Upto l ps (c :: r)) (h : place c r = some (p, q)) : Upto l (ps ++ [p]) q := by
  unfold Upto at *
  rw [u, rdAll_cons, h]
  show ((rdAll q).map _).map _ = _
  cases rdAll q with
  | none => rfl
  | some x =>
    show some (ps ++ (p :: x)) = some (ps ++ [p] ++ x)
    rw [List.append_assoc]
    rfl
theorem Upto.bad {l r : List Nat} {c : Nat} {ps : List (List Nat)} (u : Upto l ps (c :: r)) (h : place c r = none) : rdAll l = none := by
  unfold Upto at u
  rw [u, rdAll_cons, h]
  rfl
theorem Upto.many {l r : List Nat} {c : Nat} {ps : List (List Nat)} (u : Upto l ps (c :: r)) (h : 3 ≤ ps.length) : conds l = none := by
  unfold conds
  unfold Upto at u
  rw [u, rdAll_cons]
  cases place c r with
  | none => rfl
  | some q =>
    show (((rdAll q.2).map _).map _).bind _ = none
    cases rdAll q.2 with
    | none => rfl
    | some x =>
      show (if (ps ++ (q.1 :: x)).length < 4 then some (ps ++ (q.1 :: x)) else none) = none
      rw [if_neg]
      rw [List.length_append, List.length_cons]
      omega
theorem conds_of {l : List Nat} {ps : List (List Nat)} (h : rdAll l = some ps) (hl : ps.length < 4) : conds l = some ps := by
  unfold conds
  rw [h]
  show (if ps.length < 4 then some ps else none) = some ps
  rw [if_pos hl]
theorem conds_big {l : List Nat} {ps : List (List Nat)} (h : rdAll l = some ps) (hl : ¬ ps.length < 4) : conds l = none := by
  unfold conds
  rw [h]
  show (if ps.length < 4 then some ps else none) = none
  rw [if_neg hl]
theorem conds_none {l : List Nat} (h : rdAll l = none) : conds l = none := by
  unfold conds
  rw [h]
  rfl
/-- the letters that a place lets are signs -/
theorem others_small (l : List Nat) : ∀ c ∈ others l, c < 128 := by
  intro c hc
  have h1 : c ∈ alphL := (List.mem_filter.mp hc).1
  have h2 : ∀ c ∈ alphL, c < 128 := by
    show ∀ c ∈ alph.cps.toList, c < 128
    rw [letters_cps]
    decide
  exact h2 c h1
/-- letters let, place by place -/
def fits (ps : List (List Nat)) (l : List Nat) : Bool := (List.zipWith (fun p c => decide (c ∈ p)) ps l).all id
def fitE (ps : List (List Nat)) (l : List Nat) : Bool := decide (ps.length ≤ l.length) && fits ps (l.drop (l.length - ps.length))
def fitB (ps : List (List Nat)) (l : List Nat) : Bool := decide (ps.length ≤ l.length) && fits ps (l.take ps.length)
theorem map_getD {α β : Type} (l : List α) (d : α) (f : α → β) : (List.range l.length).map (fun i => f (l.getD i d)) = l.map f := by
  apply List.ext_getElem
  · simp
  · intro i h1 h2
    simp at h1
    simp [List.getD, h1]
theorem given_of (l : List Nat) (p : Nat → Bool) (f : Nat → V) (n : Nat) (hn : n = l.length) : given n (fun i => p (l.getD i 0)) (fun i => f (l.getD i 0)) = (l.filter p).map f := by
  subst hn
  unfold given
  have : l.filter p = ((List.range l.length).filter fun i => p (l.getD i 0)).map fun i => l.getD i 0 := by
    conv => lhs; rw [← List.map_id l, ← map_getD l 0 id]
    rw [List.filter_map]
    rfl
  rw [this, List.map_map]
  rfl
end Rd
namespace Evl
open PySem L2
section
variable {K : PySem.W.Frag} {σ : L2.St} {H H' : Hp} {ta tb tc te tx : TE} {t u : TT} {x y z v : V} {r : R2}
theorem rv_inS {c : Nat} {z : Str} : RV (fun x y H Q => ∃ (c : Nat) (z : Str), x = .str ⟨#[c]⟩ ∧ y = .str z ∧ Q (.bl (decide (c ∈ z.cps.toList))) H) (.str ⟨#[c]⟩) (.str z) H (.bl (decide (c ∈ z.cps.toList))) :=
  fun H1 _ _ q => ⟨c, z, rfl, rfl, q H1 (Ex.refl H1)⟩
theorem rv_ninS {c : Nat} {z : Str} : RV (fun x y H Q => ∃ (c : Nat) (z : Str), x = .str ⟨#[c]⟩ ∧ y = .str z ∧ Q (.bl (!decide (c ∈ z.cps.toList))) H) (.str ⟨#[c]⟩) (.str z) H (.bl (!decide (c ∈ z.cps.toList))) :=
  fun H1 _ _ q => ⟨c, z, rfl, rfl, q H1 (Ex.refl H1)⟩
theorem ev_lenSetS {z : Str} (h : Ev ta σ H (.str z)) (hz : z.length ≤ 4000) : Ev (tLenSetS ta) σ H (.int ((SetS.uniq (SetS.signsOf z)).length : Nat)) := fun H1 e _ q =>
  h H1 e _ fun H2 e2 => ⟨z, rfl, hz, q H2 e2⟩
theorem ev_allL {bs : List Bool} {xs : List V} (h : EvL te σ H xs) (hx : xs = bs.map V.bl) : Ev (tCB (rAll K) (tCons te tNil)) σ H (.bl (bs.all id)) := fun H1 e _ q =>
  h H1 e _ fun p H2 _ e2 h2 => ⟨p, bs, rfl, sq_of (hx ▸ h2), q H2 e2⟩
/-- a comprehension over zip(list, text) -/
theorem el_lcZS {ta : TA} {a : Addr} {w : Str} {xs : List V} {j1 j2 : Nat} {vs : List Nat} (f : Nat → V) (h : EvA ta σ H [.ref a, .str w]) (hx : SqL K H a xs) (hz : xs.length ≤ 40000)
    (hw : ∀ x y, wipe (((wipe σ vs).set j1 (some x)).set j2 (some y)) vs = wipe σ vs)
    (he : ∀ (i c : Nat) (x : V) H1, Ex H H1 → xs[i]? = some x → w.cps[i]? = some c → Ev te (((wipe σ vs).set j1 (some x)).set j2 (some (.str ⟨#[c]⟩))) H1 (f i)) :
    EvL (tLc (iZipS K ta) (gTup K 2 (gCons (gName j1) (gCons (gName j2) gNil))) tYes te vs) σ H ((List.range (min xs.length w.cps.size)).map f) := fun H0 e Q q =>
  h H0 e _ fun H1 e1 => ⟨a, w, xs, rfl, ex_l (e.trans e1) hx, fun Dl hD =>
    lc_it (walk_zs (K := K) (a := a) (xs := xs) (z := w)) (Cw H1 (fun _ => true) f Dl) ⟨hD, Ex.new hD, upd_same⟩ (fun i H' _ p => ex_l ((e.trans e1).trans p.2.1) hx) (fun i x H2 H3 hi p y => by
      obtain ⟨T, a1, a2, rfl, hT, rfl, h1, h2⟩ := y
      have h2 : (w.cps[i]?.map fun c => V.str ⟨#[c]⟩) = some a2 := h2
      have hc : ∃ c, w.cps[i]? = some c ∧ a2 = .str ⟨#[c]⟩ := by
        cases hw : w.cps[i]? with
        | none => rw [hw] at h2; cases h2
        | some c => rw [hw] at h2; exact ⟨c, rfl, (Option.some.inj h2).symm⟩
      obtain ⟨c, hc, rfl⟩ := hc
      have p' : Cw H1 (fun _ => true) f Dl i (upd H2 T (.tup [a1, .str ⟨#[c]⟩])) := ⟨p.1, p.2.1.trans (Ex.new hT), by rw [upd_ne (ne_of_none p.2.2 hT)]; exact p.2.2⟩
      refine ⟨T, _, rfl, st_of upd_same, rfl, a1, _, rfl, .str ⟨#[c]⟩, [], rfl, rfl, hw _ _, ?_⟩
      exact cw_turn p' (by omega) et_yes fun _ => he i c a1 H1 (e.trans e1) h1 hc)
      (fun H' p => q Dl H' (fresh_back e1 p.1) (e1.trans p.2.1) (by rw [p.2.2, given_all]))⟩
end
end Evl
namespace L2
open PySem PySem.Spec PyProof.Rows
section
variable {X : Cx} {K : PySem.W.Frag}
theorem ix_listK (h : X.K = K) : IxR X (rIxL K) := h ▸ ix_list
theorem ix_tupK (h : X.K = K) : IxR X (rIxT K) := h ▸ ix_tup
theorem sl_listK (h : X.K = K) : SlR X (rSlL K) := h ▸ sl_list
theorem op_in_seqK (h : X.K = K) : OpR X (compareOp .In) (rIn K false) := h ▸ op_in_seq
theorem op_notIn_seqK (h : X.K = K) : OpR X (compareOp .NotIn) (rIn K true) := h ▸ op_notIn_seq
theorem call_len_seqK (h : X.K = K) : CallR X (.builtin "len") (fun xs H Q => ∃ p ys, xs = [.ref p] ∧ (SqL K H p ys ∨ SqT K H p ys) ∧ Q (.int ys.length) H) := h ▸ call_len_seq
end
/-- C(e, ..) where what is raised is wished for at the caller's slots -/
def tMakeS (C : Addr) (sp : Sp) (E : St → XK) (t : TA) : TE := fun σ H Q => t σ H fun vs H1 => ∀ x dx, H1 x = none → H1 dx = none → dx ≠ x →
  sp (.ref x :: vs) (upd (upd H1 dx (.own x)) x (.ins C dx [])) (fun v H2 => v = .non ∧ Q (.ref x) H2) (E σ)
section
variable {X : Cx} {CX : CXT} {k : Nat} {f C : Addr} {fd : FuncData} {ps : List Str} {sp : Sp} {E : St → XK} {x : Str} {p pos : Pos} {e : Expr} {es : List Expr} {t : TA}
theorem pe_makeS (M : Mk X.K C f) (F : FnOk X.prog X.w X.K X.mg X.base CX k f fd ps sp) (hr : Room (k + 1) X.A) (hg : Gl X x) (hm : X.mg x = some (.ref C))
    (hb : Binds X.K fd ps []) (hx : ∀ σ, PassesAt CX X σ (E σ)) (ha : PA X (e :: es) t) (hdb : (x == ("__debug__" : Str)) = false := by decide)
    (he : starEach (e :: es) X.env = (false, eval e X.env) :: starEach es X.env := by rfl) (hpl : (backTo pos (starEach es X.env)).any (·.1) = false := by rfl) :
    PE X (.Call (.Name x p) (e :: es) [] pos) (tMakeS C sp E t) := by
  constructor
  intro pins s σ H Q I h
  apply wpAny_Call_Name_kw
  apply ld_glob I hg hm _ hdb
  refine PySem.W.callWith_K (h₀ := X.base) I.ok.mod.kin M.kp (thn (ha.run pos pins s σ H _ I h) fun us s1 q => ?_) he hpl
  obtain ⟨vs, H1, I1, r, q⟩ := q
  refine ⟨I1.kIn, ?_⟩
  have n0 := I1.hok.fresh (Nat.le_refl _)
  have n1 := I1.hok.fresh (Nat.le_succ _)
  have q2 := q _ _ n1 n0 (Nat.ne_of_lt (Nat.lt_succ_self _))
  have I2 := Inv.made (C := C) I1
  have vals : Vals (V.ref (s1.heap.objs.size + 1) :: vs) (Value.ref (s1.heap.objs.size + 1) :: us) := .cons rfl r
  have len : (Value.ref (s1.heap.objs.size + 1) :: us).length = ps.length := by
    rw [← vals.length]
    exact F.len _ _ _ _ q2
  have b := hb _ (Value.ref (s1.heap.objs.size + 1) :: us) I2.kIn (by rw [List.append_nil]; exact len)
  rw [List.append_nil] at b
  have ran := F.run _ X.stack _ _ ⟨Value.ref (s1.heap.objs.size + 1) :: us, []⟩ _ _ _ (E σ) (hr.make C us []) (I2.env0.make C us []) b vals q2
  refine wpAny_call (make_map (f := f) I1.kIn M.makes M.init (beq_iff_eq.mp M.fn) (codeAny_mono ran fun r2 s2 h2 => ?_))
  match r2, h2 with
  | .error e, h2 => exact hx σ pins _ _ e s2 I2 h2
  | .ok (.ret u), h2 =>
    obtain ⟨v, H3, I3, rv, ev, q3⟩ := I2.after h2
    subst ev
    exact ⟨rv, ⟨V.ref (s1.heap.objs.size + 1), H3, I3, rfl, q3⟩⟩
  | .ok .next, h2 => exact h2.elim
  | .ok .brk, h2 => exact h2.elim
  | .ok .cont, h2 => exact h2.elim
end
end L2

set_option Elab.async false
set_option linter.all false
set_option maxRecDepth 100000
set_option maxHeartbeats 2000000
/-! Our own layer: what evaluates to some value of a kind. -/
namespace Evl
open PySem L2 Com TX
/-- a text of at most n signs -/
def Tx (n : Nat) (v : V) : Prop := ∃ z, v = .str z ∧ z.length ≤ n ∧ signs z
theorem Tx.mono {n m : Nat} {v : V} (h : Tx n v) (e : n ≤ m) : Tx m v := by
  obtain ⟨z, rfl, h1, h2⟩ := h
  exact ⟨z, rfl, Nat.le_trans h1 e, h2⟩
section
variable {K : PySem.W.Frag} {σ : L2.St} {H H' : Hp} {ta tb tc te tx : TE} {t u : TT} {x y z v : V} {r : R2} {P P1 P2 : V → Prop} {n m k : Nat}
def EvP (te : TE) (σ : L2.St) (H : Hp) (P : V → Prop) : Prop := ∀ H1, Ex H H1 → ∀ Q : VK, (∀ v H2, Ex H1 H2 → P v → Q v H2) → te σ H1 Q
def EvLP (te : TE) (σ : L2.St) (H : Hp) (n : Nat) (P : V → Prop) : Prop := ∀ H1, Ex H H1 → ∀ Q : VK,
  (∀ p xs H2, H1 p = none → Ex H1 H2 → H2 p = some (.lst xs) → xs.length ≤ n → (∀ x ∈ xs, P x) → Q (.ref p) H2) → te σ H1 Q
def EvAP (ta : TA) (σ : L2.St) (H : Hp) (n : Nat) (P : V → Prop) : Prop := ∀ H1, Ex H H1 → ∀ Q : List V → Hp → Prop,
  (∀ vs H2, Ex H1 H2 → vs.length ≤ n → (∀ x ∈ vs, P x) → Q vs H2) → ta σ H1 Q
theorem EvP.mono (e : Ex H H') (h : EvP te σ H P) : EvP te σ H' P := fun H1 a => h H1 (e.trans a)
theorem EvLP.mono (e : Ex H H') (h : EvLP te σ H n P) : EvLP te σ H' n P := fun H1 a => h H1 (e.trans a)
theorem evp_v (h : Ev te σ H v) (p : P v) : EvP te σ H P := fun H1 e _ q => h H1 e _ fun H2 e2 => q v H2 e2 p
theorem evp_imp (h : EvP te σ H P1) (i : ∀ v, P1 v → P v) : EvP te σ H P := fun H1 e _ q => h H1 e _ fun v H2 e2 p => q v H2 e2 (i v p)
theorem evp_op (ha : EvP ta σ H P1) (hb : EvP tb σ H P2) (hr : ∀ x y H1, Ex H H1 → P1 x → P2 y → ∃ z, RV r x y H1 z ∧ P z) : EvP (tOp r ta tb) σ H P := fun H1 e Q q =>
  ha H1 e _ fun x H2 e2 p1 => hb H2 (e.trans e2) _ fun y H3 e3 p2 => by
    obtain ⟨z, h1, h2⟩ := hr x y H3 ((e.trans e2).trans e3) p1 p2
    exact h1 H3 (Ex.refl H3) Q fun H4 e4 => q z H4 ((e2.trans e3).trans e4) h2
theorem evp_add (ha : EvP ta σ H (Tx n)) (hb : EvP tb σ H (Tx m)) (h : n + m ≤ k) (hk : k ≤ 100000) :
    EvP (tOp (fun x y H Q => ∃ i j, x = .str i ∧ y = .str j ∧ i.length + j.length ≤ sizeLine ∧ Q (.str (i ++ j)) H) ta tb) σ H (Tx k) :=
  evp_op ha hb fun x y H1 _ h1 h2 => by
    obtain ⟨a, rfl, a1, a2⟩ := h1
    obtain ⟨b, rfl, b1, b2⟩ := h2
    exact ⟨.str (a ++ b), rv_addS (by omega), a ++ b, rfl, by rw [Str.length_append]; omega, signs_add a2 b2⟩
theorem evp_sl {tl th : TO} {lo hi : Option Int} (h : EvP te σ H (Tx n)) (h1 : EvO tl σ H lo) (h2 : EvO th σ H hi) (hn : n ≤ 100000) : EvP (tSl rSlS te tl th) σ H (Tx n) := fun H1 e _ q =>
  h H1 e _ fun v H2 e2 p => h1 H2 (e.trans e2) _ fun H3 e3 => h2 H3 ((e.trans e2).trans e3) _ fun H4 e4 => by
    obtain ⟨w, rfl, a1, a2⟩ := p
    exact ⟨w, rfl, sz_of (by omega), q _ H4 ((e2.trans e3).trans e4) ⟨_, rfl, Nat.le_trans (cut_len w lo hi) a1, signs_cut a2 lo hi⟩⟩
theorem eap_nil : EvAP tNil σ H 0 P := fun H1 _ _ q => q [] H1 (Ex.refl H1) (Nat.le_refl _) fun _ h => nomatch h
theorem eap_cons {tr : TA} (h : EvP te σ H P) (hr : EvAP tr σ H n P) : EvAP (tCons te tr) σ H (n + 1) P := fun H1 e _ q =>
  h H1 e _ fun v H2 e2 p => hr H2 (e.trans e2) _ fun vs H3 e3 hl hp => q (v :: vs) H3 (e2.trans e3) (by rw [List.length_cons]; omega) fun x hx => by
    rcases List.mem_cons.mp hx with rfl | hx
    · exact p
    · exact hp x hx
theorem elp_lst {ta : TA} (h : EvAP ta σ H n P) (hn : n ≤ 100000) : EvLP (tLst ta) σ H n P := fun H1 e _ q =>
  h H1 e _ fun vs H2 e2 hl hp => ⟨sz_of (by omega), fun p hpn => q p vs _ (fresh_back e2 hpn) (e2.trans (Ex.new hpn)) upd_same hl hp⟩
theorem elp_of {xs : List V} (h : EvL te σ H xs) (hl : xs.length ≤ n) (hp : ∀ x ∈ xs, P x) : EvLP te σ H n P := fun H1 e _ q =>
  h H1 e _ fun p H2 hpn e2 h2 => q p xs H2 hpn e2 h2 hl hp
theorem elp_cat (ha : EvLP ta σ H n P) (hb : EvLP tb σ H m P) (h : n + m ≤ k) (hk : k ≤ 100000) : EvLP (tOp rCat ta tb) σ H k P := fun H1 e _ q =>
  ha H1 e _ fun p xs H2 hp e2 h2 l1 p1 => hb H2 (e.trans e2) _ fun p' ys H3 hp' e3 h3 l2 p2 =>
    ⟨p, p', xs, ys, rfl, rfl, e3 p _ h2, h3, sz_of (by omega), fun l hl => q l (xs ++ ys) _ (fresh_back (e2.trans e3) hl) ((e2.trans e3).trans (Ex.new hl)) upd_same (by rw [List.length_append]; omega) fun x hx => by
      rcases List.mem_append.mp hx with hx | hx
      · exact p1 x hx
      · exact p2 x hx⟩
theorem strs_of {xs : List V} (h : ∀ x ∈ xs, Tx n x) : ∃ ys : List Str, xs = ys.map V.str ∧ ∀ y ∈ ys, y.length ≤ n ∧ signs y := by
  induction xs with
  | nil => exact ⟨[], rfl, fun _ h => nomatch h⟩
  | cons x r ih =>
    obtain ⟨ys, rfl, hy⟩ := ih fun y hy => h y (List.mem_cons_of_mem _ hy)
    obtain ⟨z, rfl, h1, h2⟩ := h x List.mem_cons_self
    refine ⟨z :: ys, rfl, fun y hy' => ?_⟩
    rcases List.mem_cons.mp hy' with rfl | hy'
    · exact ⟨h1, h2⟩
    · exact hy y hy'
theorem sum_le {ys : List Str} (h : ∀ y ∈ ys, y.length ≤ n) : (ys.map (·.length)).sum ≤ ys.length * n := by
  induction ys with
  | nil => simp
  | cons y r ih =>
    have := ih fun y hy => h y (List.mem_cons_of_mem _ hy)
    have h1 := h y List.mem_cons_self
    rw [List.map_cons, List.sum_cons, List.length_cons, Nat.succ_mul]
    omega
theorem join_signs {ys : List Str} (h : ∀ y ∈ ys, signs y) : signs (Txt.join "" ys) := by
  unfold signs
  rw [join0, List.all_eq_true]
  intro x hx
  obtain ⟨l, hl, hx⟩ := List.mem_flatten.mp hx
  obtain ⟨y, hy, rfl⟩ := List.mem_map.mp hl
  have := h y hy
  unfold signs at this
  rw [List.all_eq_true] at this
  exact this x hx
theorem join_len (ys : List Str) : (Txt.join "" ys).length = (ys.map (·.length)).sum := by
  show (Txt.join "" ys).cps.size = _
  rw [← Array.length_toList, join0, List.length_flatten, List.map_map]
  congr 1
theorem emp_len : ("" : Str).length = 0 := by decide +kernel
theorem evp_join (hb : EvLP tb σ H n (Tx m)) (hm : n * m ≤ k) (hk : k ≤ 100000) : EvP (tM1 (rJoin K) (tC (.str "")) tb) σ H (Tx k) := fun H1 e _ q =>
  ⟨⟨"", rfl⟩, hb H1 e _ fun p xs H2 hp e2 h2 hl hx => by
    obtain ⟨ys, rfl, hy⟩ := strs_of hx
    rw [List.length_map] at hl
    have h1 := sum_le (n := m) fun y hy' => (hy y hy').1
    have h3 : ys.length * m ≤ n * m := Nat.mul_le_mul_right m hl
    exact ⟨"", p, ys, rfl, rfl, Or.inl (sq_of h2), by rw [emp_len, Nat.mul_zero, Nat.add_zero]; omega, q _ H2 e2 ⟨_, rfl, by rw [join_len]; omega, join_signs fun y hy' => (hy y hy').2⟩⟩⟩
/-! ### comprehensions -/
def Cp (H : Hp) (P : V → Prop) (Dl : Addr) (i : Nat) (H' : Hp) : Prop := H Dl = none ∧ Ex H H' ∧ ∃ xs, H' Dl = some (.lst xs) ∧ xs.length ≤ i ∧ ∀ x ∈ xs, P x
theorem cp_turn {Dl : Addr} {i : Nat} {σ2 : L2.St} (p : Cp H P Dl i H') (hi : i < 50000) (he : EvP te σ2 H P) :
    tYes σ2 H' fun b H3 => if b = true then te σ2 H3 fun y H4 => ∃ acc, H4 Dl = some (.lst acc) ∧ acc.length < sizeLine ∧ Cp H P Dl (i + 1) (upd H4 Dl (.lst (acc ++ [y]))) else Cp H P Dl (i + 1) H3 := by
  obtain ⟨p1, p2, xs, p3, p4, p5⟩ := p
  show te σ2 H' fun y H4 => ∃ acc, H4 Dl = some (.lst acc) ∧ acc.length < sizeLine ∧ Cp H P Dl (i + 1) (upd H4 Dl (.lst (acc ++ [y])))
  refine he H' p2 _ fun v H4 e4 pv => ⟨xs, e4 Dl _ p3, sz_lt (by omega), p1, Ex.mut (p2.trans e4) p1, xs ++ [v], upd_same, by rw [List.length_append, List.length_singleton]; omega, fun x hx => ?_⟩
  rcases List.mem_append.mp hx with hx | hx
  · exact p5 x hx
  · rw [List.mem_singleton] at hx
    exact hx ▸ pv
/-- over a list -/
theorem elp_lcL {a : Addr} {xs : List V} {tl : TE} {j : Nat} {vs : List Nat} (h : Ev tl σ H (.ref a)) (hx : SqL K H a xs) (hz : xs.length ≤ n) (hn : n ≤ 40000) (hw : ∀ x, wipe ((wipe σ vs).set j (some x)) vs = wipe σ vs)
    (he : ∀ (i : Nat) (x : V) H1, Ex H H1 → xs[i]? = some x → EvP te ((wipe σ vs).set j (some x)) H1 P) : EvLP (tLc (iList K tl) (gName j) tYes te vs) σ H n P := fun H0 e Q q => h H0 e _ fun H1 e1 => ⟨a, rfl, ⟨xs, ex_l (e.trans e1) hx⟩, fun Dl hD =>
  lc_list (xs := xs) (Cp H1 P Dl) ⟨hD, Ex.new hD, [], upd_same, Nat.le_refl _, fun _ h => nomatch h⟩ (fun i H' _ p => ex_l ((e.trans e1).trans p.2.1) hx) (fun i x H' hi p => ⟨hw x, cp_turn p (by have := (List.getElem?_eq_some_iff.mp hi).1; omega) (he i x H1 (e.trans e1) hi)⟩)
    (fun H' p => by
      obtain ⟨p1, p2, ys, p3, p4, p5⟩ := p
      exact q Dl ys H' (fresh_back e1 p1) (e1.trans p2) p3 (by omega) p5)⟩
/-- over a range -/
theorem elp_lcR {ta : TA} {j : Nat} {vs : List Nat} {i : Int} (h : EvA ta σ H [.int i]) (hi : i ≤ n) (h0 : 0 ≤ i) (hn : n ≤ 40000) (hw : ∀ x, wipe ((wipe σ vs).set j (some x)) vs = wipe σ vs)
    (he : ∀ (c : Nat) H1, Ex H H1 → (c : Int) < i → EvP te ((wipe σ vs).set j (some (.int (c : Int)))) H1 P) : EvLP (tLc (iRng1 ta) (gName j) tYes te vs) σ H n P := fun H0 e Q q => h H0 e _ fun H1 e1 => ⟨i, rfl, by omega, by omega, fun Dl hD =>
  lc_range (lo := 0) (n := i.toNat) (Cp H1 P Dl) ⟨hD, Ex.new hD, [], upd_same, Nat.le_refl _, fun _ h => nomatch h⟩ (fun c H' hc p => by
    have e0 : (0 : Int) + (c : Int) = (c : Int) := Int.zero_add _
    show wipe ((wipe σ vs).set j (some (.int ((0 : Int) + (c : Int))))) vs = wipe σ vs ∧ tYes ((wipe σ vs).set j (some (.int ((0 : Int) + (c : Int))))) H' fun b H3 => if b = true then te ((wipe σ vs).set j (some (.int ((0 : Int) + (c : Int))))) H3 fun y H4 => ∃ acc, H4 Dl = some (.lst acc) ∧ acc.length < sizeLine ∧ Cp H1 P Dl (c + 1) (upd H4 Dl (.lst (acc ++ [y]))) else Cp H1 P Dl (c + 1) H3
    rw [e0]
    exact ⟨hw _, cp_turn p (by omega) (he c H1 (e.trans e1) (by omega))⟩)
    (fun H' p => by
      obtain ⟨p1, p2, ys, p3, p4, p5⟩ := p
      exact q Dl ys H' (fresh_back e1 p1) (e1.trans p2) p3 (by omega) p5)⟩
/-- over enumerate(list): the pair is new -/
theorem elp_lcE {ta : TA} {a : Addr} {xs : List V} {j1 j2 : Nat} {vs : List Nat} (h : EvA ta σ H [.ref a]) (hx : SqL K H a xs) (hz : xs.length ≤ n) (hn : n ≤ 40000)
    (hw : ∀ x y, wipe (((wipe σ vs).set j1 (some x)).set j2 (some y)) vs = wipe σ vs)
    (he : ∀ (i : Nat) (x : V) H1, Ex H H1 → xs[i]? = some x → EvP te (((wipe σ vs).set j1 (some (.int i))).set j2 (some x)) H1 P) :
    EvLP (tLc (iEnum K ta) (gTup K 2 (gCons (gName j1) (gCons (gName j2) gNil))) tYes te vs) σ H n P := fun H0 e Q q =>
  h H0 e _ fun H1 e1 => ⟨a, xs, rfl, ex_l (e.trans e1) hx, fun Dl hD =>
    lc_it (walk_enum (K := K) (a := a) (xs := xs)) (Cp H1 P Dl) ⟨hD, Ex.new hD, [], upd_same, Nat.le_refl _, fun _ h => nomatch h⟩ (fun i H' _ p => ex_l ((e.trans e1).trans p.2.1) hx) (fun i x H2 H3 hi p y => by
      obtain ⟨T, a1, a2, rfl, hT, rfl, h1, h2⟩ := y
      cases h1
      obtain ⟨p1, p2, ys, p3, p4, p5⟩ := p
      have p' : Cp H1 P Dl i (upd H2 T (.tup [.int (i : Nat), a2])) := ⟨p1, p2.trans (Ex.new hT), ys, by rw [upd_ne (ne_of_none p3 hT)]; exact p3, p4, p5⟩
      exact ⟨T, _, rfl, st_of upd_same, rfl, _, _, rfl, _, [], rfl, rfl, hw _ _, cp_turn p' (by omega) (he i a2 H1 (e.trans e1) h2)⟩)
      (fun H' p => by
        obtain ⟨p1, p2, ys, p3, p4, p5⟩ := p
        exact q Dl ys H' (fresh_back e1 p1) (e1.trans p2) p3 (by omega) p5)⟩
/-- the same, some fall away: told -/
theorem el_lcE {ta : TA} {a : Addr} {xs : List V} {j1 j2 : Nat} {vs : List Nat} (f : Nat → Bool) (g : Nat → V) (h : EvA ta σ H [.ref a]) (hx : SqL K H a xs) (hz : xs.length ≤ 40000)
    (hw : ∀ x y, wipe (((wipe σ vs).set j1 (some x)).set j2 (some y)) vs = wipe σ vs)
    (ht : ∀ (i : Nat) (x : V) H1, Ex H H1 → xs[i]? = some x → EvT t (((wipe σ vs).set j1 (some (.int i))).set j2 (some x)) H1 (f i))
    (he : ∀ (i : Nat) (x : V) H1, Ex H H1 → xs[i]? = some x → f i = true → Ev te (((wipe σ vs).set j1 (some (.int i))).set j2 (some x)) H1 (g i)) :
    EvL (tLc (iEnum K ta) (gTup K 2 (gCons (gName j1) (gCons (gName j2) gNil))) t te vs) σ H (given xs.length f g) := fun H0 e Q q =>
  h H0 e _ fun H1 e1 => ⟨a, xs, rfl, ex_l (e.trans e1) hx, fun Dl hD =>
    lc_it (walk_enum (K := K) (a := a) (xs := xs)) (Cw H1 f g Dl) ⟨hD, Ex.new hD, upd_same⟩ (fun i H' _ p => ex_l ((e.trans e1).trans p.2.1) hx) (fun i x H2 H3 hi p y => by
      obtain ⟨T, a1, a2, rfl, hT, rfl, h1, h2⟩ := y
      cases h1
      have p' : Cw H1 f g Dl i (upd H2 T (.tup [.int (i : Nat), a2])) := ⟨p.1, p.2.1.trans (Ex.new hT), by rw [upd_ne (ne_of_none p.2.2 hT)]; exact p.2.2⟩
      exact ⟨T, _, rfl, st_of upd_same, rfl, _, _, rfl, _, [], rfl, rfl, hw _ _, cw_turn p' (by omega) (ht i a2 H1 (e.trans e1) h2) fun hf => he i a2 H1 (e.trans e1) h2 hf⟩)
      (fun H' p => q Dl H' (fresh_back e1 p.1) (e1.trans p.2.1) p.2.2)⟩
/-! ### calls and statements -/
def SpP (pre : List V → Hp → Prop) (P : V → Prop) : Sp := fun vs H Q _ => pre vs H ∧ ∀ v H', Ex H H' → P v → Q v H'
theorem evp_call {pre : List V → Hp → Prop} {dvs vs : List V} {E : XK} {ta : TA} (h : EvA ta σ H vs) (hs : ∀ H1, Ex H H1 → pre (vs ++ dvs) H1) : EvP (tCall (SpP pre P) dvs E ta) σ H P := fun H1 e _ q =>
  h H1 e _ fun H2 e2 => ⟨hs H2 (e.trans e2), fun v H3 e3 p => q v H3 (e2.trans e3) p⟩
variable {D : Ends} {tz : TS}
theorem q_asgP {i : Nat} (h : EvP te σ H P) (k : ∀ v H1, Ex H H1 → P v → tz D (σ.set i (some v)) H1) : tSeq (tAsg te (gName i)) tz D σ H := h H (Ex.refl H) _ fun v H1 e p => k v H1 e p
theorem q_asgLP {i : Nat} (h : EvLP te σ H n P) (k : ∀ p xs H1, H p = none → Ex H H1 → H1 p = some (.lst xs) → xs.length ≤ n → (∀ x ∈ xs, P x) → tz D (σ.set i (some (.ref p))) H1) : tSeq (tAsg te (gName i)) tz D σ H := h H (Ex.refl H) _ k
theorem s_retP (h : EvP te σ H P) (k : ∀ v H1, Ex H H1 → P v → D.rt v H1) : tRet te D σ H := h H (Ex.refl H) _ k
theorem s_retLP (h : EvLP te σ H n P) (k : ∀ p xs H1, H p = none → Ex H H1 → H1 p = some (.lst xs) → xs.length ≤ n → (∀ x ∈ xs, P x) → D.rt (.ref p) H1) : tRet te D σ H := h H (Ex.refl H) _ k
end
section
variable {K : PySem.W.Frag} {σ : L2.St} {H H' : Hp} {ta tb tc te tx : TE} {t u : TT} {x y z v : V} {r : R2} {P P1 P2 : V → Prop} {n m k : Nat} {D : Ends} {tz : TS}
theorem ev_neNil {p : Addr} {xs : List V} (ha : Ev ta σ H (.ref p)) (hp : H p = some (.lst xs)) (hf : xs.all flatOk = true) : Ev (tOp (rNeD K) ta (tLst tNil)) σ H (.bl (!xs.isEmpty)) := fun H1 e Q q =>
  ha H1 e _ fun H2 e2 => ⟨by show 0 ≤ sizeLine; exact Nat.zero_le _, fun l hl => by
    have e3 : Ex H2 (upd H2 l (.lst [])) := Ex.new hl
    refine ⟨.list (xs.map dpOf), .list [], .lst (sq_of (e3 p _ (e2 p _ (e p _ hp)))) (dps_flat hf), .lst (sq_of upd_same) .nil, shaped_flat hf, by decide, ?_⟩
    have z : PyData.eqv (.list (xs.map dpOf)) (.list []) = xs.isEmpty := by
      cases xs <;> rfl
    rw [z]
    exact q _ (e2.trans e3)⟩
/-- xs.append(e), e of a kind -/
theorem q_appP {l : Addr} {xs : List V} (hl : H l = some (.lst xs)) (ha : Ev ta σ H (.ref l)) (h : EvP te σ H P) (hz : xs.length < 100000) (k : ∀ v H1, Ex H H1 → P v → tz D σ (upd H1 l (.lst (xs ++ [v])))) :
    tSeq (tDrop (tBM K "list" rAppend ta (tCons te tNil))) tz D σ H := ha H (Ex.refl H) _ fun H1 e1 =>
  ⟨Or.inl ⟨rfl, xs, sq_of (e1 l _ hl)⟩, h H1 e1 _ fun v H2 e2 p => ⟨l, xs, v, rfl, rfl, e2 l _ (e1 l _ hl), sz_lt hz, k v H2 (e1.trans e2) p⟩⟩
/-! ### displays of things of a kind, by the heap -/
def EvG (R : Hp → V → Prop) (te : TE) (σ : L2.St) (H : Hp) : Prop := ∀ H1, Ex H H1 → ∀ Q : VK, (∀ v H2, Ex H1 H2 → R H2 v → Q v H2) → te σ H1 Q
def EvGs (R : Hp → V → Prop) (ta : TA) (σ : L2.St) (H : Hp) (n : Nat) : Prop := ∀ H1, Ex H H1 → ∀ Q : List V → Hp → Prop, (∀ vs H2, Ex H1 H2 → vs.length = n → (∀ v ∈ vs, R H2 v) → Q vs H2) → ta σ H1 Q
variable {R : Hp → V → Prop}
theorem eg_v (h : Ev te σ H v) (p : ∀ H1, Ex H H1 → R H1 v) : EvG R te σ H := fun H1 e _ q => h H1 e _ fun H2 e2 => q v H2 e2 (p H2 (e.trans e2))
theorem eg_l {xs : List V} (h : EvL te σ H xs) (p : ∀ a H1, H1 a = some (.lst xs) → R H1 (.ref a)) : EvG R te σ H := fun H1 e _ q => h H1 e _ fun a H2 _ e2 h2 => q _ H2 e2 (p a H2 h2)
theorem eg_u {xs : List V} (h : EvU te σ H xs) (p : ∀ a H1, H1 a = some (.tup xs) → R H1 (.ref a)) : EvG R te σ H := fun H1 e _ q => h H1 e _ fun a H2 _ e2 h2 => q _ H2 e2 (p a H2 h2)
theorem eg_d (p : ∀ a H1, H1 a = some (.dK []) → R H1 (.ref a)) : EvG R tDNewK σ H := fun H1 e _ q => fun a ha => q _ _ (Ex.new ha) (p a _ upd_same)
theorem egs_nil : EvGs R tNil σ H 0 := fun H1 _ _ q => q [] H1 (Ex.refl H1) rfl fun _ h => nomatch h
theorem egs_cons (mo : ∀ H H' v, Ex H H' → R H v → R H' v) {tr : TA} (h : EvG R te σ H) (hr : EvGs R tr σ H n) : EvGs R (tCons te tr) σ H (n + 1) := fun H1 e _ q =>
  h H1 e _ fun v H2 e2 hv => hr H2 (e.trans e2) _ fun vs H3 e3 hl hvs => q (v :: vs) H3 (e2.trans e3) (by rw [List.length_cons, hl]) fun w hw => by
    rcases List.mem_cons.mp hw with rfl | hw
    · exact mo _ _ _ e3 hv
    · exact hvs w hw
/-- one of a display -/
theorem q_asgIx (mo : ∀ H H' v, Ex H H' → R H v → R H' v) {ta : TA} {j : Nat} {i : Int} (h : EvGs R ta σ H n) (hb : ∀ H1, Ex H H1 → Ev tb σ H1 (.int i)) (h0 : 0 ≤ i) (h1 : i < n) (hn : n ≤ 1000)
    (k : ∀ v H1, Ex H H1 → R H1 v → tz D (σ.set j (some v)) H1) : tSeq (tAsg (tOp (rIxL K) (tLst ta) tb) (gName j)) tz D σ H :=
  h H (Ex.refl H) _ fun vs H1 e hl hvs => ⟨by rw [hl]; exact sz_of (by omega), fun p hp => by
    have e2 : Ex H1 (upd H1 p (.lst vs)) := Ex.new hp
    refine hb _ (e.trans e2) _ (Ex.refl _) _ fun H3 e3 => ?_
    obtain ⟨v, hv, vm⟩ := at_mem (xs := vs) (i := i) h0 (by rw [hl]; exact h1)
    exact ⟨p, vs, i, v, rfl, rfl, sq_of (e3 _ _ upd_same), hv, k v H3 ((e.trans e2).trans e3) (mo _ _ _ (e2.trans e3) (hvs v vm))⟩⟩
end
/-! ### drawn signs of a text -/
def drawnW (w : Str) (n : Nat) (g : Nat → Int) : Str := Txt.join "" ((List.range n).map fun i => sgn w (g i))
theorem drawnW_len (w : Str) (n : Nat) (g : Nat → Int) : (drawnW w n g).length = n := by
  unfold drawnW
  rw [join_len, List.map_map]
  induction n with
  | zero => rfl
  | succ n ih =>
    rw [List.range_succ, List.map_append, List.sum_append, ih]
    rfl
theorem drawnW_signs {w : Str} (h : signs w) (n : Nat) (g : Nat → Int) : signs (drawnW w n g) := join_signs fun y hy => by
  obtain ⟨i, _, rfl⟩ := List.mem_map.mp hy
  exact sgn_signs h _
theorem sum_onesW {w : Str} {n : Nat} {g : Nat → Int} : ((((List.range n).map fun i => sgn w (g i)).map (·.length)).sum + ((List.range n).map fun i => sgn w (g i)).length * ("" : Str).length) = n := by
  rw [emp_len, Nat.mul_zero, Nat.add_zero, List.map_map]
  induction n with
  | zero => rfl
  | succ n ih =>
    rw [List.range_succ, List.map_append, List.sum_append, ih]
    rfl
end Evl

set_option Elab.async false
set_option linter.all false
set_option maxRecDepth 100000
set_option maxHeartbeats 2000000
/-! Drawn places of a condition, and what their text reads as. -/
namespace Prt
open PySem L2 Evl Com TX Rd
/-- the text of a place, and the letters that it lets -/
def Good (t l : Str) : Prop := ∃ c r, L t = c :: r ∧ ∀ s, place c (r ++ s) = some (L l, s)
theorem rdAll_good {t l : Str} (h : Good t l) (s : List Nat) : rdAll (L t ++ s) = (rdAll s).map (L l :: ·) := by
  obtain ⟨c, r, h1, h2⟩ := h
  rw [h1, List.cons_append, rdAll_cons, h2 s]
  rfl
theorem rdAll_goods : ∀ (ps : List (Str × Str)), (∀ p ∈ ps, Good p.1 p.2) → rdAll ((ps.map fun p => L p.1).flatten) = some (ps.map fun p => L p.2)
  | [], _ => rfl
  | p :: r, h => by
    rw [List.map_cons, List.flatten_cons, rdAll_good (h p List.mem_cons_self), rdAll_goods r fun q hq => h q (List.mem_cons_of_mem _ hq)]
    rfl
theorem conds_goods {ps : List (Str × Str)} (h : ∀ p ∈ ps, Good p.1 p.2) (hl : ps.length ≤ 3) : conds (L (Txt.join "" (ps.map Prod.fst))) = some (ps.map fun p => L p.2) := by
  refine conds_of ?_ (by rw [List.length_map]; omega)
  show rdAll (Txt.join "" (ps.map Prod.fst)).cps.toList = _
  rw [join0, List.map_map]
  exact rdAll_goods ps h
theorem small_bd {c : Nat} (h : small c = true) : 97 ≤ c ∧ c ≤ 122 := by
  unfold small at h
  simpa using h
theorem good_dot : Good "." alph := ⟨46, [], by decide +kernel, fun s => rfl⟩
theorem good_one {c : Nat} (h : small c = true) : Good (T [c]) (T [c]) := by
  have hb := small_bd h
  refine ⟨c, [], L_T [c], fun s => ?_⟩
  unfold place
  rw [if_neg (by omega), if_neg (by omega), if_pos h, L_T]
  rfl
theorem ahead_mid {c : Nat} : ∀ {l : List Nat} (s : List Nat), c ∉ l → ahead c (l ++ c :: s) = l
  | [], s, _ => by
    unfold ahead
    rw [List.nil_append, List.takeWhile_cons, if_neg (by simp)]
  | a :: l, s, h => by
    unfold ahead
    have h1 : a ≠ c := fun e => h (e ▸ List.mem_cons_self)
    rw [List.cons_append, List.takeWhile_cons, if_pos (by simp [h1])]
    have := ahead_mid (l := l) s (fun hc => h (List.mem_cons_of_mem _ hc))
    unfold ahead at this
    rw [this]
theorem no93 {cs : List Nat} (h : ∀ c ∈ cs, small c = true) : 93 ∉ cs := fun hc => by
  have := small_bd (h _ hc)
  omega
theorem okBr_of {cs : List Nat} (h : ∀ c ∈ cs, small c = true) (hn : cs.Nodup) (h1 : 1 ≤ cs.length) (h8 : cs.length ≤ 8) : okBr cs = true := by
  unfold okBr
  rw [List.all_eq_true.mpr h, decide_eq_true hn, decide_eq_true h1, decide_eq_true h8]
  rfl
theorem good_in {cs : List Nat} (h : ∀ c ∈ cs, small c = true) (hn : cs.Nodup) (h1 : 1 ≤ cs.length) (h8 : cs.length ≤ 8) : Good ("[" ++ T cs ++ "]") (T cs) := by
  have o1 : L "[" = [91] := by decide +kernel
  have o2 : L "]" = [93] := by decide +kernel
  refine ⟨91, cs ++ [93], by rw [L_add, L_add, o1, o2, L_T]; rfl, fun s => ?_⟩
  rw [List.append_assoc]
  have ea : ahead 93 (cs ++ 93 :: s) = cs := ahead_mid s (no93 h)
  have h0 : ¬ cs[0]? = some 94 := by
    cases cs with
    | nil => simp at h1
    | cons c r =>
      have := small_bd (h c List.mem_cons_self)
      simp
      omega
  show brk (cs ++ 93 :: s) = _
  unfold brk
  rw [if_pos (by simp), ea]
  have ec : core cs = cs := by unfold core; rw [if_neg h0]
  have el : lets' cs = cs := by unfold lets'; rw [if_neg h0]
  rw [ec, el, if_pos (okBr_of h hn h1 h8), L_T]
  congr 2
  rw [show cs ++ 93 :: s = (cs ++ [93]) ++ s by simp, List.drop_append_of_le_length (by simp), List.drop_of_length_le (by simp)]
  rfl
theorem good_out {cs : List Nat} (h : ∀ c ∈ cs, small c = true) (hn : cs.Nodup) (h1 : 1 ≤ cs.length) (h8 : cs.length ≤ 8) : Good ("[^" ++ T cs ++ "]") (T (others cs)) := by
  have o1 : L "[^" = [91, 94] := by decide +kernel
  have o2 : L "]" = [93] := by decide +kernel
  refine ⟨91, 94 :: (cs ++ [93]), by rw [L_add, L_add, o1, o2, L_T]; rfl, fun s => ?_⟩
  have ea : ahead 93 ((94 :: cs) ++ 93 :: s) = 94 :: cs := ahead_mid s (by
    intro hc
    rcases List.mem_cons.mp hc with hc | hc
    · cases hc
    · exact no93 h hc)
  have e0 : 94 :: (cs ++ [93]) ++ s = (94 :: cs) ++ 93 :: s := by simp
  rw [e0]
  show brk ((94 :: cs) ++ 93 :: s) = _
  unfold brk
  rw [if_pos (by simp), ea]
  have ec : core (94 :: cs) = cs := rfl
  have el : lets' (94 :: cs) = others cs := rfl
  rw [ec, el, if_pos (okBr_of h hn h1 h8), L_T]
  congr 2
  rw [show (94 :: cs) ++ 93 :: s = ((94 :: cs) ++ [93]) ++ s by simp, List.drop_append_of_le_length (by simp), List.drop_of_length_le (by simp)]
  rfl
/-- single letters -/
def One (y : Str) : Prop := ∃ c, y = T [c] ∧ small c = true
theorem ones_of {ys : List Str} (h : ∀ y ∈ ys, One y) : ∃ cs : List Nat, ys = cs.map (fun c => T [c]) ∧ ∀ c ∈ cs, small c = true := by
  induction ys with
  | nil => exact ⟨[], rfl, fun _ h => nomatch h⟩
  | cons y r ih =>
    obtain ⟨cs, e, hc⟩ := ih fun z hz => h z (List.mem_cons_of_mem _ hz)
    obtain ⟨c, rfl, hs⟩ := h y List.mem_cons_self
    refine ⟨c :: cs, by rw [List.map_cons, e], fun d hd => ?_⟩
    rcases List.mem_cons.mp hd with rfl | hd
    · exact hs
    · exact hc d hd
theorem join_ones (cs : List Nat) : Txt.join "" (cs.map fun c => T [c]) = T cs := by
  refine eq_L ?_
  rw [L_T]
  show (Txt.join "" (cs.map fun c => T [c])).cps.toList = cs
  rw [join0, List.map_map]
  induction cs with
  | nil => rfl
  | cons c r ih =>
    rw [List.map_cons, List.flatten_cons, ih]
    rfl
theorem nodup_ones {cs : List Nat} (h : (cs.map fun c => T [c]).Nodup) : cs.Nodup := by
  unfold List.Nodup at *
  rw [List.pairwise_map] at h
  exact h.imp fun {a b} hne (e : a = b) => hne (by rw [e])
theorem lets_signs {z : Str} (h : lets z = true) : signs z := by
  unfold lets at h
  unfold signs
  rw [List.all_eq_true] at h ⊢
  intro x hx
  have := small_bd (h x hx)
  simp only [decide_eq_true_eq]
  omega
theorem lets_T {l : List Nat} : lets (T l) = true ↔ ∀ c ∈ l, small c = true := by
  show (L (T l)).all small = true ↔ _
  rw [L_T, List.all_eq_true]
theorem sgn_small {w : Str} (h : lets w = true) {i : Int} (h0 : 0 ≤ i) (h1 : i < w.cps.toList.length) : One (sgn w i) := by
  obtain ⟨j, rfl⟩ : ∃ j : Nat, i = (j : Int) := ⟨i.toNat, by omega⟩
  have hj : j < w.cps.toList.length := by omega
  refine ⟨w.cps.toList.getD j 0, rfl, ?_⟩
  unfold lets at h
  rw [List.all_eq_true] at h
  refine h _ ?_
  rw [List.getD_eq_getElem?_getD, List.getElem?_eq_getElem hj]
  exact List.getElem_mem hj
theorem drawnW_lets {w : Str} (h : lets w = true) (n : Nat) (g : Nat → Int) (hg : ∀ i, 0 ≤ g i ∧ g i < w.cps.toList.length) : lets (drawnW w n g) = true := by
  obtain ⟨cs, e, hc⟩ := ones_of (ys := (List.range n).map fun i => sgn w (g i)) fun y hy => by
    obtain ⟨i, _, rfl⟩ := List.mem_map.mp hy
    exact sgn_small h (hg i).1 (hg i).2
  unfold drawnW
  rw [e, join_ones, lets_T]
  exact hc
theorem dedup_one {ws : List Str} (h : 1 ≤ ws.length) (hw : ∀ y ∈ ws, One y) :
    ∃ cs : List Nat, given ws.length (fun i => !inV (.str (ws.getD i "")) (cutV (ws.map V.str) none (some (i : Int)))) (fun i => .str (ws.getD i "")) = (cs.map fun c => T [c]).map V.str ∧ 1 ≤ cs.length ∧ cs.length ≤ ws.length ∧ (∀ c ∈ cs, small c = true) ∧ cs.Nodup := by
  have inV_strs : ∀ {x : Str} {ys : List Str}, inV (.str x) (ys.map V.str) = decide (x ∈ ys) := by
    intro x ys
    unfold inV
    rw [List.any_map, Bool.eq_iff_iff, List.any_eq_true, decide_eq_true_eq]
    constructor
    · rintro ⟨y, hy, e⟩
      have : (y == x) = true := e
      exact (eq_of_beq this) ▸ hy
    · intro h
      exact ⟨x, h, by show (x == x) = true; exact beq_self_eq_true x⟩
  have cutm : ∀ i : Nat, cutV (ws.map V.str) none (some (i : Int)) = (ws.take i).map V.str := by
    intro i
    unfold cutV
    rw [HT.sIx_nat]
    have e : HT.sIx (ws.map V.str).length 0 none = 0 := rfl
    rw [e, List.drop_zero, Nat.sub_zero, List.map_take, List.length_map]
    by_cases hi : i ≤ ws.length
    · rw [Nat.min_eq_left hi]
    · rw [Nat.min_eq_right (by omega), List.take_of_length_le (by rw [List.length_map]; exact Nat.le_refl _), List.take_of_length_le (by rw [List.length_map]; omega)]
  generalize hk : (fun i : Nat => !inV (.str (ws.getD i "")) (cutV (ws.map V.str) none (some (i : Int)))) = keep
  have keep_of : ∀ i, keep i = !decide (ws.getD i "" ∈ ws.take i) := by
    intro i
    rw [← hk]
    show (!inV _ _) = _
    rw [cutm, inV_strs]
  have hget : ∀ i, i < ws.length → ws.getD i "" ∈ ws := by
    intro i hi
    rw [List.getD_eq_getElem?_getD, List.getElem?_eq_getElem hi]
    exact List.getElem_mem hi
  obtain ⟨cs, e, hc⟩ := ones_of (ys := ((List.range ws.length).filter keep).map fun i => ws.getD i "") fun y hy => by
    obtain ⟨i, hi, rfl⟩ := List.mem_map.mp hy
    exact hw _ (hget i (List.mem_range.mp (List.mem_filter.mp hi).1))
  have el : cs.length = ((List.range ws.length).filter keep).length := by
    have := congrArg List.length e
    rw [List.length_map, List.length_map] at this
    exact this.symm
  refine ⟨cs, ?_, ?_, ?_, hc, ?_⟩
  · rw [← e, List.map_map]
    rfl
  · rw [el]
    refine List.length_pos_of_mem (a := 0) (List.mem_filter.mpr ⟨List.mem_range.mpr h, ?_⟩)
    rw [keep_of]
    simp
  · rw [el]
    have := List.length_filter_le keep (List.range ws.length)
    rw [List.length_range] at this
    exact this
  · refine nodup_ones ?_
    rw [← e]
    unfold List.Nodup
    rw [List.pairwise_map]
    refine List.Pairwise.imp_of_mem ?_ (List.pairwise_lt_range.filter keep)
    intro i j hi hj hlt he
    have h1 := (List.mem_filter.mp hj).2
    rw [keep_of, ← he] at h1
    have hi' := List.mem_range.mp (List.mem_filter.mp hi).1
    have : ws.getD i "" ∈ ws.take j := by
      rw [List.getD_eq_getElem?_getD, List.getElem?_eq_getElem hi']
      rw [List.mem_take_iff_getElem]
      exact ⟨i, by omega, rfl⟩
    rw [decide_eq_true this] at h1
    cases h1
/-! ### great letters -/
abbrev gre : Str := "ABCDEFGHIJKLMNOPQRSTUVWXYZ"
theorem gre_list : gre.cps.toList.length = 26 := by decide +kernel
theorem gre_len : gre.length = 26 := by decide +kernel
theorem gre_at : ∀ k, k < 26 → gre.cps.toList.getD k 0 = 65 + k := by decide +kernel
def furs (n : Int) : List Nat := (List.range (n % 4).toNat).map fun (j : Nat) => gre.cps.toList.getD ((n / 4 + (j : Int) * (1 + n / 200 % 8)) % 26).toNat 0
theorem furs_at (x : Int) : gre.cps.toList.getD (x % 26).toNat 0 = 65 + (x % 26).toNat := gre_at _ (by omega)
theorem furs_len (n : Int) : (furs n).length ≤ 3 := by
  unfold furs
  rw [List.length_map, List.length_range]
  omega
theorem furs_big (n : Int) : ∀ c ∈ furs n, 65 ≤ c ∧ c ≤ 90 := by
  intro c hc
  obtain ⟨j, _, rfl⟩ := List.mem_map.mp hc
  rw [furs_at]
  omega
theorem furs_nodup (n : Int) (hn : 0 ≤ n) : (furs n).Nodup := by
  unfold furs List.Nodup
  rw [List.pairwise_map]
  refine List.Pairwise.imp_of_mem ?_ List.pairwise_lt_range
  intro i j hi hj hlt he
  have hj' := List.mem_range.mp hj
  rw [furs_at, furs_at] at he
  have hcase : (i = 0 ∧ j = 1) ∨ (i = 0 ∧ j = 2) ∨ (i = 1 ∧ j = 2) := by omega
  rcases hcase with ⟨rfl, rfl⟩ | ⟨rfl, rfl⟩ | ⟨rfl, rfl⟩ <;> omega
theorem rising_ones : ∀ (l : List Nat) (c : Nat), PyProof.Rows.risingS (T [c]) (l.map fun c => T [c]) = true → (c :: l).Pairwise (· ≤ ·)
  | [], c, _ => by simp
  | d :: r, c, h => by
    have h' : (!Spec.ltCps [d] [c] && PyProof.Rows.risingS (T [d]) (r.map fun c => T [c])) = true := h
    rw [Bool.and_eq_true] at h'
    have hr := rising_ones r d h'.2
    have hcd : c ≤ d := by
      have h1 := h'.1
      have e : Spec.ltCps [d] [c] = (decide (d < c) || (d == c && false)) := rfl
      rw [e, Bool.and_false, Bool.or_false] at h1
      simpa using h1
    rw [List.pairwise_cons]
    refine ⟨fun x hx => ?_, hr⟩
    rcases List.mem_cons.mp hx with rfl | hx
    · exact hcd
    · exact Nat.le_trans hcd ((List.pairwise_cons.mp hr).1 x hx)
theorem sorted_ones {l : List Nat} (h : PyProof.Rows.sortedS (l.map fun c => T [c]) = true) : l.Pairwise (· ≤ ·) := by
  cases l with
  | nil => simp
  | cons c r => exact rising_ones r c h
theorem sorted_perm {ys : List Str} {cs : List Nat} (hp : ys.Perm (cs.map fun c => T [c])) (hs : PyProof.Rows.sortedS ys = true) (hn : cs.Nodup) :
    ∃ g : List Nat, ys = g.map (fun c => T [c]) ∧ g.Perm cs ∧ g.Pairwise (· < ·) := by
  have e : ys = (ys.map fun y => (L y).getD 0 0).map fun c => T [c] := by
    rw [List.map_map]
    conv => lhs; rw [← List.map_id ys]
    refine List.map_congr_left fun y hy => ?_
    obtain ⟨c, _, rfl⟩ := List.mem_map.mp (hp.mem_iff.mp hy)
    show T [c] = T [(L (T [c])).getD 0 0]
    rw [L_T]
    rfl
  refine ⟨ys.map fun y => (L y).getD 0 0, e, ?_, ?_⟩
  · have := hp.map fun y => (L y).getD 0 0
    rw [List.map_map] at this
    refine this.trans (List.Perm.of_eq ?_)
    conv => rhs; rw [← List.map_id cs]
    refine List.map_congr_left fun c _ => ?_
    show (L (T [c])).getD 0 0 = c
    rw [L_T]
    rfl
  · have h1 : (ys.map fun y => (L y).getD 0 0).Pairwise (· ≤ ·) := sorted_ones (e ▸ hs)
    have h2 : (ys.map fun y => (L y).getD 0 0).Nodup := by
      refine nodup_ones ?_
      rw [← e]
      refine hp.nodup_iff.mpr ?_
      unfold List.Nodup at *
      rw [List.pairwise_map]
      exact hn.imp fun hne he => hne (by have := T_inj he; simpa using this)
    unfold List.Nodup at h2
    exact h1.imp₂ (fun a b hle hne => Nat.lt_of_le_of_ne hle hne) h2
theorem strip_all (z w : Str) : decide (V.str (Txt.stripChars z w) = V.str "") = z.cps.toList.all (w.cps.contains) := by
  rw [Bool.eq_iff_iff, decide_eq_true_eq]
  rw [← stripBy_size z, empty_cps]
  constructor
  · intro h
    have h' : Txt.stripChars z w = ⟨#[]⟩ := V.str.inj h
    show (Txt.stripChars z w).cps.size = 0
    rw [h']
    rfl
  · intro h
    have h' : (Txt.stripChars z w).cps.size = 0 := h
    congr 1
    have : (Txt.stripChars z w).cps = #[] := Array.eq_empty_of_size_eq_zero h'
    show (⟨(Txt.stripChars z w).cps⟩ : Str) = ⟨#[]⟩
    rw [this]
theorem gre_cps : gre.cps = #[65, 66, 67, 68, 69, 70, 71, 72, 73, 74, 75, 76, 77, 78, 79, 80, 81, 82, 83, 84, 85, 86, 87, 88, 89, 90] := by decide +kernel
theorem gre_in (c : Nat) : gre.cps.contains c = (decide (65 ≤ c) && decide (c ≤ 90)) := by
  rw [gre_cps, Bool.eq_iff_iff]
  simp only [Bool.and_eq_true, decide_eq_true_eq, Array.contains_iff_mem]
  simp
  omega
theorem strip_gre (z : Str) : decide (V.str (Txt.stripChars z gre) = V.str "") = (L z).all fun c => decide (65 ≤ c) && decide (c ≤ 90) := by
  rw [strip_all]
  congr 1
  funext c
  exact gre_in c
/-- further classes: at most three great letters, rising -/
def Fur (g : List Nat) : Prop := g.length ≤ 3 ∧ (∀ c ∈ g, 65 ≤ c ∧ c ≤ 90) ∧ g.Pairwise (· < ·)
theorem fur_of {n : Int} {g : List Nat} (h : g.Perm (furs n)) (hs : g.Pairwise (· < ·)) : Fur g :=
  ⟨by rw [h.length_eq]; exact furs_len n, fun c hc => furs_big n c (h.mem_iff.mp hc), hs⟩
section
variable {K : PySem.W.Frag} {σ : L2.St} {H : Hp} {tb : TE}
theorem evp_joinSorted {p : Addr} {cs : List Nat} (hb : Ev tb σ H (.ref p)) (hp : H p = some (.lst ((cs.map fun c => T [c]).map V.str))) (hl : cs.length < 64) (hn : cs.Nodup) :
    EvP (tM1 (rJoin K) (tC (.str "")) (tCB (rSortedS K) (tCons tb tNil))) σ H (fun v => ∃ g, v = .str (T g) ∧ g.Perm cs ∧ g.Pairwise (· < ·)) := fun H1 e Q q =>
  ⟨⟨"", rfl⟩, hb H1 e _ fun H2 e2 => ⟨p, cs.map fun c => T [c], rfl, sq_of ((e.trans e2) _ _ hp), by rw [List.length_map]; exact hl, fun ys a hy hs ha => by
    obtain ⟨g, rfl, hg, hr⟩ := sorted_perm hy hs hn
    have hgl := hg.length_eq
    have hsum : ((g.map fun c => T [c]).map (·.length)).sum = g.length := by
      clear hg hr hgl hy hs
      induction g with
      | nil => rfl
      | cons c r ih =>
        rw [List.map_cons, List.map_cons, List.sum_cons, ih, List.length_cons, len_T]
        simp only [List.length_cons, List.length_nil]
        omega
    refine ⟨"", a, g.map fun c => T [c], rfl, rfl, Or.inl (sq_of upd_same), by rw [emp_len, Nat.mul_zero, Nat.add_zero, hsum]; omega, ?_⟩
    exact q _ _ (e2.trans (Ex.new ha)) ⟨g, by rw [join_ones], hg, hr⟩⟩⟩
/-! ### rows of values that are not determined -/
def EvAQ (ta : TA) (σ : L2.St) (H : Hp) (R : List V → Prop) : Prop := ∀ H1, Ex H H1 → ∀ Q : List V → Hp → Prop, (∀ vs H2, Ex H1 H2 → R vs → Q vs H2) → ta σ H1 Q
variable {R : List V → Prop} {tr : TA} {te : TE}
theorem eaq_nil (h : R []) : EvAQ tNil σ H R := fun H1 _ _ q => q [] H1 (Ex.refl H1) h
theorem eaq_v {v : V} (h : Ev te σ H v) (hr : EvAQ tr σ H fun vs => R (v :: vs)) : EvAQ (tCons te tr) σ H R := fun H1 e _ q =>
  h H1 e _ fun H2 e2 => hr H2 (e.trans e2) _ fun vs H3 e3 r => q _ H3 (e2.trans e3) r
theorem eaq_p {P : V → Prop} (h : EvP te σ H P) (hr : ∀ v, P v → EvAQ tr σ H fun vs => R (v :: vs)) : EvAQ (tCons te tr) σ H R := fun H1 e _ q =>
  h H1 e _ fun v H2 e2 p => hr v p H2 (e.trans e2) _ fun vs H3 e3 r => q _ H3 (e2.trans e3) r
theorem s_retUQ {D : Ends} {ta : TA} (h : EvAQ ta σ H R) (hl : ∀ vs, R vs → vs.length ≤ 1000) (k : ∀ p vs H1, R vs → H p = none → Ex H H1 → H1 p = some (.tup vs) → D.rt (.ref p) H1) : tRet (tTup ta) D σ H :=
  h H (Ex.refl H) _ fun vs H1 e r => ⟨sz_of (by have := hl vs r; omega), fun p hp => k p vs _ r (fresh_back e hp) (e.trans (Ex.new hp)) upd_same⟩
/-! ### by the heap -/
variable {P2 : Hp → V → Prop} {Rh : List V → Hp → Prop} {n m : Nat}
def SpG (pre : List V → Hp → Prop) (P : Hp → V → Prop) : Sp := fun vs H Q _ => pre vs H ∧ ∀ v H', Ex H H' → P H' v → Q v H'
theorem eg_call {pre : List V → Hp → Prop} {dvs vs : List V} {E : XK} {ta : TA} (h : EvA ta σ H vs) (hs : ∀ H1, Ex H H1 → pre (vs ++ dvs) H1) : EvG P2 (tCall (SpG pre P2) dvs E ta) σ H := fun H1 e _ q =>
  h H1 e _ fun H2 e2 => ⟨hs H2 (e.trans e2), fun v H3 e3 p => q v H3 (e2.trans e3) p⟩
def EvAR (ta : TA) (σ : L2.St) (H : Hp) (R : List V → Hp → Prop) : Prop := ∀ H1, Ex H H1 → ∀ Q : List V → Hp → Prop, (∀ vs H2, Ex H1 H2 → R vs H2 → Q vs H2) → ta σ H1 Q
theorem ear_nil (h : ∀ H1, Ex H H1 → Rh [] H1) : EvAR tNil σ H Rh := fun H1 e _ q => q [] H1 (Ex.refl H1) (h H1 e)
theorem ear_v {v : V} (h : Ev te σ H v) (hr : EvAR tr σ H fun vs => Rh (v :: vs)) : EvAR (tCons te tr) σ H Rh := fun H1 e _ q =>
  h H1 e _ fun H2 e2 => hr H2 (e.trans e2) _ fun vs H3 e3 r => q _ H3 (e2.trans e3) r
theorem ear_g (mo : ∀ H H' v, Ex H H' → P2 H v → P2 H' v) (h : EvG P2 te σ H) (hr : ∀ v, EvAR tr σ H fun vs H2 => P2 H2 v → Rh (v :: vs) H2) : EvAR (tCons te tr) σ H Rh := fun H1 e _ q =>
  h H1 e _ fun v H2 e2 p => hr v H2 (e.trans e2) _ fun vs H3 e3 r => q _ H3 (e2.trans e3) (r (mo _ _ _ e3 p))
theorem s_retUR {D : Ends} {ta : TA} (h : EvAR ta σ H Rh) (hl : ∀ vs H1, Rh vs H1 → vs.length ≤ 1000) (k : ∀ p vs H1, Rh vs H1 → H p = none → H1 p = none → Ex H H1 → D.rt (.ref p) (upd H1 p (.tup vs))) : tRet (tTup ta) D σ H :=
  h H (Ex.refl H) _ fun vs H1 e r => ⟨sz_of (by have := hl vs H1 r; omega), fun p hp => k p vs _ r (fresh_back e hp) hp e⟩
theorem eg_tup {ta : TA} (h : EvAR ta σ H Rh) (hl : ∀ vs H1, Rh vs H1 → vs.length ≤ 1000) (k : ∀ p vs H1, Rh vs H1 → H1 p = none → P2 (upd H1 p (.tup vs)) (.ref p)) : EvG P2 (tTup ta) σ H := fun H0 e0 Q q =>
  h H0 e0 _ fun vs H1 e r => ⟨sz_of (by have := hl vs H1 r; omega), fun p hp => q _ _ (e.trans (Ex.new hp)) (k p vs H1 r hp)⟩
theorem q_asgG {D : Ends} {tz : TS} {ta : TA} {i : Nat} (h : EvGs P2 ta σ H n) (hn : n ≤ 1000)
    (k : ∀ p xs H1, Ex H H1 → H1 p = some (.lst xs) → xs.length = n → (∀ v ∈ xs, P2 H1 v) → tz D (σ.set i (some (.ref p))) H1) (mo : ∀ H H' v, Ex H H' → P2 H v → P2 H' v) : tSeq (tAsg (tLst ta) (gName i)) tz D σ H :=
  h H (Ex.refl H) _ fun vs H1 e hl hvs => ⟨sz_of (by omega), fun p hp => k p vs _ (e.trans (Ex.new hp)) upd_same hl fun v hv => mo _ _ _ (Ex.new hp) (hvs v hv)⟩
/-- a list and a display behind it -/
theorem q_asgGc {D : Ends} {tz : TS} {ta : TA} {i a : Nat} {p0 : Addr} {xs : List V} (hi : σ[a]? = some (some (.ref p0))) (h0 : H p0 = some (.lst xs)) (hx : ∀ v ∈ xs, P2 H v) (h : EvGs P2 ta σ H n) (hn : xs.length + n ≤ 1000)
    (k : ∀ p ys H1, Ex H H1 → H1 p = some (.lst ys) → ys.length = xs.length + n → (∀ v ∈ ys, P2 H1 v) → tz D (σ.set i (some (.ref p))) H1) (mo : ∀ H H' v, Ex H H' → P2 H v → P2 H' v) : tSeq (tAsg (tOp rCat (tVar a) (tLst ta)) (gName i)) tz D σ H :=
  show tOp rCat (tVar a) (tLst ta) σ H _ from (show tVar a σ H _ from ev_var hi H (Ex.refl H) _ fun H1 e1 => h H1 e1 _ fun vs H2 e2 hl hvs => ⟨sz_of (by omega), fun p hp => by
    have e3 : Ex H2 (upd H2 p (.lst vs)) := Ex.new hp
    have hp0 : (upd H2 p (.lst vs)) p0 = some (.lst xs) := ((e1.trans e2).trans e3) _ _ h0
    refine ⟨p0, p, xs, vs, rfl, rfl, hp0, upd_same, sz_of (by omega), fun l hl' => ?_⟩
    have e4 : Ex (upd H2 p (.lst vs)) (upd (upd H2 p (.lst vs)) l (.lst (xs ++ vs))) := Ex.new hl'
    refine k l (xs ++ vs) _ (((e1.trans e2).trans e3).trans e4) upd_same (by rw [List.length_append, hl]) fun v hv => ?_
    rcases List.mem_append.mp hv with hv | hv
    · exact mo _ _ _ (((e1.trans e2).trans e3).trans e4) (hx v hv)
    · exact mo _ _ _ (e3.trans e4) (hvs v hv)⟩)
/-- one of a list -/
theorem eg_ix {ti : TE} {p : Addr} {xs : List V} {i : Int} (mo : ∀ H H' v, Ex H H' → P2 H v → P2 H' v) (h : Ev te σ H (.ref p)) (hp : H p = some (.lst xs)) (hx : ∀ v ∈ xs, P2 H v) (hi : Ev ti σ H (.int i)) (h0 : 0 ≤ i) (h1 : i < xs.length) : EvG P2 (tOp (rIxL K) te ti) σ H := fun H1 e _ q => by
  obtain ⟨v, hv, vm⟩ := at_mem h0 h1
  refine h H1 e _ fun H2 e2 => hi H2 (e.trans e2) _ fun H3 e3 => ⟨p, xs, i, v, rfl, rfl, sq_of (((e.trans e2).trans e3) _ _ hp), hv, q v H3 (e2.trans e3) (mo _ _ _ ((e.trans e2).trans e3) (hx v vm))⟩
/-- one of a display -/
theorem eg_ixD {ti : TE} {ta : TA} {i : Int} (mo : ∀ H H' v, Ex H H' → P2 H v → P2 H' v) (h : EvGs P2 ta σ H n) (hn : n ≤ 1000) (hi : Ev ti σ H (.int i)) (h0 : 0 ≤ i) (h1 : i < n) : EvG P2 (tOp (rIxL K) (tLst ta) ti) σ H := fun H1 e _ q =>
  h H1 e _ fun vs H2 e2 hl hvs => ⟨sz_of (by omega), fun p hp => by
    have e3 : Ex H2 (upd H2 p (.lst vs)) := Ex.new hp
    refine hi _ ((e.trans e2).trans e3) _ fun H4 e4 => ?_
    obtain ⟨v, hv, vm⟩ := at_mem (xs := vs) (i := i) h0 (by rw [hl]; exact h1)
    exact ⟨p, vs, i, v, rfl, rfl, sq_of (e4 _ _ upd_same), hv, q v H4 ((e2.trans e3).trans e4) (mo _ _ _ (e3.trans e4) (hvs v vm))⟩⟩
theorem s_retG {D : Ends} (h : EvG P2 te σ H) (k : ∀ v H1, Ex H H1 → P2 H1 v → D.rt v H1) : tRet te D σ H := h H (Ex.refl H) _ k
end
section
variable {K : PySem.W.Frag} {σ : L2.St} {H : Hp} {ta tb te : TE} {t : TT} {D : Ends} {tz : TS}
theorem eqvs_self {xs : List V} (h : xs.all flatOk = true) : PyData.eqv (.list (xs.map dpOf)) (.list (xs.map dpOf)) = true := SeqAt.eqv_refl _ (canLays_flat h)
theorem q_dropC {sp : Sp} {dvs vs : List V} {E : XK} {ta : TA} (h : EvA ta σ H vs) (k : ∀ H1, Ex H H1 → sp (vs ++ dvs) H1 (fun _ H2 => tz D σ H2) E) : tSeq (tDrop (tCall sp dvs E ta)) tz D σ H := h H (Ex.refl H) _ k
theorem s_dropC {sp : Sp} {dvs vs : List V} {E : XK} {ta : TA} (h : EvA ta σ H vs) (k : ∀ H1, Ex H H1 → sp (vs ++ dvs) H1 (fun _ H2 => D.nx σ H2) E) : tDrop (tCall sp dvs E ta) D σ H := h H (Ex.refl H) _ k
theorem q_tb {ts : TS} (h : ts { D with nx := tz D } σ H) : tSeq ts tz D σ H := h
theorem s_makeS {C : Addr} {sp : Sp} {E : L2.St → XK} {t : TA} {vs : List V} (h : EvA t σ H vs)
    (k : ∀ x dx H1, Ex H H1 → H1 x = none → H1 dx = none → dx ≠ x → sp (.ref x :: vs) (upd (upd H1 dx (.own x)) x (.ins C dx [])) (fun v H2 => v = .non ∧ D.nx σ H2) (E σ)) : tDrop (tMakeS C sp E t) D σ H :=
  h H (Ex.refl H) _ fun H1 e x dx hx hdx hne => k x dx H1 e hx hdx hne
theorem ev_neSame {xs ys : List V} (ha : EvL ta σ H xs) (hb : EvL tb σ H ys) (he : xs = ys) (hf : xs.all flatOk = true) : Ev (tOp (rNeD K) ta tb) σ H (.bl false) := fun H1 e Q q =>
  ha H1 e _ fun p H2 _ e2 h2 => hb H2 (e.trans e2) _ fun l H3 _ e3 h3 => by
    subst he
    refine ⟨.list (xs.map dpOf), .list (xs.map dpOf), .lst (sq_of (e3 p _ h2)) (dps_flat hf), .lst (sq_of h3) (dps_flat hf), shaped_flat hf, shaped_flat hf, ?_⟩
    rw [eqvs_self hf]
    exact q _ (e2.trans e3)
theorem q_ifAsgL {b : Bool} {i : Nat} {xs : List V} (h : EvT t σ H b) (h1 : b = true → EvL te σ H xs) (h2 : b = false → ∃ p, σ.set i (some (.ref p)) = σ ∧ H p = some (.lst xs))
    (k : ∀ p H1, Ex H H1 → H1 p = some (.lst xs) → tz D (σ.set i (some (.ref p))) H1) : tSeq (tIfS t (tAsg te (gName i)) tNext) tz D σ H := by
  refine q_when h (fun hb H1 e1 => ?_) fun hb H1 e1 => ?_
  · exact s_asgL ((h1 hb).mono e1) fun p H2 _ e2 h2 => k p H2 (e1.trans e2) h2
  · obtain ⟨p, hp, hx⟩ := h2 hb
    have := k p H1 e1 (e1 _ _ hx)
    rwa [hp] at this
end
/-- a thing that is no such text -/
def Bad (P : Str → Prop) (H : Hp) (v : V) : Prop := Thing H v ∧ ∀ z, v = .str z → ¬ P z
theorem Bad.mo {P : Str → Prop} : ∀ H H' v, Ex H H' → Bad P H v → Bad P H' v := fun _ _ _ e h => ⟨h.1.mono e, h.2⟩
theorem bad_non {P : Str → Prop} {H : Hp} : Bad P H .non := ⟨True.intro, fun _ h => nomatch h⟩
theorem bad_bl {P : Str → Prop} {H : Hp} {b : Bool} : Bad P H (.bl b) := ⟨True.intro, fun _ h => nomatch h⟩
theorem bad_int {P : Str → Prop} {H : Hp} {i : Int} : Bad P H (.int i) := ⟨True.intro, fun _ h => nomatch h⟩
theorem bad_str {P : Str → Prop} {H : Hp} {z : Str} (h1 : z.length ≤ 1000) (h2 : signs z) (h3 : ¬ P z) : Bad P H (.str z) := ⟨⟨h1, h2⟩, fun y h => by cases h; exact h3⟩
theorem bad_l {P : Str → Prop} {H : Hp} {a : Addr} {xs : List V} (h : H a = some (.lst xs)) : Bad P H (.ref a) := ⟨Or.inl ⟨xs, h⟩, fun _ h => nomatch h⟩
theorem bad_u {P : Str → Prop} {H : Hp} {a : Addr} {xs : List V} (h : H a = some (.tup xs)) : Bad P H (.ref a) := ⟨Or.inr (Or.inl ⟨xs, h⟩), fun _ h => nomatch h⟩
theorem bad_d {P : Str → Prop} {H : Hp} {a : Addr} (h : H a = some (.dK [])) : Bad P H (.ref a) := ⟨Or.inr (Or.inr ⟨[], h⟩), fun _ h => nomatch h⟩
theorem lets_add {a b : Str} : lets (a ++ b) = (lets a && lets b) := by
  show (L (a ++ b)).all small = _
  rw [L_add, List.all_append]
  rfl
/-! ### texts of letters -/
/-- a text of at most n small letters -/
def LT (n : Nat) (v : V) : Prop := ∃ z, v = .str z ∧ z.length ≤ n ∧ lets z = true
theorem LT.mono {n m : Nat} {v : V} (h : LT n v) (e : n ≤ m) : LT m v := by
  obtain ⟨z, rfl, h1, h2⟩ := h
  exact ⟨z, rfl, Nat.le_trans h1 e, h2⟩
theorem lets_cut {a : Str} (h : lets a = true) (lo hi : Option Int) : lets (cutS a lo hi) = true := by
  unfold lets cutS at *
  rw [List.all_eq_true] at *
  intro x hx
  exact h x (List.mem_of_mem_drop (List.mem_of_mem_take hx))
theorem join_lets {ys : List Str} (h : ∀ y ∈ ys, lets y = true) : lets (Txt.join "" ys) = true := by
  unfold lets
  rw [join0, List.all_eq_true]
  intro x hx
  obtain ⟨l, hl, hxl⟩ := List.mem_flatten.mp hx
  obtain ⟨y, hy, rfl⟩ := List.mem_map.mp hl
  exact List.all_eq_true.mp (h y hy) x hxl
theorem strsL_of {n : Nat} {xs : List V} (h : ∀ x ∈ xs, LT n x) : ∃ ys : List Str, xs = ys.map V.str ∧ ∀ y ∈ ys, y.length ≤ n ∧ lets y = true := by
  induction xs with
  | nil => exact ⟨[], rfl, fun _ h => nomatch h⟩
  | cons x r ih =>
    obtain ⟨ys, rfl, hy⟩ := ih fun y hy => h y (List.mem_cons_of_mem _ hy)
    obtain ⟨z, rfl, h1, h2⟩ := h x List.mem_cons_self
    refine ⟨z :: ys, rfl, fun y hy' => ?_⟩
    rcases List.mem_cons.mp hy' with rfl | hy'
    · exact ⟨h1, h2⟩
    · exact hy y hy'
section
variable {K : PySem.W.Frag} {σ : L2.St} {H : Hp} {ta tb te : TE} {n m k : Nat}
theorem evp_joinLT (hb : EvLP tb σ H n (LT m)) (hm : n * m ≤ k) (hk : k ≤ 100000) : EvP (tM1 (rJoin K) (tC (.str "")) tb) σ H (LT k) := fun H1 e _ q =>
  ⟨⟨"", rfl⟩, hb H1 e _ fun p xs H2 hp e2 h2 hl hx => by
    obtain ⟨ys, rfl, hy⟩ := strsL_of hx
    rw [List.length_map] at hl
    have h1 := sum_le (n := m) fun y hy' => (hy y hy').1
    have h3 : ys.length * m ≤ n * m := Nat.mul_le_mul_right m hl
    exact ⟨"", p, ys, rfl, rfl, Or.inl (sq_of h2), by rw [emp_len, Nat.mul_zero, Nat.add_zero]; omega, q _ H2 e2 ⟨_, rfl, by rw [join_len]; omega, join_lets fun y hy' => (hy y hy').2⟩⟩⟩
theorem evp_addL (ha : EvP ta σ H (LT n)) (hb : EvP tb σ H (LT m)) (h : n + m ≤ k) (hk : k ≤ 100000) :
    EvP (tOp (fun x y H Q => ∃ i j, x = .str i ∧ y = .str j ∧ i.length + j.length ≤ sizeLine ∧ Q (.str (i ++ j)) H) ta tb) σ H (LT k) :=
  evp_op ha hb fun x y H1 _ h1 h2 => by
    obtain ⟨a, rfl, a1, a2⟩ := h1
    obtain ⟨b, rfl, b1, b2⟩ := h2
    exact ⟨_, rv_addS (by omega), _, rfl, by rw [Str.length_append]; omega, by rw [lets_add, a2, b2]; rfl⟩
theorem evp_slLT {tl th : TO} {lo hi : Option Int} (h : EvP te σ H (LT n)) (h1 : EvO tl σ H lo) (h2 : EvO th σ H hi) (hn : n ≤ 100000) (hm : ∀ z : Str, z.length ≤ n → (cutS z lo hi).length ≤ m) : EvP (tSl rSlS te tl th) σ H (LT m) := fun H1 e _ q =>
  h H1 e _ fun v H2 e2 hv => by
    obtain ⟨z, rfl, z1, z2⟩ := hv
    exact (ev_slS (H := H2) (te := tC (.str z)) ev_c (fun H5 a => h1 H5 ((e.trans e2).trans a)) (fun H5 a => h2 H5 ((e.trans e2).trans a)) (by omega)) H2 (Ex.refl _) _ fun H3 e3 => q _ H3 (e2.trans e3) ⟨_, rfl, hm z z1, lets_cut z2 _ _⟩
theorem elp_catV {P : V → Prop} {p : Addr} {xs : List V} (ha : Ev ta σ H (.ref p)) (hp : H p = some (.lst xs)) (hl : xs.length ≤ n) (hx : ∀ x ∈ xs, P x) (hb : EvLP tb σ H m P) (h : n + m ≤ k) (hk : k ≤ 100000) : EvLP (tOp rCat ta tb) σ H k P := fun H1 e _ q =>
  ha H1 e _ fun H2 e2 => hb H2 (e.trans e2) _ fun p' ys H3 _ e3 h3 l2 p2 =>
    ⟨p, p', xs, ys, rfl, rfl, ((e.trans e2).trans e3) _ _ hp, h3, sz_of (by omega), fun l hl' => q l (xs ++ ys) _ (fresh_back (e2.trans e3) hl') ((e2.trans e3).trans (Ex.new hl')) upd_same (by rw [List.length_append]; omega) fun x hx' => by
      rcases List.mem_append.mp hx' with hx' | hx'
      · exact hx x hx'
      · exact p2 x hx'⟩
theorem rc_max {i j : Int} : RC (fun xs H Q => ∃ i j, xs = [.int i, .int j] ∧ Q (.int (if j > i then j else i)) H) [.int i, .int j] H (.int (if j > i then j else i)) := rc_val fun _ _ _ q => ⟨i, j, rfl, q⟩
theorem cut_same (n : Nat) (lo hi : Option Int) : ∀ z : Str, z.length ≤ n → (cutS z lo hi).length ≤ n := fun z hz => Nat.le_trans (cut_len z lo hi) hz
theorem cut16 (n : Nat) : ∀ z : Str, z.length ≤ n → (cutS z none (some 16)).length ≤ 16 := fun z _ => by
  have h1 : HT.sIx z.length z.length (some 16) = min 16 z.length := HT.sIx_nat _ _ 16
  have h2 : HT.sIx z.length 0 none = 0 := rfl
  unfold cutS
  rw [h1, h2]
  show (List.toArray _).size ≤ 16
  rw [List.size_toArray, List.length_take]
  omega
theorem cutm16 (n : Nat) : ∀ z : Str, z.length ≤ n → (cutS z (some (-16)) none).length ≤ 16 := fun z _ => by
  have h1 : HT.sIx z.length 0 (some (-16)) = (-16 + (z.length : Int)).toNat := rfl
  have h2 : HT.sIx z.length z.length none = z.length := rfl
  unfold cutS
  rw [h1, h2]
  show (List.toArray _).size ≤ 16
  rw [List.size_toArray, List.length_take]
  omega
end
end Prt

set_option Elab.async false
set_option linter.all false
set_option maxRecDepth 100000
set_option maxHeartbeats 2000000
/-! Our own rules: a def read off its own class and called. -/
namespace L2
open PySem PySem.Spec PyProof.Rows
/-- C.m is the def at f -/
structure Off (K : PySem.W.Frag) (C : Addr) (m : Str) (f : Addr) : Prop where
  rd : ClX.CRead K C (.type "type")
  at_ : PySem.W.findCls K (.ref C) (.type "type") m = some (.val (.ref f))
  kp : PySem.W.keepIn K (.ref f) = true
section
variable {X : Cx} {CX : CXT} {k : Nat} {f C : Addr} {fd : FuncData} {ps : List Str} {sp : Sp} {E : XK} {x m : Str} {p apos pos : Pos} {e : Expr} {es : List Expr} {t : TA} {dvs : List V} {ds : List Value}
/-- B.m(e, ..), B an own class -/
theorem pe_off {pl : Sem Bool} (O : Off X.K C m f) (F : FnOk X.prog X.w X.K X.mg X.base CX k f fd ps sp) (hr : Room k X.A) (hg : Gl X x) (hm : X.mg x = some (.ref C)) (hb : Binds X.K fd ps ds) (hd : Vals dvs ds) (hx : Passes CX X E)
    (ha : PA X (e :: es) t) (hdb : (x == ("__debug__" : Str)) = false := by decide)
    (hst : starEach (e :: es) X.env = (false, eval e X.env) :: starEach es X.env := by rfl) (hpl : (backTo pos (starEach es X.env)).any (·.1) = false := by rfl)
    (ht : eval (.Call (.Attribute (.Name x p) m apos) (e :: es) [] pos) X.env = (do
      let ov ← eval (.Name x p) X.env
      standAt apos.atName
      let (f, first) ← holding [ov] (getMethod ov m pl)
      callWith pos f first (backTo pos (starEach (e :: es) X.env)) (backToKw pos (keywordEach [] X.env))) := by rfl) :
    PE X (.Call (.Attribute (.Name x p) m apos) (e :: es) [] pos) (tCall sp dvs E t) := by
  refine ⟨fun pins s σ H Q I h => ?_⟩
  refine PySem.W.methodCall_KW (pl := pl) (ld_glob I hg hm ?_ hdb) ht
  refine PySem.W.method_cls I.kIn O.rd.ga (PySem.W.cls_value I.kIn O.rd.rd O.at_ rfl ?_)
  refine PySem.W.callWith_K (first := []) (h₀ := X.base) I.ok.mod.kin O.kp (thn (ha.run pos pins _ σ H _ (I.tok _) h) fun us s1 ⟨vs, H1, I1, r, q⟩ => ⟨I1.kIn, ?_⟩) hst hpl
  exact run_fn F hr hb hd hx I1 r q
end
end L2

set_option Elab.async false
set_option linter.all false
set_option maxRecDepth 100000
set_option maxHeartbeats 2000000
/-! Our own rule: the signs of a text, sorted. -/
namespace L2
open PySem PySem.Spec PyProof.Rows
def rSortedTx : List V → Hp → VK → Prop := fun vs H Q => ∃ z : Str, vs = [V.str z] ∧ z.length < 64 ∧
  ∀ (ys : List Str) (p : Addr), ys.Perm (SetS.signsOf z) → sortedS ys = true → H p = none → Q (.ref p) (upd H p (.lst (ys.map V.str)))
theorem cr_sortedTx {X : Cx} (hcalm : X.calm = true) : CallR X (.builtin "sorted") rSortedTx := by
  intro pins s σ H xs us Q I r q
  obtain ⟨z, rfl, h64, q⟩ := q
  obtain ⟨u, eu, rx⟩ := vals1 r
  subst eu
  obtain ⟨t, rfl⟩ := rx
  have h64' : z.cps.size < 64 := h64
  refine Calls.call_function_entry PyProof.Rows.kind_sorted PyProof.Rows.plain_sorted PyProof.Rows.entry_sorted (PyProof.Rows.args_sorted1 _) ?_
  unfold Builtin.«sorted»
  refine wpAny_bind (m := checkCount "sorted" 1 1 _) (wpAny_pure ?_)
  refine wpAny_bind (wpAny_collect_str (A := X.A.in1) (I.ok.hd hcalm) z t (fun s' acc hk g d o hacc => ?_) (by rw [sizeLine_eq]; omega))
  obtain ⟨h', g3, d3, tk, os3⟩ := s'
  obtain rfl : g3 = s.gens := g
  obtain rfl : d3 = s.drawn := d
  obtain rfl : os3 = s.os := o
  have hal : acc.toList.length = (SetS.signsOf z).length := by rw [Array.length_toList, hacc.1, SetS.signsOf_len]
  have hal2 : acc.toList.length = z.cps.size := by rw [Array.length_toList, hacc.1]
  have hS : StrsAre acc.toList (SetS.signsOf z) := L2.strs_at hal fun j v e => by
    obtain ⟨c, u, e1, e2⟩ := hacc.2 j v (by rw [← Array.getElem?_toList]; exact e)
    refine ⟨⟨#[c]⟩, u, ?_, e2⟩
    unfold SetS.signsOf
    rw [List.getElem?_map, Array.getElem?_toList, e1]
    rfl
  have I1 : Inv X pins σ H { s with heap := h', toks := tk } := I.kept hk
  refine wpAny_bind (wpAny_newList ?_ (by rw [hal2, sizeLine_eq]; omega))
  have hoL : (h'.push (seqObj "list" acc.toList.toArray 0)).get? h'.objs.size = some (seqObj "list" acc.toList.toArray 0) := Heap.get?_push_size _ rfl
  show wpAny _ _ _ _ _ { s with heap := h'.push (seqObj "list" acc.toList.toArray 0), toks := tk }
  refine wpAny_bind (wpAny_holding (wpAny_call_entry PyProof.Rows.slot_list_sort ⟨_, hoL, rfl⟩ PyProof.Rows.entry_list_sort
    (list_sort_treeK strKind_oneLt (s := { s with heap := h'.push (seqObj "list" acc.toList.toArray 0), toks := tk }) hoL hS.keysOf (fun v₁ v₂ rest e => keyKind_strs (by rw [← e]; exact hS)) (by rw [hal2]; exact h64') fun st' hp hs => ⟨_, rfl, ?_⟩)
    (PyProof.Rows.args_list_sort _)))
  obtain ⟨ys, g1, g2, g3⟩ := sorted_out_str hS hp hs
  obtain ⟨e', he'⟩ := PyProof.Rows.sortedHeap_at (vs := acc.toList) (out := (arrOf st').map (·.2)) hoL
  have hlen : (ys.map V.str).length ≤ sizeLine := by
    rw [List.length_map, g2.length_eq, SetS.signsOf_len]
    exact Nat.le_trans (Nat.le_of_lt h64') (by decide)
  refine wpAny_pure ⟨_, rfl, .ref h'.objs.size, upd H h'.objs.size (.lst (ys.map V.str)), I1.laid (t' := tk) (fun b u e => ?_) (Nat.le_refl _)
    (show ObjOk X.prog X.w _ _ _ (.lst (ys.map V.str)) from ⟨hlen, ((arrOf st').map (·.2)).toList, e', vals_of_strs g1, by rw [Array.toArray_toList]; exact he'⟩), rfl, q ys _ g2 g3 (I1.hok.fresh (Nat.le_refl _))⟩
  have hb : b < h'.objs.size := Heap.lt_size e
  rw [PyProof.Rows.sortedHeap_old (Nat.ne_of_lt hb) (by rw [size_push']; exact Nat.lt_succ_of_lt hb)]
  exact Heap.get?_push_of_some _ e
end L2
namespace Prt
open PySem L2 Evl Com TX
section
variable {K : PySem.W.Frag} {σ : L2.St} {H : Hp} {tb : TE}
theorem perm_ones {ys : List Str} {cs : List Nat} (hp : ys.Perm (cs.map fun c => T [c])) : ∃ g : List Nat, ys = g.map (fun c => T [c]) ∧ g.Perm cs := by
  refine ⟨ys.map fun y => (L y).getD 0 0, ?_, ?_⟩
  · rw [List.map_map]
    conv => lhs; rw [← List.map_id ys]
    refine List.map_congr_left fun y hy => ?_
    obtain ⟨c, _, rfl⟩ := List.mem_map.mp (hp.mem_iff.mp hy)
    show T [c] = T [(L (T [c])).getD 0 0]
    rw [L_T]
    rfl
  · have := hp.map fun y => (L y).getD 0 0
    rw [List.map_map] at this
    refine this.trans (List.Perm.of_eq ?_)
    conv => rhs; rw [← List.map_id cs]
    refine List.map_congr_left fun c _ => ?_
    show (L (T [c])).getD 0 0 = c
    rw [L_T]
    rfl
theorem sorted_le_eq {a b : List Nat} (hp : a.Perm b) (ha : a.Pairwise (· ≤ ·)) (hb : b.Pairwise (· ≤ ·)) : a = b :=
  List.Perm.eq_of_pairwise (fun x y _ _ h1 h2 => Nat.le_antisymm h1 h2) ha hb hp
/-- "".join(sorted(z)) -/
theorem evp_joinSortedTx {z : Str} (hb : Ev tb σ H (.str z)) (hz : z.length < 64) :
    EvP (tM1 (rJoin K) (tC (.str "")) (tCB rSortedTx (tCons tb tNil))) σ H (fun v => ∃ g, v = .str (T g) ∧ g.Perm (L z) ∧ g.Pairwise (· ≤ ·)) := fun H1 e Q q =>
  ⟨⟨"", rfl⟩, hb H1 e _ fun H2 e2 => ⟨z, rfl, hz, fun ys p hp hs hn => by
    obtain ⟨g, rfl, hg⟩ := perm_ones (cs := L z) hp
    have hl : g.length < 64 := by rw [hg.length_eq, ← len_L]; exact hz
    refine ⟨"", p, g.map (fun c => T [c]), rfl, rfl, Or.inl (sq_of upd_same), ?_, ?_⟩
    · have := sum_le (n := 1) (ys := g.map fun c => T [c]) (fun y hy => by
        obtain ⟨c, _, rfl⟩ := List.mem_map.mp hy
        exact Nat.le_refl _)
      rw [List.length_map] at this ⊢
      rw [emp_len]
      omega
    · rw [join_ones]
      exact q _ _ (e2.trans (Ex.new hn)) ⟨g, rfl, hg, sorted_ones hs⟩⟩⟩
theorem ev_opP {ta : TE} {P : V → Prop} {r : R2} {y z : V} (ha : EvP ta σ H P) (hb : Ev tb σ H y) (hr : ∀ x H1, Ex H H1 → P x → RV r x y H1 z) : Ev (tOp r ta tb) σ H z := fun H1 e Q q =>
  ha H1 e _ fun x H2 e2 p => hb H2 (e.trans e2) _ fun H3 e3 => hr x H3 ((e.trans e2).trans e3) p H3 (Ex.refl _) Q fun H4 e4 => q H4 ((e2.trans e3).trans e4)
end
end Prt

set_option Elab.async false
set_option linter.all false
set_option maxRecDepth 100000
set_option maxHeartbeats 2000000
/-! Our own layer: a def's promise where no repr of a container is under way. -/
namespace L2
open PySem PySem.Spec PyProof.Rows
/-- as FnOk, for callers within no repr -/
structure FnG (P : Program) (w : World) (K : PySem.W.Frag) (mg : Str → Option Value) (base : Heap) (k : Nat) (f : Addr) (fd : FuncData) (ps : List Str) (sp : Sp) : Prop where
  many : ∀ vs H Q E, sp vs H Q E → vs.length = ps.length
  goes : ∀ (A : Around) (outer : List Env) (s : Shared) (H : Hp) (args : Args) (us : List Value) (vs : List V) (Q : VK) (E : XK), A.guards = some [] → Room k A → Env0 P w K mg base A outer s H →
    BindsTo s fd args (ps.zip us) → Vals vs us → sp vs H Q E → codeAny (model P w) A (.call (.ref f) args) (CR CX0 outer P w H s Q E) s
section
variable {P : Program} {w : World} {K : PySem.W.Frag} {mg : Str → Option Value} {base : Heap} {k : Nat} {f : Addr}
theorem Fun.okG {x qual : Str} {st : Stmt} {fd : FuncData} {N ps : List Str} {sp : Sp} (F : Fun K x qual st f fd) (S : FnScope N ps (defScope st)) (many : ∀ vs H Q E, sp vs H Q E → vs.length = ps.length)
    (body : ∀ (cdv : Value) (A : Around) (outer : List Env) (s : Shared) (H : Hp) (vs : List V) (Q : VK) (E : XK), (cxOf CX0 P w K mg base N qual (defScope st) f cdv A outer s H E).A.guards = some [] →
      Room k (A.deeper (envOfC qual (defScope st) s.heap.objs.size f cdv)) → sp vs H Q E →
      ∃ t, PSs (cxOf CX0 P w K mg base N qual (defScope st) f cdv A outer s H E).nox (defBody st) t ∧ t { nx := fun _ H' => Q .non H', rt := Q } (start N vs) H) :
    FnG P w K mg base (k + 1) f fd ps sp := by
  obtain ⟨oc, od, kV, doc, pm, an, cdv, ct, osl, efd, at_, hcode⟩ := F.ex
  subst efd
  refine ⟨many, fun A outer s H args us vs Q E hgu room env bnd rel hsp => ?_⟩
  have up : ∀ b o, base.get? b = some o → s.heap.get? b = some o := fun b o e => (env.bs b o e).1
  have KX : K.In s.heap := env.mod.kin.keeps up
  have cells : ∀ y ∈ ps.zip us, (defScope st).names.lookup y.1 = some .local ∨ ((defScope st).names.lookup y.1 = some .cell ∧ ((cellsFrom (s.heap.objs.size + 1) (defScope st).names []).lookup y.1).isSome = true) := fun y hy => by
    obtain ⟨n, v⟩ := y
    have := S.par n (List.of_mem_zip hy).1
    exact this.imp id fun q => ⟨q, PySem.W.cellsFrom_some _ _ _ (.inl q)⟩
  apply codeAny_call_function room.depth (KX _ _ at_) rfl S.co S.gen rfl (PySem.W.codeRec_of KX hcode)
  apply bnd
  apply wpAny_newFunctionEnv_cells S.kind cells
  intro env' henv s1 x
  subst henv
  refine ⟨(env.mod.nolimit.keeps up).keeps x.toInCall.keep, codeAny_func ?_⟩
  have hgu' : (cxOf CX0 P w K mg base N qual (defScope st) f cdv A outer s H E).A.guards = some [] := hgu
  obtain ⟨t, ht, hq⟩ := body cdv A outer s H vs Q E hgu' (room.deeper _) hsp
  have J := inv_start (CX := CX0) (E := E) S room.hd env (many _ _ _ _ hsp) rel x
  have ran := ht.nox.run [] s1 (start N vs) H _ J hq
  refine wpAny_mono ran (fun fl s' hs => ?_) fun _ _ hs => hs
  match fl, hs with
  | .ret u, ⟨v, σ', H', J', rv, q⟩ => exact ⟨v, H', J'.os, J'.bare, J'.base, J'.hok, rv, q⟩
  | .next, ⟨σ', H', J', q⟩ => exact ⟨.non, H', J'.os, J'.bare, J'.base, J'.hok, rfl, q⟩
  | .brk, ⟨_, _, _, q⟩ => exact q.elim
  | .cont, ⟨_, _, _, q⟩ => exact q.elim
end
section
variable {X : Cx} {k : Nat} {f : Addr} {fd : FuncData} {ps : List Str} {sp : Sp} {dvs : List V} {ds : List Value} {x : Str} {p pos : Pos} {e : Expr} {es : List Expr} {t : TA}
/-- f(e, ..) within no repr -/
theorem pe_callG (F : FnG X.prog X.w X.K X.mg X.base k f fd ps sp) (gu : X.A.guards = some []) (hr : Room k X.A) (hg : Gl X x) (hm : X.mg x = some (.ref f)) (hk : PySem.W.keepIn X.K (.ref f) = true) (hb : Binds X.K fd ps ds) (hd : Vals dvs ds)
    (ha : PA X (e :: es) t) (hdb : (x == ("__debug__" : Str)) = false := by decide) (he : starEach (e :: es) X.env = (false, eval e X.env) :: starEach es X.env := by rfl) (hpl : (backTo pos (starEach es X.env)).any (·.1) = false := by rfl) :
    PE X (.Call (.Name x p) (e :: es) [] pos) (tCall sp dvs E0 t) := by
  constructor
  intro pins s σ H Q I h
  apply wpAny_Call_Name_kw
  apply ld_glob I hg hm _ hdb
  refine PySem.W.callWith_K (h₀ := X.base) I.ok.mod.kin hk (thn (ha.run pos pins s σ H _ I h) fun us s1 got => ?_) he hpl
  obtain ⟨vs, H1, J, r, q⟩ := got
  refine ⟨J.kIn, ?_⟩
  have all := r.append hd
  have lens : (us ++ ds).length = ps.length := all.length.symm.trans (F.many _ _ _ _ q)
  have ran := F.goes X.A X.stack s1 H1 ⟨us, []⟩ (us ++ ds) (vs ++ dvs) Q E0 gu hr J.env0 (hb s1 us J.kIn lens) all q
  refine wpAny_call (codeAny_mono ran fun r2 s2 h2 => ?_)
  match r2, h2 with
  | .error _, h2 => exact h2.elim
  | .ok (.ret _), h2 => exact J.after h2
  | .ok .next, h2 => exact h2.elim
  | .ok .brk, h2 => exact h2.elim
  | .ok .cont, h2 => exact h2.elim
end
section
variable {P : Program} {w : World} {K : PySem.W.Frag} {mg mb : Str → Option Value} {k n : Nat} {fa a : Addr} {fd : FuncData} {x : Str} {sp : Sp} {s₁ : Shared} {vs : List Value} {ns : List Int}
/-- the heap in which just the script is told of, where it is none of the top's own -/
theorem script_heap (KX : K.In s₁.heap) (ha : s₁.heap.get? a = some { cls := .type "list", data := .seq vs.toArray }) (hi : IntsAre vs ns) (hl : ns.length ≤ sizeLine) :
    ∃ H : Hp, Only H ∧ SqL K H a (ns.map V.int) ∧ HOk P w H s₁.heap ∧ ∀ b, H b ≠ none → b = a ∧ K.lookup a = none := by
  have rv := vals_ints hi
  have lenV := hi.length
  cases hk : K.lookup a with
  | some o =>
    have e := (KX a o hk).symm.trans ha
    cases e
    exact ⟨fun _ => none, fun _ => .inl rfl, .inr ⟨_, vs.toArray, _, hk, rfl, rfl, rfl, by rw [List.size_toArray, lenV]; exact hl, by simpa using rv⟩, fun b u z => (by have z' : (none : Option HO) = some u := z; cases z'), fun b z => absurd rfl z⟩
  | none =>
    let o : Obj := { cls := .type "list", data := .seq vs.toArray }
    have at_ : ∀ b u, (if b = a then some (HO.frz o (.lst (ns.map V.int))) else none) = some u → b = a ∧ u = .frz o (.lst (ns.map V.int)) := fun b u z => by
      by_cases hb : b = a
      · rw [if_pos hb] at z
        exact ⟨hb, (Option.some.inj z).symm⟩
      · rw [if_neg hb] at z
        cases z
    refine ⟨fun b => if b = a then some (.frz o (.lst (ns.map V.int))) else none, fun b => ?_, .inl (.inr ⟨o, if_pos rfl⟩), fun b u z => ?_, fun b z => ⟨?_, rfl⟩⟩
    · cases e : (if b = a then some (HO.frz o (.lst (ns.map V.int))) else none) with
      | none => exact .inl e
      | some u => exact .inr ⟨_, _, by rw [show (fun b => if b = a then some (HO.frz o (.lst (ns.map V.int))) else none) b = some u from e, (at_ b u e).2]⟩
    · obtain ⟨rfl, rfl⟩ := at_ b u z
      exact ⟨ha, by rw [List.length_map]; exact hl, vs, _, rv, ha⟩
    · cases e : (if b = a then some (HO.frz o (.lst (ns.map V.int))) else none) with
      | none => exact (z e).elim
      | some u => exact (at_ b u e).1
theorem lawG (KX : K.In s₁.heap) (hns : s₁.heap.Ns mainGlobals mg) (hb : s₁.heap.Ns builtinsNs mb) (hbb : ∀ x : Str, x ≠ "__name__" → mb x = bootBuiltins x) (hlim : s₁.heap.NoLimit) (hg : s₁.gens = #[])
    (ha : s₁.heap.get? a = some { cls := .type "list", data := .seq vs.toArray }) (hi : IntsAre vs ns) (hl : ns.length ≤ sizeLine) (room : Room k callerA)
    (F : ∀ base : Heap, K.In base → base.Ns mainGlobals mg → FnG P w K mg base k fa fd [x] sp) (bnd : ∀ (s : Shared) (u : Value), BindsTo s fd ⟨[u], []⟩ [(x, u)])
    (hsp : ∀ H : Hp, SqL K H a (ns.map V.int) → sp [.ref a] H (fun v _ => v = .bl true) fun _ _ _ => False) :
    codeAny (model P w) callerA (.call (.ref fa) ⟨[.ref a], []⟩) (fun r s' => r = .ok (.ret (.bool true)) ∧ OldK s₁.heap s'.heap ∧ s'.os = s₁.os ∧ AllBare s'.gens) s₁ := by
  obtain ⟨H, only, hS, hok, hA⟩ := script_heap (P := P) (w := w) KX ha hi hl
  -- what no dict is, is not told of
  have offD : ∀ {b : Addr} {o : Obj} {es : Array DictEntry} {ep : Nat}, s₁.heap.get? b = some o → o.data = .dict es ep → H b = none := fun {b o es ep} e d => by
    by_cases q : H b = none
    · exact q
    · obtain ⟨rfl, _⟩ := hA b q
      rw [ha] at e
      obtain rfl := Option.some.inj e
      cases d
  have offK : ∀ {b : Addr} {o : Obj}, K.lookup b = some o → H b = none := fun {b o} e => by
    by_cases q : H b = none
    · exact q
    · obtain ⟨rfl, z⟩ := hA b q
      rw [z] at e
      cases e
  have names : ∀ {b : Addr} {m : Str → Option Value}, s₁.heap.Ns b m → (hidT s₁.heap H).Ns b m := fun {b m} h => by
    obtain ⟨o, es, ep, e, d, r⟩ := h
    exact ⟨o, es, ep, hidT_get e (offD e d), d, r⟩
  have KB : K.In (hidT s₁.heap H) := fun b o e => hidT_get (KX b o e) (offK e)
  have lim : (hidT s₁.heap H).NoLimit := by
    obtain ⟨mc, h1, h2⟩ := hlim
    exact ⟨mc, names h1, h2⟩
  have env : Env0 P w K mg (hidT s₁.heap H) callerA [] s₁ H :=
    { frames := rfl, mod := ⟨KB, names hns, ⟨mb, names hb, hbb⟩, lim⟩, bs := fun b o e => of_hidT e, bsz := Nat.le_of_eq (hidT_size _ _), funs := trivial, frf := fun b z => (nomatch (show b ∈ ([] : List Addr) from z)), hok := hok, bare := .of_eq hg }
  have ran := (F _ KB (names hns)).goes callerA [] s₁ H ⟨[.ref a], []⟩ [.ref a] [.ref a] _ _ rfl room env (bnd s₁ (.ref a)) (.cons rfl .nil) (hsp H hS)
  refine codeAny_mono ran fun r s' h => ?_
  match r, h with
  | .error _, h => exact h.elim
  | .ok .next, h => exact h.elim
  | .ok .brk, h => exact h.elim
  | .ok .cont, h => exact h.elim
  | .ok (.ret u), ⟨v, H', os, bare, un, hok', rel, q⟩ =>
    obtain rfl : v = .bl true := q
    obtain rfl : u = Value.bool true := rel
    refine ⟨rfl, OldK.of_keep fun b o e => ?_, os, bare⟩
    rcases only b with z | ⟨ob, xs, z⟩
    · exact un.keep b o e z (fun m => (nomatch (show b ∈ ([] : List Addr) from m))) (fun m => (nomatch m))
    · have e1 := (hok b _ z).1
      have e2 := (hok' b _ (un.frzs b ob _ z)).1
      rw [e] at e1
      obtain rfl := Option.some.inj e1
      exact e2
end
theorem walkG {l : PySem.W.OpenLaw} {n k : Nat} {q : Program} {loose : List Str} {XP : (Str → Option Value) → Heap → Prop} {YP : World → Heap → Prop} {d : DefRec} {K : Params → PySem.W.Frag} {sp : World → Sp} {x : Str}
    (most : l.most = some n) (small : n ≤ sizeLine) (hdf : d.params.defaults = []) (room : Room k callerA) (hY : ∀ (w : World) (h : Heap), YP w h → (K w.params).In h)
    (F : ∀ (w : World) (mg : Str → Option Value) (fa : Addr) (h : Heap), (K w.params).In h → h.Ns mainGlobals mg → mg d.name = some (.ref fa) →
      ∃ fd : FuncData, (∀ (s : Shared) (u : Value), BindsTo s fd ⟨[u], []⟩ [(x, u)]) ∧ ∀ base : Heap, (K w.params).In base → base.Ns mainGlobals mg → FnG l.prog w (K w.params) mg base k fa fd [x] (sp w))
    (hsp : ∀ (w : World) (H : Hp) (a : Addr) (ns : List Int), ns.length ≤ n → SqL (K w.params) H a (ns.map V.int) → sp w [.ref a] H (fun v _ => v = .bl true) fun _ _ _ => False) :
    PySem.W.WalkO q loose XP YP l.row.toRowW d [] (fun f vs => PySem.call f vs) := by
  apply Att.attach_call most hdf
  intro w s₀ s₁ mg mb fa o pm cd doc a vs ns G Y ho hd hcd hmg hobj hints hlen hg
  have KX := hY w _ Y
  obtain ⟨fd, bnd, hF⟩ := F w mg fa _ KX G.T.g hmg
  exact lawG KX G.T.g G.T.b G.T.builtins G.T.nolimit hg hobj hints (Nat.le_trans hlen small) room hF bnd fun H hS => hsp w H a ns hlen hS
end L2
namespace L2
open PySem PySem.Spec PyProof.Rows
/-! ### repr of what is told wholly -/
def rReprD (K : PySem.W.Frag) : List V → Hp → VK → Prop := fun vs H Q => ∃ v d, vs = [v] ∧ Dp K H v d ∧ d.showable = true ∧ d.hasDict = false ∧ d.depth ≤ 60 ∧ d.shown.length ≤ sizeLine ∧ Q (.str d.shown) H
theorem call_reprD {X : Cx} (gu : X.A.guards = some []) (hu : X.A.units + 64 < cLine) : CallR X (.builtin "repr") (rReprD X.K) := by
  intro pins s σ H xs us Q I r h
  obtain ⟨v, d, rfl, hd, hs, hdi, hde, hz, q⟩ := h
  obtain ⟨u, rfl, ru⟩ := vals1 r
  obtain ⟨as, rd⟩ := Dp.reads I d v u hd ru
  have big : ∀ a, u = .ref a → wpAny (model X.prog X.w) X.A (call (.builtin "repr") [u]) (EP X pins σ Q) X.xe s := fun a e => by
    subst e
    exact repr_of_reads' rd hs (PyData.noDict_hsm hdi) gu (by omega) (fun _ _ e => e) (fun h' u tk hk => ⟨.str d.shown, H, I.kept hk, ⟨_, rfl⟩, q⟩) hz
  cases hd with
  | non =>
    cases ru
    exact PySem.P.repr_of_none ⟨.str "None", H, I.tok _, ⟨_, rfl⟩, by simpa only [PyData.shown] using q⟩
  | bl b =>
    cases ru
    exact PySem.P.repr_of_bool ⟨.str (if b then "True" else "False"), H, I.tok _, ⟨_, rfl⟩, by simpa only [PyData.shown] using q⟩
  | int i =>
    obtain ⟨t, rfl⟩ := ru
    exact PySem.P.repr_of_int (by simpa only [PyData.showable, decide_eq_true_eq] using hs) ⟨.str (toString i), H, I.tok _, ⟨_, rfl⟩, by simpa only [PyData.shown] using q⟩
  | str x =>
    obtain ⟨t, rfl⟩ := ru
    exact PySem.P.repr_of_str ⟨.str (reprText x), H, I.tok _, ⟨_, rfl⟩, by simpa only [PyData.shown] using q⟩ (by simpa only [PyData.shown] using hz)
  | lst _ _ => exact big _ ru
  | tup _ _ => exact big _ ru
theorem pe_orTK {X : Cx} {K : PySem.W.Frag} {a b : Expr} {ta tb : TE} {rest : List Expr} {pos : Pos} (h : X.K = K) (ha : PE X a ta) (hb : PE X (.BoolOp .Or (b :: rest) pos) tb) : PE X (.BoolOp .Or (a :: b :: rest) pos) (tOrT K ta tb) := h ▸ pe_orT ha hb
/-- an own class, of whose objects isinstance tells -/
structure IsC (K : PySem.W.Frag) (C : Addr) : Prop where
  cl : Cls K C
  ca : PySem.W.findIn K (.ref C) "__class__" = some (some (.builtin "object.__class__"))
  cg : PySem.W.specialIn K (.builtin "object.__class__") "__get__" = some (some (.builtin "getset_descriptor.__get__"))
  ct : PySem.W.takesIn K (.builtin "object.__class__") = some true
  cm : PySem.W.mroIn K C (.type "object") = some true
end L2
namespace Evl
open PySem L2 Com TX
section
variable {K : PySem.W.Frag} {σ : L2.St} {H : Hp} {ta tb te : TE}
theorem rc_isC {a C dx : Addr} {fs : List (Str × V)} {cv : V} {u : Value} {b : Bool} (ha : H a = some (.ins C dx fs)) (c : IsC K C) (k : ClsV cv u) (e : PySem.W.kitOne K (.ref C) u = some b) : RC (rIsi K) [.ref a, cv] H (.bl b) :=
  rc_val fun H1 ex _ q => ⟨.ref a, cv, .ref C, u, b, rfl, k, .base (.ins (ex _ _ ha) c.cl c.ca c.cg c.ct c.cm), e, q⟩
theorem ev_isT {a C dx : Addr} {fs : List (Str × V)} {cs : List V} {us : List Value} {b : Bool} (hx : Ev ta σ H (.ref a)) (ht : EvU tb σ H cs) (ha : H a = some (.ins C dx fs)) (c : IsC K C) (k : Paired ClsV cs us) (e : PySem.W.kitAny K (.ref C) us = some b) :
    Ev (tCB (rIsiT K) (tCons ta (tCons tb tNil))) σ H (.bl b) := fun H1 e1 Q q => hx H1 e1 _ fun H2 e2 => ht H2 (e1.trans e2) _ fun p H3 _ e3 h3 =>
  ⟨.ref a, p, cs, .ref C, us, b, rfl, h3, k, .base (.ins (((e1.trans e2).trans e3) _ _ ha) c.cl c.ca c.cg c.ct c.cm), e, q H3 (e2.trans e3)⟩
theorem rc_reprD {v : V} {d : PyData} (h : ∀ H1, Ex H H1 → Dp K H1 v d) (hs : d.showable = true) (hdi : d.hasDict = false) (hde : d.depth ≤ 60) (hz : d.shown.length ≤ sizeLine) : RC (rReprD K) [v] H (.str d.shown) :=
  rc_val fun H1 ex _ q => ⟨v, d, rfl, h H1 ex, hs, hdi, hde, hz, q⟩
/-- repr of a new list of texts -/
theorem ev_reprL {ys : List Str} {xs : List V} {d : PyData} (h : EvL ta σ H xs) (hx : xs = ys.map V.str) (hd : d = .list (ys.map PyData.str)) (hs : d.showable = true) (hdi : d.hasDict = false) (hde : d.depth ≤ 60) (hz : d.shown.length ≤ sizeLine) :
    Ev (tCB (rReprD K) (tCons ta tNil)) σ H (.str d.shown) := fun H1 e1 Q q => h H1 e1 _ fun p H2 _ e2 h2 => by
  subst hx hd
  refine ⟨.ref p, _, rfl, .lst (sq_of h2) ?_, hs, hdi, hde, hz, q H2 e2⟩
  clear h2 hs hdi hde hz q h
  induction ys with
  | nil => exact .nil
  | cons y r ih => exact .cons (.str y) ih
theorem ev_orTx {z d : Str} (ha : Ev ta σ H (.str z)) (hz : z.length ≤ 100000) (hb : Ev tb σ H (.str d)) : Ev (tOrT K ta tb) σ H (.str (if z = "" then d else z)) := fun H1 e Q q =>
  ha H1 e _ fun H2 e2 => ⟨((z.length : Int) != 0), ⟨sz_of hz, rfl⟩, by
    by_cases h : z = ""
    · subst h
      rw [if_pos rfl] at q
      have : ((("" : Str).length : Int) != 0) = false := by decide +kernel
      rw [this, if_neg Bool.false_ne_true]
      exact hb H2 (e.trans e2) _ fun H3 e3 => q H3 (e2.trans e3)
    · rw [if_neg h] at q
      have : ((z.length : Int) != 0) = true := by
        rw [bne_iff_ne]
        intro h0
        apply h
        rw [empty_cps]
        refine eq_L ?_
        have h' : (L z).length = 0 := by rw [← len_L]; omega
        rw [List.length_eq_zero_iff.mp h']
      rw [this, if_pos rfl]
      exact q H2 e2⟩
theorem ev_methV {C a dx : Addr} {m : Str} {sp : Sp} {E : XK} {t : TA} {vs : List V} {v : V} {fs : List (Str × V)} (h : Ev ta σ H (.ref a)) (ho : H a = some (.ins C dx fs)) (hm : fs.lookup m = none) (ht : EvA t σ H vs) (hs : SpV sp (.ref a :: vs) H v) :
    Ev (tMeth C m sp [] E ta t) σ H v := fun H1 e Q q => h H1 e _ fun H2 e2 => ⟨a, dx, fs, rfl, e2 _ _ (e _ _ ho), hm, ht H2 (e.trans e2) _ fun H3 e3 => by
      rw [List.append_nil]
      exact hs H3 ((e.trans e2).trans e3) Q (fun H4 e4 => q H4 ((e2.trans e3).trans e4)) E⟩
end
end Evl
namespace TX
open PySem
theorem ends_eq {x y : Str} (h : y.length ≤ x.length) : Txt.endswith x y = decide ((L x).drop (x.length - y.length) = L y) := by
  unfold Txt.endswith
  rw [StrLaws.subAt_eq, decide_eq_true (show 0 + y.length ≤ x.length by omega), Bool.true_and]
  have : ((x.cps.toList.drop (x.length - y.length)).take y.length) = (L x).drop (x.length - y.length) := by
    rw [List.take_of_length_le]
    rw [List.length_drop]
    have := len_L x
    show (L x).length - _ ≤ _
    omega
  rw [this, Bool.eq_iff_iff, beq_iff_eq, decide_eq_true_eq]
theorem starts_eq {x y : Str} (h : y.length ≤ x.length) : Txt.startswith x y = decide ((L x).take y.length = L y) := by
  unfold Txt.startswith
  rw [StrLaws.subAt_eq, decide_eq_true (show 0 + y.length ≤ x.length by omega), Bool.true_and, Bool.eq_iff_iff, beq_iff_eq, decide_eq_true_eq]
  rfl
end TX

set_option Elab.async false
set_option linter.all false
set_option maxRecDepth 100000
set_option maxHeartbeats 2000000
/-! Our own rules: sorted of data, and by an own def's keys. -/
namespace L2
open PySem PySem.Spec PyProof.Rows Evl
section
variable {X : Cx} {pins : List (Addr × Obj)} {σ : St} {H H0 : Hp} {s sI : Shared} {a : Addr} {o : HO}
/-- an object that came since the state sI is told of from now on -/
theorem Inv.track2 (I : Inv X pins σ H s) (J : Inv X pins σ H0 sI) (new : sI.heap.get? a = none) (hx : a ∉ X.ex)
    (na : H a = none) (nL : X.env.locals ≠ a) (nC : ∀ x c, X.env.cells.lookup x = some c → c ≠ a)
    (ok : ObjOk X.prog X.w (upd H a o) s.heap a o) : Inv X pins σ (upd H a o) s where
  ok := I.ok
  os := I.os
  bare := I.bare
  base :=
    { keep := I.base.keep
      slot := I.base.slot
      free := fun b ob q n hb => by
        have : b ≠ a := by
          rintro rfl
          obtain ⟨o', e⟩ := J.base.there b ob q hx
          rw [new] at e; cases e
        rw [upd_ne this]; exact I.base.free b ob q n hb
      there := I.base.there
      tups := fun b xs q => by
        have z := I.base.tups b xs q
        rw [upd_ne (ne_of_none z na)]; exact z
      frzs := fun b ob u q => by
        have z := I.base.frzs b ob u q
        rw [upd_ne (ne_of_none z na)]; exact z
      tbls := fun b ps q => by
        obtain ⟨m, z⟩ := I.base.tbls b ps q
        exact ⟨m, by rw [upd_ne (ne_of_none z na)]; exact z⟩ }
  loc := I.loc
  cell := I.cell
  free := by rw [upd_ne nL]; exact I.free
  freeC := fun x c e => by rw [upd_ne (nC x c e)]; exact I.freeC x c e
  pin := fun p hp => by
    obtain ⟨e, n, r⟩ := I.pin p hp
    have z := (J.pin p hp).1
    have : p.1 ≠ a := fun q => by rw [q, new] at z; cases z
    exact ⟨e, by rw [upd_ne this]; exact n, r⟩
  hok := fun b u q => by
    by_cases hb : b = a
    · subst hb; rw [upd_same] at q; cases q; exact ok
    · rw [upd_ne hb] at q
      exact (I.hok b u q).stay (fun _ _ _ r => r) (fun c r => by rw [upd_ne (ne_of_none r na)]; exact r)
        fun c xs r => by rw [upd_ne (ne_of_none r na)]; exact r
  len := I.len
end
mutual
theorem Dp.mono {K : PySem.W.Frag} {H H' : Hp} (e : Ex H H') : ∀ (d : PyData) (v : V), Dp K H v d → Dp K H' v d
  | .none, _, h => by cases h; exact .non
  | .bool b, _, h => by cases h; exact .bl b
  | .int i, _, h => by cases h; exact .int i
  | .str x, _, h => by cases h; exact .str x
  | .list ds, _, h => by
    cases h with
    | lst h1 h2 => exact .lst (ex_l e h1) (DpAll.mono e ds _ h2)
  | .tuple ds, _, h => by
    cases h with
    | tup h1 h2 => exact .tup (ex_t e h1) (DpAll.mono e ds _ h2)
  | .dict kvs, _, h => by cases h
theorem DpAll.mono {K : PySem.W.Frag} {H H' : Hp} (e : Ex H H') : ∀ (ds : List PyData) (vs : List V), DpAll K H vs ds → DpAll K H' vs ds
  | [], _, h => by cases h; exact .nil
  | d :: ds, _, h => by
    cases h with
    | cons h1 h2 => exact .cons (Dp.mono e d _ h1) (DpAll.mono e ds _ h2)
end
theorem DpAll.snoc {K : PySem.W.Frag} {H : Hp} {v : V} {d : PyData} : ∀ {vs : List V} {ds : List PyData}, DpAll K H vs ds → Dp K H v d → DpAll K H (vs ++ [v]) (ds ++ [d])
  | _, _, .nil, h => .cons h .nil
  | _, _, .cons h1 h2, h => .cons h1 (DpAll.snoc h2 h)
theorem vals_each : ∀ {zs : List (V × PyData)} {us : List Value}, Vals (zs.map Prod.fst) us → PySem.W.EachIs (fun u (b : V × PyData) => RelV b.1 u) us zs
  | [], _, h => by cases h; exact .nil
  | z :: zs, _, h => by
    cases h with
    | cons h1 h2 => exact .cons h1 (vals_each h2)
theorem each_vals : ∀ {zs : List (V × PyData)} {us : List Value}, PySem.W.EachIs (fun u (b : V × PyData) => RelV b.1 u) us zs → Vals (zs.map Prod.fst) us
  | _, _, .nil => .nil
  | _, _, .cons h1 h2 => .cons h1 (each_vals h2)
section
variable {X : Cx} {pins : List (Addr × Obj)} {σ : St} {H : Hp} {s : Shared}
theorem dp_each (I : Inv X pins σ H s) : ∀ {ds : List PyData} {vs : List V} {us : List Value}, DpAll X.K H vs ds → Vals vs us → PySem.W.EachIs (fun u d => ∃ as, Reads s.heap u d as) us ds
  | [], _, _, h, r => by
    cases h
    cases r
    exact .nil
  | d :: ds, _, _, h, r => by
    cases h with
    | cons h1 h2 =>
      cases r with
      | cons r1 r2 => exact .cons (Dp.reads I d _ _ h1 r1) (dp_each I h2 r2)
theorem dp_pairs {K : PySem.W.Frag} : ∀ {zs : List (V × PyData)}, (∀ z ∈ zs, Dp K H z.1 z.2) → DpAll K H (zs.map Prod.fst) (zs.map Prod.snd)
  | [], _ => .nil
  | z :: zs, h => .cons (h z List.mem_cons_self) (dp_pairs fun y hy => h y (List.mem_cons_of_mem _ hy))
end
/-- sorted(xs) of data -/
def rSortedDt (K : PySem.W.Frag) : List V → Hp → VK → Prop := fun vs H Q => ∃ (a : Addr) (zs : List (V × PyData)), vs = [V.ref a] ∧ SqL K H a (zs.map Prod.fst) ∧ (∀ z ∈ zs, Dp K H z.1 z.2) ∧ PySem.W.AllAlike (zs.map Prod.snd) ∧ PySem.W.Sortable (zs.map Prod.snd) ∧ (∀ z ∈ zs, z.2.depth ≤ 60) ∧ zs.length ≤ 100000 ∧
  ∀ p, H p = none → Q (.ref p) (upd H p (.lst ((zs.mergeSort (PySem.W.dataLe false Prod.snd)).map Prod.fst)))
theorem cr_sortedDt {X : Cx} (hu : X.A.units + 64 < cLine) : CallR X (.builtin "sorted") (rSortedDt X.K) := by
  intro pins s σ H vs us Q I r h
  obtain ⟨a, zs, rfl, hs, hd, hal, hso, hde, hlen, q⟩ := h
  obtain ⟨its, rv, hl, hz⟩ := I.list hs
  rw [Vals.ref1 r]
  have er := dp_each I (dp_pairs hd) rv
  refine PySem.W.sorted_data (β := V × PyData) (enc := Prod.snd) (bs := zs) (R := fun u b => RelV b.1 u) hl.isList (vals_each rv) (PySem.W.each_of_map Prod.snd er) hal hso (sz_of hlen) (fun b hb => by have := hde b hb; omega) fun out ho eo => ?_
  obtain ⟨ep, he'⟩ := PyProof.Rows.sortedAll_at s.heap its out.toArray
  have rel := each_vals eo
  have len : ((zs.mergeSort (PySem.W.dataLe false Prod.snd)).map Prod.fst).length ≤ sizeLine := by
    rw [List.length_map, List.length_mergeSort]
    exact sz_of hlen
  exact ⟨.ref _, upd H (s.heap.objs.size + 1) (.lst _), I.laid (t' := s.toks) (fun _ _ => PyProof.Rows.sortedAll_old) (Nat.le_succ _) ⟨len, out, ep, rel, he'⟩, rfl, q _ (I.hok.fresh (Nat.le_succ _))⟩
end L2

set_option Elab.async false
set_option linter.all false
set_option maxRecDepth 100000
set_option maxHeartbeats 2000000
namespace L2
open PySem PySem.Spec PyProof.Rows Evl
/-- sorted(xs, key=f), f an own def that tells data of each item -/
def rSortedBy (K : PySem.W.Frag) (f : Addr) (sp : Sp) : List V → List V → Hp → VK → Prop := fun vs zs H Q => ∃ (a : Addr) (bs : List (V × PyData)), vs = [V.ref a] ∧ zs = [V.ref f] ∧ SqL K H a (bs.map Prod.fst) ∧ PySem.W.AllAlike (bs.map Prod.snd) ∧ PySem.W.Sortable (bs.map Prod.snd) ∧ (∀ b ∈ bs, b.2.depth ≤ 60) ∧ bs.length ≤ 100000 ∧
  (∀ b ∈ bs, ∀ H1, Ex H H1 → ∀ Q1 : VK, (∀ v H2, Ex H1 H2 → Dp K H2 v b.2 → Q1 v H2) → sp [b.1] H1 Q1 E0) ∧
  ∀ p H', Ex H H' → H p = none → H' p = none → Q (.ref p) (upd H' p (.lst ((bs.mergeSort (PySem.W.dataLe false Prod.snd)).map Prod.fst)))
theorem DpAll.len {K : PySem.W.Frag} {H : Hp} : ∀ {vs : List V} {ds : List PyData}, DpAll K H vs ds → vs.length = ds.length
  | _, _, .nil => rfl
  | _, _, .cons _ h => by rw [List.length_cons, List.length_cons, h.len]
section
variable {X : Cx} {pins : List (Addr × Obj)} {σ : St} {H H' : Hp} {s s' : Shared}
theorem off_stack {b : Addr} (ok : X.Ok) (h : FpOk X pins H b) : b ∉ frs X.stack := fun hm => by
  have h2 := h.2.1
  have h3 := h.2.2.1
  rcases ok.stk with e | ⟨e, hf⟩
  · rw [e] at hm
    exact h3 hm
  · rw [e] at hm
    obtain ⟨env, he, q⟩ := List.mem_filterMap.mp hm
    rcases List.mem_cons.mp he with rfl | he
    · rw [hf] at q
      exact h2 (Option.some.inj q).symm
    · exact h3 (List.mem_filterMap.mpr ⟨env, he, q⟩)
theorem cr_sortedBy {k : Nat} {f : Addr} {fd : FuncData} {ps : List Str} {sp : Sp} (F : FnOk X.prog X.w X.K X.mg X.base CX0 k f fd ps sp) (hr : Room (k + 2) X.A) (hb : Binds X.K fd ps []) (hcalm : X.calm = true) (hex : X.ex = []) :
    CallRK X (.builtin "sorted") [Str.ofString "key"] (rSortedBy X.K f sp) := by
  intro pins s σ H vs zs us ws Q I r rz h
  obtain ⟨a, bs, rfl, rfl, hS, hal, hso, hde, hlen, turn, q⟩ := h
  obtain ⟨its, rv, hl, _⟩ := I.list hS
  obtain rfl := Vals.ref1 r
  obtain ⟨w1, rfl, e1⟩ := vals1 rz
  obtain rfl : w1 = Value.ref f := e1
  have lits : its.length = bs.length := by rw [← rv.length, List.length_map]
  have sits : its.length ≤ sizeLine := by rw [lits]; exact sz_of hlen
  refine PySem.W.sorted_of_sort hl.isList sits (PyProof.Rows.ksk_s1 _ _) (fun _ => PyProof.Rows.ksk_l1 _ _) fun E' => ?_
  show wpAny _ _ (Builtin.«list.sort» ⟨[.ref (s.heap.objs.size + 1)], [(Str.ofString "key", .ref f)]⟩) _ _ _
  rw [PyProof.Rows.ksk_t1]
  have atN := PySem.W.copyHeap_at s.heap its
  unfold ksk_tree
  refine wpAny_bind (listItems_at (n := 0) atN rfl ?_)
  refine wpAny_bind (listUpdate_at (n := 0) atN rfl ?_ (by rw [List.size_toArray]; exact sits) (Nat.zero_le _))
  obtain ⟨eN, atN1⟩ : ∃ e, ((PySem.W.copyHeap s.heap its).update (s.heap.objs.size + 1) (Obj.mapSeq fun _ => (#[] : Array Value))).get? (s.heap.objs.size + 1) = some (seqObj "list" #[] e) := ⟨_, get?_update_seq atN fun _ => #[]⟩
  refine wpAny_bind (seqEpoch_at (n := eN) atN1 rfl ?_)
  refine wpAny_bind (wpAny_newTuple ?_ (by show its.length ≤ _; exact sits))
  refine wpAny_bind (wpAny_newList ?_ (Nat.zero_le _))
  refine wpAny_holding ?_
  have up0 : ∀ b o, s.heap.get? b = some o → (PySem.W.sortingHeap (PySem.W.copyHeap s.heap its) (s.heap.objs.size + 1) its).get? b = some o := fun b o e =>
    PySem.W.sortingHeap_old (Nat.ne_of_lt (Nat.lt_succ_of_lt (Heap.lt_size e))) (PySem.W.copyHeap_old e)
  have sz1 : (PySem.W.copyHeap s.heap its).objs.size = s.heap.objs.size + 2 := by
    unfold PySem.W.copyHeap
    rw [size_push', Heap.size_update, size_push']
  have szS : (((PySem.W.copyHeap s.heap its).update (s.heap.objs.size + 1) (Obj.mapSeq fun _ => (#[] : Array Value))).push (seqObj "tuple" its.toArray 0)).objs.size = s.heap.objs.size + 3 := by
    rw [size_push', Heap.size_update, sz1]
  have atS0 : (PySem.W.sortingHeap (PySem.W.copyHeap s.heap its) (s.heap.objs.size + 1) its).get? (s.heap.objs.size + 3) = some (seqObj "list" #[] 0) := by
    unfold PySem.W.sortingHeap
    rw [← szS]
    exact Heap.get?_push_size _ rfl
  have atN2 : (PySem.W.sortingHeap (PySem.W.copyHeap s.heap its) (s.heap.objs.size + 1) its).get? (s.heap.objs.size + 1) = some (seqObj "list" #[] eN) :=
    Heap.get?_push_of_some _ (Heap.get?_push_of_some _ atN1)
  show wpAny (model X.prog X.w) X.A.in1.in1 (ksk_rest (s.heap.objs.size + 1) (.ref f) false its.toArray eN (.ref (((PySem.W.copyHeap s.heap its).update (s.heap.objs.size + 1) (Obj.mapSeq fun _ => (#[] : Array Value))).push (seqObj "tuple" its.toArray 0)).objs.size)) _ _ { s with heap := PySem.W.sortingHeap (PySem.W.copyHeap s.heap its) (s.heap.objs.size + 1) its }
  rw [szS]
  have hN : H (s.heap.objs.size + 1) = none := I.hok.fresh (Nat.le_succ s.heap.objs.size)
  have hS3 : H (s.heap.objs.size + 3) = none := I.hok.fresh (by omega)
  have fpN : FpOk X pins H (s.heap.objs.size + 1) := I.fpOk (Nat.le_succ _) hN
  have fpS : FpOk X pins H (s.heap.objs.size + 3) := I.fpOk (by omega) hS3
  have offN := off_stack I.ok fpN
  have offS := off_stack I.ok fpS
  have I0 : Inv X pins σ H { s with heap := PySem.W.sortingHeap (PySem.W.copyHeap s.heap its) (s.heap.objs.size + 1) its } := I.kept (t' := s.toks) up0
  have newN : s.heap.get? (s.heap.objs.size + 1) = none := Heap.get?_none_of_le (Nat.le_succ _)
  generalize PySem.W.sortingHeap (PySem.W.copyHeap s.heap its) (s.heap.objs.size + 1) its = h0 at up0 atS0 atN2 I0
  have ne3 : s.heap.objs.size + 3 ≠ s.heap.objs.size + 1 := by omega
  generalize s.heap.objs.size + 1 = N at *
  generalize s.heap.objs.size + 3 = S at *
  unfold ksk_rest
  refine wpAny_bind (wpAny_rule ?_)
  first
    | rw [List.forIn_toArray]
    | (rw [← Array.forIn_toList]; simp only [List.toList_toArray])
  have movedFp : ∀ {b : Addr} {H1 : Hp}, FpOk X pins H b → H1 b = none → FpOk X pins H1 b := fun h n => ⟨n, h.2⟩
  refine wpAny_bind (PyProof.Rows.ksk_fold (fun i s' => ∃ H' ks kA e, Inv X pins σ H' s' ∧ Ex H H' ∧ H' N = none ∧ H' S = none ∧ s'.heap.get? S = some (seqObj "list" kA e) ∧ s'.heap.get? N = some (seqObj "list" #[] eN) ∧ Vals ks kA.toList ∧ DpAll X.K H' ks ((bs.map Prod.snd).take i)) its 0 _
    ⟨H, [], #[], 0, I0, Ex.refl H, hN, hS3, atS0, atN2, .nil, by rw [List.take_zero]; exact .nil⟩ ?turn ?last)
  case turn =>
    rintro j x s' hx ⟨H', ks, kA, e, J, ex, nN, nS, atS, atN', rk, dk⟩
    simp only [Nat.zero_add] at dk ⊢
    have hj : j < its.length := (List.getElem?_eq_some_iff.mp hx).1
    have hb1 : bs[j]? = some (bs[j]'(by omega)) := List.getElem?_eq_getElem (by omega)
    generalize bs[j]'(by omega) = b at hb1
    have mb := List.mem_of_getElem? hb1
    obtain ⟨x', hx', rx⟩ := rv.get (i := j) (x := b.1) (by rw [List.getElem?_map, hb1]; rfl)
    rw [hx] at hx'
    obtain rfl := Option.some.inj hx'
    have one : Vals [b.1] [x] := .cons rx .nil
    have st := turn b mb H' ex (fun v H2 => Ex H' H2 ∧ Dp X.K H2 v b.2) (fun v H2 e d => ⟨e, d⟩)
    have lens : ([x] : List Value).length = ps.length := one.length.symm.trans (F.len _ _ _ _ st)
    have ran := F.run X.A.in1.in1 X.stack s' H' ⟨[x], []⟩ [x] [b.1] _ _ hr.in1.in1 J.env0.in1.in1 (hb s' [x] J.kIn lens) one st
    have kz : kA.size < its.length + 1 := by
      have h1 : ks.length = kA.toList.length := rk.length
      have h2 : ks.length = ((bs.map Prod.snd).take j).length := dk.len
      have h3 : kA.toList.length = kA.size := Array.length_toList
      have h4 : ((bs.map Prod.snd).take j).length ≤ j := by rw [List.length_take]; exact Nat.min_le_left _ _
      omega
    refine wpAny_bind (wpAny_attempt (wpAny_mono (wpAny_call (Q := fun v s2 => ∃ v1 H2, Inv X pins σ H2 s2 ∧ RelV v1 v ∧ Ex H' H2 ∧ Dp X.K H2 v1 b.2 ∧ H2 N = none ∧ H2 S = none ∧ s2.heap.get? S = some (seqObj "list" kA e) ∧ s2.heap.get? N = some (seqObj "list" #[] eN)) (E := fun _ _ => False) (codeAny_mono ran fun r2 s2 h2 => ?_)) (fun v s2 got => ?_) fun _ _ z => z.elim))
    · match r2, h2 with
      | .error _, h2 => exact h2.elim
      | .ok .next, h2 => exact h2.elim
      | .ok .brk, h2 => exact h2.elim
      | .ok .cont, h2 => exact h2.elim
      | .ok (.ret u), ⟨v1, H2, os, bare, un, hok, rel, q1, q2⟩ =>
        obtain ⟨v2, H3, J2, rel2, e1, e2⟩ := J.after (Q := fun v H => v = v1 ∧ H = H2) ⟨v1, H2, os, bare, un, hok, rel, rfl, rfl⟩
        subst e1 e2
        exact ⟨_, _, J2, rel2, q1, q2, un.free _ _ atN' nN (by simp), un.free _ _ atS nS (by simp), un.keep _ _ atS nS offS (by simp), un.keep _ _ atN' nN offN (by simp)⟩
    · obtain ⟨v1, H2, J2, rel, ex2, d2, nN2, nS2, atS2, atN3⟩ := got
      try dsimp only
      have same := Heap.SameBut.update s2.heap S (Obj.mapSeq (·.push v))
      obtain ⟨c2, atS3⟩ : ∃ c2, (s2.heap.update S (Obj.mapSeq (·.push v))).get? S = some (seqObj "list" (kA.push v) c2) := ⟨_, get?_update_seq atS2 (·.push v)⟩
      refine wpAny_bind (listUpdate_at (n := e) atS2 rfl ?_ (by omega) (by rw [Array.size_push]; omega))
      have J3 : Inv X pins σ H2 { s2 with heap := s2.heap.update S (Obj.mapSeq (·.push v)) } := J2.turnedL (t' := s2.toks) (ch := [S]) (fun b o hb e => (same.2 b (fun z => hb (by rw [z]; exact List.mem_singleton.mpr rfl))).trans e) fun b hb => by
        rw [List.mem_singleton] at hb
        subst hb
        exact movedFp fpS nS2
      refine wpAny_pure ⟨rfl, H2, ks ++ [v1], kA.push v, c2, J3, ex.trans ex2, nN2, nS2, atS3, (same.2 N ne3.symm).trans atN3, ?_, ?_⟩
      · rw [Array.toList_push]
        exact rk.append (.cons rel .nil)
      · rw [List.take_add_one, List.getElem?_map, hb1]
        exact DpAll.snoc (DpAll.mono ex2 _ _ dk) d2
  case last =>
    rintro s' ⟨H', ks, kA, e, J, ex, nN, nS, atS, atN', rk, dk⟩
    rw [Nat.zero_add, List.take_of_length_le (by rw [List.length_map]; omega)] at dk
    have hk := dp_each J dk rk
    have lk : kA.size = its.length := by
      have := hk.length
      rw [Array.length_toList, List.length_map] at this
      omega
    try dsimp only
    refine wpAny_bind (listItems_at (n := e) atS rfl ?_)
    let hid : Hp := fun b => if b = S then some (.own 0) else none
    have hidS : (hidT s'.heap hid).get? S = none := by
      cases g : (hidT s'.heap hid).get? S with
      | none => rfl
      | some o =>
        have := (of_hidT g).2
        simp only [hid, if_true] at this
        cases this
    refine PySem.W.keyH_end (κ := PySem.W.dataKind s'.heap (bs.map Prod.snd)) (h₁ := hidT s'.heap hid) (fun b o _ g => (of_hidT g).1) hidS atS atN' ne3 (PySem.W.SortsAt.data (s := s') hk hal hso (fun d hd => by
      obtain ⟨b, hb, rfl⟩ := List.mem_map.mp hd
      have := hde b hb
      have := hr.un
      show X.A.units + 1 + 1 + b.2.depth < cLine
      omega)) lk sits fun h' tk c kp atEnd => ⟨rfl, ?_⟩
    have J4 : Inv X pins σ H' { s' with heap := h', toks := tk } := J.turnedL (ch := [N, S]) (fun b o hb g => by
      simp only [List.mem_cons, List.not_mem_nil, or_false, not_or] at hb
      exact kp b o hb.1 (hidT_get g (by simp only [hid, if_neg hb.2]))) fun b hb => by
        simp only [List.mem_cons, List.not_mem_nil, or_false] at hb
        rcases hb with rfl | rfl
        · exact movedFp fpN nN
        · exact movedFp fpS nS
    have outs := PySem.W.keyedOut_each (rev := false) (R := fun u (b : V × PyData) => RelV b.1 u) Prod.snd ⟨s'.heap, kA.toList, hal, rfl, hk⟩ (vals_each rv)
    have rel := each_vals outs
    have len : ((bs.mergeSort (PySem.W.dataLe false Prod.snd)).map Prod.fst).length ≤ sizeLine := by
      rw [List.length_map, List.length_mergeSort]
      exact sz_of hlen
    have T : Inv X pins σ (upd H' N (.lst ((bs.mergeSort (PySem.W.dataLe false Prod.snd)).map Prod.fst))) { s' with heap := h', toks := tk } :=
      J4.track2 I newN (by rw [hex]; exact fun z => nomatch z) nN (Ne.symm fpN.2.1) (fun x c e z => fpN.2.2.2.2.1 x c e z) ⟨len, _, c, rel, atEnd⟩
    exact ⟨.ref N, _, T, rfl, q N H' ex hN nN⟩
end
end L2

set_option Elab.async false
set_option linter.all false
set_option maxRecDepth 100000
set_option maxHeartbeats 2000000
/-! Our own rules: loops over texts and enumerate, dicts read, either of two readings, data without lists. -/
namespace L2
open PySem PySem.Spec PyProof.Rows Evl
/-- either of two readings -/
def tAlt (t1 t2 : TE) : TE := fun σ H Q => t1 σ H Q ∨ t2 σ H Q
theorem pe_alt {X : Cx} {e : Expr} {t1 t2 : TE} (h1 : PE X e t1) (h2 : PE X e t2) : PE X e (tAlt t1 t2) := ⟨fun pins s σ H Q I h => h.elim (h1.run pins s σ H Q I) (h2.run pins s σ H Q I)⟩
mutual
/-- data without lists and dicts -/
def noL : PyData → Bool | .list _ => false | .dict _ => false | .tuple ds => noLs ds | _ => true
def noLs : List PyData → Bool | [] => true | d :: ds => noL d && noLs ds
end
theorem sqT_upd {K : PySem.W.Frag} {H : Hp} {l a : Addr} {ys xs : List V} {o : HO} (hl : H l = some (.lst ys)) (h : SqT K H a xs) : SqT K (upd H l o) a xs := by
  rcases h with h | h
  · refine Or.inl ?_
    rcases h with h | ⟨u, h⟩
    · exact Or.inl (by rw [upd_ne (ne_of h hl fun z => by cases z)]; exact h)
    · exact Or.inr ⟨u, by rw [upd_ne (ne_of h hl fun z => by cases z)]; exact h⟩
  · exact Or.inr h
mutual
theorem Dp.updL {K : PySem.W.Frag} {H : Hp} {l : Addr} {ys : List V} {o : HO} (hl : H l = some (.lst ys)) : ∀ (d : PyData) (v : V), noL d = true → Dp K H v d → Dp K (upd H l o) v d
  | .none, _, _, h => by cases h; exact .non
  | .bool b, _, _, h => by cases h; exact .bl b
  | .int i, _, _, h => by cases h; exact .int i
  | .str x, _, _, h => by cases h; exact .str x
  | .list ds, _, n, _ => by cases n
  | .tuple ds, _, n, h => by
    cases h with
    | tup h1 h2 => exact .tup (sqT_upd hl h1) (DpAll.updL hl ds _ (by simpa only [noL] using n) h2)
  | .dict kvs, _, n, _ => by cases n
theorem DpAll.updL {K : PySem.W.Frag} {H : Hp} {l : Addr} {ys : List V} {o : HO} (hl : H l = some (.lst ys)) : ∀ (ds : List PyData) (vs : List V), noLs ds = true → DpAll K H vs ds → DpAll K (upd H l o) vs ds
  | [], _, _, h => by cases h; exact .nil
  | d :: ds, _, n, h => by
    rw [noLs, Bool.and_eq_true] at n
    cases h with
    | cons h1 h2 => exact .cons (Dp.updL hl d _ n.1 h1) (DpAll.updL hl ds _ n.2 h2)
end
theorem noLs_of : ∀ {ds : List PyData}, (∀ d ∈ ds, noL d = true) → noLs ds = true
  | [], _ => by simp only [noLs]
  | d :: ds, h => by
    rw [noLs, h d List.mem_cons_self, noLs_of fun e he => h e (List.mem_cons_of_mem _ he)]
    rfl
theorem Dp.tupI {K : PySem.W.Frag} {H : Hp} {v : V} {ds : List PyData} (h : Dp K H v (.tuple ds)) : ∃ a xs, v = .ref a ∧ SqT K H a xs ∧ DpAll K H xs ds := by
  cases h with
  | tup h1 h2 => exact ⟨_, _, rfl, h1, h2⟩
theorem Dp.strI {K : PySem.W.Frag} {H : Hp} {v : V} {x : Str} (h : Dp K H v (.str x)) : v = .str x := by cases h; rfl
theorem Dp.intI {K : PySem.W.Frag} {H : Hp} {v : V} {x : Int} (h : Dp K H v (.int x)) : v = .int x := by cases h; rfl
theorem Dp.nonI {K : PySem.W.Frag} {H : Hp} {v : V} (h : Dp K H v .none) : v = .non := by cases h; rfl
theorem DpAll.consI {K : PySem.W.Frag} {H : Hp} {vs : List V} {d : PyData} {ds : List PyData} (h : DpAll K H vs (d :: ds)) : ∃ v r, vs = v :: r ∧ Dp K H v d ∧ DpAll K H r ds := by
  cases h with
  | cons h1 h2 => exact ⟨_, _, rfl, h1, h2⟩
theorem DpAll.nilI {K : PySem.W.Frag} {H : Hp} {vs : List V} (h : DpAll K H vs []) : vs = [] := by cases h; rfl
theorem DpAll.get {K : PySem.W.Frag} {H : Hp} : ∀ {vs : List V} {ds : List PyData} {i : Nat} {v : V}, DpAll K H vs ds → vs[i]? = some v → ∃ d, ds[i]? = some d ∧ Dp K H v d
  | _, _, _, _, .nil, e => by simp at e
  | _, _, 0, _, .cons h _, e => by simp at e; subst e; exact ⟨_, rfl, h⟩
  | _, _, i + 1, _, .cons _ h, e => by
    obtain ⟨d, a, b⟩ := DpAll.get (i := i) h (by simpa using e)
    exact ⟨d, by simpa using a, b⟩
theorem DpAll.of {K : PySem.W.Frag} {H : Hp} : ∀ {vs : List V} {ds : List PyData}, vs.length = ds.length → (∀ (i : Nat) v d, vs[i]? = some v → ds[i]? = some d → Dp K H v d) → DpAll K H vs ds
  | [], [], _, _ => .nil
  | v :: vs, d :: ds, hl, h => .cons (h 0 v d rfl rfl) (DpAll.of (by simpa using hl) fun i a b e1 e2 => h (i + 1) a b (by simpa using e1) (by simpa using e2))
  | [], _ :: _, hl, _ => by simp at hl
  | _ :: _, [], hl, _ => by simp at hl
end L2
namespace Evl
open PySem L2 Com TX Prt
section
variable {K : PySem.W.Frag} {σ : L2.St} {H H' : Hp} {ta tb tc te td ty : TE} {t u : TT} {x y z v : V} {D : Ends} {tz tu : TS} {g : TG} {P2 : Hp → V → Prop}
theorem ev_alt1 (h : Ev ta σ H v) : Ev (tAlt ta tb) σ H v := fun H1 e Q q => Or.inl (h H1 e Q q)
theorem ev_alt2 (h : Ev tb σ H v) : Ev (tAlt ta tb) σ H v := fun H1 e Q q => Or.inr (h H1 e Q q)
theorem ev_dget {kvs : List (Key × V)} {a : Addr} {k : Str} (h : Ev td σ H (.ref a)) (hk : Ev ty σ H (.str k)) (hd : Rd H a (.dK kvs)) (hv : valV kvs (.inr k) = some v) : Ev (tDGet td ty) σ H v := fun H1 e Q q =>
  h H1 e _ fun H2 e2 => hk H2 (e.trans e2) _ fun H3 e3 => ⟨a, v, rfl, .inl ⟨kvs, .inr k, ex_rd ((e.trans e2).trans e3) hd, rfl, hv.symm⟩, q H3 (e2.trans e3)⟩
theorem el_listOf {p : Addr} {xs : List V} (ha : Ev ta σ H (.ref p)) (h : SqL K H p xs) : EvL (tCB (fun xs H Q => ∃ p ys, xs = [.ref p] ∧ (SqL K H p ys ∨ SqT K H p ys) ∧ ∀ l, H l = none → Q (.ref l) (upd H l (.lst ys))) (tCons ta tNil)) σ H xs := fun H1 e Q q =>
  ha H1 e _ fun H2 e2 => ⟨p, xs, rfl, Or.inl (ex_l (e.trans e2) h), fun l hl => q l _ (fresh_back e2 hl) (e2.trans (Ex.new hl)) upd_same⟩
theorem q_forS {w : Str} {j : Nat} (h : Ev te σ H (.str w)) (Pv : Nat → L2.St → Hp → Prop) (h0 : ∀ H1, Ex H H1 → Pv 0 σ H1)
    (hs : ∀ i c σ' H', (L w)[i]? = some c → Pv i σ' H' → tu { D with nx := Pv (i + 1), ct := Pv (i + 1), bk := tz D } (σ'.set j (some (.str (T [c])))) H') (hd : ∀ σ' H', Pv (L w).length σ' H' → tz D σ' H') :
    tSeq (tFor (iStr te) (gName j) tu) tz D σ H :=
  h H (Ex.refl H) _ fun H1 e => ⟨w, rfl, for_it (D := { D with nx := tz D }) walk_str Pv (h0 H1 e) (fun _ _ _ _ _ => True.intro) (fun i x σ' H2 H3 hi p y => by
    obtain ⟨rfl, c, hc, rfl⟩ := y
    exact hs i c σ' H3 (by show w.cps.toList[i]? = some c; rw [Array.getElem?_toList]; exact hc) p) (fun σ' H' p => hd σ' H' (by
      have e : (L w).length = w.cps.size := Array.length_toList
      rw [e]
      exact p))⟩
/-- for i, x in enumerate(list) -/
theorem s_forE {ta : TA} {a : Addr} {xs : List V} {j1 j2 : Nat} (h : EvA ta σ H [.ref a]) (hx : SqL K H a xs) (Pv : Nat → L2.St → Hp → Prop) (h0 : ∀ H1, Ex H H1 → Pv 0 σ H1) (hl : ∀ i σ' H', i ≤ xs.length → Pv i σ' H' → SqL K H' a xs)
    (hs : ∀ i x σ' H0 H', xs[i]? = some x → Pv i σ' H0 → Ex H0 H' → tu { D with nx := Pv (i + 1), ct := Pv (i + 1), bk := D.nx } ((σ'.set j1 (some (.int (i : Int)))).set j2 (some x)) H') (hd : ∀ σ' H', Pv xs.length σ' H' → D.nx σ' H') :
    tFor (iEnum K ta) (gTup K 2 (gCons (gName j1) (gCons (gName j2) gNil))) tu D σ H :=
  h H (Ex.refl H) _ fun H1 e => ⟨a, xs, rfl, ex_l e hx, for_it (walk_enum (K := K) (a := a) (xs := xs)) Pv (h0 H1 e) hl (fun i x σ' H2 H3 hi p y => by
    obtain ⟨T0, a1, a2, rfl, hT, rfl, h1, h2⟩ := y
    cases h1
    exact ⟨T0, _, rfl, st_of upd_same, rfl, _, _, rfl, _, [], rfl, rfl, hs i a2 σ' H2 _ h2 p (Ex.new hT)⟩) hd⟩
/-- for .. in f(..) -/
theorem q_forC {sp : Sp} {dvs vs : List V} {E : XK} {ta : TA} (h : EvA ta σ H vs) (k : ∀ H1, Ex H H1 → sp (vs ++ dvs) H1 (fun x H2 => tFor (iList K (tC x)) g tu { D with nx := tz D } σ H2) E) :
    tSeq (tFor (iList K (tCall sp dvs E ta)) g tu) tz D σ H := h H (Ex.refl H) _ fun H1 e => k H1 e
theorem s_forC {sp : Sp} {dvs vs : List V} {E : XK} {ta : TA} (h : EvA ta σ H vs) (k : ∀ H1, Ex H H1 → sp (vs ++ dvs) H1 (fun x H2 => tFor (iList K (tC x)) g tu D σ H2) E) :
    tFor (iList K (tCall sp dvs E ta)) g tu D σ H := h H (Ex.refl H) _ fun H1 e => k H1 e
/-- xs.append(e), e told by the heap -/
theorem s_appG {l : Addr} {xs : List V} (hl : H l = some (.lst xs)) (ha : Ev ta σ H (.ref l)) (h : EvG P2 te σ H) (hz : xs.length < 100000) (k : ∀ v H1, Ex H H1 → P2 H1 v → D.nx σ (upd H1 l (.lst (xs ++ [v])))) :
    tDrop (tBM K "list" rAppend ta (tCons te tNil)) D σ H := ha H (Ex.refl H) _ fun H1 e1 =>
  ⟨Or.inl ⟨rfl, xs, sq_of (e1 l _ hl)⟩, h H1 e1 _ fun v H2 e2 p => ⟨l, xs, v, rfl, rfl, e2 l _ (e1 l _ hl), sz_lt hz, k v H2 (e1.trans e2) p⟩⟩
theorem q_appG {l : Addr} {xs : List V} (hl : H l = some (.lst xs)) (ha : Ev ta σ H (.ref l)) (h : EvG P2 te σ H) (hz : xs.length < 100000) (k : ∀ v H1, Ex H H1 → P2 H1 v → tz D σ (upd H1 l (.lst (xs ++ [v])))) :
    tSeq (tDrop (tBM K "list" rAppend ta (tCons te tNil))) tz D σ H := s_appG (D := { D with nx := tz D }) hl ha h hz k
/-- a tuple, as data -/
theorem eg_tupD {ta : TA} {ds : List PyData} (h : EvAR ta σ H fun vs H1 => DpAll K H1 vs ds) (hl : ds.length ≤ 1000) : EvG (fun H1 v => Dp K H1 v (.tuple ds)) (tTup ta) σ H :=
  eg_tup h (fun vs H1 r => by rw [r.len]; exact hl) fun p vs H1 r hp => .tup (st_of upd_same) (DpAll.mono (Ex.new hp) _ _ r)
theorem ear_nilD : EvAR tNil σ H fun vs H1 => DpAll K H1 vs [] := ear_nil fun _ _ => .nil
theorem ear_vD {tr : TA} {d : PyData} {ds : List PyData} (h : Ev te σ H v) (hd : Dp K H v d) (hr : EvAR tr σ H fun vs H1 => DpAll K H1 vs ds) : EvAR (tCons te tr) σ H fun vs H1 => DpAll K H1 vs (d :: ds) := fun H1 e Q q =>
  h H1 e _ fun H2 e2 => hr H2 (e.trans e2) _ fun vs H3 e3 r => q _ H3 (e2.trans e3) (.cons (Dp.mono ((e.trans e2).trans e3) _ _ hd) r)
theorem ear_gD {tr : TA} {d : PyData} {ds : List PyData} (h : EvG (fun H1 v => Dp K H1 v d) te σ H) (hr : EvAR tr σ H fun vs H1 => DpAll K H1 vs ds) : EvAR (tCons te tr) σ H fun vs H1 => DpAll K H1 vs (d :: ds) := fun H1 e Q q =>
  h H1 e _ fun v H2 e2 p => hr H2 (e.trans e2) _ fun vs H3 e3 r => q _ H3 (e2.trans e3) (.cons (Dp.mono e3 _ _ p) r)
/-- x or (), as data -/
theorem eg_orD {d e r : PyData} (ha : Ev ta σ H v) (hd : Dp K H v d) (hb : EvG (fun H1 v => Dp K H1 v e) tb σ H) (hc : (d = .none ∧ r = e) ∨ (∃ x xs, d = .tuple (x :: xs) ∧ r = d)) : EvG (fun H1 v => Dp K H1 v r) (tOrT K ta tb) σ H := fun H1 e1 Q q =>
  ha H1 e1 _ fun H2 e2 => by
    rcases hc with ⟨rfl, rfl⟩ | ⟨x, xs, rfl, rfl⟩
    · obtain rfl := hd.nonI
      exact ⟨false, rfl, by rw [if_neg Bool.false_ne_true]; exact hb H2 (e1.trans e2) _ fun v H3 e3 p => q v H3 (e2.trans e3) p⟩
    · have hd2 := Dp.mono (e1.trans e2) _ _ hd
      obtain ⟨a, ys, rfl, h1, h2⟩ := hd2.tupI
      obtain ⟨y, r, rfl, _, _⟩ := h2.consI
      exact ⟨true, Or.inr (Or.inl ⟨_, h1, rfl⟩), by rw [if_pos rfl]; exact q _ H2 e2 hd2⟩
/-- the slots written out -/
theorem q_sl {σ' : L2.St} (h : σ = σ') (k : tz D σ' H) : tz D σ H := h ▸ k
/-- a display of values told by the heap, its list new -/
theorem q_asgGN {ta : TA} {i n : Nat} (h : EvGs P2 ta σ H n) (hn : n ≤ 1000) (mo : ∀ H H' v, Ex H H' → P2 H v → P2 H' v)
    (k : ∀ p xs H1, H p = none → Ex H H1 → H1 p = some (.lst xs) → xs.length = n → (∀ v ∈ xs, P2 H1 v) → tz D (σ.set i (some (.ref p))) H1) : tSeq (tAsg (tLst ta) (gName i)) tz D σ H :=
  h H (Ex.refl H) _ fun vs H1 e hl hvs => ⟨sz_of (by omega), fun p hp => k p vs _ (fresh_back e hp) (e.trans (Ex.new hp)) upd_same hl fun v hv => mo _ _ _ (Ex.new hp) (hvs v hv)⟩
theorem s_asgG {te : TE} {i : Nat} (h : EvG P2 te σ H) (k : ∀ v H1, Ex H H1 → P2 H1 v → D.nx (σ.set i (some v)) H1) : tAsg te (gName i) D σ H := h H (Ex.refl H) _ fun v H1 e r => k v H1 e r
end
end Evl

set_option Elab.async false
set_option linter.all false
set_option maxRecDepth 100000
set_option maxHeartbeats 2000000
/-! Our own readings: a comprehension whose items are told by the heap. -/
namespace L2
open PySem PySem.Spec PyProof.Rows Evl
theorem Ex.both {H H' : Hp} {D : Addr} {o : HO} (e : Ex H H') : Ex (upd H D o) (upd H' D o) := fun b u hb => by
  by_cases hD : b = D
  · subst hD
    rw [upd_same] at hb ⊢
    exact hb
  · rw [upd_ne hD] at hb ⊢
    exact e _ _ hb
theorem updSelf {H : Hp} {a : Addr} {o : HO} (h : H a = some o) : upd H a o = H := by
  funext b
  by_cases hb : b = a
  · subst hb
    rw [upd_same, h]
  · rw [upd_ne hb]
section
variable {K : PySem.W.Frag} {σ : L2.St} {H : Hp} {te ta tb : TE} {v : V} {D : Ends} {tz : TS}
/-- a list, told but for its place -/
def EvS (K : PySem.W.Frag) (te : TE) (σ : L2.St) (H : Hp) (xs : List V) : Prop := ∀ H1, Ex H H1 → ∀ Q : VK, (∀ a H2, Ex H1 H2 → SqL K H2 a xs → Q (.ref a) H2) → te σ H1 Q
theorem es_v {a : Addr} {xs : List V} (h : Ev te σ H (.ref a)) (hx : SqL K H a xs) : EvS K te σ H xs := fun H1 e Q q => h H1 e _ fun H2 e2 => q a H2 e2 (ex_l (e.trans e2) hx)
theorem es_l {xs : List V} (h : EvL te σ H xs) : EvS K te σ H xs := fun H1 e Q q => h H1 e _ fun a H2 _ e2 h2 => q a H2 e2 (sq_of h2)
/-- a new list of n items, the i-th such as R i tells -/
def EvLG (R : Addr → Nat → Hp → V → Prop) (n : Nat) (te : TE) (σ : L2.St) (H : Hp) : Prop := ∀ H1, Ex H H1 → ∀ Q : VK,
  (∀ p xs H2, H1 p = none → Ex H1 H2 → H2 p = some (.lst xs) → xs.length = n → (∀ i x, xs[i]? = some x → R p i H2 x) → Q (.ref p) H2) → te σ H1 Q
def Cg (R : Addr → Nat → Hp → V → Prop) (H : Hp) (Dl : Addr) (i : Nat) (H' : Hp) : Prop := H Dl = none ∧ Ex H H' ∧ ∃ ys, H' Dl = some (.lst ys) ∧ ys.length = i ∧ ∀ j y, ys[j]? = some y → ∀ zs, R Dl j (upd H' Dl (.lst zs)) y
theorem lcG {R : Addr → Nat → Hp → V → Prop} {tl : TE} {g : TG} {vs : List Nat} {xs : List V} (mo : ∀ p i H H' v, Ex H H' → R p i H v → R p i H' v) (h : EvS K tl σ H xs) (hz : xs.length ≤ 40000)
    (he : ∀ i x H1 Dl ys, Ex H H1 → H Dl = none → H1 Dl = some (.lst ys) → xs[i]? = some x →
      ∃ σ2, (∀ Q : L2.St → Hp → Prop, Q σ2 H1 → g x (wipe σ vs) H1 Q) ∧ wipe σ2 vs = wipe σ vs ∧ EvG (fun H4 v => ∀ zs, R Dl i (upd H4 Dl (.lst zs)) v) te σ2 H1) :
    EvLG R xs.length (tLc (iList K tl) g tYes te vs) σ H := fun H0 e Q q =>
  h H0 e _ fun a H1 e1 hS => ⟨a, rfl, ⟨xs, hS⟩, fun Dl hD =>
    lc_list (xs := xs) (Cg R H1 Dl) ⟨hD, Ex.new hD, [], upd_same, rfl, fun j y h => by simp at h⟩ (fun i H' _ p => ex_l p.2.1 hS) (fun i x H' hi p => by
      obtain ⟨p1, p2, ys, p3, p4, p5⟩ := p
      obtain ⟨σ2, g2, w2, e2⟩ := he i x H' Dl ys ((e.trans e1).trans p2) (fresh_back (e.trans e1) p1) p3 hi
      have il : i < xs.length := (List.getElem?_eq_some_iff.mp hi).1
      refine g2 _ ⟨w2, ?_⟩
      show te σ2 H' fun y H4 => ∃ acc, H4 Dl = some (.lst acc) ∧ acc.length < sizeLine ∧ Cg R H1 Dl (i + 1) (upd H4 Dl (.lst (acc ++ [y])))
      refine e2 H' (Ex.refl _) _ fun v H4 e4 pv => ⟨ys, e4 _ _ p3, sz_lt (by omega), p1, Ex.mut (p2.trans e4) p1, ys ++ [v], upd_same, by rw [List.length_append, p4]; rfl, fun j y hj zs => ?_⟩
      rw [upd_upd]
      rcases Nat.lt_or_ge j ys.length with hlt | hge
      · rw [List.getElem?_append_left hlt] at hj
        exact mo _ _ _ _ _ (Ex.both e4) (p5 j y hj zs)
      · have hj2 : j = ys.length := by
          have := (List.getElem?_eq_some_iff.mp hj).1
          rw [List.length_append] at this
          have h1 : [v].length = 1 := rfl
          omega
        subst hj2
        rw [List.getElem?_append_right (Nat.le_refl _), Nat.sub_self] at hj
        cases hj
        rw [p4]
        exact pv zs)
      (fun H' p => by
        obtain ⟨p1, p2, ys, p3, p4, p5⟩ := p
        refine q Dl ys H' (fresh_back e1 p1) (e1.trans p2) p3 p4 fun j y hj => ?_
        have := p5 j y hj ys
        rw [updSelf p3] at this
        exact this)⟩
theorem s_retLG {R : Addr → Nat → Hp → V → Prop} {n : Nat} (h : EvLG R n te σ H) (k : ∀ p xs H1, H p = none → Ex H H1 → H1 p = some (.lst xs) → xs.length = n → (∀ i x, xs[i]? = some x → R p i H1 x) → D.rt (.ref p) H1) : tRet te D σ H := h H (Ex.refl H) _ k
theorem q_asgLG {R : Addr → Nat → Hp → V → Prop} {n j : Nat} (h : EvLG R n te σ H) (k : ∀ p xs H1, H p = none → Ex H H1 → H1 p = some (.lst xs) → xs.length = n → (∀ i x, xs[i]? = some x → R p i H1 x) → tz D (σ.set j (some (.ref p))) H1) : tSeq (tAsg te (gName j)) tz D σ H := h H (Ex.refl H) _ k
/-- data without lists stays while the list grows -/
theorem eg_dpUpd {d : PyData} {Dl : Addr} {ys : List V} (h : EvG (fun H1 v => Dp K H1 v d) te σ H) (hn : noL d = true) (hl : H Dl = some (.lst ys)) : EvG (fun H4 v => ∀ zs, Dp K (upd H4 Dl (.lst zs)) v d) te σ H := fun H1 e Q q =>
  h H1 e _ fun v H2 e2 dv => q v H2 e2 fun zs => Dp.updL (e2 _ _ (e _ _ hl)) _ _ hn dv
theorem eg_if {R : Hp → V → Prop} {t : TT} {c : Bool} (ht : EvT t σ H c) (ha : c = true → EvG R ta σ H) (hb : c = false → EvG R tb σ H) : EvG R (tIf t ta tb) σ H := fun H1 e Q q =>
  ht H1 e _ fun H2 e2 => by
    cases c with
    | true =>
      rw [if_pos rfl]
      exact ha rfl H2 (e.trans e2) _ fun v H3 e3 p => q v H3 (e2.trans e3) p
    | false =>
      rw [if_neg Bool.false_ne_true]
      exact hb rfl H2 (e.trans e2) _ fun v H3 e3 p => q v H3 (e2.trans e3) p
theorem et_eqD {d e : PyData} (ha : Ev ta σ H v) (hd : Dp K H v d) (hb : EvG (fun H1 v => Dp K H1 v e) tb σ H) (sd : SeqAt.shaped d = true) (se : SeqAt.shaped e = true) : EvT (tTest (tOp (rEqD K) ta tb)) σ H (PyData.eqv d e) := fun H1 e1 Q q =>
  ha H1 e1 _ fun H2 e2 => hb H2 (e1.trans e2) _ fun u H3 e3 du => ⟨d, e, Dp.mono ((e1.trans e2).trans e3) _ _ hd, du, sd, se, _, rfl, q H3 (e2.trans e3)⟩
theorem eg_vD {d : PyData} (h : Ev te σ H v) (hd : Dp K H v d) : EvG (fun H1 v => Dp K H1 v d) te σ H := fun H1 e Q q => h H1 e _ fun H2 e2 => q v H2 e2 (Dp.mono (e.trans e2) _ _ hd)
end
end L2

set_option Elab.async false
set_option linter.all false
set_option maxRecDepth 100000
set_option maxHeartbeats 2000000
/-! Our own rule: a text times nought or one. -/
namespace L2
open PySem PySem.Spec PyProof PyProof.Rows Evl
def rMulS : R2 := fun x y H Q => ∃ (a : Str) (n : Int), x = .str a ∧ y = .int n ∧ 0 ≤ n ∧ n ≤ 1 ∧ a.length ≤ 1000 ∧ Q (.str (if n = 1 then a else "")) H
theorem op_mulS {X : Cx} : OpR X (binaryOp .Mult) rMulS := by
  intro pins s σ H x y v u Q I rx ry h
  obtain ⟨a, n, rfl, rfl, h0, h1, hl, q⟩ := h
  obtain ⟨t, rfl⟩ := rx
  obtain ⟨t2, rfl⟩ := ry
  refine SB.mul (mulOk_of 1000 1 hl (by omega) (by omega) (by omega) (by omega)) fun t' k => ⟨.str (if n = 1 then a else ""), H, I.tok _, ⟨t', ?_⟩, q⟩
  have h2 : n = 0 ∨ n = 1 := by omega
  rcases h2 with rfl | rfl
  · rfl
  · rfl
variable {σ : L2.St} {H : Hp} {te ta tb : TE}
theorem ev_mulS {a : Str} {n : Int} (ha : Ev ta σ H (.str a)) (hb : Ev tb σ H (.int n)) (h0 : 0 ≤ n) (h1 : n ≤ 1) (hl : a.length ≤ 1000) : Ev (tOp rMulS ta tb) σ H (.str (if n = 1 then a else "")) := fun H1 e Q q =>
  ha H1 e _ fun H2 e2 => hb H2 (e.trans e2) _ fun H3 e3 => ⟨a, n, rfl, rfl, h0, h1, hl, q H3 (e2.trans e3)⟩
end L2

set_option Elab.async false
set_option linter.all false
set_option maxRecDepth 100000
set_option maxHeartbeats 2000000
/-! Our own rule: two dicts of the same objects. -/
namespace L2
open PySem PySem.Spec PyProof PyProof.Rows Evl
def isRef : V → Bool | .ref _ => true | _ => false
theorem eqAt_ref {A : Around} {s : Shared} {v : V} {u u' : Value} (r : RelV v u) (r' : RelV v u') (f : isRef v = true) : SeqAt.EqAt A s u u' true := by
  cases v with
  | ref a => cases (show u = Value.ref a from r); cases (show u' = Value.ref a from r'); exact SeqAt.EqAt.same _
  | non => cases f
  | bl b => cases f
  | int i => cases f
  | str x => cases f
  | byt b => cases f
  | flt x => cases f
  | ty n => cases f
theorem hits_ref {κ : Type} [DecidableEq κ] {A : Around} {s : Shared} {kvs : List (κ × V)} {vb : List (κ × Value)} (rb : KV kvs vb) {ks : List (κ × V)} {va : List (κ × Value)} (ra : KV ks va) :
    (∀ p ∈ ks, valV kvs p.1 = some p.2 ∧ isRef p.2 = true) → PySem.W.KeqHits A s vb va true := by
  unfold KV at ra
  induction ra with
  | nil => intro _; exact .nil
  | @cons p q ps qs h t ih =>
    intro hp
    obtain ⟨h1, h2⟩ := h
    obtain ⟨e, f⟩ := hp p List.mem_cons_self
    have rr : RelO (some p.2) (valueAt vb p.1) := by rw [← e]; exact rb.val p.1
    obtain ⟨y, hy, ry⟩ := rr.some_of
    obtain ⟨k, v⟩ := q
    have h1' : p.1 = k := h1
    rw [h1'] at hy
    show PySem.W.KeqHits A s vb ((k, v) :: qs) (true && true)
    exact .hit hy (eqAt_ref h2 ry f) (ih fun p' hm => hp p' (List.mem_cons_of_mem _ hm))
def rNeDO : R2 := fun x y H Q => ∃ a b kvs, x = .ref a ∧ y = .ref b ∧ H a = some (.dK kvs) ∧ H b = some (.dK kvs) ∧ (kvs.map (·.1)).Nodup ∧ (∀ p ∈ kvs, isRef p.2 = true) ∧ Q (.bl false) H
theorem op_neDO {X : Cx} (hu : X.A.units < cLine) : OpR X (compareOp .NotEq) rNeDO := by
  intro pins s σ H x y v u Q I rx ry h
  obtain ⟨a, b, kvs, rfl, rfl, ea, eb, nd, fl, q⟩ := h
  obtain rfl : v = Value.ref a := rx
  obtain rfl : u = Value.ref b := ry
  obtain ⟨_, ya, va, ra, da⟩ := (show ObjOk X.prog X.w H s.heap a (.dK kvs) from I.hok a _ ea)
  obtain ⟨_, yb, vb, rb, db⟩ := (show ObjOk X.prog X.w H s.heap b (.dK kvs) from I.hok b _ eb)
  have hl : va.length = vb.length := ra.length.symm.trans rb.length
  exact PySem.W.keq_ne (knd := mixKind X.prog X.w) (r := true) ya yb da db hu (fun _ => hits_ref rb ra fun p hp => ⟨val_nodup nd p hp, fl p hp⟩) (fin_bl I q (by simp [hl]))
end L2

set_option Elab.async false
set_option linter.all false
set_option maxRecDepth 100000
set_option maxHeartbeats 2000000
/-! Our own layer: enumerate from a count, max of a pair, promises of things that are new altogether. -/
namespace L2
open PySem PySem.Spec PyProof.Rows
/-! ### enumerate(list, k) -/
def IteF (K : PySem.W.Frag) (a : Addr) (k : Int) : It :=
  ⟨fun i H => ∃ (xs : List V) (x : V), SqL K H a xs ∧ xs[i]? = some x, fun i H v H' => ∃ T x, v = .ref T ∧ H T = none ∧ H' = upd H T (.tup [.int (k + (i : Nat)), x]) ∧ ∀ xs, SqL K H a xs → xs[i]? = some x, fun i H => ∃ xs : List V, SqL K H a xs ∧ i = xs.length⟩
theorem turn_enumF {P : Program} {w : World} {K : PySem.W.Frag} {elts : List Expr} {kk : Nat} {tpos : Pos} {a e it : Addr} (k : Int) (hei : e ≠ it) (hea : e ≠ a) (hai : a ≠ it) :
    Turn P w K (.Tuple elts kk tpos) (IteF K a k) [e, it] e (fun i h => (∃ old, IsEnum h e it (k + ((i : Nat) : Int)) old) ∧ h.IsListIter it a i) where
  mem := by simp
  obj := fun i h st b hb => by
    obtain ⟨⟨old, he⟩, ⟨o, ho, hc, hd⟩⟩ := st
    have e' : b = e ∨ b = it := by simpa using hb
    rcases e' with z | z
    · rw [z]; exact ⟨_, he, fun v q => nomatch q⟩
    · rw [z]; exact ⟨o, ho, fun v q => by rw [hd] at q; cases q⟩
  keep := fun i h h' st k => let ⟨⟨old, he⟩, hi⟩ := st; ⟨⟨old, k e (by simp) _ he⟩, hi.at fun o q => k it (by simp) o q⟩
  item := by
    intro X hP hw hK hc i pins s σ H E I hf st hg
    subst hP hw hK
    obtain ⟨xs, x, hq, hx⟩ := hg
    obtain ⟨its, rv, p, _⟩ := I.list hq
    have hh : X.A.in1.handled = none := by simp [I.ok.hd hc]
    have lx : i < its.toArray.size := by
      rw [List.size_toArray, ← rv.length]
      exact (List.getElem?_eq_some_iff.mp hx).1
    have hef : e ∉ [it, a] := by
      simp only [List.mem_cons, List.not_mem_nil, or_false]
      rintro (q | q)
      · exact hei q
      · exact hea q
    refine (GoesN.enumFrom k (Draws.list hh it a hai its.toArray) e hei hef (by simp)).goes i s _ _ lx ⟨st.1, st.2, p.isList⟩ fun v h' tk hY st' hk htk => ?_
    obtain ⟨T, t, u1, rfl, hT, e1, tup⟩ := hY
    obtain ⟨u, hu, ru⟩ := rv.get hx
    have eu : u1 = u := by
      have e1' : its[i]? = some u1 := by simpa using e1
      rw [hu] at e1'
      exact (Option.some.inj e1').symm
    subst eu
    have new : ObjOk X.prog X.w (upd H T (.tup [.int (k + (i : Nat)), x])) h' T (.tup [.int (k + (i : Nat)), x]) :=
      ⟨by show 2 ≤ sizeLine; decide, [.int (k + (i : Nat)) t, u1], .cons ⟨t, rfl⟩ (.cons ru .nil), tup⟩
    have I1 := I.turnedNew (t' := tk) (ch := [e, it]) (fun b o hb q => hk b o hb q) hf hT new
    refine ⟨.ref T, _, I1, rfl, ⟨T, x, rfl, I.hok.fresh hT, rfl, fun l hl => by rw [I.list_inj hl hq]; exact hx⟩, ⟨st'.1, st'.2.1⟩, fun b hb => ?_⟩
    have hlt : b < s.heap.objs.size := by
      obtain ⟨⟨old, he⟩, ⟨o, ho, _⟩⟩ := st
      have e' : b = e ∨ b = it := by simpa using hb
      rcases e' with z | z
      · rw [z]; exact Heap.lt_size he
      · rw [z]; exact Heap.lt_size ho
    rw [upd_ne (Nat.ne_of_lt (Nat.lt_of_lt_of_le hlt hT))]
    exact (hf b hb).1
  done := by
    intro X hP hw hK hc i pins s σ H E I hf st hg
    subst hP hw hK
    obtain ⟨xs, hq, hend⟩ := hg
    obtain ⟨its, rv, p, _⟩ := I.list hq
    have hh : X.A.in1.handled = none := by simp [I.ok.hd hc]
    have en : i = its.toArray.size := by
      rw [List.size_toArray, ← rv.length]
      exact hend
    subst en
    have hef : e ∉ [it, a] := by
      simp only [List.mem_cons, List.not_mem_nil, or_false]
      rintro (q | q)
      · exact hei q
      · exact hea q
    exact (GoesN.enumFrom (elts := elts) (x1 := kk) (pos := tpos) k (Draws.list hh it a hai its.toArray) e hei hef (by simp)).stops s _ _ ⟨st.1, st.2, p.isList⟩ fun h' tk hk htk =>
      I.turnedL (t' := tk) (ch := [e, it]) (fun b o hb q => hk b o hb q) hf
  self := fun A i s Q E st h => let ⟨⟨_, he⟩, _⟩ := st; wpAny_pyIter_enum he h
def iEnumF (K : PySem.W.Frag) (ta : TA) : TI := fun σ H R => ta σ H fun vs H1 => ∃ a k xs, vs = [.ref a, .int k] ∧ 0 ≤ k ∧ k ≤ 1000 ∧ SqL K H1 a xs ∧ R (IteF K a k) H1
theorem pi_enumF {X : Cx} {e e2 : Expr} {ta : TA} {p pos tpos : Pos} {elts : List Expr} {kk : Nat} (hg : Gl X "enumerate") (hm : X.mg "enumerate" = none) (ha : PA X [e, e2] ta)
    (hs : starEach [e, e2] X.env = (false, eval e X.env) :: starEach [e2] X.env := by rfl) (hpl : (backTo pos (starEach [e2] X.env)).any (·.1) = false := by rfl) :
    PI X (.Tuple elts kk tpos) (.Call (.Name "enumerate" p) [e, e2] [] pos) (iEnumF X.K ta) := by
  constructor
  intro pins s σ H R I h
  refine Call_ (ld_blt I hg hm PyProof.Rows.boot_enumerate (PyProof.Rows.callWith_type1 (thn (ha.run pos pins s σ H _ I h) fun us s1 hv => ?_) hs hpl))
  obtain ⟨vs, H1, I1, r1, a, k, xs, rfl, k0, k1, hq, q⟩ := hv
  cases r1 with
  | cons ra rr =>
    cases rr with
    | cons rz rr =>
      cases rr
      cases ra
      obtain ⟨t, rfl⟩ := rz
      obtain ⟨its, rv, pl, _⟩ := I1.list hq
      have la : a < s1.heap.objs.size := pl.lt
      refine enum_begins (begins_list a its.toArray) pl.isList (by omega) (by omega) fun h' he hit hsz hk => wpAny_pyIter_enum he ?_
      have I2 : Inv X pins σ H1 { s1 with heap := h' } := I1.kept (t' := s1.toks) hk
      have st : (∃ old, IsEnum h' (s1.heap.objs.size + 1) s1.heap.objs.size (k + ((0 : Nat) : Int)) old) ∧ h'.IsListIter s1.heap.objs.size a 0 := by
        refine ⟨⟨.none, ?_⟩, ⟨_, hit, rfl, rfl⟩⟩
        have e0 : k + ((0 : Nat) : Int) = k := by omega
        rw [e0]
        exact he
      refine ⟨s1.heap.objs.size + 1, [s1.heap.objs.size + 1, s1.heap.objs.size], _, _, H1, rfl, I2, turn_enumF k (Nat.succ_ne_self _) (Nat.ne_of_gt (Nat.lt_succ_of_lt la)) (Nat.ne_of_lt la), st, fun b hb => ?_, q⟩
      have hle : s1.heap.objs.size ≤ b := by
        have e' : b = s1.heap.objs.size + 1 ∨ b = s1.heap.objs.size := by simpa using hb
        rcases e' with z | z
        · rw [z]; exact Nat.le_add_right _ _
        · rw [z]; exact Nat.le_refl _
      exact I1.fpOk hle (I1.hok.fresh hle)
theorem walk_enumF {K : PySem.W.Frag} {a : Addr} {k : Int} {xs : List V} : Walk (IteF K a k) xs.length (fun H => SqL K H a xs) (YPair (fun i => some (.int (k + (i : Nat)))) (fun i => xs[i]?)) := by
  refine ⟨fun i _ hi q => ⟨xs, xs[i], q, by simp [hi]⟩, fun _ q => ⟨xs, q, rfl⟩, fun i H v H' _ q y => ?_⟩
  obtain ⟨T, x, h1, h2, h3, h4⟩ := y
  exact ⟨T, .int (k + (i : Nat)), x, h1, h2, h3, rfl, h4 xs q⟩
/-! ### max of a pair -/
def rMaxT (K : PySem.W.Frag) : List V → Hp → VK → Prop := fun vs H Q => ∃ (a : Addr) (i j : Int), vs = [V.ref a] ∧ SqT K H a [.int i, .int j] ∧ Q (.int (max i j)) H
theorem cr_maxT {X : Cx} {K : PySem.W.Frag} (hK : X.K = K) (hc : X.calm = true) (hu : X.A.units + 64 < cLine) : CallR X (.builtin "max") (rMaxT K) := by
  subst hK
  intro pins s σ H vs us Q I r h
  obtain ⟨a, i, j, rfl, hs, q⟩ := h
  obtain ⟨its, rv, hl, _⟩ := I.tuple hs
  rw [Vals.ref1 r]
  cases rv with
  | cons r1 rv =>
    cases rv with
    | cons r2 rv =>
      cases rv
      obtain ⟨t1, rfl⟩ := r1
      obtain ⟨t2, rfl⟩ := r2
      refine PySem.W.max_tuple_data (as := []) (x := .int i) (xs := [.int j]) (I.ok.hd hc) hl (.cons (.int _ _) (.cons (.int _ _) .nil)) ⟨fun x hx y hy => ?_, fun x hx => ?_⟩ ?_ fun n v h' tk bs hv hr hk => ?_
      · simp only [List.mem_cons, List.not_mem_nil, or_false] at hx hy
        rcases hx with rfl | rfl <;> rcases hy with rfl | rfl <;> rfl
      · simp only [List.mem_cons, List.not_mem_nil, or_false] at hx
        rcases hx with rfl | rfl <;> exact fun e => nomatch e
      · show X.A.units + 1 + max 0 (max 0 0) < cLine
        have : max 0 (max 0 0) = 0 := rfl
        omega
      · have e1 : PySem.W.maxD (.int i) [.int j] = .int (max i j) := by
          have := PySem.W.maxD_ints i [j]
          exact this
        rw [e1] at hr
        obtain ⟨t, rfl⟩ : ∃ t, v = .int (max i j) t := by cases hr; exact ⟨_, rfl⟩
        exact ⟨.int _, H, I.kept hk, ⟨_, rfl⟩, q⟩
/-- text += text -/
theorem ip_addS {X : Cx} : PIp X .Add (fun x y H Q => ∃ i j, x = .str i ∧ y = .str j ∧ i.length + j.length ≤ sizeLine ∧ Q (.str (i ++ j)) H) := iop_add_str
end L2

set_option Elab.async false
set_option linter.all false
set_option maxRecDepth 100000
set_option maxHeartbeats 2000000
/-! Our own layer: things that are new altogether, dicts by any key, ends of lists. -/
namespace Evl
open PySem L2 Com TX Prt
/-- told by what came since H0 alone -/
def New (H0 : Hp) (P : Hp → Prop) (H : Hp) : Prop := ∀ H', (∀ a o, H0 a = none → H a = some o → H' a = some o) → P H'
section
variable {H0 H1 H H' : Hp} {P P' : Hp → Prop} {y : Addr} {u : HO}
theorem New.here (h : New H0 P H) : P H := h H fun _ _ _ e => e
theorem New.mono (h : New H0 P H) (e : Ex H H') : New H0 P H' := fun H2 k => h H2 fun a o n q => k a o n (e a o q)
theorem New.kept (h : New H0 P H) (k : ∀ a o, H0 a = none → H a = some o → H' a = some o) : New H0 P H' := fun H2 k2 => h H2 fun a o n q => k2 a o n (k a o n q)
theorem New.back (h : New H1 P H) (e : Ex H0 H1) : New H0 P H := fun H2 k => h H2 fun a o n q => k a o (fresh_back e n) q
theorem New.upd (h : New H0 P H) (hy : H0 y ≠ none) : New H0 P (upd H y u) := fun H2 k => h H2 fun a o n q => k a o n (by
  have ne : a ≠ y := fun e => hy (by rw [← e]; exact n)
  rw [upd_ne ne]
  exact q)
theorem New.imp (h : New H0 P H) (i : ∀ H, P H → P' H) : New H0 P' H := fun H2 k => i _ (h H2 k)
theorem New.and (h : New H0 P H) (h' : New H0 P' H) : New H0 (fun H => P H ∧ P' H) H := fun H2 k => ⟨h H2 k, h' H2 k⟩
end
section
variable {K : PySem.W.Frag} {σ : L2.St} {H H' : Hp} {ta tb tc te td ty tx tv : TE} {t u : TT} {x y z v : V} {D : Ends} {tz tu : TS} {g : TG}
/-- a value and what it leads to, all told by what is new -/
def EvN (P : Hp → V → Prop) (te : TE) (σ : L2.St) (H : Hp) : Prop := ∀ H1, Ex H H1 → ∀ Q : VK, (∀ v H2, Ex H1 H2 → New H1 (fun H' => P H' v) H2 → Q v H2) → te σ H1 Q
theorem EvN.mono {P : Hp → V → Prop} (h : EvN P te σ H) (e : Ex H H') : EvN P te σ H' := fun H1 a => h H1 (e.trans a)
theorem EvN.imp {P P' : Hp → V → Prop} (h : EvN P te σ H) (i : ∀ H v, P H v → P' H v) : EvN P' te σ H := fun H1 e Q q => h H1 e Q fun v H2 e2 n => q v H2 e2 (n.imp fun _ => i _ _)
theorem EvN.toG {P : Hp → V → Prop} (h : EvN P te σ H) : EvG P te σ H := fun H1 e Q q => h H1 e Q fun v H2 e2 n => q v H2 e2 n.here
def EvLN (P : Nat → Hp → V → Prop) (n : Nat) (te : TE) (σ : L2.St) (H : Hp) : Prop := ∀ H1, Ex H H1 → ∀ Q : VK,
  (∀ p xs H2, H1 p = none → Ex H1 H2 → xs.length = n → New H1 (fun H' => H' p = some (.lst xs) ∧ ∀ i x, xs[i]? = some x → P i H' x) H2 → Q (.ref p) H2) → te σ H1 Q
theorem EvLN.mono {P : Nat → Hp → V → Prop} {n : Nat} (h : EvLN P n te σ H) (e : Ex H H') : EvLN P n te σ H' := fun H1 a => h H1 (e.trans a)
/-- a list, from a comprehension whose items' base is told -/
def Rn (Hb : Hp) (P : Nat → Hp → V → Prop) : Addr → Nat → Hp → V → Prop := fun p i H v => ∃ H0, Ex Hb H0 ∧ H0 p ≠ none ∧ New H0 (fun H' => P i H' v) H
theorem Rn.mono {Hb : Hp} {P : Nat → Hp → V → Prop} (p : Addr) (i : Nat) (H H' : Hp) (v : V) (e : Ex H H') (h : Rn Hb P p i H v) : Rn Hb P p i H' v := by
  obtain ⟨H0, h1, h2, h3⟩ := h
  exact ⟨H0, h1, h2, h3.mono e⟩
theorem eg_Rn {P : Nat → Hp → V → Prop} {Hb : Hp} {Dl : Addr} {ys : List V} {i : Nat} (e0 : Ex Hb H) (hD : H Dl = some (.lst ys)) (h : EvN (P i) te σ H) : EvG (fun H4 v => ∀ zs, Rn Hb P Dl i (upd H4 Dl (.lst zs)) v) te σ H := fun H1 e Q q =>
  h H1 e _ fun v H2 e2 n => q v H2 e2 fun zs => by
    have nD : H1 Dl ≠ none := by rw [e _ _ hD]; exact fun e => nomatch e
    exact ⟨H1, e0.trans e, nD, n.upd nD⟩
theorem eln_of {P : Nat → Hp → V → Prop} {n : Nat} (h : ∀ Hb, Ex H Hb → EvLG (Rn Hb P) n te σ Hb) : EvLN P n te σ H := fun H1 e Q q =>
  h H1 e H1 (Ex.refl _) Q fun p xs H2 np e2 hp hl hx => q p xs H2 np e2 hl fun H3 k => ⟨k p _ np hp, fun i x hi => by
    obtain ⟨H0, h1, h2, h3⟩ := hx i x hi
    exact h3 _ fun a o n q => k a o (fresh_back h1 n) q⟩
theorem lcN {P : Nat → Hp → V → Prop} {tl : TE} {vs : List Nat} {xs : List V} (h : EvS K tl σ H xs) (hz : xs.length ≤ 40000)
    (he : ∀ i x H1, Ex H H1 → xs[i]? = some x → ∃ σ2, (∀ Q : L2.St → Hp → Prop, Q σ2 H1 → g x (wipe σ vs) H1 Q) ∧ wipe σ2 vs = wipe σ vs ∧ EvN (P i) te σ2 H1) :
    EvLN P xs.length (tLc (iList K tl) g tYes te vs) σ H := eln_of fun Hb e0 =>
  lcG (fun p i H H' v => Rn.mono p i H H' v) (fun H1 e => h H1 (e0.trans e)) hz fun i x H1 Dl ys e1 nD hD hi => by
    obtain ⟨σ2, h1, h2, h3⟩ := he i x H1 (e0.trans e1) hi
    exact ⟨σ2, h1, h2, eg_Rn e1 hD h3⟩
/-- an argument that is a list, there or new -/
def EvAS (K : PySem.W.Frag) (ta : TA) (σ : L2.St) (H : Hp) (xs : List V) : Prop := ∀ H1, Ex H H1 → ∀ Q : List V → Hp → Prop, (∀ a H2, Ex H1 H2 → SqL K H2 a xs → Q [.ref a] H2) → ta σ H1 Q
theorem eas_v {p : Addr} {xs : List V} (h : Ev te σ H (.ref p)) (hx : SqL K H p xs) : EvAS K (tCons te tNil) σ H xs := fun H1 e Q q => h H1 e _ fun H2 e2 => q p H2 e2 (ex_l (e.trans e2) hx)
theorem eas_l {xs : List V} (h : EvL te σ H xs) : EvAS K (tCons te tNil) σ H xs := fun H1 e Q q => h H1 e _ fun p H2 _ e2 h2 => q p H2 e2 (sq_of h2)
theorem lcGE {R : Addr → Nat → Hp → V → Prop} {tl : TA} {vs : List Nat} {xs : List V} {j1 j2 : Nat} (mo : ∀ p i H H' v, Ex H H' → R p i H v → R p i H' v) (h : EvAS K tl σ H xs) (hz : xs.length ≤ 40000)
    (hw : ∀ x y, wipe (((wipe σ vs).set j1 (some x)).set j2 (some y)) vs = wipe σ vs)
    (he : ∀ (i : Nat) x H1 Dl ys, Ex H H1 → H Dl = none → H1 Dl = some (.lst ys) → xs[i]? = some x →
      EvG (fun H4 v => ∀ zs, R Dl i (upd H4 Dl (.lst zs)) v) te (((wipe σ vs).set j1 (some (.int i))).set j2 (some x)) H1) :
    EvLG R xs.length (tLc (iEnum K tl) (gTup K 2 (gCons (gName j1) (gCons (gName j2) gNil))) tYes te vs) σ H := fun H0 e Q q =>
  h H0 e _ fun a H1 e1 hS => ⟨a, xs, rfl, hS, fun Dl hD =>
    lc_it (walk_enum (K := K) (a := a) (xs := xs)) (Cg R H1 Dl) ⟨hD, Ex.new hD, [], upd_same, rfl, fun j y h => by simp at h⟩ (fun i H' _ p => ex_l p.2.1 hS) (fun i x H2 H3 il p y => by
      obtain ⟨T, a1, a2, rfl, hT, rfl, h1, h2⟩ := y
      cases h1
      obtain ⟨p1, p2, ys, p3, p4, p5⟩ := p
      have eT : Ex H2 (upd H2 T (.tup [.int (i : Nat), a2])) := Ex.new hT
      refine ⟨T, _, rfl, st_of upd_same, rfl, _, _, rfl, _, [], rfl, rfl, hw _ _, ?_⟩
      refine he i a2 (upd H2 T (.tup [.int (i : Nat), a2])) Dl ys (((e.trans e1).trans p2).trans eT) (fresh_back (e.trans e1) p1) (eT _ _ p3) h2 _ (Ex.refl _) _ fun v H4 e4 pv => ⟨ys, e4 _ _ (eT _ _ p3), sz_lt (by omega), p1, Ex.mut ((p2.trans eT).trans e4) p1, ys ++ [v], upd_same, by rw [List.length_append, p4]; rfl, fun j y hj zs => ?_⟩
      rw [upd_upd]
      rcases Nat.lt_or_ge j ys.length with hlt | hge
      · rw [List.getElem?_append_left hlt] at hj
        exact mo _ _ _ _ _ (Ex.both (eT.trans e4)) (p5 j y hj zs)
      · have hj2 : j = ys.length := by
          have := (List.getElem?_eq_some_iff.mp hj).1
          rw [List.length_append] at this
          have h1 : [v].length = 1 := rfl
          omega
        subst hj2
        rw [List.getElem?_append_right (Nat.le_refl _), Nat.sub_self] at hj
        cases hj
        rw [p4]
        exact pv zs)
      (fun H' p => by
        obtain ⟨p1, p2, ys, p3, p4, p5⟩ := p
        refine q Dl ys H' (fresh_back e1 p1) (e1.trans p2) p3 p4 fun j y hj => ?_
        have := p5 j y hj ys
        rw [updSelf p3] at this
        exact this)⟩
theorem lcNE {P : Nat → Hp → V → Prop} {tl : TA} {vs : List Nat} {xs : List V} {j1 j2 : Nat} (h : EvAS K tl σ H xs) (hz : xs.length ≤ 40000)
    (hw : ∀ x y, wipe (((wipe σ vs).set j1 (some x)).set j2 (some y)) vs = wipe σ vs)
    (he : ∀ (i : Nat) x H1, Ex H H1 → xs[i]? = some x → EvN (P i) te (((wipe σ vs).set j1 (some (.int i))).set j2 (some x)) H1) :
    EvLN P xs.length (tLc (iEnum K tl) (gTup K 2 (gCons (gName j1) (gCons (gName j2) gNil))) tYes te vs) σ H := eln_of fun Hb e0 =>
  lcGE (fun p i H H' v => Rn.mono p i H H' v) (fun H1 e => h H1 (e0.trans e)) hz hw fun i x H1 Dl ys e1 nD hD hi => eg_Rn e1 hD (he i x H1 (e0.trans e1) hi)
theorem q_asgLN {P : Nat → Hp → V → Prop} {n j : Nat} (h : EvLN P n te σ H) (k : ∀ p xs H1, H p = none → Ex H H1 → xs.length = n → New H (fun H' => H' p = some (.lst xs) ∧ ∀ i x, xs[i]? = some x → P i H' x) H1 → tz D (σ.set j (some (.ref p))) H1) : tSeq (tAsg te (gName j)) tz D σ H := h H (Ex.refl H) _ k
theorem q_asgN {P : Hp → V → Prop} {j : Nat} (h : EvN P te σ H) (k : ∀ v H1, Ex H H1 → New H (fun H' => P H' v) H1 → tz D (σ.set j (some v)) H1) : tSeq (tAsg te (gName j)) tz D σ H := h H (Ex.refl H) _ k
/-- a, b = e, f, both new -/
theorem q_par2 {P1 P2 : Hp → V → Prop} {i j : Nat} (h1 : EvN P1 ta σ H) (h2 : EvN P2 tb σ H) (k : ∀ v w H1, Ex H H1 → New H (fun H' => P1 H' v) H1 → New H (fun H' => P2 H' w) H1 → tz D ((σ.set i (some v)).set j (some w)) H1) :
    tSeq (tPar i j (tCons ta (tCons tb tNil))) tz D σ H := h1 H (Ex.refl H) _ fun v H1 e1 n1 => h2 H1 e1 _ fun w H2 e2 n2 => ⟨v, w, rfl, k v w H2 (e1.trans e2) (n1.mono e2) (n2.back e1)⟩
/-! ### built-ins over a new list -/
theorem ev_cbL {r : List V → Hp → VK → Prop} {xs : List V} (ha : EvL ta σ H xs) (hr : ∀ p H1, Ex H H1 → H1 p = some (.lst xs) → RC r [.ref p] H1 z) : Ev (tCB r (tCons ta tNil)) σ H z := fun H1 e Q q =>
  ha H1 e _ fun p H2 np e2 h2 => hr p H2 (e.trans e2) h2 H2 (Ex.refl _) Q fun H3 e3 => q H3 (e2.trans e3)
theorem rc_max {p : Addr} {ns : List Int} {m : Int} (h : SqL K H p (ns.map V.int)) (hm : m ∈ ns) (hle : ∀ y ∈ ns, y ≤ m) : RC (rMax K) [.ref p] H (.int m) := rc_val fun H1 e Q q => by
  refine ⟨p, ns, rfl, ex_l e h, List.length_pos_of_mem hm, fun m' h1 h2 => ?_⟩
  have e1 := hle m' h1
  have e2 := h2 m hm
  have : m' = m := by omega
  rw [this]
  exact q
theorem rc_sum {p : Addr} {ns : List Int} (h : SqL K H p (ns.map V.int)) : RC (rSum K) [.ref p] H (.int ns.sum) := rc_val fun H1 e Q q => ⟨p, ns, rfl, ex_l e h, q⟩
theorem rc_maxT {p : Addr} {i j : Int} (h : SqT K H p [.int i, .int j]) : RC (rMaxT K) [.ref p] H (.int (max i j)) := rc_val fun H1 e Q q => ⟨p, i, j, rfl, ex_t e h, q⟩
theorem rc_intS {a : Str} {n : Int} (h : PySem.intText? a = some n) (hl : a.length ≤ 640) : RC (fun xs H Q => ∃ a n, xs = [.str a] ∧ PySem.intText? a = some n ∧ a.length ≤ 640 ∧ Q (.int n) H) [.str a] H (.int n) := rc_val fun _ _ _ q => ⟨a, n, rfl, h, hl, q⟩
theorem rc_strI {i : Int} (h : i.natAbs.log2 < 1920) : RC (fun xs H Q => ∃ i, xs = [.int i] ∧ i.natAbs.log2 < 1920 ∧ Q (.str (toString i)) H) [.int i] H (.str (toString i)) := rc_val fun _ _ _ q => ⟨i, rfl, h, q⟩
theorem rc_max2 {i j : Int} : RC (fun xs H Q => ∃ i j, xs = [.int i, .int j] ∧ Q (.int (if j > i then j else i)) H) [.int i, .int j] H (.int (if j > i then j else i)) :=
  rc_val (z := .int (if j > i then j else i)) fun _ _ _ q => ⟨i, j, rfl, q⟩
/-! ### dicts -/
theorem ev_dgetK {kvs : List (Key × V)} {a : Addr} {k : Key} (h : Ev td σ H (.ref a)) (hk : Ev ty σ H (kV k)) (hd : Rd H a (.dK kvs)) (hv : valV kvs k = some v) : Ev (tDGet td ty) σ H v := fun H1 e Q q =>
  h H1 e _ fun H2 e2 => hk H2 (e.trans e2) _ fun H3 e3 => ⟨a, v, rfl, .inl ⟨kvs, k, ex_rd ((e.trans e2).trans e3) hd, rfl, hv.symm⟩, q H3 (e2.trans e3)⟩
theorem ev_dget2 {kvs : List (Key × V)} {a : Addr} {k : Key} (h : Ev td σ H (.ref a)) (hk : Ev ty σ H (kV k)) (hx : Ev tx σ H z) (hd : Rd H a (.dK kvs)) : Ev (tDGet2 td ty tx) σ H ((valV kvs k).getD z) := fun H1 e Q q =>
  h H1 e _ fun H2 e2 => ⟨a, rfl, .inl ⟨kvs, ex_rd (e.trans e2) hd⟩, hk H2 (e.trans e2) _ fun H3 e3 => hx H3 ((e.trans e2).trans e3) _ fun H4 e4 => ⟨_, .inl ⟨kvs, k, ex_rd (((e.trans e2).trans e3).trans e4) hd, rfl, rfl⟩, q H4 ((e2.trans e3).trans e4)⟩⟩
theorem ev_din {kvs : List (Key × V)} {a : Addr} {k : Key} (hk : Ev ty σ H (kV k)) (h : Ev td σ H (.ref a)) (hd : Rd H a (.dK kvs)) : Ev (tDIn ty td) σ H (.bl (valV kvs k).isSome) := fun H1 e Q q =>
  hk H1 e _ fun H2 e2 => h H2 (e.trans e2) _ fun H3 e3 => ⟨a, _, rfl, .inl ⟨kvs, k, ex_rd ((e.trans e2).trans e3) hd, rfl, rfl⟩, q H3 (e2.trans e3)⟩
theorem s_dput {kvs : List (Key × V)} {a : Addr} {k : Key} (hv : Ev tv σ H v) (h : Ev td σ H (.ref a)) (hk : Ev ty σ H (kV k)) (hd : H a = some (.dK kvs)) (hz : kvs.length < 100000) (kk : ∀ H1, Ex H H1 → D.nx σ (upd H1 a (.dK (putK kvs k v)))) : sDPut td ty tv D σ H :=
  hv H (Ex.refl _) _ fun H1 e1 => h H1 e1 _ fun H2 e2 => hk H2 (e1.trans e2) _ fun H3 e3 => ⟨a, _, rfl, .inl ⟨kvs, k, ((e1.trans e2).trans e3) _ _ hd, rfl, sz_lt hz, rfl⟩, kk H3 ((e1.trans e2).trans e3)⟩
theorem q_dput {kvs : List (Key × V)} {a : Addr} {k : Key} (hv : Ev tv σ H v) (h : Ev td σ H (.ref a)) (hk : Ev ty σ H (kV k)) (hd : H a = some (.dK kvs)) (hz : kvs.length < 100000) (kk : ∀ H1, Ex H H1 → tz D σ (upd H1 a (.dK (putK kvs k v)))) : tSeq (sDPut td ty tv) tz D σ H := s_dput (D := { D with nx := tz D }) hv h hk hd hz kk
theorem q_dnew {i : Nat} (k : ∀ p, H p = none → tz D (σ.set i (some (.ref p))) (upd H p (.dK []))) : tSeq (tAsg tDNewK (gName i)) tz D σ H := fun p hp => k p hp
/-! ### ends of lists, texts -/
theorem s_setI {l : Addr} {xs : List V} {i : Int} {j : Nat} (h : Ev te σ H v) (ho : Ev ta σ H (.ref l)) (hi : Ev tb σ H (.int i)) (hl : H l = some (.lst xs)) (hj : ixN xs.length i = some j) (k : ∀ H1, Ex H H1 → D.nx σ (upd H1 l (.lst (xs.set j v)))) :
    tAsg te (gSub ta tb rSetL) D σ H := h H (Ex.refl _) _ fun H1 e1 => ho H1 e1 _ fun H2 e2 => hi H2 (e1.trans e2) _ fun H3 e3 => ⟨l, xs, i, j, rfl, rfl, ((e1.trans e2).trans e3) _ _ hl, hj, k H3 ((e1.trans e2).trans e3)⟩
theorem q_setI {l : Addr} {xs : List V} {i : Int} {j : Nat} (h : Ev te σ H v) (ho : Ev ta σ H (.ref l)) (hi : Ev tb σ H (.int i)) (hl : H l = some (.lst xs)) (hj : ixN xs.length i = some j) (k : ∀ H1, Ex H H1 → tz D σ (upd H1 l (.lst (xs.set j v)))) :
    tSeq (tAsg te (gSub ta tb rSetL)) tz D σ H := s_setI (D := { D with nx := tz D }) h ho hi hl hj k
theorem s_augS {i : Nat} {a b : Str} (hx : σ[i]? = some (some (.str a))) (h : Ev te σ H (.str b)) (hl : a.length + b.length ≤ 100000) (k : ∀ H1, Ex H H1 → D.nx (σ.set i (some (.str (a ++ b)))) H1) :
    tAug i te (fun x y H Q => ∃ i j, x = .str i ∧ y = .str j ∧ i.length + j.length ≤ sizeLine ∧ Q (.str (i ++ j)) H) D σ H := ⟨_, hx, h H (Ex.refl _) _ fun H1 e => ⟨a, b, rfl, rfl, sz_of hl, k H1 e⟩⟩
theorem q_augS {i : Nat} {a b : Str} (hx : σ[i]? = some (some (.str a))) (h : Ev te σ H (.str b)) (hl : a.length + b.length ≤ 100000) (k : ∀ H1, Ex H H1 → tz D (σ.set i (some (.str (a ++ b)))) H1) :
    tSeq (tAug i te (fun x y H Q => ∃ i j, x = .str i ∧ y = .str j ∧ i.length + j.length ≤ sizeLine ∧ Q (.str (i ++ j)) H)) tz D σ H := s_augS (D := { D with nx := tz D }) hx h hl k
theorem el_rev {p : Addr} {xs : List V} (h : Ev te σ H (.ref p)) (hp : SqL K H p xs) : EvL (tRevL K te) σ H xs.reverse := fun H1 e Q q =>
  h H1 e _ fun H2 e2 => ⟨p, xs, rfl, ex_l (e.trans e2) hp, fun l hl => q l _ (fresh_back e2 hl) (e2.trans (Ex.new hl)) upd_same⟩
/-- for i, x in enumerate(list, k) -/
theorem s_forEF {ta : TA} {a : Addr} {xs : List V} {k : Int} {j1 j2 : Nat} (h : EvA ta σ H [.ref a, .int k]) (h0k : 0 ≤ k ∧ k ≤ 1000) (hx : SqL K H a xs) (Pv : Nat → L2.St → Hp → Prop) (h0 : ∀ H1, Ex H H1 → Pv 0 σ H1) (hl : ∀ i σ' H', i ≤ xs.length → Pv i σ' H' → SqL K H' a xs)
    (hs : ∀ i x σ' H0 H', xs[i]? = some x → Pv i σ' H0 → Ex H0 H' → tu { D with nx := Pv (i + 1), ct := Pv (i + 1), bk := D.nx } ((σ'.set j1 (some (.int (k + (i : Int))))).set j2 (some x)) H') (hd : ∀ σ' H', Pv xs.length σ' H' → D.nx σ' H') :
    tFor (iEnumF K ta) (gTup K 2 (gCons (gName j1) (gCons (gName j2) gNil))) tu D σ H :=
  h H (Ex.refl H) _ fun H1 e => ⟨a, k, xs, rfl, h0k.1, h0k.2, ex_l e hx, for_it (walk_enumF (K := K) (a := a) (k := k) (xs := xs)) Pv (h0 H1 e) hl (fun i x σ' H2 H3 hi p y => by
    obtain ⟨T0, a1, a2, rfl, hT, rfl, h1, h2⟩ := y
    cases h1
    exact ⟨T0, _, rfl, st_of upd_same, rfl, _, _, rfl, _, [], rfl, rfl, hs i a2 σ' H2 _ h2 p (Ex.new hT)⟩) hd⟩
theorem et_neD {d e : PyData} (ha : EvG (fun H1 v => Dp K H1 v d) ta σ H) (hb : ∀ H1, Ex H H1 → EvG (fun H1 v => Dp K H1 v e) tb σ H1) (sd : SeqAt.shaped d = true) (se : SeqAt.shaped e = true) : EvT (tTest (tOp (rNeD K) ta tb)) σ H (!(PyData.eqv d e)) := fun H1 e1 Q q =>
  ha H1 e1 _ fun v H2 e2 hd => hb H2 (e1.trans e2) H2 (Ex.refl _) _ fun w H3 e3 he => ⟨d, e, Dp.mono e3 _ _ hd, he, sd, se, ⟨_, rfl, q H3 (e2.trans e3)⟩⟩

/-! ### objects, calls -/
def Kept (H H' : Hp) (x : Addr) : Prop := ∀ b o, b ≠ x → H b = some o → H' b = some o
theorem Kept.of {x : Addr} (e : Ex H H') : Kept H H' x := fun b o _ h => e b o h
theorem Kept.trans {H1 H2 : Hp} {x : Addr} (a : Kept H H1 x) (b : Kept H1 H2 x) : Kept H H2 x := fun c o hc h => b c o hc (a c o hc h)
theorem Kept.upd {x : Addr} {o : HO} : Kept H (upd H x o) x := fun b o hb h => by rw [upd_ne hb]; exact h
theorem ev_fld {a C dx : Addr} {fs : List (Str × V)} {f : Str} (h : Ev ta σ H (.ref a)) (ho : H a = some (.ins C dx fs)) (hc : Cls K C) (hn : NoAttr K C f) (hl : fs.lookup f = some v) : Ev (tFld K ta f) σ H v := fun H1 e Q q =>
  h H1 e _ fun H2 e2 => ⟨a, C, dx, fs, v, rfl, e2 _ _ (e _ _ ho), hc, hn, hl, q H2 e2⟩
theorem cut_from (z : Str) (a b : Nat) (h : a ≤ b) (hb : b ≤ (L z).length) : cutS z (some (a : Int)) (some (b : Int)) = T (((L z).drop a).take (b - a)) := by
  unfold cutS
  have h1 : HT.sIx z.length 0 (some (a : Int)) = a := by rw [HT.sIx_nat, len_L]; omega
  have h2 : HT.sIx z.length z.length (some (b : Int)) = b := by rw [HT.sIx_nat, len_L]; omega
  rw [h1, h2]
theorem cut_end (z : Str) (a : Nat) (h : a ≤ (L z).length) : cutS z (some (a : Int)) none = T ((L z).drop a) := by
  unfold cutS
  have h1 : HT.sIx z.length 0 (some (a : Int)) = a := by rw [HT.sIx_nat, len_L]; omega
  have h2 : HT.sIx z.length z.length none = z.length := rfl
  rw [h1, h2, List.take_of_length_le]
  rw [List.length_drop, len_L]
  exact Nat.le_refl _
theorem q_asgCg {sp : Sp} {dvs vs : List V} {E : XK} {ta : TA} (h : EvA ta σ H vs) (hs : ∀ H1, Ex H H1 → sp (vs ++ dvs) H1 (fun v H2 => g v σ H2 (tz D)) E) :
    tSeq (tAsg (tCall sp dvs E ta) g) tz D σ H := h H (Ex.refl H) _ fun H1 e => hs H1 e
/-- a new thing, by its class: what is promised of it is told by what is new -/
theorem en_make {C : Addr} {sp : Sp} {E : XK} {ta : TA} {vs : List V} {P : Hp → V → Prop} (h : EvA ta σ H vs)
    (hs : ∀ H1 x dx, Ex H H1 → H1 x = none → H1 dx = none → dx ≠ x → ∀ Q : VK, (∀ H', Kept (upd (upd H1 dx (.own x)) x (.ins C dx [])) H' x → New H1 (fun H'' => P H'' (.ref x)) H' → Q .non H') →
      sp (.ref x :: vs) (upd (upd H1 dx (.own x)) x (.ins C dx [])) Q E) : EvN P (tMake C sp [] E ta) σ H := fun H1 e Q q =>
  h H1 e _ fun H2 e2 x dx h1 h2 h3 => by
    rw [List.append_nil]
    refine hs H2 x dx (e.trans e2) h1 h2 h3 _ fun H' kp n => ⟨rfl, q _ _ (fun a o ha => kp a o ?_ ?_) (n.back e2)⟩
    · exact fun z => by rw [z, fresh_back e2 h1] at ha; cases ha
    · have n1 : a ≠ x := fun z => by rw [z, fresh_back e2 h1] at ha; cases ha
      have n2 : a ≠ dx := fun z => by rw [z, fresh_back e2 h2] at ha; cases ha
      rw [upd_ne n1, upd_ne n2]
      exact e2 _ _ ha
theorem en_makeL {C : Addr} {sp : Sp} {E : XK} {xs : List V} {P : Hp → V → Prop} (h : EvL ta σ H xs)
    (hs : ∀ H1 a x dx, Ex H H1 → H1 a = some (.lst xs) → H1 x = none → H1 dx = none → dx ≠ x → ∀ Q : VK, (∀ H', Kept (upd (upd H1 dx (.own x)) x (.ins C dx [])) H' x → New H1 (fun H'' => P H'' (.ref x)) H' → Q .non H') →
      sp [.ref x, .ref a] (upd (upd H1 dx (.own x)) x (.ins C dx [])) Q E) : EvN P (tMake C sp [] E (tCons ta tNil)) σ H := fun H1 e Q q =>
  h H1 e _ fun a H2 _ e2 ha2 x dx h1 h2 h3 => by
    refine hs H2 a x dx (e.trans e2) ha2 h1 h2 h3 _ fun H' kp n => ⟨rfl, q _ _ (fun b o hb => kp b o ?_ ?_) (n.back e2)⟩
    · exact fun z => by rw [z, fresh_back e2 h1] at hb; cases hb
    · have n1 : b ≠ x := fun z => by rw [z, fresh_back e2 h1] at hb; cases hb
      have n2 : b ≠ dx := fun z => by rw [z, fresh_back e2 h2] at hb; cases hb
      rw [upd_ne n1, upd_ne n2]
      exact e2 _ _ hb
theorem el_methL {C a dx : Addr} {m : Str} {sp : Sp} {E : XK} {t : TA} {vs xs : List V} {fs : List (Str × V)} (h : Ev ta σ H (.ref a)) (ho : H a = some (.ins C dx fs)) (hm : fs.lookup m = none) (ht : EvA t σ H vs) (hs : SpL sp (.ref a :: vs) H xs) :
    EvL (tMeth C m sp [] E ta t) σ H xs := fun H1 e Q q => h H1 e _ fun H2 e2 => ⟨a, dx, fs, rfl, e2 _ _ (e _ _ ho), hm, ht H2 (e.trans e2) _ fun H3 e3 => by
      rw [List.append_nil]
      exact hs H3 ((e.trans e2).trans e3) Q (fun p H4 np e4 h4 => q p H4 (fresh_back (e2.trans e3) np) ((e2.trans e3).trans e4) h4) E⟩
/-- a method that tells None, as a statement -/
theorem s_meth {C a dx : Addr} {m : Str} {sp : Sp} {E : XK} {t : TA} {vs : List V} {fs : List (Str × V)} (h : Ev ta σ H (.ref a)) (ho : H a = some (.ins C dx fs)) (hm : fs.lookup m = none) (ht : EvA t σ H vs)
    (hs : ∀ H1, Ex H H1 → sp (.ref a :: vs) H1 (fun _ H2 => D.nx σ H2) E) : tDrop (tMeth C m sp [] E ta t) D σ H := h H (Ex.refl _) _ fun H2 e2 => ⟨a, dx, fs, rfl, e2 _ _ ho, hm, ht H2 e2 _ fun H3 e3 => by
      rw [List.append_nil]
      exact hs H3 (e2.trans e3)⟩
theorem el_slN {tl th : TO} {xs : List V} {lo hi : Option Int} (h : EvL te σ H xs) (h1 : ∀ H1, Ex H H1 → EvO tl σ H1 lo) (h2 : ∀ H1, Ex H H1 → EvO th σ H1 hi) : EvL (tSl (rSlL K) te tl th) σ H (cutV xs lo hi) := fun H1 e Q q =>
  h H1 e _ fun a H2 na e2 ha => h1 H2 (e.trans e2) H2 (Ex.refl _) _ fun H3 e3 => h2 H3 ((e.trans e2).trans e3) H3 (Ex.refl _) _ fun H4 e4 => ⟨a, xs, rfl, ex_l (e3.trans e4) (sq_of ha), fun l hl => q l _ (fresh_back ((e2.trans e3).trans e4) hl) (((e2.trans e3).trans e4).trans (Ex.new hl)) upd_same⟩
/-- range(n), n below nought too -/
theorem s_forRn {ta : TA} {j : Nat} {n : Int} (h : EvA ta σ H [.int n]) (hn : -100000 ≤ n ∧ n ≤ 100000) (Pv : Nat → L2.St → Hp → Prop) (h0 : ∀ H1, Ex H H1 → Pv 0 σ H1)
    (hs : ∀ (i : Nat) σ' H', (i : Int) < n → Pv i σ' H' → tu { D with nx := Pv (i + 1), ct := Pv (i + 1), bk := D.nx } (σ'.set j (some (.int (i : Int)))) H') (hd : ∀ σ' H', Pv n.toNat σ' H' → D.nx σ' H') : tFor (iRng1 ta) (gName j) tu D σ H :=
  h H (Ex.refl H) _ fun H1 e => ⟨n, rfl, by omega, by omega, for_range (lo := 0) (n := n.toNat) Pv (h0 H1 e) (fun i σ' H' hi p => by
    have e0 : (0 : Int) + (i : Int) = (i : Int) := Int.zero_add _
    show tu { D with nx := Pv (i + 1), ct := Pv (i + 1), bk := D.nx } (σ'.set j (some (.int ((0 : Int) + (i : Int))))) H'
    rw [e0]
    exact hs i σ' H' (by omega) p) hd⟩
def EvAK (K : PySem.W.Frag) (k : Int) (ta : TA) (σ : L2.St) (H : Hp) (xs : List V) : Prop := ∀ H1, Ex H H1 → ∀ Q : List V → Hp → Prop, (∀ a H2, H1 a = none → Ex H1 H2 → H2 a = some (.lst xs) → Q [.ref a, .int k] H2) → ta σ H1 Q
theorem eak_l {xs : List V} {k : Int} (h : EvL ta σ H xs) (hb : ∀ H1, Ex H H1 → Ev tb σ H1 (.int k)) : EvAK K k (tCons ta (tCons tb tNil)) σ H xs := fun H1 e Q q => h H1 e _ fun a H2 na e2 h2 => hb H2 (e.trans e2) H2 (Ex.refl _) _ fun H3 e3 => q a H3 na (e2.trans e3) (e3 _ _ h2)
/-- for i, x in enumerate(.., k), the list there or new -/
theorem q_forEK {tl : TA} {xs : List V} {k : Int} {j1 j2 : Nat} (h : EvAK K k tl σ H xs) (h0k : 0 ≤ k ∧ k ≤ 1000) (Pv : Addr → Nat → L2.St → Hp → Prop) (h0 : ∀ a H1, H a = none → Ex H H1 → H1 a = some (.lst xs) → Pv a 0 σ H1) (hl : ∀ a i σ' H', i ≤ xs.length → Pv a i σ' H' → SqL K H' a xs)
    (hs : ∀ a i x σ' H0 H', xs[i]? = some x → Pv a i σ' H0 → Ex H0 H' → tu { D with nx := Pv a (i + 1), ct := Pv a (i + 1), bk := tz D } ((σ'.set j1 (some (.int (k + (i : Int))))).set j2 (some x)) H') (hd : ∀ a σ' H', Pv a xs.length σ' H' → tz D σ' H') :
    tSeq (tFor (iEnumF K tl) (gTup K 2 (gCons (gName j1) (gCons (gName j2) gNil))) tu) tz D σ H :=
  h H (Ex.refl H) _ fun a H1 na e hS => ⟨a, k, xs, rfl, h0k.1, h0k.2, sq_of hS, for_it (D := { D with nx := tz D }) (walk_enumF (K := K) (a := a) (k := k) (xs := xs)) (Pv a) (h0 a H1 na e hS) (hl a) (fun i x σ' H2 H3 hi p y => by
    obtain ⟨T0, a1, a2, rfl, hT, rfl, h1, h2⟩ := y
    cases h1
    exact ⟨T0, _, rfl, st_of upd_same, rfl, _, _, rfl, _, [], rfl, rfl, hs a i a2 σ' H2 _ h2 p (Ex.new hT)⟩) (hd a)⟩
/-- for i, x in enumerate(..), the list there or new -/
theorem q_forEN {tl : TA} {xs : List V} {j1 j2 : Nat} (h : EvAS K tl σ H xs) (Pv : Addr → Nat → L2.St → Hp → Prop) (h0 : ∀ a H1, Ex H H1 → SqL K H1 a xs → Pv a 0 σ H1) (hl : ∀ a i σ' H', i ≤ xs.length → Pv a i σ' H' → SqL K H' a xs)
    (hs : ∀ a i x σ' H0 H', xs[i]? = some x → Pv a i σ' H0 → Ex H0 H' → tu { D with nx := Pv a (i + 1), ct := Pv a (i + 1), bk := tz D } ((σ'.set j1 (some (.int (i : Int)))).set j2 (some x)) H') (hd : ∀ a σ' H', Pv a xs.length σ' H' → tz D σ' H') :
    tSeq (tFor (iEnum K tl) (gTup K 2 (gCons (gName j1) (gCons (gName j2) gNil))) tu) tz D σ H :=
  h H (Ex.refl H) _ fun a H1 e hS => ⟨a, xs, rfl, hS, for_it (D := { D with nx := tz D }) (walk_enum (K := K) (a := a) (xs := xs)) (Pv a) (h0 a H1 e hS) (hl a) (fun i x σ' H2 H3 hi p y => by
    obtain ⟨T0, a1, a2, rfl, hT, rfl, h1, h2⟩ := y
    cases h1
    exact ⟨T0, _, rfl, st_of upd_same, rfl, _, _, rfl, _, [], rfl, rfl, hs a i a2 σ' H2 _ h2 p (Ex.new hT)⟩) (hd a)⟩
end
end Evl
namespace TX
open PySem
theorem nosuffix (x : Str) (c : Nat) : Txt.removesuffix x ⟨#[c]⟩ = if (L x).getLast? = some c then T (L x).dropLast else x := by
  unfold Txt.removesuffix
  rw [StrLaws.subAt_eq]
  have e1 : (⟨#[c]⟩ : Str).length = 1 := rfl
  have e3 : x.length = (L x).length := len_L x
  have e4 : x.cps.toList = L x := rfl
  rw [e1, e3, e4]
  have e5 : ((⟨#[c]⟩ : Str).cps.toList) = [c] := rfl
  rw [e5]
  generalize hl : L x = l at *
  rcases List.eq_nil_or_concat l with rfl | ⟨r, d, rfl⟩
  · rfl
  · have h1 : (r.concat d).length = r.length + 1 := by simp
    have h2 : ((r.concat d).drop ((r.concat d).length - 1)).take 1 = [d] := by
      rw [h1]
      simp
    rw [h2]
    have h3 : (r.concat d).getLast? = some d := by simp
    rw [h3, h1, decide_eq_true (show 1 ≤ r.length + 1 by omega), Bool.true_and]
    by_cases hd : d = c
    · subst hd
      rw [if_pos (by simp), if_pos rfl]
      unfold Txt.affix
      have e6 : ((r.length + 1 - 1) - 0 == x.length) = false := by
        rw [beq_eq_false_iff_ne, e3, h1]
        omega
      show (if ((r.length + 1 - 1) - 0 == x.length) = true then x else Builtin.Str.strSub x 0 (r.length + 1 - 1)) = T (r.concat d).dropLast
      rw [e6]
      apply eq_L
      show (x.cps.extract 0 (r.length + 1 - 1)).toList = L (T (r.concat d).dropLast)
      rw [Array.toList_extract, e4, L_T]
      simp [List.extract]
    · rw [if_neg (by simp; exact hd), if_neg (fun e => hd (Option.some.inj e))]
      rfl
end TX

set_option Elab.async false
set_option linter.all false
set_option maxRecDepth 100000
set_option maxHeartbeats 2000000
/-! Our own layer: zip(list, list) walked by one name: the pair may stay, be held, or be gone. -/
namespace L2
open PySem PySem.Spec PyProof.Rows PySem.W
/-- the zip's own cell -/
abbrev zO (TI TO : Addr) (a b : Value) : Obj := { cls := .type "zip", dict := none, data := .fields #[a, b, .bool false, .ref TI, .ref TO], slots := #[] }
/-- whom its last pair belongs to: to nobody yet, or to one at T -/
def zOwn : Value → Prop := fun a => a = .none ∨ ∃ T : Addr, a = rawInt T
section
variable {prog : Program} {w : World} {A : Around} {E : Value → Shared → Prop} {s : Shared} {z TI TO j1 j2 l m : Addr} {a b : Value} {p q : Value} {n : Nat} {xs ys : Array Value} {x y : Value}
theorem gone_free {Q : Bool → Shared → Prop} (hz : s.heap.get? z = some (zO TI TO a b)) (ha : a = .none ∨ ∃ T : Addr, a = rawInt T ∧ s.heap.get? T = none) (h : Q true s) :
    wpAny (model prog w) A (Builtin.SmallTypes.ownedTupleIsFree (.ref z)) Q E s := by
  unfold Builtin.SmallTypes.ownedTupleIsFree
  refine wpAny_bind (wpAny_field hz rfl (x := a) rfl ?_)
  rcases ha with rfl | ⟨T, rfl, hT⟩
  · exact wpAny_pure h
  · show wpAny _ _ (loadIfAlive ((T : Int).toNat) >>= _) _ _ _
    rw [Int.toNat_natCast]
    have al : wpAny (model prog w) A (loadIfAlive T) (fun o s' => o = none ∧ s' = s) E s := fun _ _ _ => ⟨hT, rfl⟩
    refine wpAny_bind (wpAny_mono al (fun o s' e => ?_) fun _ _ q => q)
    obtain ⟨rfl, rfl⟩ := e
    exact wpAny_pure h
/-- a draw of the pair kept inside -/
theorem gone_item {Q : Value → Shared → Prop} (D : ZipApart z TI TO j1 j2 l m) (hz : s.heap.get? z = some (zO TI TO a b)) (ha : a = .none ∨ ∃ T : Addr, a = rawInt T ∧ s.heap.get? T = none)
    (ti : IsPair s.heap TI (.ref j1) (.ref j2)) (to_ : IsPair s.heap TO p q) (k1 : s.heap.IsListIter j1 l n) (k2 : s.heap.IsListIter j2 m n) (hl : s.heap.IsList l xs) (hm : s.heap.IsList m ys) (hx : xs[n]? = some x) (hy : ys[n]? = some y)
    (end_ : ∀ h', h'.get? z = some (zO TI TO (rawInt s.heap.objs.size) (.bool false)) → IsPair h' TO x y → h'.IsListIter j1 l (n + 1) → h'.IsListIter j2 m (n + 1) → IsPair h' s.heap.objs.size x y → h'.objs.size = s.heap.objs.size + 1 →
      (∀ c o, c ∉ [z, TI, TO, j1, j2] → s.heap.get? c = some o → h'.get? c = some o) → h'.get? TI = s.heap.get? TI → Q (.ref s.heap.objs.size) { s with heap := h' }) :
    wpAny (model prog w) A (Builtin.«zip.__next__» ⟨[.ref z], []⟩) (fun fin s' => ∃ v, fin = .done (.ret v) ∧ Q v s') E s := by
  show wpAny _ _ (field (.ref z) 2 >>= _) _ _ _
  refine wpAny_bind (wpAny_field hz rfl (x := .bool false) rfl ?_)
  show wpAny _ _ (field (.ref z) 3 >>= _) _ _ _
  refine wpAny_bind (wpAny_field hz rfl (x := .ref TI) rfl (wpAny_bind (wpAny_seqItems ti rfl ?_)))
  show wpAny _ _ (Builtin.SmallTypes.ownedTupleIsFree (.ref z) >>= _) _ _ _
  refine wpAny_bind (gone_free hz ha ?_)
  simp only [if_true]
  refine wpAny_bind (wpAny_rule (wpAny_bind (wpAny_field hz rfl (x := .ref TO) rfl (wpAny_bind (wpAny_setField_rec hz (by simp) fun g hzg sg => ?_)))))
  replace hzg : g.get? z = some (zO TI TO .ellipsis b) := hzg
  refine wpAny_bind ?_
  simp only [List.forIn_nil, List.forIn_cons, List.zipIdx_nil, List.zipIdx_cons]
  refine wpAny_bind (wpAny_bind (wpAny_onRaise ?_))
  show wpAny _ _ (Builtin.SmallTypes.nextOf (.ref j1) >>= _) _ _ _
  refine wpAny_bind (wpAny_nextOf_list_item (s := { s with heap := g }) (k1.extBut sg.extBut D.i1z) (hl.extBut sg.extBut D.l1z) hx fun u ku su => wpAny_pure ?_)
  have tou : IsPair u TO p q := su.extBut _ _ D.TOi1 (sg.extBut _ _ D.TOz to_)
  refine wpAny_bind (wpAny_seqItems (s := { s with heap := u }) tou rfl (wpAny_bind (wpAny_updateSeq_pair (s := { s with heap := u }) tou fun v tov sv => ?_)))
  replace tov : IsPair v TO x q := tov
  refine wpAny_bind (wpAny_letGo (wpAny_pure ?_))
  refine wpAny_bind (wpAny_bind (wpAny_onRaise ?_))
  show wpAny _ _ (Builtin.SmallTypes.nextOf (.ref j2) >>= _) _ _ _
  have k2v : v.IsListIter j2 m n := (((k2.extBut sg.extBut D.i2z).extBut su.extBut D.i12.symm).extBut sv.extBut D.TOi2.symm)
  have hmv : v.IsList m ys := (((hm.extBut sg.extBut D.l2z).extBut su.extBut D.l2i1).extBut sv.extBut D.l2TO)
  refine wpAny_bind (wpAny_nextOf_list_item (s := { s with heap := v }) k2v hmv hy fun r kr sr => wpAny_pure ?_)
  have tor : IsPair r TO x q := sr.extBut _ _ D.TOi2 tov
  refine wpAny_bind (wpAny_seqItems (s := { s with heap := r }) tor rfl (wpAny_bind (wpAny_updateSeq_pair (s := { s with heap := r }) tor fun t tot st => ?_)))
  replace tot : IsPair t TO x y := tot
  refine wpAny_bind (wpAny_letGo (wpAny_pure (wpAny_pure (wpAny_bind (wpAny_seqItems (s := { s with heap := t }) tot rfl (wpAny_bind (wpAny_newTuple ?_)))))))
  have size_t : t.objs.size = s.heap.objs.size := by rw [st.1, sr.1, sv.1, su.1, sg.1]
  have zt : t.get? z = some (zO TI TO .ellipsis b) := st.extBut _ _ D.TOz.symm (sr.extBut _ _ D.i2z.symm (sv.extBut _ _ D.TOz.symm (su.extBut _ _ D.i1z.symm hzg)))
  have all : ∀ c o, c ≠ z → c ≠ TO → c ≠ j1 → c ≠ j2 → s.heap.get? c = some o → t.get? c = some o := fun c o e1 e2 e3 e4 e =>
    st.extBut _ _ e2 (sr.extBut _ _ e4 (sv.extBut _ _ e2 (su.extBut _ _ e3 (sg.extBut _ _ e1 e))))
  have c1 : t.IsListIter j1 l (n + 1) := ((ku.extBut sv.extBut D.TOi1.symm).extBut sr.extBut D.i12).extBut st.extBut D.TOi1.symm
  have c2 : t.IsListIter j2 m (n + 1) := kr.extBut st.extBut D.TOi2.symm
  have zlt : z < t.objs.size := Heap.lt_size zt
  show wpAny _ _ (Builtin.SmallTypes.ownedTupleHandOut (.ref z) (.ref t.objs.size) >>= _) _ _ _
  refine wpAny_bind ?_
  unfold Builtin.SmallTypes.ownedTupleHandOut
  have zp : (t.push { cls := .type "tuple", data := .seq #[x, y] }).get? z = some (zO TI TO .ellipsis b) := Heap.get?_push_of_some _ zt
  refine wpAny_bind (wpAny_setField_rec (s := { s with heap := t.push { cls := .type "tuple", data := .seq #[x, y] } }) zp (by simp) fun d hzd sd => ?_)
  replace hzd : d.get? z = some (zO TI TO (rawInt t.objs.size) b) := hzd
  refine wpAny_setField_rec (s := { s with heap := d }) hzd (by simp) fun f hzf sf => ?_
  replace hzf : f.get? z = some (zO TI TO (rawInt t.objs.size) (.bool false)) := hzf
  have top : ∀ c o, c ≠ z → t.get? c = some o → f.get? c = some o := fun c o e1 e => sf.extBut _ _ e1 (sd.extBut _ _ e1 (Heap.get?_push_of_some _ e))
  have pf : IsPair f t.objs.size x y := sf.extBut _ _ (Nat.ne_of_gt zlt) (sd.extBut _ _ (Nat.ne_of_gt zlt) (Heap.get?_push_size _ rfl))
  have nf : f.objs.size = t.objs.size + 1 := by rw [sf.1, sd.1, Heap.size_push]
  rw [size_t] at hzf pf nf
  refine wpAny_pure ⟨_, rfl, ?_⟩
  show Q (.ref t.objs.size) { s with heap := f }
  rw [size_t]
  refine end_ f hzf (top _ _ D.TOz tot) (c1.at fun o e => top _ _ D.i1z e) (c2.at fun o e => top _ _ D.i2z e) pf nf (fun c o hc e => ?_) ?_
  · simp only [List.mem_cons, List.not_mem_nil, or_false, not_or] at hc
    exact top c o hc.1 (all c o hc.1 hc.2.2.1 hc.2.2.2.1 hc.2.2.2.2 e)
  · rw [ti]
    exact top _ _ D.TIz (all _ _ D.TIz D.TITO D.TIi1 D.TIi2 ti)
/-- no pair is left -/
theorem gone_end {Q : Fin → Shared → Prop} (hh : A.handled = none) (D : ZipApart z TI TO j1 j2 l m) (hz : s.heap.get? z = some (zO TI TO a b)) (ha : a = .none ∨ ∃ T : Addr, a = rawInt T ∧ s.heap.get? T = none)
    (ti : IsPair s.heap TI (.ref j1) (.ref j2)) (to_ : IsPair s.heap TO p q) (k1 : s.heap.IsListIter j1 l n) (k2 : s.heap.IsListIter j2 m n) (hl : s.heap.IsList l xs) (hm : s.heap.IsList m ys) (hn : xs[n]? = none ∨ ys[n]? = none)
    (end_ : ∀ h' e, (∀ c o, c ∉ [z, TI, TO, j1, j2] → s.heap.get? c = some o → h'.get? c = some o) → (∃ o, h'.get? e = some o ∧ o.cls = .type "StopIteration") → E (.ref e) { s with heap := h' }) :
    wpAny (model prog w) A (Builtin.«zip.__next__» ⟨[.ref z], []⟩) Q E s := by
  show wpAny _ _ (field (.ref z) 2 >>= _) _ _ _
  refine wpAny_bind (wpAny_field hz rfl (x := .bool false) rfl ?_)
  show wpAny _ _ (field (.ref z) 3 >>= _) _ _ _
  refine wpAny_bind (wpAny_field hz rfl (x := .ref TI) rfl (wpAny_bind (wpAny_seqItems ti rfl ?_)))
  show wpAny _ _ (Builtin.SmallTypes.ownedTupleIsFree (.ref z) >>= _) _ _ _
  refine wpAny_bind (gone_free hz ha ?_)
  simp only [if_true]
  refine wpAny_bind (wpAny_rule (wpAny_bind (wpAny_field hz rfl (x := .ref TO) rfl (wpAny_bind (wpAny_setField_rec hz (by simp) fun g hzg sg => ?_)))))
  replace hzg : g.get? z = some (zO TI TO .ellipsis b) := hzg
  refine wpAny_bind ?_
  simp only [List.forIn_nil, List.forIn_cons, List.zipIdx_nil, List.zipIdx_cons]
  refine wpAny_bind (wpAny_bind (wpAny_onRaise ?_))
  show wpAny _ _ (Builtin.SmallTypes.nextOf (.ref j1) >>= _) _ _ _
  cases hx : xs[n]? with
  | none =>
    refine wpAny_bind (wpAny_nextOf_list_end (s := { s with heap := g }) hh (k1.extBut sg.extBut D.i1z) (hl.extBut sg.extBut D.l1z) hx fun u e su he => ?_)
    obtain ⟨oe, hoe, hce⟩ := he
    replace hoe : u.get? e = some oe := hoe
    have zu : u.get? z = some (zO TI TO .ellipsis b) := su _ _ D.i1z.symm hzg
    have ez : e ≠ z := fun c => by rw [c, zu] at hoe; cases hoe; simp at hce
    refine wpAny_setField_rec (s := { s with heap := u }) zu (by simp) fun v _ sv => ?_
    refine end_ v e (fun c o hc ho => ?_) ⟨oe, sv.extBut _ _ ez hoe, hce⟩
    simp only [List.mem_cons, List.not_mem_nil, or_false, not_or] at hc
    exact sv.extBut _ _ hc.1 (su _ _ hc.2.2.2.1 (sg.extBut _ _ hc.1 ho))
  | some x =>
    have hy : ys[n]? = none := by
      rcases hn with hn | hn
      · rw [hx] at hn; cases hn
      · exact hn
    refine wpAny_bind (wpAny_nextOf_list_item (s := { s with heap := g }) (k1.extBut sg.extBut D.i1z) (hl.extBut sg.extBut D.l1z) hx fun u ku su => wpAny_pure ?_)
    have tou : IsPair u TO p q := su.extBut _ _ D.TOi1 (sg.extBut _ _ D.TOz to_)
    refine wpAny_bind (wpAny_seqItems (s := { s with heap := u }) tou rfl (wpAny_bind (wpAny_updateSeq_pair (s := { s with heap := u }) tou fun v tov sv => ?_)))
    refine wpAny_bind (wpAny_letGo (wpAny_pure ?_))
    refine wpAny_bind (wpAny_bind (wpAny_onRaise ?_))
    show wpAny _ _ (Builtin.SmallTypes.nextOf (.ref j2) >>= _) _ _ _
    have k2v : v.IsListIter j2 m n := (((k2.extBut sg.extBut D.i2z).extBut su.extBut D.i12.symm).extBut sv.extBut D.TOi2.symm)
    have hmv : v.IsList m ys := (((hm.extBut sg.extBut D.l2z).extBut su.extBut D.l2i1).extBut sv.extBut D.l2TO)
    refine wpAny_bind (wpAny_nextOf_list_end (s := { s with heap := v }) hh k2v hmv hy fun r e sr he => ?_)
    obtain ⟨oe, hoe, hce⟩ := he
    replace hoe : r.get? e = some oe := hoe
    have zr : r.get? z = some (zO TI TO .ellipsis b) := sr _ _ D.i2z.symm (sv.extBut _ _ D.TOz.symm (su.extBut _ _ D.i1z.symm hzg))
    have ez : e ≠ z := fun c => by rw [c, zr] at hoe; cases hoe; simp at hce
    refine wpAny_setField_rec (s := { s with heap := r }) zr (by simp) fun t _ st => ?_
    refine end_ t e (fun c o hc ho => ?_) ⟨oe, st.extBut _ _ ez hoe, hce⟩
    simp only [List.mem_cons, List.not_mem_nil, or_false, not_or] at hc
    exact st.extBut _ _ hc.1 (sr _ _ hc.2.2.2.2 (sv.extBut _ _ hc.2.2.1 (su.extBut _ _ hc.2.2.2.1 (sg.extBut _ _ hc.1 ho))))
/-- the next pair, whoever holds the last one -/
theorem next_pair {f : Bool} {Q : Option Value → Shared → Prop} (D : ZipApart z TI TO j1 j2 l m) (hz : s.heap.get? z = some (zO TI TO a (.bool f))) (ha : zOwn a)
    (ti : IsPair s.heap TI (.ref j1) (.ref j2)) (to_ : IsPair s.heap TO p q) (k1 : s.heap.IsListIter j1 l n) (k2 : s.heap.IsListIter j2 m n) (hl : s.heap.IsList l xs) (hm : s.heap.IsList m ys) (hx : xs[n]? = some x) (hy : ys[n]? = some y)
    (end_ : ∀ h' a' f', h'.get? z = some (zO TI TO a' (.bool f')) → zOwn a' → (∃ p' q', IsPair h' TO p' q') → h'.IsListIter j1 l (n + 1) → h'.IsListIter j2 m (n + 1) → IsPair h' s.heap.objs.size x y →
      (∀ c o, c ∉ [z, TI, TO, j1, j2] → s.heap.get? c = some o → h'.get? c = some o) → IsPair h' TI (.ref j1) (.ref j2) → Q (some (.ref s.heap.objs.size)) { s with heap := h' }) :
    wpAny (model prog w) A (pyNext (.ref z)) Q E s := by
  have dead : (a = .none ∨ ∃ T : Addr, a = rawInt T ∧ s.heap.get? T = none) → wpAny (model prog w) A (pyNext (.ref z)) Q E s := fun hd => by
    have ty : s.TypeIs (.ref z) "zip" := ⟨_, hz, rfl⟩
    unfold pyNext
    refine wpAny_bind (wpAny_attempt (wpAny_callSpecial?_slot (name := Str.ofString "__next__") ty F.slot_zip_next (wpAny_call_entry F.slot_zip_next ty F.entry_zip_next
      (gone_item D hz hd ti to_ k1 k2 hl hm hx hy fun h' b1 b2 b3 b4 b5 b6 b7 b8 => wpAny_pure (end_ h' _ false b1 (Or.inr ⟨_, rfl⟩) ⟨x, y, b2⟩ b3 b4 b5 b7 (b8.trans ti))) (F.args_zip_next_1 _))))
  rcases ha with rfl | ⟨T, rfl⟩
  · exact dead (Or.inl rfl)
  · cases hT : s.heap.get? T with
    | none => exact dead (Or.inr ⟨T, rfl, hT⟩)
    | some oT =>
      refine wpAny_pyNext_zip_item_held (f := f) D hz hT ti k1 k2 hl hm hx hy fun h' b1 b2 b3 b4 b5 b6 => ?_
      refine end_ h' (rawInt T) true b1 (Or.inr ⟨T, rfl⟩) ⟨p, q, b6 _ _ D.TOz D.TOi1 D.TOi2 to_⟩ b2 b3 b4 (fun c o hc e => ?_) (b6 _ _ D.TIz D.TIi1 D.TIi2 ti)
      simp only [List.mem_cons, List.not_mem_nil, or_false, not_or] at hc
      exact b6 c o hc.1 hc.2.2.2.1 hc.2.2.2.2 e
theorem next_none {f : Bool} {Q : Option Value → Shared → Prop} (hh : A.handled = none) (D : ZipApart z TI TO j1 j2 l m) (hz : s.heap.get? z = some (zO TI TO a (.bool f))) (ha : zOwn a)
    (ti : IsPair s.heap TI (.ref j1) (.ref j2)) (to_ : IsPair s.heap TO p q) (k1 : s.heap.IsListIter j1 l n) (k2 : s.heap.IsListIter j2 m n) (hl : s.heap.IsList l xs) (hm : s.heap.IsList m ys) (hn : xs[n]? = none ∨ ys[n]? = none)
    (end_ : ∀ h', (∀ c o, c ∉ [z, TI, TO, j1, j2] → s.heap.get? c = some o → h'.get? c = some o) → Q none { s with heap := h' }) : wpAny (model prog w) A (pyNext (.ref z)) Q E s := by
  have dead : (a = .none ∨ ∃ T : Addr, a = rawInt T ∧ s.heap.get? T = none) → wpAny (model prog w) A (pyNext (.ref z)) Q E s := fun hd => by
    have ty : s.TypeIs (.ref z) "zip" := ⟨_, hz, rfl⟩
    unfold pyNext
    refine wpAny_bind (wpAny_attempt (wpAny_callSpecial?_slot (name := Str.ofString "__next__") ty F.slot_zip_next (wpAny_call_entry F.slot_zip_next ty F.entry_zip_next (gone_end hh D hz hd ti to_ k1 k2 hl hm hn fun h' e b1 b2 => ?_) (F.args_zip_next_1 _))))
    obtain ⟨o, b3, b4⟩ := b2
    exact wpAny_bind (wpAny_isInstance (T := "StopIteration") (b := true) ⟨o, b3, b4⟩ isSubtype_stop (wpAny_pure (end_ _ b1)))
  rcases ha with rfl | ⟨T, rfl⟩
  · exact dead (Or.inl rfl)
  · cases hT : s.heap.get? T with
    | none => exact dead (Or.inr ⟨T, rfl, hT⟩)
    | some oT =>
      refine wpAny_pyNext_zip_end_held (f := f) hh D hz hT ti k1 k2 hl hm hn fun h' b1 => end_ h' fun c o hc e => ?_
      simp only [List.mem_cons, List.not_mem_nil, or_false, not_or] at hc
      exact b1 c o hc.1 hc.2.2.2.1 hc.2.2.2.2 e
end
/-- the state ahead of turn i -/
structure ZnAt (z TI TO j1 j2 l m : Addr) (i : Nat) (h : Heap) : Prop where
  zi : ∃ a f, h.get? z = some (zO TI TO a (.bool f)) ∧ zOwn a
  ti : IsPair h TI (.ref j1) (.ref j2)
  to_ : ∃ p q, IsPair h TO p q
  k1 : h.IsListIter j1 l i
  k2 : h.IsListIter j2 m i
theorem ZnAt.lt {z TI TO j1 j2 l m : Addr} {i : Nat} {h : Heap} (st : ZnAt z TI TO j1 j2 l m i h) {c : Addr} (hc : c ∈ [z, TI, TO, j1, j2]) : ∃ o, h.get? c = some o ∧ (∀ v, o.data ≠ .cell v) ∧ c < h.objs.size := by
  obtain ⟨⟨a, f, e1, _⟩, e2, ⟨p, q, e3⟩, ⟨o1, e4, _, d1⟩, ⟨o2, e5, _, d2⟩⟩ := st
  simp only [List.mem_cons, List.not_mem_nil, or_false] at hc
  rcases hc with r | r | r | r | r <;> subst r
  · exact ⟨_, e1, (fun v r => nomatch r), Heap.lt_size e1⟩
  · exact ⟨_, e2, (fun v r => nomatch r), Heap.lt_size e2⟩
  · exact ⟨_, e3, (fun v r => nomatch r), Heap.lt_size e3⟩
  · exact ⟨_, e4, (fun v r => by rw [d1] at r; cases r), Heap.lt_size e4⟩
  · exact ⟨_, e5, (fun v r => by rw [d2] at r; cases r), Heap.lt_size e5⟩
theorem iter_zO {prog : Program} {w : World} {A : Around} {E : Value → Shared → Prop} {s : Shared} {z TI TO : Addr} {a b : Value} {Q : Value → Shared → Prop} (hz : s.heap.get? z = some (zO TI TO a b)) (h : Q (.ref z) s) : wpAny (model prog w) A (pyIter (.ref z)) Q E s := by
  have ty : s.TypeIs (.ref z) "zip" := ⟨_, hz, rfl⟩
  refine wpAny_pyIter_slot ty F.slot_zip_iter (wpAny_call_entry F.slot_zip_iter ty F.entry_zip_iter ?_ (F.args_zip_iter_1 _))
  show wpAny _ _ (ret (.ref z)) _ _ s
  exact wpAny_pure ⟨_, rfl, "zip", _, ty, F.slot_zip_next.lookup, h⟩
theorem turn_zipN {P : Program} {w : World} {K : PySem.W.Frag} {nm : Str} {tpos : Pos} {l m z TI TO j1 j2 : Addr} (D : ZipApart z TI TO j1 j2 l m) :
    Turn P w K (.Name nm tpos) (Itz K l m) [z, TI, TO, j1, j2] z (ZnAt z TI TO j1 j2 l m) where
  mem := by simp
  obj := fun i h st c hc => let ⟨o, h1, h2, _⟩ := st.lt hc; ⟨o, h1, h2⟩
  keep := fun i h h' st k => by
    obtain ⟨⟨a, f, e1, e1'⟩, e2, ⟨p, q, e3⟩, e4, e5⟩ := st
    exact ⟨⟨a, f, k z (by simp) _ e1, e1'⟩, k TI (by simp) _ e2, ⟨p, q, k TO (by simp) _ e3⟩, e4.at fun o r => k j1 (by simp) o r, e5.at fun o r => k j2 (by simp) o r⟩
  item := by
    intro X hP hw hK hc i pins s σ H E I hf st hg
    subst hP hw hK
    have lt := fun c hc => st.lt (c := c) hc
    obtain ⟨⟨a, f, e1, e1'⟩, e2, ⟨p, q, e3⟩, e4, e5⟩ := st
    obtain ⟨xs, ys, x, y, hqx, hqy, hx, hy⟩ := hg
    obtain ⟨its, rv, pl, _⟩ := I.list hqx
    obtain ⟨its2, rv2, pl2, _⟩ := I.list hqy
    obtain ⟨u, hu, ru⟩ := rv.get hx
    obtain ⟨u2, hu2, ru2⟩ := rv2.get hy
    refine next_pair D e1 e1' e2 e3 e4 e5 pl.isList pl2.isList (x := u) (y := u2) (by simpa using hu) (by simpa using hu2) fun h' a' f' c1 c2 c3 c4 c5 hT hk c6 => ?_
    have new : ObjOk X.prog X.w (upd H s.heap.objs.size (.tup [x, y])) h' s.heap.objs.size (.tup [x, y]) :=
      ⟨by show 2 ≤ sizeLine; decide, [u, u2], .cons ru (.cons ru2 .nil), ⟨_, hT, rfl, _, rfl⟩⟩
    refine ⟨_, rfl, wpAny_pure ?_⟩
    have I1 : Inv X pins σ (upd H s.heap.objs.size (.tup [x, y])) { s with heap := h' } :=
      I.turnedNew (t' := s.toks) (ch := [z, TI, TO, j1, j2]) hk hf (Nat.le_refl _) new
    refine ⟨.ref s.heap.objs.size, _, I1, rfl, ⟨_, x, y, rfl, I.hok.fresh (Nat.le_refl _), rfl, fun k hl => by rw [I.list_inj hl hqx]; exact hx, fun k hl => by rw [I.list_inj hl hqy]; exact hy⟩, ⟨⟨a', f', c1, c2⟩, c6, c3, c4, c5⟩, fun c hcm => ?_⟩
    obtain ⟨_, _, _, hlt⟩ := lt c hcm
    rw [upd_ne (Nat.ne_of_lt hlt)]
    exact (hf c hcm).1
  done := by
    intro X hP hw hK hc i pins s σ H E I hf st hg
    subst hP hw hK
    obtain ⟨⟨a, f, e1, e1'⟩, e2, ⟨p, q, e3⟩, e4, e5⟩ := st
    obtain ⟨xs, ys, hqx, hqy, hn⟩ := hg
    obtain ⟨its, rv, pl, _⟩ := I.list hqx
    obtain ⟨its2, rv2, pl2, _⟩ := I.list hqy
    have n1 := rv.length
    have n2 := rv2.length
    refine next_none (I.ok.hd hc) D e1 e1' e2 e3 e4 e5 pl.isList pl2.isList (by simp; omega) fun h' hk => ⟨rfl, ?_⟩
    exact I.turnedL (t' := s.toks) (ch := [z, TI, TO, j1, j2]) hk hf
  self := fun A i s Q E st h => by
    obtain ⟨⟨a, f, e1, _⟩, _⟩ := st
    exact iter_zO e1 h
theorem pi_zipN {X : Cx} {e e2 : Expr} {ta : TA} {p pos tpos : Pos} {nm : Str} (hg : Gl X "zip") (hm : X.mg "zip" = none) (ha : PA X [e, e2] ta)
    (hs : starEach [e, e2] X.env = (false, eval e X.env) :: starEach [e2] X.env := by rfl) (hpl : (backTo pos (starEach [e2] X.env)).any (·.1) = false := by rfl) :
    PI X (.Name nm tpos) (.Call (.Name "zip" p) [e, e2] [] pos) (iZip X.K ta) := by
  constructor
  intro pins s σ H R I h
  refine Call_ (ld_blt I hg hm PyProof.Rows.boot_zip (PyProof.Rows.callWith_type1 (thn (ha.run pos pins s σ H _ I h) fun us s1 hv => ?_) hs hpl))
  obtain ⟨vs, H1, I1, r1, a, b, xs, ys, rfl, hx, hy, q⟩ := hv
  cases r1 with
  | cons ra rr =>
    cases rr with
    | cons rb rr =>
      cases rr
      cases ra
      cases rb
      obtain ⟨its, rv, pa, _⟩ := I1.list hx
      obtain ⟨its2, rv2, pb, _⟩ := I1.list hy
      refine call_zip_2 pa.isList pb.isList fun h' cz cI cO c1 c2 _ hk => wpAny_pyIter_zip cz ?_
      have I2 : Inv X pins σ H1 { s1 with heap := h' } := I1.kept (t' := s1.toks) hk
      have st : ZnAt (s1.heap.objs.size + 4) (s1.heap.objs.size + 2) (s1.heap.objs.size + 3) s1.heap.objs.size (s1.heap.objs.size + 1) a b 0 h' := ⟨⟨_, false, cz, Or.inl rfl⟩, cI, ⟨_, _, cO⟩, c1, c2⟩
      refine ⟨s1.heap.objs.size + 4, [s1.heap.objs.size + 4, s1.heap.objs.size + 2, s1.heap.objs.size + 3, s1.heap.objs.size, s1.heap.objs.size + 1], _, _, H1, rfl, I2,
        turn_zipN (PySem.W.ktu_apart s1.heap.objs.size a b pa.lt pb.lt), st, fun c hc => ?_, q⟩
      have le : s1.heap.objs.size ≤ c := by
        simp only [List.mem_cons, List.not_mem_nil, or_false] at hc
        rcases hc with rfl | rfl | rfl | rfl | rfl
        · exact Nat.le_add_right _ _
        · exact Nat.le_add_right _ _
        · exact Nat.le_add_right _ _
        · exact Nat.le_refl _
        · exact Nat.le_add_right _ _
      exact I1.fpOk le (I1.hok.fresh le)
end L2
namespace Evl
open PySem L2 Com TX Prt
section
variable {K : PySem.W.Frag} {σ : L2.St} {H H' : Hp} {ta tb tc te td ty tx tv : TE} {t u : TT} {x y z v : V} {D : Ends} {tz tu : TS} {g : TG}
theorem cw_turn2 {Hb Hv H' : Hp} {f : Nat → Bool} {gv : Nat → V} {Dl : Addr} {i : Nat} {σ2 : L2.St} (p : Cw Hb f gv Dl i H') (ev : Ex Hv H') (hi : i < 50000) (ht : EvT t σ2 Hv (f i)) (he : f i = true → Ev te σ2 Hv (gv i)) :
    t σ2 H' fun b H3 => if b = true then te σ2 H3 fun y H4 => ∃ acc, H4 Dl = some (.lst acc) ∧ acc.length < sizeLine ∧ Cw Hb f gv Dl (i + 1) (upd H4 Dl (.lst (acc ++ [y]))) else Cw Hb f gv Dl (i + 1) H3 := by
  obtain ⟨p1, p2, p3⟩ := p
  refine ht H' ev _ fun H3 e3 => ?_
  have h3 := e3 Dl _ p3
  have gl := given_len i f gv
  by_cases hf : f i = true
  · rw [if_pos hf]
    refine he hf H3 (ev.trans e3) _ fun H4 e4 => ⟨_, e4 Dl _ h3, sz_lt (by omega), p1, Ex.mut ((p2.trans e3).trans e4) p1, ?_⟩
    rw [upd_same, given_yes hf]
  · rw [if_neg hf]
    have hf' : f i = false := by simpa using hf
    exact ⟨p1, p2.trans e3, by rw [given_no hf']; exact h3⟩
/-- over zip(list, list) by one name: the pair is new -/
theorem el_lcZN {tl : TA} {xs ys : List V} {j : Nat} {vs : List Nat} (f : Nat → Bool) (gv : Nat → V)
    (h : ∀ H1, Ex H H1 → ∀ Q : List V → Hp → Prop, (∀ a b H2, Ex H1 H2 → SqL K H2 a xs → SqL K H2 b ys → Q [.ref a, .ref b] H2) → tl σ H1 Q) (hz : xs.length ≤ 40000) (hl : xs.length = ys.length)
    (hw : ∀ x, wipe ((wipe σ vs).set j (some x)) vs = wipe σ vs)
    (ht : ∀ (i : Nat) (x y : V) (T : Addr) H1, Ex H H1 → xs[i]? = some x → ys[i]? = some y → H1 T = some (.tup [x, y]) → EvT t ((wipe σ vs).set j (some (.ref T))) H1 (f i))
    (he : ∀ (i : Nat) (x y : V) (T : Addr) H1, Ex H H1 → xs[i]? = some x → ys[i]? = some y → H1 T = some (.tup [x, y]) → f i = true → Ev te ((wipe σ vs).set j (some (.ref T))) H1 (gv i)) :
    EvL (tLc (iZip K tl) (gName j) t te vs) σ H (given xs.length f gv) := fun H0 e Q q =>
  h H0 e _ fun a b H1 e1 ha hb => ⟨a, b, xs, ys, rfl, ha, hb, fun Dl hD =>
    lc_it (walk_zip (K := K) (a := a) (b := b) (xs := xs) (ys := ys) (n := xs.length) (by omega)) (Cw H1 f gv Dl) ⟨hD, Ex.new hD, upd_same⟩ (fun i H' _ p => ⟨ex_l p.2.1 ha, ex_l p.2.1 hb⟩) (fun i x H2 H3 hi p y => by
      obtain ⟨T, a1, a2, rfl, hT, rfl, h1, h2⟩ := y
      have eT : Ex H2 (upd H2 T (.tup [a1, a2])) := Ex.new hT
      have e2 : Ex H (upd H2 T (.tup [a1, a2])) := ((e.trans e1).trans p.2.1).trans eT
      have p' : Cw H1 f gv Dl i (upd H2 T (.tup [a1, a2])) := ⟨p.1, p.2.1.trans eT, eT _ _ p.2.2⟩
      exact ⟨hw _, cw_turn2 p' (Ex.refl _) (by omega) (ht i a1 a2 T _ e2 h1 h2 upd_same) fun hf => he i a1 a2 T _ e2 h1 h2 upd_same hf⟩)
      (fun H' p => q Dl H' (fresh_back e1 p.1) (e1.trans p.2.1) p.2.2)⟩
end
end Evl

set_option Elab.async false
set_option linter.all false
set_option maxRecDepth 100000
set_option maxHeartbeats 2000000
/-! Our own layer: enumerate(text), a dict against the empty one, sorted keys of a dict. -/
namespace L2
open PySem PySem.Spec PyProof.Rows
/-! ### enumerate(text) -/
def IteS (z : Str) : It :=
  ⟨fun i _ => i < z.cps.size, fun i H v H' => ∃ T c, v = .ref T ∧ H T = none ∧ H' = upd H T (.tup [.int (i : Nat), .str ⟨#[c]⟩]) ∧ z.cps[i]? = some c, fun i _ => i = z.cps.size⟩
theorem turn_enumS {P : Program} {w : World} {K : PySem.W.Frag} {elts : List Expr} {kk : Nat} {tpos : Pos} {e it : Addr} {z : Str} {t : Tok} (hei : e ≠ it) :
    Turn P w K (.Tuple elts kk tpos) (IteS z) [e, it] e (fun i h => (∃ old, IsEnum h e it ((0 : Int) + ((i : Nat) : Int)) old) ∧ h.IsStrIter it (strIterType z) z t i) where
  mem := List.mem_cons_self
  obj := fun i h st b hb => by
    obtain ⟨⟨old, c1⟩, ⟨o, c2, _, d2⟩⟩ := st
    simp only [List.mem_cons, List.not_mem_nil, or_false] at hb
    rcases hb with r | r <;> subst r
    · exact ⟨_, c1, (fun v r => nomatch r)⟩
    · exact ⟨o, c2, (fun v r => by rw [d2] at r; cases r)⟩
  keep := fun i h h' st k => by
    obtain ⟨⟨old, c1⟩, ⟨o, c2, r2⟩⟩ := st
    exact ⟨⟨old, k _ List.mem_cons_self _ c1⟩, ⟨o, k _ (by simp) _ c2, r2⟩⟩
  item := by
    intro X hP hw hK hc i pins s σ H E I hf st hg
    subst hP hw hK
    have hh : X.A.in1.handled = none := by simp [I.ok.hd hc]
    have hg' : i < z.cps.size := hg
    have hef : e ∉ [it] := fun q => hei (List.mem_singleton.mp q)
    have lt : ∀ b ∈ [e, it], b < s.heap.objs.size := fun b hb => by
      obtain ⟨⟨old, c1⟩, ⟨o, c2, _⟩⟩ := st
      simp only [List.mem_cons, List.not_mem_nil, or_false] at hb
      rcases hb with r | r <;> subst r
      · exact Heap.lt_size c1
      · exact Heap.lt_size c2
    refine (GoesN.enumFrom 0 (Draws.text hh it z t) e hei hef (by simp)).goes i s _ _ hg' ⟨st.1, st.2⟩ fun v h' tk hY st' hk htk => ?_
    obtain ⟨T, t1, u1, rfl, hT, ⟨c, tc, hc1, rfl⟩, tup⟩ := hY
    have e0 : (0 : Int) + (i : Int) = (i : Int) := Int.zero_add _
    rw [e0] at tup
    have new : ObjOk X.prog X.w (upd H T (.tup [.int (i : Nat), .str ⟨#[c]⟩])) h' T (.tup [.int (i : Nat), .str ⟨#[c]⟩]) :=
      ⟨by show 2 ≤ sizeLine; decide, [.int (i : Nat) t1, .str ⟨#[c]⟩ tc], .cons ⟨t1, rfl⟩ (.cons ⟨tc, rfl⟩ .nil), tup⟩
    have I1 := I.turnedNew (t' := tk) (ch := [e, it]) (fun b o hb q => hk b o hb q) hf hT new
    refine ⟨.ref T, _, I1, rfl, ⟨T, c, rfl, I.hok.fresh hT, rfl, hc1⟩, ⟨st'.1, st'.2⟩, fun b hb => ?_⟩
    rw [upd_ne (Nat.ne_of_lt (Nat.lt_of_lt_of_le (lt b hb) hT))]
    exact (hf b hb).1
  done := by
    intro X hP hw hK hc i pins s σ H E I hf st hg
    subst hP hw hK
    have hh : X.A.in1.handled = none := by simp [I.ok.hd hc]
    have hg' : i = z.cps.size := hg
    subst hg'
    have hef : e ∉ [it] := fun q => hei (List.mem_singleton.mp q)
    exact (GoesN.enumFrom (elts := elts) (x1 := kk) (pos := tpos) 0 (Draws.text hh it z t) e hei hef (by simp)).stops s _ _ ⟨st.1, st.2⟩ fun h' tk hk htk =>
      I.turnedL (t' := tk) (ch := [e, it]) (fun b o hb q => hk b o hb q) hf
  self := fun A i s Q E st h => by
    obtain ⟨⟨old, c1⟩, _⟩ := st
    exact wpAny_pyIter_enum c1 h
def iEnumS (ta : TA) : TI := fun σ H R => ta σ H fun vs H1 => ∃ z, vs = [.str z] ∧ R (IteS z) H1
theorem pi_enumS {X : Cx} {e : Expr} {ta : TA} {p pos tpos : Pos} {elts : List Expr} {kk : Nat} (hg : Gl X "enumerate") (hm : X.mg "enumerate" = none) (ha : PA X [e] ta)
    (hs : starEach [e] X.env = [(false, eval e X.env)] := by rfl) : PI X (.Tuple elts kk tpos) (.Call (.Name "enumerate" p) [e] [] pos) (iEnumS ta) := by
  constructor
  intro pins s σ H R I h
  refine Call_ (ld_blt I hg hm PyProof.Rows.boot_enumerate (PyProof.Rows.callWith_type1 (thn (ha.run pos pins s σ H _ I h) fun us s1 hv => ?_) hs rfl))
  obtain ⟨vs, H1, I1, r1, z, rfl, q⟩ := hv
  cases r1 with
  | cons ra rr =>
    cases rr
    obtain ⟨t, rfl⟩ := ra
    refine call_enumerate_str fun h' ce ci _ hk => wpAny_pyIter_enum ce ?_
    have I2 : Inv X pins σ H1 { s1 with heap := h' } := I1.kept (t' := s1.toks) hk
    refine ⟨s1.heap.objs.size + 1, [s1.heap.objs.size + 1, s1.heap.objs.size], _, _, H1, rfl, I2, turn_enumS (t := t) (z := z) (Nat.succ_ne_self _), ⟨⟨.none, ce⟩, ci⟩, fun b hb => ?_, q⟩
    have le : s1.heap.objs.size ≤ b := by
      simp only [List.mem_cons, List.not_mem_nil, or_false] at hb
      rcases hb with rfl | rfl
      · exact Nat.le_add_right _ _
      · exact Nat.le_refl _
    exact I1.fpOk le (I1.hok.fresh le)
theorem walk_enumS {z : Str} : Walk (IteS z) z.cps.size (fun _ => True) (YPair (fun i => some (.int (i : Nat))) (fun i => z.cps[i]?.map fun c => .str ⟨#[c]⟩)) := by
  refine ⟨fun i _ hi _ => hi, fun _ _ => rfl, fun i H v H' _ _ y => ?_⟩
  obtain ⟨T, c, h1, h2, h3, h4⟩ := y
  exact ⟨T, .int (i : Nat), .str ⟨#[c]⟩, h1, h2, h3, rfl, by simp [h4]⟩
theorem call_isjK {X : Cx} {K : PySem.W.Frag} (h : X.K = K) : CallR X (.builtin "isinstance") (rIsi K) := h ▸ call_isi
theorem cr_sumK {X : Cx} {K : PySem.W.Frag} (h : X.K = K) (hc : X.calm = true) : CallR X (.builtin "sum") (rSum K) := h ▸ cr_sum hc
theorem cr_maxK {X : Cx} {K : PySem.W.Frag} (h : X.K = K) (hc : X.calm = true) : CallR X (.builtin "max") (rMax K) := h ▸ cr_max hc
/-! ### a dict against the empty one -/
def rNeDE : R2 := fun x y H Q => ∃ a b kvs, x = .ref a ∧ y = .ref b ∧ H a = some (.dK kvs) ∧ H b = some (.dK []) ∧ Q (.bl (!kvs.isEmpty)) H
theorem op_neDE {X : Cx} (hu : X.A.units < cLine) : OpR X (compareOp .NotEq) rNeDE := by
  intro pins s σ H x y v u Q I rx ry h
  obtain ⟨a, b, kvs, rfl, rfl, ea, eb, q⟩ := h
  obtain rfl : v = Value.ref a := rx
  obtain rfl : u = Value.ref b := ry
  obtain ⟨_, ya, va, ra, da⟩ := (show ObjOk X.prog X.w H s.heap a (.dK kvs) from I.hok a _ ea)
  obtain ⟨_, yb, vb, rb, db⟩ := (show ObjOk X.prog X.w H s.heap b (.dK []) from I.hok b _ eb)
  have hb : vb.length = 0 := rb.length.symm
  have ha : va.length = kvs.length := ra.length.symm
  refine PySem.W.keq_ne (knd := mixKind X.prog X.w) (r := true) ya yb da db hu (fun hl => ?_) (fin_bl I q ?_)
  · have : kvs = [] := List.eq_nil_of_length_eq_zero (by omega)
    subst this
    exact hits_all rb ra fun p hp => nomatch hp
  · rw [Bool.and_true, hb]
    cases kvs with
    | nil => rw [ha]; rfl
    | cons p r => rw [ha]; rfl
end L2
namespace Evl
open PySem L2 Com TX Prt
section
variable {K : PySem.W.Frag} {σ : L2.St} {H H' : Hp} {ta tb tc te td ty tx tv : TE} {t u : TT} {x y z v : V} {D : Ends} {tz tu : TS} {g : TG}
theorem q_forES {tl : TA} {w : Str} {j1 j2 : Nat} (h : EvA tl σ H [.str w]) (Pv : Nat → L2.St → Hp → Prop) (h0 : ∀ H1, Ex H H1 → Pv 0 σ H1)
    (hs : ∀ i c σ' H0 H', (L w)[i]? = some c → Pv i σ' H0 → Ex H0 H' → tu { D with nx := Pv (i + 1), ct := Pv (i + 1), bk := tz D } ((σ'.set j1 (some (.int (i : Int)))).set j2 (some (.str (T [c])))) H') (hd : ∀ σ' H', Pv (L w).length σ' H' → tz D σ' H') :
    tSeq (tFor (iEnumS tl) (gTup K 2 (gCons (gName j1) (gCons (gName j2) gNil))) tu) tz D σ H :=
  h H (Ex.refl H) _ fun H1 e => ⟨w, rfl, for_it (D := { D with nx := tz D }) walk_enumS Pv (h0 H1 e) (fun _ _ _ _ _ => True.intro) (fun i x σ' H2 H3 hi p y => by
    obtain ⟨T0, a1, a2, rfl, hT, rfl, h1, h2⟩ := y
    cases h1
    have h2 : (w.cps[i]?.map fun c => V.str ⟨#[c]⟩) = some a2 := h2
    cases hc : w.cps[i]? with
    | none => rw [hc] at h2; cases h2
    | some c =>
      rw [hc] at h2
      cases h2
      exact ⟨T0, _, rfl, st_of upd_same, rfl, _, _, rfl, _, [], rfl, rfl, hs i c σ' H2 _ (by show w.cps.toList[i]? = some c; rw [Array.getElem?_toList]; exact hc) p (Ex.new hT)⟩) (fun σ' H' p => hd σ' H' (by
      have e : (L w).length = w.cps.size := Array.length_toList
      rw [e]
      exact p))⟩
/-- for i, x in enumerate(list that is there) -/
theorem q_forE {tl : TA} {a : Addr} {xs : List V} {j1 j2 : Nat} (h : EvA tl σ H [.ref a]) (hx : SqL K H a xs) (Pv : Nat → L2.St → Hp → Prop) (h0 : ∀ H1, Ex H H1 → Pv 0 σ H1) (hl : ∀ i σ' H', i ≤ xs.length → Pv i σ' H' → SqL K H' a xs)
    (hs : ∀ i x σ' H0 H', xs[i]? = some x → Pv i σ' H0 → Ex H0 H' → tu { D with nx := Pv (i + 1), ct := Pv (i + 1), bk := tz D } ((σ'.set j1 (some (.int (i : Int)))).set j2 (some x)) H') (hd : ∀ σ' H', Pv xs.length σ' H' → tz D σ' H') :
    tSeq (tFor (iEnum K tl) (gTup K 2 (gCons (gName j1) (gCons (gName j2) gNil))) tu) tz D σ H := s_forE (D := { D with nx := tz D }) h hx Pv h0 hl hs hd
theorem et_neDE {a : Addr} {kvs : List (Key × V)} (h : Ev ta σ H (.ref a)) (hd : H a = some (.dK kvs)) : EvT (tTest (tOp rNeDE ta tDNewK)) σ H (!kvs.isEmpty) := fun H1 e Q q =>
  h H1 e _ fun H2 e2 => fun p hp => ⟨a, p, kvs, rfl, rfl, (Ex.new hp) _ _ (e2 _ _ (e _ _ hd)), upd_same, ⟨_, rfl, q _ (e2.trans (Ex.new hp))⟩⟩
def rSortD : List V → Hp → VK → Prop := fun xs H Q => ∃ (a : Addr) (kvs : List (Key × V)) (ks : List Str), xs = [.ref a] ∧ Rd H a (.dK kvs) ∧ kvs.map (·.1) = ks.map Sum.inr ∧ ks.length < 64 ∧
    ∀ ys p, ys.Perm ks → PyProof.Rows.sortedS ys = true → H p = none → Q (.ref p) (upd H p (.lst (ys.map V.str)))
/-- sorted(d): a new list of the keys -/
theorem sortD {d : Addr} {kvs : List (Key × V)} {ks : List Str} (h : Ev te σ H (.ref d)) (hd : H d = some (.dK kvs)) (hk : kvs.map (·.1) = ks.map Sum.inr) (h64 : ks.length < 64) (Q : VK)
    (q : ∀ (ys : List Str) p H2, H p = none → Ex H H2 → H2 p = some (.lst (ys.map V.str)) → ys.Perm ks → Q (.ref p) H2) : tCB rSortD (tCons te tNil) σ H Q :=
  h H (Ex.refl _) _ fun H2 e2 => ⟨d, kvs, ks, rfl, Or.inl (e2 _ _ hd), hk, h64, fun ys p hy _ hp => q ys p _ (fresh_back e2 hp) (e2.trans (Ex.new hp)) upd_same hy⟩
theorem s_dputL {kvs : List (Key × V)} {a : Addr} {k : Key} {xs : List V} (hv : EvL tv σ H xs) (h : ∀ H1, Ex H H1 → Ev td σ H1 (.ref a)) (hk : ∀ H1, Ex H H1 → Ev ty σ H1 (kV k)) (hd : H a = some (.dK kvs)) (hz : kvs.length < 100000) (kk : ∀ p H1, H p = none → Ex H H1 → H1 p = some (.lst xs) → D.nx σ (upd H1 a (.dK (putK kvs k (.ref p))))) : sDPut td ty tv D σ H :=
  hv H (Ex.refl _) _ fun p H1 np e1 hp => h H1 e1 H1 (Ex.refl _) _ fun H2 e2 => hk H2 (e1.trans e2) H2 (Ex.refl _) _ fun H3 e3 => ⟨a, _, rfl, .inl ⟨kvs, k, ((e1.trans e2).trans e3) _ _ hd, rfl, sz_lt hz, rfl⟩, kk p H3 np ((e1.trans e2).trans e3) ((e2.trans e3) _ _ hp)⟩
theorem q_dputL {kvs : List (Key × V)} {a : Addr} {k : Key} {xs : List V} (hv : EvL tv σ H xs) (h : ∀ H1, Ex H H1 → Ev td σ H1 (.ref a)) (hk : ∀ H1, Ex H H1 → Ev ty σ H1 (kV k)) (hd : H a = some (.dK kvs)) (hz : kvs.length < 100000) (kk : ∀ p H1, H p = none → Ex H H1 → H1 p = some (.lst xs) → tz D σ (upd H1 a (.dK (putK kvs k (.ref p))))) : tSeq (sDPut td ty tv) tz D σ H := s_dputL (D := { D with nx := tz D }) hv h hk hd hz kk
end
end Evl

set_option Elab.async false
set_option linter.all false
set_option maxRecDepth 100000
set_option maxHeartbeats 3200000
/-! Our own layer: a list comprehension whose items' making may raise. -/
namespace L2
open PySem PySem.Spec PyProof.Rows
theorem note_env {x : Value} {p q : Env} (h : p.frame = q.frame) : noteFrame x p = noteFrame x q := by
  unfold noteFrame PySem.frameOf
  rw [h]
theorem frames_at {B B0 g g' : Heap} : ∀ {l : List Env}, g.FunFrames B l → (∀ L ∈ frs l, B0.get? L = none) → (∀ L ∈ frs l, g'.get? L = g.get? L) → g'.FunFrames B0 l
  | [], _, _, _ => trivial
  | p :: l, h, n, e => by
    obtain ⟨h1, ⟨L, o, h2, _, h3, h4⟩, h5⟩ := h
    have hm : L ∈ frs (p :: l) := List.mem_filterMap.mpr ⟨p, List.mem_cons_self, h2⟩
    have up : ∀ c, c ∈ frs l → c ∈ frs (p :: l) := fun c hc => by
      obtain ⟨q, hq, e⟩ := List.mem_filterMap.mp hc
      exact List.mem_filterMap.mpr ⟨q, List.mem_cons_of_mem _ hq, e⟩
    exact ⟨h1, ⟨L, o, h2, n L hm, (e L hm).trans h3, h4⟩, frames_at h5 (fun c hc => n c (up c hc)) fun c hc => e c (up c hc)⟩
/-- behind the block's run: told, or let out -/
def PostC (M : Model) (A : Around) (E : Value → Shared → Prop) (Q : Value → Shared → Prop) (acc : Value) (ce : Env) (r : Result) (z : Shared) : Prop :=
  match r with
  | .ok _ => ∃ m, z.heap.Ns ce.locals m ∧ ∀ g, Heap.SameBut ce.locals z.heap g → Q acc { z with heap := g }
  | .error x => ∃ m, z.heap.Ns ce.locals m ∧ ∀ g, Heap.SameBut ce.locals z.heap g → wpAny M A (passOn "comprehension.variables-let-go" x ce : Sem Value) (fun _ _ => False) E { z with heap := g }
theorem compr_any {M : Model} {A : Around} {E : Value → Shared → Prop} {s : Shared} {env : Env} {e : Expr} {scope : Scope} {pos : Pos} {mk fst : Sem Value} {g : Comprehension} {gs : List Comprehension} {cl : List (Str × Addr)} {Q : Value → Shared → Prop}
    (h1 : clausesOf e = g :: gs) (h2 : ∀ x, foldedSetIterable g.iter env x = pure x) (h3 : closureFor scope env = pure cl) (h4 : scope.kind = .function) (h5 : ∀ y ∈ scope.names, y.2 = .local → scope.names.lookup y.1 = some .local)
    (h : wpAny M A fst (fun x s1 => wpAny M A (pyIter x) (fun it s2 => wpAny M A mk (fun acc s3 => wpAny M A (newFunctionEnv scope env.globals cl [] env.qual none .none (some env))
      (fun c s4 => codeAny M A (.compStart e 0 it acc { c with scope := relabel scope env }) (PostC M A E Q acc { c with scope := relabel scope env }) s4) E s3) E s2) E s1) E s) : wpAny M A (comprehension e scope env pos mk false fst none) Q E s := by
  unfold comprehension
  rw [h3, h1]
  refine wpAny_bind (wpAny_mono h (fun x s1 k1 => ?_) fun _ _ y => y)
  refine wpAny_bind (wpAny_standAt (wpAny_bind (wpAny_of_eq (h2 x) (wpAny_bind (wpAny_holding (wpAny_mono k1 (fun it s2 k2 => ?_) fun _ _ y => y))))))
  refine wpAny_standIf (wpAny_bind (wpAny_mono k2 (fun acc s3 k3 => wpAny_bind (wpAny_pure (wpAny_bind (wpAny_mono k3 (fun c s4 k4 => ?_) fun _ _ y => y)))) fun _ _ y => y))
  dsimp only
  have lk : ∀ y ∈ (scope.names.filter fun x => (x.2 == .local || x.2 == .cell) && x.1 != (".0" : Str)).reverse, y.2 = .local → Env.kindOf { c with scope := relabel scope env } y.1 = some .local := fun y hy l =>
    lookup_relabel_local (h5 y (List.mem_filter.mp (List.mem_reverse.mp hy)).1 l)
  refine wpAny_holding (wpAny_bind (wpAny_attempt (wpAny_holding (wpAny_run (codeAny_mono k4 fun r z hz => ?_)))))
  cases r with
  | ok f =>
    obtain ⟨m, hm, hq⟩ := hz
    exact wpAny_bind (wpAny_holding (wpAny_comp_letGo (cenv := { c with scope := relabel scope env }) h4 _ z m lk hm fun g _ _ sb => wpAny_pure (hq g sb)))
  | error x =>
    obtain ⟨m, hm, hq⟩ := hz
    exact wpAny_bind (wpAny_holding (wpAny_comp_letGo (cenv := { c with scope := relabel scope env }) h4 _ z m lk hm fun g _ _ sb => wpAny_mono (hq g sb) (fun _ _ y => False.elim y) fun _ _ y => y))
section
variable {X : Cx} {pins : List (Addr × Obj)} {σ : St} {H3 : Hp} {s3 : Shared} {W : WX} {E : XK}
/-- what a callee lets out within the block gets out of it -/
theorem blk_out {scope : Scope} {ce : Env} {fp : List Addr} {Q : Value → Shared → Prop} {acc : Value} (I3 : Inv X pins σ H3 s3) (hst : X.stack = X.env :: X.outer) (hfr : X.env.frame = some X.env.locals) (tk : Takes X W) (hW : ∀ c d τ H, E c d H → W c d τ H)
    (cL : ce.locals = s3.heap.objs.size) (cF : ce.frame = X.env.frame) (f3 : ∀ b ∈ fp, FpOk X pins H3 b) :
    Passes (L2.CX X.prog X.w) ((X.blk s3 H3 scope ce fp).wish (notedBy (model X.prog X.w) X.A ce fun e z => PostC (model X.prog X.w) X.A X.xe Q acc ce (.error e) z)) E := by
  intro pb τ H s x s' Ib c
  have I6 := Ib.unwish
  have I7 : Inv X pins σ H s := I3.call' (ch := fp) I6.os I6.base I6.hok I6.bare fun b hb => ⟨(f3 b hb).2.2.2.1, (f3 b hb).2.1, (f3 b hb).2.2.2.2.1, (f3 b hb).2.2.2.2.2⟩
  obtain ⟨m, ns, _⟩ := I6.loc
  have nC : H ce.locals = none := I6.free
  have ns : s.heap.Ns ce.locals m := ns
  rw [cL] at ns nC
  generalize hC : s3.heap.objs.size = C at ns nC
  have fC : FpOk X pins H C := I3.fpOk (Nat.le_of_eq hC) nC
  obtain ⟨_, fC1, fC2, fC3, fC4, fC5⟩ := fC
  have CF : C ∉ frs X.stack := fun z => (List.mem_cons.mp (I3.stkSub _ z)).elim fC1 fC2
  obtain ⟨a, B, H', cls, d, rfl, fl, hok, ub, na, os, ag, hE⟩ := c
  have fl' : HandSPX.FlyingZ B (X.env :: X.outer) a (Zc cls d) s'.heap := hst ▸ fl
  have AF : X.A.frames = some (X.env :: X.outer) := by rw [I3.ok.frames, hst]
  obtain ⟨oC, es, ep, eC, dC, rC⟩ := id ns
  have BC : B.get? C = some oC := ub.keep C oC eC nC CF
  have nC' : H' C = none := ub.free C oC eC nC
  have ns' : s'.heap.Ns C m := ⟨oC, es, ep, fl.1 C oC BC, dC, rC⟩
  show wpAny _ _ (noteFrame (.ref a) ce) _ _ _
  rw [note_env cF]
  refine HandSPX.looks_onZ Zc.steady AF hfr fl' fun h1 hh up1 => ?_
  refine ⟨m, by rw [cL, hC]; exact up1.ns ns', fun h2 sb => ?_⟩
  rw [cL, hC] at sb
  -- the ground without the block's dict
  obtain ⟨B0, b1, b2⟩ := restrict B fun b => decide (b ≠ C)
  have B0B : ∀ b o, B0.get? b = some o → B.get? b = some o ∧ b ≠ C := fun b o e => by
    by_cases q : b = C
    · rw [b2 b (by simp [q])] at e
      cases e
    · rw [b1 b (by simp [q])] at e
      exact ⟨e, q⟩
  have BB0 : ∀ b o, b ≠ C → B.get? b = some o → B0.get? b = some o := fun b o q e => by rw [b1 b (by simp [q])]; exact e
  have B0n : ∀ b, B.get? b = none → B0.get? b = none := fun b e => by
    cases q : B0.get? b with
    | none => rfl
    | some o =>
      rw [(B0B b o q).1] at e
      cases e
  obtain ⟨k1, k2, k3, oe, vs, T, oT, ts, ke, kz, kd, kv, kT, kne, kt, kdt, k4⟩ := hh
  have aC : a ≠ C := fun z => by rw [z, BC] at k2; cases k2
  have TC : T ≠ C := fun z => by rw [z, BC] at kT; cases kT
  have at2 : ∀ b, b ≠ C → h2.get? b = h1.get? b := fun b q => sb.2 b q
  have st2 : B0.StaysIn h2 := fun b o e => by
    obtain ⟨e1, q⟩ := B0B b o e
    rw [at2 b q]
    exact k1 b o e1
  have FN : ∀ b ∈ frs X.stack, B0.get? b = none := fun b hb => B0n b (fl.2.2.1.mem hb).1
  have ff2 : h2.FunFrames B0 (X.env :: X.outer) := frames_at k3 (by rw [← hst]; exact FN) (by rw [← hst]; exact fun L hL => at2 L fun z => CF (z ▸ hL))
  have tr2 : HandSPX.TracedZ h2 B0 a (Zc cls d) (rawInt X.env.locals) := ⟨oe, vs, T, oT, ts, (at2 a aC).trans ke, kz, kd, kv, B0n T kT, kne, (at2 T TC).trans kt, kdt, k4⟩
  unfold PySem.passOn
  refine wpAny_bind (wpAny_field ((at2 a aC).trans ke) kd kv ?_)
  rw [if_neg (by simp)]
  refine wpAny_bind ?_
  rw [cF, hfr]
  refine HandSPX.setFlight_anyZ st2 ff2 tr2 fun h3 g1 g2 g3 up3 => wpAny_throw ?_
  obtain ⟨G, r1, r2⟩ := restrict s'.heap fun b => (B0.get? b).isSome || decide (b ∈ frs X.stack)
  have GB : ∀ b o, B0.get? b = some o → G.get? b = some o := fun b o e => by
    rw [r1 b (by simp [e])]
    exact fl.1 b o (B0B b o e).1
  have GF : ∀ b, b ∈ frs X.stack → G.get? b = s'.heap.get? b := fun b hb => r1 b (by simp [hb])
  have og : ∀ b o, G.get? b = some o → s'.heap.get? b = some o ∧ ((B0.get? b).isSome = true ∨ b ∈ frs X.stack) := fun b o e => by
    cases q : ((B0.get? b).isSome || decide (b ∈ frs X.stack)) with
    | false =>
      rw [r2 b q] at e
      cases e
    | true =>
      rw [r1 b q] at e
      exact ⟨e, by simpa [Bool.or_eq_true] using q⟩
  have gb : ∀ b o, G.get? b = some o → (B0.get? b).isSome = true → B0.get? b = some o := fun b o e z => by
    obtain ⟨o', q⟩ := Option.isSome_iff_exists.mp z
    have e1 := fl.1 b o' (B0B b o' q).1
    rw [(og b o e).1] at e1
    cases e1
    exact q
  refine tk _ _ ⟨a, B0, { s with heap := G, gens := s'.gens, drawn := s'.drawn, toks := s'.toks }, pins, σ, H', cls, d, rfl, ?_, fun b o e hb => gb b o e ((og b o e).2.resolve_right hb), fun b o e hnf => ?_, .inr (.inr ⟨g1, B0n a k2, hst ▸ g2, g3⟩), na, os, ag, hW _ _ _ _ hE⟩
  · refine I7.call (ch := [C]) ⟨fun b o e n hb hx => GB b o (BB0 b o (fun z => hx (by rw [z]; exact List.mem_singleton.mpr rfl)) (ub.keep b o e n hb)), fun b o e n hb _ => ?_, fun b o e n _ => ub.free b o e n, fun b o e hx => ?_, ub.tups, ub.frzs, ub.tbls⟩ (fun b u q => ?_) ag fun b hb => ?_
    · obtain ⟨sl, q⟩ := ub.slot b o e hb
      exact ⟨sl, (GF b hb).trans q⟩
    · by_cases hb : b ∈ frs X.stack
      · obtain ⟨sl, q⟩ := ub.slot b o e hb
        exact ⟨_, (GF b hb).trans q⟩
      · obtain ⟨o', q⟩ := ub.there b o e hb
        exact ⟨o', GB b o' (BB0 b o' (fun z => hx (by rw [z]; exact List.mem_singleton.mpr rfl)) q)⟩
    · refine (hok b u q).stay (fun c v hc r => GB c v (BB0 c v (fun z => ?_) r)) (fun _ r => r) fun _ _ r => r
      rcases hc with hc | hc
      · rw [← hc, z, nC'] at q
        cases q
      · rw [z, nC'] at hc
        cases hc
    · rw [List.mem_singleton.mp hb]
      exact ⟨fC3, fC1, fC4, fC5⟩
  · rcases (og b o e).2 with z | z
    · exact ⟨o.slots, g1 b o (gb b o e z)⟩
    · obtain ⟨sl, e1⟩ := up1 b o (og b o e).1 hnf
      have bC : b ≠ C := fun q => CF (q ▸ z)
      obtain ⟨sl2, e2⟩ := up3 b _ ((at2 b bC).trans e1) hnf
      exact ⟨sl2, e2⟩
end
section
variable {X : Cx} {W : WX} {E : XK}
/-- [elt for tg in iter if ..], where elt may raise -/
theorem pe_lcX {elt tg iter : Expr} {ifs : List Expr} {scope : Scope} {own : List (Str × Nat)} {pos : Pos} {wi : TI} {g : TG} {tt : TT} {te : TE} (hc : X.calm = true) (hN : X.N.Nodup) (hst : X.stack = X.env :: X.outer) (hfr : X.env.frame = some X.env.locals)
    (tk : Takes X W) (hW : ∀ c d τ H, E c d H → W c d τ H) (hi : PI X tg iter wi) (ok : BlkOk X.N X.env.scope scope own)
    (hg : ∀ (s : Shared) (H : Hp) (C : Addr) (cl : List (Str × Addr)) (fp : List Addr), PG (X.blk s H scope (compEnvC scope cl C X.env) fp) tg g)
    (ht : ∀ (s : Shared) (H : Hp) (C : Addr) (cl : List (Str × Addr)) (fp : List Addr), PTs (X.blk s H scope (compEnvC scope cl C X.env) fp) ifs tt)
    (he : ∀ (s : Shared) (H : Hp) (C : Addr) (cl : List (Str × Addr)) (fp : List Addr) (R : Value → Shared → Prop), Passes (L2.CX X.prog X.w) ((X.blk s H scope (compEnvC scope cl C X.env) fp).wish R) E → PE ((X.blk s H scope (compEnvC scope cl C X.env) fp).wish R) elt te)
    (hs : ∀ x, foldedSetIterable iter X.env x = pure x := by intro _; rfl) : PE X (.ListComp elt [⟨tg, iter, ifs, 0⟩] scope pos) (tLc wi g tt te (own.map (·.2))) := by
  refine ⟨fun pins s σ H Q I h => ?_⟩
  rw [eval_ListComp]
  have cap : ∀ y ∈ scope.names, y.2 = .free → ∃ c, X.env.cells.lookup y.1 = some c := fun y hy e => (ok.free y hy e).elim (fun k => I.ok.has _ (.inl k)) fun k => I.ok.has _ (.inr k)
  refine compr_any rfl hs (closure_ok cap) ok.kind (fun y hy e => by rw [ok.uniq y hy, e]) (thn (hi.run pins s σ H _ I h) fun xv s1 hx => thn hx fun itv s2 hit => ?_)
  obtain ⟨it, fp, tn, J, H2, rfl, I2, T, st2, f2, q⟩ := hit
  refine wpAny_newObj_type (newEnv_comp ?_) (by show 0 ≤ sizeLine; decide)
  generalize eD : s2.heap.objs.size = D
  have nD : H2 D = none := I2.hok.fresh (Nat.le_of_eq eD)
  obtain ⟨V, ⟨m0, v0⟩, turn⟩ := q D nD
  generalize e3 : ({ s2 with heap := s2.heap.push { cls := .type "list", data := .seq ([] : List Value).toArray } } : Shared) = s3
  have I3 : Inv X pins σ (upd H2 D (.lst [])) s3 := by
    subst e3
    refine I2.laid (t' := s2.toks) (fun b o e => Heap.get?_push_of_some _ e) (Nat.le_of_eq eD) ⟨Nat.zero_le _, [], 0, .nil, ?_⟩
    subst eD
    exact Heap.get?_push_size _ rfl
  have p3 : s3.heap = s2.heap.push { cls := .type "list", data := .seq ([] : List Value).toArray } := by subst e3; rfl
  have f3 : ∀ b ∈ fp, FpOk X pins (upd H2 D (.lst [])) b ∧ b < s3.heap.objs.size := fun b hb => by
    obtain ⟨o, e, _⟩ := T.obj _ _ st2 b hb
    have lt := Heap.lt_size e
    refine ⟨⟨?_, (f2 b hb).2⟩, by rw [p3, Heap.size_push]; exact Nat.lt_succ_of_lt lt⟩
    rw [upd_ne (by rw [← eD]; exact Nat.ne_of_lt lt)]
    exact (f2 b hb).1
  have st3 : tn 0 s3.heap := T.keep _ _ _ st2 fun b _ o e => by rw [p3]; exact Heap.get?_push_of_some _ e
  have I4 := block_start I3 ok hN f3
  have pg := hg s3 (upd H2 D (.lst [])) s3.heap.objs.size (cellsFrom (s3.heap.objs.size + 1) scope.names (cloFrom X.env.cells scope.names [])) fp
  have pt := ht s3 (upd H2 D (.lst [])) s3.heap.objs.size (cellsFrom (s3.heap.objs.size + 1) scope.names (cloFrom X.env.cells scope.names [])) fp
  have pe := he s3 (upd H2 D (.lst [])) s3.heap.objs.size (cellsFrom (s3.heap.objs.size + 1) scope.names (cloFrom X.env.cells scope.names [])) fp
  show codeAny _ _ (.compStart (.ListComp elt [⟨tg, iter, ifs, 0⟩] scope pos) 0 (.ref it) (.ref D) (compEnvC scope (cellsFrom (s3.heap.objs.size + 1) scope.names (cloFrom X.env.cells scope.names [])) s3.heap.objs.size X.env))
    (PostC (model X.prog X.w) X.A X.xe (EP X pins σ Q) (.ref D) (compEnvC scope (cellsFrom (s3.heap.objs.size + 1) scope.names (cloFrom X.env.cells scope.names [])) s3.heap.objs.size X.env)) { s3 with heap := pushCells (s3.heap.push { cls := .type "dict", data := .dict #[] }) scope.names }
  have n3 : ∀ b ∈ fp, (upd H2 D (.lst [])) b = none := fun b hb => (f3 b hb).1.1
  generalize ece : compEnvC scope (cellsFrom (s3.heap.objs.size + 1) scope.names (cloFrom X.env.cells scope.names [])) s3.heap.objs.size X.env = ce at I4 pg pt pe ⊢
  have cL : ce.locals = s3.heap.objs.size := by subst ece; rfl
  have cF : ce.frame = X.env.frame := by subst ece; rfl
  generalize eH : upd H2 D (.lst []) = H3 at I3 I4 pg pt pe v0 n3 f3
  have pe := pe _ (blk_out (Q := EP X pins σ Q) (acc := .ref D) I3 hst hfr tk hW cL cF fun b hb => (f3 b hb).1)
  generalize e4 : ({ s3 with heap := pushCells (s3.heap.push { cls := .type "dict", data := .dict #[] }) scope.names } : Shared) = s4 at I4 ⊢
  have st4 : tn 0 s4.heap := T.keep _ _ _ st3 fun b _ o e => by subst e4; exact pushCells_keeps _ _ _ _ (Heap.get?_push_of_some _ e)
  have fps : ∀ {τ : St} {H' : Hp} {z : Shared}, Inv (X.blk s3 H3 scope ce fp) [] τ H' z → (∀ b ∈ fp, H' b = none) → ∀ b ∈ fp, FpOk (X.blk s3 H3 scope ce fp) [] H' b := fun {τ H' z} J hn b hb =>
    ⟨hn b hb, (J.ok.exf b hb).1, J.ok.exfs b hb, .inl hb, fun x c e => (J.ok.exf b hb).2 x c e, fun p hp => absurd (show p ∈ ([] : List (Addr × Obj)) ++ [] from hp) (by simp)⟩
  have loop : codeAny (model X.prog X.w) X.A (.compLoop (.ListComp elt [⟨tg, iter, ifs, 0⟩] scope pos) 0 (.ref it) (.ref D) ce) (PostC (model X.prog X.w) X.A X.xe (EP X pins σ Q) (.ref D) ce) s4 := by
    refine compLoop_any (fun n z => ∃ i H', Inv (X.blk s3 H3 scope ce fp) [] (wipe σ (own.map (·.2))) H' z ∧ tn i z.heap ∧ (∀ b ∈ fp, H' b = none) ∧ V i n H') ?_ m0 ⟨0, H3, I4, st4, n3, v0⟩
    rintro n s5 ⟨i, H5, I5, st5, n5, v5⟩
    rcases turn i n H5 v5 with ⟨stop, qq⟩ | ⟨go, Nx, hNx, step⟩
    · refine thnF (T.done (X.blk s3 H3 scope ce fp) rfl rfl rfl hc i [] s5 _ H5 (fun _ _ => False) I5 (fps I5 n5) st5 stop) fun r s6 hr => ?_
      obtain ⟨rfl, I6⟩ := hr
      have I7 : Inv X pins σ H5 s6 := I3.call' (ch := fp) I6.os I6.base I6.hok I6.bare fun b hb => ⟨(f3 b hb).1.2.2.2.1, (f3 b hb).1.2.1, (f3 b hb).1.2.2.2.2.1, (f3 b hb).1.2.2.2.2.2⟩
      have nC : H5 ce.locals = none := I6.free
      obtain ⟨m, ns, _⟩ := I6.loc
      have fC := I3.fpOk (b := ce.locals) (Nat.le_of_eq cL.symm) nC
      obtain ⟨c0, c1, c2, c3, c4, c5⟩ := fC
      exact ⟨m, ns, fun g sb => ⟨.ref D, H5, I7.turned (t' := s6.toks) (fun b o hb e => (sb.2 b hb).trans e) c0 c1 c3 c4 c5, rfl, qq⟩⟩
    · refine thnF (T.item (X.blk s3 H3 scope ce fp) rfl rfl rfl hc i [] s5 _ H5 (fun _ _ => False) I5 (fps I5 n5) st5 go) fun r s6 hr => ?_
      obtain ⟨u, rfl, h6⟩ := hr
      refine thnF h6 fun _ s7 h7 => ?_
      obtain ⟨x, H7, I7, r7, y7, st7, n7⟩ := h7
      have P7 := I7.pinned (fps I7 n7) (T.obj _ _ st7)
      refine thnF (pg.run _ s7 _ H7 x u _ P7 r7 (step x H7 y7)) fun _ s8 h8 => ?_
      obtain ⟨σ8, H8, I8, w8, q8⟩ := h8
      refine thnF (pt.run _ s8 σ8 H8 _ I8 q8) fun b s9 h9 => ?_
      obtain ⟨H9, I9, q9⟩ := h9
      have fin : ∀ {z : Shared} {H' : Hp}, Inv (X.blk s3 H3 scope ce fp) ([] ++ pinsAt fp s7.heap) σ8 H' z → Nx H' → ∃ m, m < n ∧ ∃ i H', Inv (X.blk s3 H3 scope ce fp) [] (wipe σ (own.map (·.2))) H' z ∧ tn i z.heap ∧ (∀ b ∈ fp, H' b = none) ∧ V i m H' := fun {z H'} Iz nx => by
        obtain ⟨m1, lt, v1⟩ := hNx H' nx
        have stay : ∀ b ∈ fp, ∀ o, s7.heap.get? b = some o → z.heap.get? b = some o ∧ H' b = none := fun b hb o e =>
          have k := Iz.pin (b, o) (List.mem_append_right _ (List.mem_append_right _ (mem_pinsAt hb e)))
          ⟨k.1, k.2.1⟩
        refine ⟨m1, lt, i + 1, H', (Iz.unpinned (pins := [])).weak (by rw [← w8, wipe_length]) (fun j v e => (wipe_some (by rw [w8]; exact e)).1), T.keep _ _ _ st7 fun b hb o e => (stay b hb o e).1, fun b hb => ?_, v1⟩
        obtain ⟨o, e, _⟩ := T.obj _ _ st7 b hb
        exact (stay b hb o e).2
      cases b with
      | false => exact fin I9 q9
      | true =>
        refine wpAny_mono (pe.run _ s9 σ8 H9 _ (I9.wish _) q9) (fun y s10 h10 => ?_) fun _ _ z => z
        obtain ⟨yv, H10, I10, r10, acc, a1, a2, nx⟩ := h10
        exact app_ok (X := X.blk s3 H3 scope ce fp) I10.unwish a1 a2 r10 fun s11 I11 => fin I11 nx
  exact codeAny_compStart_list loop (T.self X.A 0 _ _ _ st4 loop)
end
end L2

set_option Elab.async false
set_option linter.all false
set_option maxRecDepth 100000
set_option maxHeartbeats 3200000
/-! Our own layer: list(text), list.count of data, d == {}, a lambda whose error is kept. -/
namespace L2
open PySem PySem.Spec PyProof.Rows
def rListTx : List V → Hp → VK → Prop := fun xs H Q => ∃ z : Str, xs = [.str z] ∧ z.length ≤ 100000 ∧ ∀ q, H q = none → Q (.ref q) (upd H q (.lst (z.cps.toList.map fun c => V.str ⟨#[c]⟩)))
theorem call_list_text {X : Cx} (hc : X.calm = true) : CallR X (.type "list") rListTx := by
  intro pins s σ H xs us Q I r h
  obtain ⟨z, rfl, hz, q⟩ := h
  obtain ⟨u, rfl, rx⟩ := vals1 r
  obtain ⟨t, rfl⟩ := (show ∃ t, u = Value.str z t from rx)
  have hz' : z.cps.size ≤ sizeLine := by
    have e : z.length = z.cps.size := rfl
    rw [sizeLine_eq]
    omega
  refine call_list_str (hn := hz') (I.ok.hd hc) z t fun h' tk acc n k new items => ?_
  refine ⟨.ref s.heap.objs.size, upd H s.heap.objs.size (.lst (z.cps.toList.map fun c => V.str ⟨#[c]⟩)), I.laid k (Nat.le_refl _) ⟨by rw [List.length_map, Array.length_toList]; exact hz', acc.toList, n, ?_, new⟩, rfl, q _ (I.hok.fresh (Nat.le_refl _))⟩
  refine vals_of_at (by rw [List.length_map, Array.length_toList, Array.length_toList]; exact items.1.symm) fun j x w h1 h2 => ?_
  obtain ⟨c, u, e1, rfl⟩ := items.2 j w (by rw [← Array.getElem?_toList]; exact h2)
  rw [List.getElem?_map, Array.getElem?_toList, e1] at h1
  cases h1
  exact ⟨u, rfl⟩
/-- l.count(x), of data -/
def rCntD (K : PySem.W.Frag) : V → List V → Hp → VK → Prop := fun x xs H Q => ∃ (a : Addr) (y : V) (d : PyData) (ds : List PyData) (ys : List V), x = .ref a ∧ xs = [y] ∧ SqL K H a ys ∧ DpAll K H ys ds ∧ Dp K H y d ∧ PyData.plainAll ds = true ∧ d.plain = true ∧ PyData.depthAll ds = 0 ∧
  Q (.int (ds.countP (fun e => PyData.eqv e d) : Nat)) H
theorem mt_countD {X : Cx} (hu : X.A.units + 65 < cLine) : MtR X "list.count" (rCntD X.K) := by
  intro pins s σ H x xs v us Q I rx rxs h
  obtain ⟨a, y, d, ds, ys, rfl, rfl, hl, hd, hy, p1, p2, p3, q⟩ := h
  cases rx
  obtain ⟨u, rfl, ru⟩ := rxs.one
  obtain ⟨bs, r1⟩ := Dp.reads I d y u hy ru
  obtain ⟨its, rv, pl, hlen⟩ := I.list hl
  obtain ⟨as, r2⟩ := Dp.readsAll I ds _ its hd rv
  obtain ⟨o, n, ho, hc, hdn, hdt⟩ := pl
  refine PySem.SeqAt.count_list_data (l := a) (vs := its.toArray) ⟨o, ho, hc, n, hdt⟩ (by simpa using r2) r1 p1 p2 (by rw [p3, Nat.zero_min]; omega) ?_
  exact ⟨.int (ds.countP (fun e => PyData.eqv e d) : Nat), H, I.tok _, ⟨_, rfl⟩, q⟩
def rEqDE : R2 := fun x y H Q => ∃ a b kvs, x = .ref a ∧ y = .ref b ∧ H a = some (.dK kvs) ∧ H b = some (.dK []) ∧ Q (.bl kvs.isEmpty) H
theorem op_eqDE {X : Cx} (hu : X.A.units < cLine) : OpR X (compareOp .Eq) rEqDE := by
  intro pins s σ H x y v u Q I rx ry h
  obtain ⟨a, b, kvs, rfl, rfl, ea, eb, q⟩ := h
  obtain rfl : v = Value.ref a := rx
  obtain rfl : u = Value.ref b := ry
  obtain ⟨_, ya, va, ra, da⟩ := (show ObjOk X.prog X.w H s.heap a (.dK kvs) from I.hok a _ ea)
  obtain ⟨_, yb, vb, rb, db⟩ := (show ObjOk X.prog X.w H s.heap b (.dK []) from I.hok b _ eb)
  have hb : vb.length = 0 := rb.length.symm
  have ha : va.length = kvs.length := ra.length.symm
  refine PySem.W.keq_eq (knd := mixKind X.prog X.w) (r := true) ya yb da db hu (fun hl => ?_) (fin_bl I q ?_)
  · obtain rfl : kvs = [] := List.eq_nil_of_length_eq_zero (by omega)
    exact hits_all rb ra fun p hp => nomatch hp
  · rw [Bool.and_true, hb]
    cases kvs with
    | nil => rw [ha]; rfl
    | cons p r => rw [ha]; rfl
theorem takes_len {X : Cx} {W : WX} (t : Takes X W) : Takes X fun c d σ H => σ.length = X.N.length → W c d σ H := fun u s' ⟨a, B, sI, pins, σ, H, cls, d, e, I, nb, up, sky, na, os, ag, w⟩ =>
  t u s' ⟨a, B, sI, pins, σ, H, cls, d, e, I, nb, up, sky, na, os, ag, w I.len⟩
theorem Room.u65 {k : Nat} {A : Around} (r : Room k A) : A.units + 65 < cLine := by
  have := r.un
  omega
/-- all but the tables stay -/
theorem sqL_extN {K : PySem.W.Frag} {H H' : Hp} {a : Addr} {xs : List V} (h : SqL K H a xs) (e : LamX.ExtN H H') : SqL K H' a xs := by
  rcases h with h | h
  · refine Or.inl ?_
    rcases h with h | ⟨o, h⟩
    · exact Or.inl (e _ _ h fun ps z => nomatch z)
    · exact Or.inr ⟨o, e _ _ h fun ps z => nomatch z⟩
  · exact Or.inr h
/-- a def by its body, its code object told -/
structure FunC (K : PySem.W.Frag) (x qual : Str) (st : Stmt) (f : Addr) (fd : FuncData) (c : Addr) : Prop where
  ex : ∃ (oc : Value) (od : Option Addr) (kV doc pm : Value) (an : Option Addr) (ct : Value) (osl : Array (Option Value)),
    fd = PySem.W.fnOf x qual (defArgs st) (defBody st) (defScope st) .none kV doc pm an (.ref c) ct ∧ K.lookup f = some ⟨oc, od, .func fd, osl⟩ ∧ PySem.W.codeIn K (.ref c) qual = true
theorem FunC.ok {P : Program} {w : World} {K : PySem.W.Frag} {mg : Str → Option Value} {base : Heap} {x qual : Str} {st : Stmt} {f c : Addr} {fd : FuncData} {N ps : List Str} {k : Nat} {sp : Sp} (F : FunC K x qual st f fd c) (S : FnScope N ps (defScope st)) (len : ∀ vs H Q E, sp vs H Q E → vs.length = ps.length)
    (hb : ∀ (A : Around) (outer : List Env) (s : Shared) (H : Hp) (vs : List V) (Q : VK) (E : XK), Room k (A.deeper (envOfC qual (defScope st) s.heap.objs.size f (.ref c))) → sp vs H Q E →
      ∃ t, PSs (cxOf CX0 P w K mg base N qual (defScope st) f (.ref c) A outer s H E).nox (defBody st) t ∧ t { nx := fun _ H' => Q .non H', rt := Q } (start N vs) H) : FnOk P w K mg base CX0 (k + 1) f fd ps sp := by
  obtain ⟨oc, od, kV, doc, pm, an, ct, osl, rfl, lk, hcd⟩ := F.ex
  exact fn_of lk hcd S len fun A outer s H vs Q E hr hsp => by
    obtain ⟨t, h, q⟩ := hb A outer s H vs Q E hr hsp
    exact ⟨t, h.nox, q⟩
end L2
namespace Evl
open PySem L2 Com TX Prt
/-- a comprehension whose i0-th item can't be made -/
theorem lc_bad {K : PySem.W.Frag} {tl te : TE} {g : TG} {vs : List Nat} {xs : List V} {σ : L2.St} {H : Hp} {i0 : Nat} (h : EvS K tl σ H xs) (hz : xs.length ≤ 40000) (h0 : i0 < xs.length)
    (he : ∀ i x H1, Ex H H1 → xs[i]? = some x → i ≤ i0 → ∃ σ2, (∀ Q : L2.St → Hp → Prop, Q σ2 H1 → g x (wipe σ vs) H1 Q) ∧ wipe σ2 vs = wipe σ vs ∧ (i < i0 → EvG (fun _ _ => True) te σ2 H1) ∧ (i = i0 → ∀ Q : VK, te σ2 H1 Q)) :
    ∀ H1, Ex H H1 → ∀ Q : VK, tLc (iList K tl) g tYes te vs σ H1 Q := fun H0 e Q =>
  h H0 e _ fun a H1 e1 hS => ⟨a, rfl, ⟨xs, hS⟩, fun Dl hD =>
    lc_list (xs := xs) (fun i H' => i ≤ i0 ∧ Cg (fun _ _ _ _ => True) H1 Dl i H') ⟨Nat.zero_le _, hD, Ex.new hD, [], upd_same, rfl, fun _ _ _ _ => True.intro⟩ (fun i H' _ p => ex_l p.2.2.1 hS) (fun i x H' hi p => by
      obtain ⟨p0, p1, p2, ys, p3, p4, _⟩ := p
      obtain ⟨σ2, g2, w2, e2, b2⟩ := he i x H' ((e.trans e1).trans p2) hi p0
      refine g2 _ ⟨w2, ?_⟩
      show te σ2 H' fun y H4 => ∃ acc, H4 Dl = some (.lst acc) ∧ acc.length < sizeLine ∧ (i + 1 ≤ i0 ∧ Cg (fun _ _ _ _ => True) H1 Dl (i + 1) (upd H4 Dl (.lst (acc ++ [y]))))
      rcases Nat.lt_or_ge i i0 with q | q
      · refine e2 q H' (Ex.refl _) _ fun v H4 e4 _ => ⟨ys, e4 _ _ p3, sz_lt (by omega), q, p1, Ex.mut (p2.trans e4) p1, ys ++ [v], upd_same, by rw [List.length_append, p4]; rfl, fun _ _ _ _ => True.intro⟩
      · exact b2 (by omega) _)
      (fun H' p => absurd p.1 (by omega))⟩
/-! ### what is kept where only tables have changed -/
theorem ct_len {a b : Nat} (h : a = b) : (a : Int) = (b : Int) := by rw [h]
theorem el_text {K : PySem.W.Frag} {ta : TE} {σ : L2.St} {H : Hp} {z : Str} (h : Ev ta σ H (.str z)) (hz : z.length ≤ 100000) : EvL (tCB rListTx (tCons ta tNil)) σ H ((L z).map fun c => V.str (T [c])) := fun H1 e Q q =>
  h H1 e _ fun H2 e2 => ⟨z, rfl, hz, fun l hl => q l _ (fresh_back e2 hl) (e2.trans (Ex.new hl)) upd_same⟩
theorem et_eqDE {ta : TE} {σ : L2.St} {H : Hp} {a : Addr} {kvs : List (Key × V)} (h : Ev ta σ H (.ref a)) (hd : H a = some (.dK kvs)) : EvT (tTest (tOp rEqDE ta tDNewK)) σ H kvs.isEmpty := fun H1 e Q q =>
  h H1 e _ fun H2 e2 p hp => ⟨a, p, kvs, rfl, rfl, (Ex.new hp) _ _ (e2 _ _ (e _ _ hd)), upd_same, ⟨_, rfl, q _ (e2.trans (Ex.new hp))⟩⟩
theorem ev_countD {K : PySem.W.Frag} {ta tb : TE} {σ : L2.St} {H : Hp} {p : Addr} {ys : List V} {y : V} {n : Nat} (ha : Ev ta σ H (.ref p)) (hp : H p = some (.lst ys)) (hb : Ev tb σ H y) (f1 : ys.all flatOk = true) (f2 : flatOk y = true) (p1 : PyData.plainAll (ys.map dpOf) = true) (p2 : (dpOf y).plain = true)
    (hn : (ys.map dpOf).countP (fun e => PyData.eqv e (dpOf y)) = n) : Ev (tBM K "list" (rCntD K) ta (tCons tb tNil)) σ H (.int (n : Int)) := fun H1 e Q q =>
  ha H1 e _ fun H2 e2 => ⟨Or.inl ⟨rfl, ys, sq_of ((e.trans e2) _ _ hp)⟩, hb H2 (e.trans e2) _ fun H3 e3 => ⟨p, y, dpOf y, ys.map dpOf, ys, rfl, rfl, sq_of (((e.trans e2).trans e3) _ _ hp), dps_flat f1, dp_flat f2, p1, p2, depths_flat, hn ▸ q H3 (e2.trans e3)⟩⟩
theorem ev_indexF {K : PySem.W.Frag} {ta tb : TE} {σ : L2.St} {H : Hp} {p : Addr} {ys : List V} {y z : V} {j : Nat} (ha : Ev ta σ H (.ref p)) (hp : H p = some (.lst ys)) (hb : Ev tb σ H y) (f1 : flatV y = true) (f2 : ys.all flatV = true) (hj : ys[j]? = some z) (hz : eqV z y = true)
    (hn : ∀ (m : Nat) (z' : V), m < j → ys[m]? = some z' → eqV z' y = false) : Ev (tBM K "list" (rIndex K) ta (tCons tb tNil)) σ H (.int (j : Int)) := fun H1 e Q q =>
  ha H1 e _ fun H2 e2 => ⟨Or.inl ⟨rfl, ys, sq_of ((e.trans e2) _ _ hp)⟩, hb H2 (e.trans e2) _ fun H3 e3 => ⟨p, ys, y, j, z, rfl, rfl, sq_of (((e.trans e2).trans e3) _ _ hp), f1, f2, hj, hz, hn, q H3 (e2.trans e3)⟩⟩
end Evl

set_option Elab.async false
set_option linter.all false
set_option maxRecDepth 100000
set_option maxHeartbeats 2000000
namespace My
open PySem L2 Evl Com TX Prt
def top (i : Nat) : Stmt := PySem.Challenge.pw_wordmend_k25_patterns.main.body.getD i (.Pass ⟨0, 0, 0, 0⟩)
abbrev s_are_letters : Stmt := top 18
abbrev N_are_letters : List Str := ["thing"]
abbrev P_are_letters : List Str := ["thing"]
theorem sc_are_letters : FnScope N_are_letters P_are_letters (defScope s_are_letters) := ⟨rfl, rfl, rfl, by decide +kernel, rfl, by decide +kernel, by decide +kernel⟩
abbrev s_is_word : Stmt := top 19
abbrev N_is_word : List Str := ["thing"]
abbrev P_is_word : List Str := ["thing"]
theorem sc_is_word : FnScope N_is_word P_is_word (defScope s_is_word) := ⟨rfl, rfl, rfl, by decide +kernel, rfl, by decide +kernel, by decide +kernel⟩
abbrev s_need_word : Stmt := top 20
abbrev N_need_word : List Str := ["thing"]
abbrev P_need_word : List Str := ["thing"]
theorem sc_need_word : FnScope N_need_word P_need_word (defScope s_need_word) := ⟨rfl, rfl, rfl, by decide +kernel, rfl, by decide +kernel, by decide +kernel⟩
abbrev s_read_figures : Stmt := top 26
abbrev N_read_figures : List Str := ["told", "signs", "figures", "sign"]
abbrev P_read_figures : List Str := ["told"]
theorem sc_read_figures : FnScope N_read_figures P_read_figures (defScope s_read_figures) := ⟨rfl, rfl, rfl, by decide +kernel, rfl, by decide +kernel, by decide +kernel⟩
abbrev s_Pattern_init : Stmt := inClass (top 27) 0
abbrev N_Pattern_init : List Str := ["self", "told", "signs", "figures", "letters"]
abbrev P_Pattern_init : List Str := ["self", "told"]
theorem sc_Pattern_init : FnScope N_Pattern_init P_Pattern_init (defScope s_Pattern_init) := ⟨rfl, rfl, rfl, by decide +kernel, rfl, by decide +kernel, by decide +kernel⟩
abbrev s_Pattern_count_in : Stmt := inClass (top 27) 1
abbrev N_Pattern_count_in : List Str := ["self", "ended", "best", "many", "place", "step", "figure"]
abbrev P_Pattern_count_in : List Str := ["self", "ended", "best"]
theorem sc_Pattern_count_in : FnScope N_Pattern_count_in P_Pattern_count_in (defScope s_Pattern_count_in) := ⟨rfl, rfl, rfl, by decide +kernel, rfl, by decide +kernel, by decide +kernel⟩
abbrev s_Parter_init : Stmt := inClass (top 28) 0
abbrev N_Parter_init : List Str := ["self", "patterns", "told"]
abbrev P_Parter_init : List Str := ["self", "patterns"]
theorem sc_Parter_init : FnScope N_Parter_init P_Parter_init (defScope s_Parter_init) := ⟨rfl, rfl, rfl, by decide +kernel, rfl, by decide +kernel, by decide +kernel⟩
abbrev s_Parter_put : Stmt := inClass (top 28) 1
abbrev N_Parter_put : List Str := ["self", "word", "parts", "part"]
abbrev P_Parter_put : List Str := ["self", "word", "parts"]
theorem sc_Parter_put : FnScope N_Parter_put P_Parter_put (defScope s_Parter_put) := ⟨rfl, rfl, rfl, by decide +kernel, rfl, by decide +kernel, by decide +kernel⟩
abbrev s_Parter_counts : Stmt := inClass (top 28) 2
abbrev N_Parter_counts : List Str := ["self", "word", "ended", "best", "pattern"]
abbrev P_Parter_counts : List Str := ["self", "word"]
theorem sc_Parter_counts : FnScope N_Parter_counts P_Parter_counts (defScope s_Parter_counts) := ⟨rfl, rfl, rfl, by decide +kernel, rfl, by decide +kernel, by decide +kernel⟩
abbrev s_Parter_parts : Stmt := inClass (top 28) 3
abbrev N_Parter_parts : List Str := ["self", "word", "found", "begin", "place", "number"]
abbrev P_Parter_parts : List Str := ["self", "word"]
theorem sc_Parter_parts : FnScope N_Parter_parts P_Parter_parts (defScope s_Parter_parts) := ⟨rfl, rfl, rfl, by decide +kernel, rfl, by decide +kernel, by decide +kernel⟩
abbrev s_l_mixed : Stmt := top 30
abbrev N_l_mixed : List Str := ["_law_cell", "_law_k", "_law_mixed_here"]
abbrev P_l_mixed : List Str := ["_law_cell", "_law_k"]
theorem sc_l_mixed : FnScope N_l_mixed P_l_mixed (defScope s_l_mixed) := ⟨rfl, rfl, rfl, by decide +kernel, rfl, by decide +kernel, by decide +kernel⟩
abbrev s_l_at : Stmt := top 31
abbrev N_l_at : List Str := ["_law_script", "_law_k"]
abbrev P_l_at : List Str := ["_law_script", "_law_k"]
theorem sc_l_at : FnScope N_l_at P_l_at (defScope s_l_at) := ⟨rfl, rfl, rfl, by decide +kernel, rfl, by decide +kernel, by decide +kernel⟩
abbrev s_l_class : Stmt := top 32
abbrev N_l_class : List Str := ["_law_caught", "_law_others", "_law_kinds"]
abbrev P_l_class : List Str := ["_law_caught"]
theorem sc_l_class : FnScope N_l_class P_l_class (defScope s_l_class) := ⟨rfl, rfl, rfl, by decide +kernel, rfl, by decide +kernel, by decide +kernel⟩
abbrev s_l_pattern : Stmt := top 33
abbrev N_l_pattern : List Str := ["_law_mixed_here", "_law_letters", "_law_size", "_law_numbers", "_law_signs", "_law_figures", "_law_k", "_law_more", "_law_number"]
abbrev P_l_pattern : List Str := ["_law_mixed_here"]
theorem sc_l_pattern : FnScope N_l_pattern P_l_pattern (defScope s_l_pattern) := ⟨rfl, rfl, rfl, by decide +kernel, rfl, by decide +kernel, by decide +kernel⟩
abbrev s_l_text : Stmt := top 34
abbrev N_l_text : List Str := ["_law_pattern_here", "_law_signs", "_law_figures", "_law_found", "_law_k"]
abbrev P_l_text : List Str := ["_law_pattern_here"]
theorem sc_l_text : FnScope N_l_text P_l_text (defScope s_l_text) := ⟨rfl, rfl, rfl, by decide +kernel, rfl, by decide +kernel, by decide +kernel⟩
abbrev s_l_counted : Stmt := top 35
abbrev N_l_counted : List Str := ["_law_patterns", "_law_word", "_law_whole", "_law_found", "_law_gap", "_law_some", "_law_signs", "_law_figures", "_law_at_here"]
abbrev P_l_counted : List Str := ["_law_patterns", "_law_word"]
theorem sc_l_counted : FnScope N_l_counted P_l_counted (defScope s_l_counted) := ⟨rfl, rfl, rfl, by decide +kernel, rfl, by decide +kernel, by decide +kernel⟩
abbrev s_l_asked : Stmt := top 36
abbrev N_l_asked : List Str := ["_law_mixed_here", "_law_letters", "_law_numbers", "_law_k", "_law_number"]
abbrev P_l_asked : List Str := ["_law_mixed_here"]
theorem sc_l_asked : FnScope N_l_asked P_l_asked (defScope s_l_asked) := ⟨rfl, rfl, rfl, by decide +kernel, rfl, by decide +kernel, by decide +kernel⟩
abbrev s_l_read : Stmt := top 37
abbrev N_l_read : List Str := ["_law_text_here", "_law_signs", "_law_figures", "_law_sign", "_law_inner", "_law_odd_here"]
abbrev P_l_read : List Str := ["_law_text_here"]
theorem sc_l_read : FnScope N_l_read P_l_read (defScope s_l_read) := ⟨rfl, rfl, rfl, by decide +kernel, rfl, by decide +kernel, by decide +kernel⟩
abbrev s_l_made : Stmt := top 38
abbrev N_l_made : List Str := ["_law_patterns", "_law_found", "_law_caught", "error"]
abbrev P_l_made : List Str := ["_law_patterns"]
theorem sc_l_made : FnScope N_l_made P_l_made (defScope s_l_made) := ⟨rfl, rfl, rfl, by decide +kernel, rfl, by decide +kernel, by decide +kernel⟩
abbrev s_l_bent : Stmt := top 39
abbrev N_l_bent : List Str := ["_law_text_here", "_law_mixed_here", "_law_at_here", "_law_sign"]
abbrev P_l_bent : List Str := ["_law_text_here", "_law_mixed_here"]
theorem sc_l_bent : FnScope N_l_bent P_l_bent (defScope s_l_bent) := ⟨rfl, rfl, rfl, by decide +kernel, rfl, by decide +kernel, by decide +kernel⟩
abbrev s_l_odd : Stmt := top 40
abbrev N_l_odd : List Str := ["_law_mixed_here", "_law_some"]
abbrev P_l_odd : List Str := ["_law_mixed_here"]
theorem sc_l_odd : FnScope N_l_odd P_l_odd (defScope s_l_odd) := ⟨rfl, rfl, rfl, by decide +kernel, rfl, by decide +kernel, by decide +kernel⟩
abbrev s_l_put_refused : Stmt := top 41
abbrev N_l_put_refused : List Str := ["_law_parter", "_law_word", "_law_mixed_here", "_law_odd_here", "_law_bad", "_law_told"]
abbrev P_l_put_refused : List Str := ["_law_parter", "_law_word", "_law_mixed_here"]
theorem sc_l_put_refused : FnScope N_l_put_refused P_l_put_refused (defScope s_l_put_refused) := ⟨rfl, rfl, rfl, by decide +kernel, rfl, by decide +kernel, by decide +kernel⟩
abbrev s_l_said : Stmt := top 42
abbrev N_l_said : List Str := ["_law_deed", "_law_caught", "error"]
abbrev P_l_said : List Str := ["_law_deed"]
theorem sc_l_said : FnScope N_l_said P_l_said (defScope s_l_said) := ⟨rfl, rfl, rfl, by decide +kernel, rfl, by decide +kernel, by decide +kernel⟩
abbrev s_law : Stmt := top 43
abbrev N_law : List Str := ["_law_script", "_law_k", "_law_cell", "_law_mixed_here", "_law_patterns", "_law_texts", "_law_word", "_law_handed", "_law_parter", "_law_due", "_law_kept", "_law_place", "_law_strange", "_law_bent_here", "_law_mine", "_law_other", "_law_number", "_law_thing", "_law_j", "_law_pattern_here"]
abbrev P_law : List Str := ["_law_script"]
theorem sc_law : FnScope N_law P_law (defScope s_law) := ⟨rfl, rfl, rfl, by decide +kernel, rfl, by decide +kernel, by decide +kernel⟩
/-- where the top left its classes and defs -/
structure Ad where
  c_MendError : Addr
  c_BadWord : Addr
  c_BadRule : Addr
  c_BadText : Addr
  c_Twice : Addr
  c_NoStem : Addr
  c_NoClass : Addr
  c_InUse : Addr
  c_TooMany : Addr
  c_NoNumber : Addr
  c_NoWord : Addr
  c_BadPrice : Addr
  c_NoPlace : Addr
  c_BadPattern : Addr
  c_Pattern : Addr
  c_Parter : Addr
  f_are_letters : Addr
  d_are_letters : FuncData
  f_is_word : Addr
  d_is_word : FuncData
  f_need_word : Addr
  d_need_word : FuncData
  f_read_figures : Addr
  d_read_figures : FuncData
  f_Pattern_init : Addr
  d_Pattern_init : FuncData
  f_Pattern_count_in : Addr
  d_Pattern_count_in : FuncData
  f_Parter_init : Addr
  d_Parter_init : FuncData
  f_Parter_put : Addr
  d_Parter_put : FuncData
  f_Parter_counts : Addr
  d_Parter_counts : FuncData
  f_Parter_parts : Addr
  d_Parter_parts : FuncData
  f_l_mixed : Addr
  d_l_mixed : FuncData
  f_l_at : Addr
  d_l_at : FuncData
  f_l_class : Addr
  d_l_class : FuncData
  f_l_pattern : Addr
  d_l_pattern : FuncData
  f_l_text : Addr
  d_l_text : FuncData
  f_l_counted : Addr
  d_l_counted : FuncData
  f_l_asked : Addr
  d_l_asked : FuncData
  f_l_read : Addr
  d_l_read : FuncData
  f_l_made : Addr
  d_l_made : FuncData
  f_l_bent : Addr
  d_l_bent : FuncData
  f_l_odd : Addr
  d_l_odd : FuncData
  f_l_put_refused : Addr
  d_l_put_refused : FuncData
  f_l_said : Addr
  d_l_said : FuncData
  f_law : Addr
  d_law : FuncData
  kc : Addr
  kt : Addr
/-- what the top has written -/
structure Txt (K : PySem.W.Frag) (mg : Str → Option Value) (A : Ad) : Prop where
  n_isinstance : mg "isinstance" = none
  n_str : mg "str" = none
  n_len : mg "len" = none
  n_int : mg "int" = none
  n_max : mg "max" = none
  n_range : mg "range" = none
  n_enumerate : mg "enumerate" = none
  n_list : mg "list" = none
  n_all : mg "all" = none
  n_ValueError : mg "ValueError" = none
  g_LETTERS : ∃ t, mg "LETTERS" = some (.str "abcdefghijklmnopqrstuvwxyz" t)
  g_MOST_LETTERS : ∃ t, mg "MOST_LETTERS" = some (.int 16 t)
  g_FIGURES : ∃ t, mg "FIGURES" = some (.str "123456789" t)
  g_MOST_LETTERS_OF_ONE : ∃ t, mg "MOST_LETTERS_OF_ONE" = some (.int 6 t)
  g_MOST_PATTERNS : ∃ t, mg "MOST_PATTERNS" = some (.int 200 t)
  g_LEAST_AT_ENDS : ∃ t, mg "LEAST_AT_ENDS" = some (.int 2 t)
  g_MendError : mg "MendError" = some (.ref A.c_MendError)
  g_BadWord : mg "BadWord" = some (.ref A.c_BadWord)
  g_BadRule : mg "BadRule" = some (.ref A.c_BadRule)
  g_BadText : mg "BadText" = some (.ref A.c_BadText)
  g_Twice : mg "Twice" = some (.ref A.c_Twice)
  g_NoStem : mg "NoStem" = some (.ref A.c_NoStem)
  g_NoClass : mg "NoClass" = some (.ref A.c_NoClass)
  g_InUse : mg "InUse" = some (.ref A.c_InUse)
  g_TooMany : mg "TooMany" = some (.ref A.c_TooMany)
  g_NoNumber : mg "NoNumber" = some (.ref A.c_NoNumber)
  g_NoWord : mg "NoWord" = some (.ref A.c_NoWord)
  g_BadPrice : mg "BadPrice" = some (.ref A.c_BadPrice)
  g_NoPlace : mg "NoPlace" = some (.ref A.c_NoPlace)
  g_BadPattern : mg "BadPattern" = some (.ref A.c_BadPattern)
  x_BadWord : PySem.W.excIn K A.c_BadWord [.type "ValueError", .type "Exception", .type "BaseException", .type "object"] "ValueError.__new__" = true
  k_BadWord : PySem.W.keepIn K (.ref A.c_BadWord) = true
  s_BadWord : PySem.W.subIn K (.ref A.c_BadWord) (.type "BaseException") = some true
  t_BadWord : PySem.W.typeIn K (.ref A.c_BadWord) = some (.type "type")
  e_BadWord : ExcC K A.c_BadWord
  m_BadWord_MendError : PySem.W.exmOne K (.ref A.c_BadWord) (.ref A.c_MendError) = some true
  i_BadWord_MendError : PySem.W.kitOne K (.ref A.c_BadWord) (.ref A.c_MendError) = some true
  i_BadWord_BadWord : PySem.W.kitOne K (.ref A.c_BadWord) (.ref A.c_BadWord) = some true
  i_BadWord_BadRule : PySem.W.kitOne K (.ref A.c_BadWord) (.ref A.c_BadRule) = some false
  i_BadWord_BadText : PySem.W.kitOne K (.ref A.c_BadWord) (.ref A.c_BadText) = some false
  i_BadWord_Twice : PySem.W.kitOne K (.ref A.c_BadWord) (.ref A.c_Twice) = some false
  i_BadWord_NoStem : PySem.W.kitOne K (.ref A.c_BadWord) (.ref A.c_NoStem) = some false
  i_BadWord_NoClass : PySem.W.kitOne K (.ref A.c_BadWord) (.ref A.c_NoClass) = some false
  i_BadWord_InUse : PySem.W.kitOne K (.ref A.c_BadWord) (.ref A.c_InUse) = some false
  i_BadWord_TooMany : PySem.W.kitOne K (.ref A.c_BadWord) (.ref A.c_TooMany) = some false
  i_BadWord_NoNumber : PySem.W.kitOne K (.ref A.c_BadWord) (.ref A.c_NoNumber) = some false
  i_BadWord_NoWord : PySem.W.kitOne K (.ref A.c_BadWord) (.ref A.c_NoWord) = some false
  i_BadWord_BadPrice : PySem.W.kitOne K (.ref A.c_BadWord) (.ref A.c_BadPrice) = some false
  i_BadWord_NoPlace : PySem.W.kitOne K (.ref A.c_BadWord) (.ref A.c_NoPlace) = some false
  i_BadWord_BadPattern : PySem.W.kitOne K (.ref A.c_BadWord) (.ref A.c_BadPattern) = some false
  i_BadWord_ValueError : PySem.W.kitOne K (.ref A.c_BadWord) (.type "ValueError") = some true
  x_BadPattern : PySem.W.excIn K A.c_BadPattern [.type "ValueError", .type "Exception", .type "BaseException", .type "object"] "ValueError.__new__" = true
  k_BadPattern : PySem.W.keepIn K (.ref A.c_BadPattern) = true
  s_BadPattern : PySem.W.subIn K (.ref A.c_BadPattern) (.type "BaseException") = some true
  t_BadPattern : PySem.W.typeIn K (.ref A.c_BadPattern) = some (.type "type")
  e_BadPattern : ExcC K A.c_BadPattern
  m_BadPattern_MendError : PySem.W.exmOne K (.ref A.c_BadPattern) (.ref A.c_MendError) = some true
  i_BadPattern_MendError : PySem.W.kitOne K (.ref A.c_BadPattern) (.ref A.c_MendError) = some true
  i_BadPattern_BadWord : PySem.W.kitOne K (.ref A.c_BadPattern) (.ref A.c_BadWord) = some false
  i_BadPattern_BadRule : PySem.W.kitOne K (.ref A.c_BadPattern) (.ref A.c_BadRule) = some false
  i_BadPattern_BadText : PySem.W.kitOne K (.ref A.c_BadPattern) (.ref A.c_BadText) = some false
  i_BadPattern_Twice : PySem.W.kitOne K (.ref A.c_BadPattern) (.ref A.c_Twice) = some false
  i_BadPattern_NoStem : PySem.W.kitOne K (.ref A.c_BadPattern) (.ref A.c_NoStem) = some false
  i_BadPattern_NoClass : PySem.W.kitOne K (.ref A.c_BadPattern) (.ref A.c_NoClass) = some false
  i_BadPattern_InUse : PySem.W.kitOne K (.ref A.c_BadPattern) (.ref A.c_InUse) = some false
  i_BadPattern_TooMany : PySem.W.kitOne K (.ref A.c_BadPattern) (.ref A.c_TooMany) = some false
  i_BadPattern_NoNumber : PySem.W.kitOne K (.ref A.c_BadPattern) (.ref A.c_NoNumber) = some false
  i_BadPattern_NoWord : PySem.W.kitOne K (.ref A.c_BadPattern) (.ref A.c_NoWord) = some false
  i_BadPattern_BadPrice : PySem.W.kitOne K (.ref A.c_BadPattern) (.ref A.c_BadPrice) = some false
  i_BadPattern_NoPlace : PySem.W.kitOne K (.ref A.c_BadPattern) (.ref A.c_NoPlace) = some false
  i_BadPattern_BadPattern : PySem.W.kitOne K (.ref A.c_BadPattern) (.ref A.c_BadPattern) = some true
  i_BadPattern_ValueError : PySem.W.kitOne K (.ref A.c_BadPattern) (.type "ValueError") = some true
  g_Pattern : mg "Pattern" = some (.ref A.c_Pattern)
  cl_Pattern : Cls K A.c_Pattern
  M_Pattern : Mk K A.c_Pattern A.f_Pattern_init
  g_Parter : mg "Parter" = some (.ref A.c_Parter)
  cl_Parter : Cls K A.c_Parter
  M_Parter : Mk K A.c_Parter A.f_Parter_init
  na_Pattern_signs : NoAttr K A.c_Pattern "signs"
  na_Pattern_figures : NoAttr K A.c_Pattern "figures"
  na_Parter__patterns : NoAttr K A.c_Parter "_patterns"
  na_Parter__told : NoAttr K A.c_Parter "_told"
  ic_Parter : IsC K A.c_Parter
  ki_Parter_str : PySem.W.kitOne K (.ref A.c_Parter) (.type "str") = some false
  mt_Pattern_count_in : Meth K A.c_Pattern "count_in" A.f_Pattern_count_in
  mt_Parter_counts : Meth K A.c_Parter "counts" A.f_Parter_counts
  mt_Parter_put : Meth K A.c_Parter "put" A.f_Parter_put
  mt_Parter_parts : Meth K A.c_Parter "parts" A.f_Parter_parts
  g_are_letters : mg "are_letters" = some (.ref A.f_are_letters)
  k_are_letters : PySem.W.keepIn K (.ref A.f_are_letters) = true
  F_are_letters : Fun K "are_letters" "are_letters" s_are_letters A.f_are_letters A.d_are_letters
  b_are_letters : Binds K A.d_are_letters P_are_letters []
  g_is_word : mg "is_word" = some (.ref A.f_is_word)
  k_is_word : PySem.W.keepIn K (.ref A.f_is_word) = true
  F_is_word : Fun K "is_word" "is_word" s_is_word A.f_is_word A.d_is_word
  b_is_word : Binds K A.d_is_word P_is_word []
  g_need_word : mg "need_word" = some (.ref A.f_need_word)
  k_need_word : PySem.W.keepIn K (.ref A.f_need_word) = true
  F_need_word : Fun K "need_word" "need_word" s_need_word A.f_need_word A.d_need_word
  b_need_word : Binds K A.d_need_word P_need_word []
  g_read_figures : mg "read_figures" = some (.ref A.f_read_figures)
  k_read_figures : PySem.W.keepIn K (.ref A.f_read_figures) = true
  F_read_figures : Fun K "read_figures" "read_figures" s_read_figures A.f_read_figures A.d_read_figures
  b_read_figures : Binds K A.d_read_figures P_read_figures []
  F_Pattern_init : Fun K "__init__" "Pattern.__init__" s_Pattern_init A.f_Pattern_init A.d_Pattern_init
  b_Pattern_init : Binds K A.d_Pattern_init P_Pattern_init []
  F_Pattern_count_in : Fun K "count_in" "Pattern.count_in" s_Pattern_count_in A.f_Pattern_count_in A.d_Pattern_count_in
  b_Pattern_count_in : Binds K A.d_Pattern_count_in P_Pattern_count_in []
  F_Parter_init : Fun K "__init__" "Parter.__init__" s_Parter_init A.f_Parter_init A.d_Parter_init
  b_Parter_init : Binds K A.d_Parter_init P_Parter_init []
  F_Parter_put : Fun K "put" "Parter.put" s_Parter_put A.f_Parter_put A.d_Parter_put
  b_Parter_put : Binds K A.d_Parter_put P_Parter_put []
  F_Parter_counts : Fun K "counts" "Parter.counts" s_Parter_counts A.f_Parter_counts A.d_Parter_counts
  b_Parter_counts : Binds K A.d_Parter_counts P_Parter_counts []
  F_Parter_parts : Fun K "parts" "Parter.parts" s_Parter_parts A.f_Parter_parts A.d_Parter_parts
  b_Parter_parts : Binds K A.d_Parter_parts P_Parter_parts []
  g_l_mixed : mg "_law_mixed" = some (.ref A.f_l_mixed)
  k_l_mixed : PySem.W.keepIn K (.ref A.f_l_mixed) = true
  F_l_mixed : Fun K "_law_mixed" "_law_mixed" s_l_mixed A.f_l_mixed A.d_l_mixed
  b_l_mixed : Binds K A.d_l_mixed P_l_mixed []
  g_l_at : mg "_law_at" = some (.ref A.f_l_at)
  k_l_at : PySem.W.keepIn K (.ref A.f_l_at) = true
  F_l_at : Fun K "_law_at" "_law_at" s_l_at A.f_l_at A.d_l_at
  b_l_at : Binds K A.d_l_at P_l_at []
  g_l_class : mg "_law_class" = some (.ref A.f_l_class)
  k_l_class : PySem.W.keepIn K (.ref A.f_l_class) = true
  F_l_class : Fun K "_law_class" "_law_class" s_l_class A.f_l_class A.d_l_class
  b_l_class : Binds K A.d_l_class P_l_class []
  g_l_pattern : mg "_law_pattern" = some (.ref A.f_l_pattern)
  k_l_pattern : PySem.W.keepIn K (.ref A.f_l_pattern) = true
  F_l_pattern : Fun K "_law_pattern" "_law_pattern" s_l_pattern A.f_l_pattern A.d_l_pattern
  b_l_pattern : Binds K A.d_l_pattern P_l_pattern []
  g_l_text : mg "_law_text" = some (.ref A.f_l_text)
  k_l_text : PySem.W.keepIn K (.ref A.f_l_text) = true
  F_l_text : Fun K "_law_text" "_law_text" s_l_text A.f_l_text A.d_l_text
  b_l_text : Binds K A.d_l_text P_l_text []
  g_l_counted : mg "_law_counted" = some (.ref A.f_l_counted)
  k_l_counted : PySem.W.keepIn K (.ref A.f_l_counted) = true
  F_l_counted : Fun K "_law_counted" "_law_counted" s_l_counted A.f_l_counted A.d_l_counted
  b_l_counted : Binds K A.d_l_counted P_l_counted []
  g_l_asked : mg "_law_asked" = some (.ref A.f_l_asked)
  k_l_asked : PySem.W.keepIn K (.ref A.f_l_asked) = true
  F_l_asked : Fun K "_law_asked" "_law_asked" s_l_asked A.f_l_asked A.d_l_asked
  b_l_asked : Binds K A.d_l_asked P_l_asked []
  g_l_read : mg "_law_read" = some (.ref A.f_l_read)
  k_l_read : PySem.W.keepIn K (.ref A.f_l_read) = true
  F_l_read : Fun K "_law_read" "_law_read" s_l_read A.f_l_read A.d_l_read
  b_l_read : Binds K A.d_l_read P_l_read []
  g_l_made : mg "_law_made" = some (.ref A.f_l_made)
  k_l_made : PySem.W.keepIn K (.ref A.f_l_made) = true
  F_l_made : Fun K "_law_made" "_law_made" s_l_made A.f_l_made A.d_l_made
  b_l_made : Binds K A.d_l_made P_l_made []
  g_l_bent : mg "_law_bent" = some (.ref A.f_l_bent)
  k_l_bent : PySem.W.keepIn K (.ref A.f_l_bent) = true
  F_l_bent : Fun K "_law_bent" "_law_bent" s_l_bent A.f_l_bent A.d_l_bent
  b_l_bent : Binds K A.d_l_bent P_l_bent []
  g_l_odd : mg "_law_odd" = some (.ref A.f_l_odd)
  k_l_odd : PySem.W.keepIn K (.ref A.f_l_odd) = true
  F_l_odd : Fun K "_law_odd" "_law_odd" s_l_odd A.f_l_odd A.d_l_odd
  b_l_odd : Binds K A.d_l_odd P_l_odd []
  g_l_put_refused : mg "_law_put_refused" = some (.ref A.f_l_put_refused)
  k_l_put_refused : PySem.W.keepIn K (.ref A.f_l_put_refused) = true
  F_l_put_refused : FunC K "_law_put_refused" "_law_put_refused" s_l_put_refused A.f_l_put_refused A.d_l_put_refused A.kc
  b_l_put_refused : Binds K A.d_l_put_refused P_l_put_refused []
  g_l_said : mg "_law_said" = some (.ref A.f_l_said)
  k_l_said : PySem.W.keepIn K (.ref A.f_l_said) = true
  F_l_said : Fun K "_law_said" "_law_said" s_l_said A.f_l_said A.d_l_said
  b_l_said : Binds K A.d_l_said P_l_said []
  g_law : mg "law" = some (.ref A.f_law)
  k_law : PySem.W.keepIn K (.ref A.f_law) = true
  F_law : Fun K "law" "law" s_law A.f_law A.d_law
  b_law : Binds K A.d_law P_law []
section
variable {P : Program} {w : World} {K : PySem.W.Frag} {mg : Str → Option Value} {base : Heap} {A : Ad}
theorem ok_are_letters (T : Txt K mg A) : FnOk P w K mg base CX0 1 A.f_are_letters A.d_are_letters P_are_letters (SpFn pThing rL) := by
  refine T.F_are_letters.ok sc_are_letters (fun vs H Q E h => ?_) (fun cdv A' outer s H vs Q E hr h => ?_)
  · obtain ⟨⟨v, rfl, _⟩, _⟩ := h
    rfl
  · obtain ⟨⟨v, rfl, hv⟩, k⟩ := h
    refine ⟨_, (pss_one (ps_ret (pe_and (pe_callB call_isi (by rfl) T.n_isinstance (by decide +kernel) (pa_cons (pv 0) (pa_cons (pe_bltn (v := .ty "str") (by rfl) T.n_str (by decide +kernel) rfl) pa_nil))) (pe_one (pe_cmpR op_eq (pe_bm PySem.F.plainAttrs_str PySem.F.slot_str_strip PySem.F.type_str_strip mt_stripChars (pv 0) (pa_cons (pe_glob (v := .str "abcdefghijklmnopqrstuvwxyz") rfl (T.g_LETTERS).choose_spec ⟨_, rfl⟩) pa_nil)) pe_str (nomark _)))))), ?_⟩
    refine s_ret (v := .bl (vL v)) (ev_is (ev_andV (a := isStr v) (b := vL v) (ev_cb (ea_cons (ev_var rfl) (ea_cons ev_c ea_nil)) (rc_isStr hv)) fun hs => ?_) ?_) k
    · obtain ⟨z, rfl⟩ := isStr_eq hs
      refine ev_is (ev_op (ev_bmS (v := .str (Txt.stripChars z "abcdefghijklmnopqrstuvwxyz")) (ev_var rfl) (ea_cons ev_c ea_nil) fun _ _ _ q => ⟨z, _, rfl, rfl, sz_of (Nat.le_trans hv.1 (by decide)), q⟩) ev_c (rv_eq rfl)) ?_
      exact congrArg V.bl (strip_lets z)
    · cases v <;> rfl

/-! ### is_word -/
theorem ok_is_word (T : Txt K mg A) : FnOk P w K mg base CX0 2 A.f_is_word A.d_is_word P_is_word (SpFn pThing rW) := by
  refine T.F_is_word.ok sc_is_word (fun vs H Q E h => ?_) (fun cdv A' outer s H vs Q E hr h => ?_)
  · obtain ⟨⟨v, rfl, _⟩, _⟩ := h
    rfl
  · obtain ⟨⟨v, rfl, hv⟩, k⟩ := h
    refine ⟨_, (pss_one (ps_ret (pe_and (pe_call (ok_are_letters T) hr rfl T.g_are_letters T.k_are_letters T.b_are_letters .nil pass0 (pa_cons (pv 0) pa_nil)) (pe_one (pe_chain op_le op_le pe_int (pe_callB call_len_str (by rfl) T.n_len PySem.boot_len (pa_cons (pv 0) pa_nil)) (pe_glob (v := .int 16) rfl (T.g_MOST_LETTERS).choose_spec ⟨_, rfl⟩)))))), ?_⟩
    refine s_ret (v := .bl (vW v)) (ev_is (ev_andV (a := vL v) (b := vW v) (ev_call (ea_cons (ev_var rfl) ea_nil) (spFn fun H1 e => ⟨v, rfl, hv.mono e⟩)) fun hl => ?_) ?_) k
    · cases v with
      | str z =>
        refine ev_is (ev_chain (x := .int 1) (y := .int z.length) (z := .int 16) ev_c (ev_cb (ea_cons (ev_var rfl) ea_nil) (rc_lenS (Nat.le_trans hv.1 (by decide)))) rv_I0 (fun _ => ev_c) (fun _ => rv_I0)) ?_
        have hl' : lets z = true := hl
        show V.bl _ = V.bl (lets z && _)
        rw [hl', Bool.true_and]
        congr 2 <;> (rw [decide_eq_decide]; omega)
      | _ => cases hl
    · cases v with
      | str z =>
        show V.bl (lets z && (lets z && _)) = V.bl (lets z && _)
        cases lets z <;> rfl
      | _ => rfl
/-! ### need_word -/
def spNeedW (A : Ad) : Sp := fun vs H Q E => ∃ v, vs = [v] ∧ Thing H v ∧ (vW v = true → ∀ H', Ex H H' → Q .non H') ∧ (vW v = false → ∀ H', Ex H H' → E (.ref A.c_BadWord) none H')
theorem ok_need_word (T : Txt K mg A) : FnOk P w K mg base (L2.CX P w) 3 A.f_need_word A.d_need_word P_need_word (spNeedW A) := by
  refine T.F_need_word.okX sc_need_word (fun vs H Q E h => ?_) (fun cdv A' outer s H vs Q E hr h => ?_)
  · obtain ⟨v, rfl, _⟩ := h
    rfl
  · obtain ⟨v, rfl, hv, kY, kN⟩ := h
    refine ⟨_, (pss_one (ps_if (pt_not (pt_val (pe_call (ok_is_word T) hr rfl T.g_is_word T.k_is_word T.b_is_word .nil pass0 (pa_cons (pv 0) pa_nil)))) (pss_one (ps_raise rfl (takes_of rfl rfl rfl rfl) (pmk_own PySem.F.excBase_ValueError T.x_BadWord T.g_BadWord T.k_BadWord (raises_own T.s_BadWord T.t_BadWord) rfl))) pss_nil)), ?_⟩
    refine s_when (b := !(vW v)) (et_not (et_B (ev_call (ea_cons (ev_var rfl) ea_nil) (spFn fun H1 e => ⟨v, rfl, hv.mono e⟩)))) (fun hb H1 e => ?_) (fun hb H1 e => ?_)
    · exact kN (by simpa using hb) H1 e
    · exact kY (by simpa using hb) H1 e

/-! ### patterns -/
def isFig (c : Nat) : Bool := decide (49 ≤ c) && decide (c ≤ 57)
theorem figs_in (c : Nat) : decide (c ∈ ("123456789" : Str).cps.toList) = isFig c := by
  have e : ("123456789" : Str).cps.toList = [49, 50, 51, 52, 53, 54, 55, 56, 57] := by decide +kernel
  rw [e, Bool.eq_iff_iff]
  unfold isFig
  simp only [decide_eq_true_eq, List.mem_cons, List.not_mem_nil, or_false, Bool.and_eq_true]
  omega
theorem fig_int {c : Nat} (h : isFig c = true) : PySem.intText? (TX.T [c]) = some ((c - 48 : Nat) : Int) := by
  unfold isFig at h
  rw [Bool.and_eq_true, decide_eq_true_eq, decide_eq_true_eq] at h
  have : c = 49 ∨ c = 50 ∨ c = 51 ∨ c = 52 ∨ c = 53 ∨ c = 54 ∨ c = 55 ∨ c = 56 ∨ c = 57 := by omega
  rcases this with rfl | rfl | rfl | rfl | rfl | rfl | rfl | rfl | rfl <;> decide +kernel
/-- signs so far, figures ahead of the last place, the last place's -/
abbrev RdSt := List Nat × List Nat × Nat
def rdStep (st : RdSt) (c : Nat) : Option RdSt :=
  if isFig c = true then (if st.2.2 = 0 then some (st.1, st.2.1, c - 48) else none) else some (st.1 ++ [c], st.2.1 ++ [st.2.2], 0)
def rdF (l : List Nat) : Option RdSt := l.foldl (fun o c => o.bind fun st => rdStep st c) (some ([], [], 0))
theorem rdF_snoc (l : List Nat) (c : Nat) : rdF (l ++ [c]) = (rdF l).bind fun st => rdStep st c := by
  unfold rdF
  rw [List.foldl_append]
  rfl
theorem rdF_none (b : List Nat) : b.foldl (fun (o : Option RdSt) c => o.bind fun st => rdStep st c) none = none := by
  induction b with
  | nil => rfl
  | cons c r ih => exact ih
theorem rdF_bad {a b : List Nat} (h : rdF a = none) : rdF (a ++ b) = none := by
  unfold rdF at h ⊢
  rw [List.foldl_append, h]
  exact rdF_none b
theorem rdStep_ok {st st' : RdSt} {c : Nat} (h : rdStep st c = some st') (h1 : st.2.1.length = st.1.length) (h2 : ∀ n ∈ st.2.1, n ≤ 9) (h3 : st.2.2 ≤ 9) : st'.2.1.length = st'.1.length ∧ (∀ n ∈ st'.2.1, n ≤ 9) ∧ st'.2.2 ≤ 9 ∧ st'.1.length ≤ st.1.length + 1 := by
  unfold rdStep at h
  split at h
  · rename_i hc
    split at h
    · cases h
      unfold isFig at hc
      rw [Bool.and_eq_true, decide_eq_true_eq, decide_eq_true_eq] at hc
      exact ⟨h1, h2, (by show c - 48 ≤ 9; omega), Nat.le_succ _⟩
    · cases h
  · cases h
    refine ⟨by show (st.2.1 ++ [st.2.2]).length = (st.1 ++ [c]).length; rw [List.length_append, List.length_append, h1]; rfl, fun n hn => ?_, Nat.zero_le _, by show (st.1 ++ [c]).length ≤ _; rw [List.length_append]; exact Nat.le_refl _⟩
    rcases List.mem_append.mp hn with hn | hn
    · exact h2 n hn
    · rw [List.mem_singleton.mp hn]; exact h3
theorem rd_from : ∀ (l : List Nat) {s0 st : RdSt}, l.foldl (fun (o : Option RdSt) c => o.bind fun st => rdStep st c) (some s0) = some st → s0.2.1.length = s0.1.length → (∀ n ∈ s0.2.1, n ≤ 9) → s0.2.2 ≤ 9 →
    st.2.1.length = st.1.length ∧ (∀ n ∈ st.2.1, n ≤ 9) ∧ st.2.2 ≤ 9 ∧ st.1.length ≤ s0.1.length + l.length
  | [], s0, st, h, h1, h2, h3 => by
    cases h
    exact ⟨h1, h2, h3, Nat.le_refl _⟩
  | c :: l, s0, st, h, h1, h2, h3 => by
    rw [List.foldl_cons] at h
    cases h0 : rdStep s0 c with
    | none =>
      have e : ((some s0 : Option RdSt).bind fun st => rdStep st c) = none := h0
      rw [e, rdF_none] at h
      cases h
    | some s1 =>
      have e : ((some s0 : Option RdSt).bind fun st => rdStep st c) = some s1 := h0
      rw [e] at h
      obtain ⟨b1, b2, b3, b4⟩ := rdStep_ok h0 h1 h2 h3
      obtain ⟨a1, a2, a3, a4⟩ := rd_from l h b1 b2 b3
      refine ⟨a1, a2, a3, ?_⟩
      rw [List.length_cons]
      omega
theorem rdF_ok (l : List Nat) {st : RdSt} (h : rdF l = some st) : st.2.1.length = st.1.length ∧ (∀ n ∈ st.2.1, n ≤ 9) ∧ st.2.2 ≤ 9 ∧ st.1.length ≤ l.length := by
  have := rd_from l h rfl (fun n h => nomatch h) (Nat.zero_le _)
  refine ⟨this.1, this.2.1, this.2.2.1, ?_⟩
  have h4 := this.2.2.2
  have e : ([] : List Nat).length = 0 := rfl
  show st.1.length ≤ l.length
  have h5 : st.1.length ≤ ([] : List Nat).length + l.length := h4
  omega
theorem rd_subF : ∀ (l : List Nat) {s0 st : RdSt}, l.foldl (fun (o : Option RdSt) c => o.bind fun st => rdStep st c) (some s0) = some st → ∀ c ∈ st.1, c ∈ s0.1 ∨ c ∈ l
  | [], s0, st, h, c, hc => by
    cases h
    exact Or.inl hc
  | d :: l, s0, st, h, c, hc => by
    rw [List.foldl_cons] at h
    cases h0 : rdStep s0 d with
    | none =>
      have e : ((some s0 : Option RdSt).bind fun st => rdStep st d) = none := h0
      rw [e, rdF_none] at h
      cases h
    | some s1 =>
      have e : ((some s0 : Option RdSt).bind fun st => rdStep st d) = some s1 := h0
      rw [e] at h
      rcases rd_subF l h c hc with h1 | h1
      · unfold rdStep at h0
        split at h0
        · split at h0
          · cases h0; exact Or.inl h1
          · cases h0
        · cases h0
          rcases List.mem_append.mp h1 with h1 | h1
          · exact Or.inl h1
          · exact Or.inr (by rw [List.mem_singleton.mp h1]; exact List.mem_cons_self)
      · exact Or.inr (List.mem_cons_of_mem _ h1)
theorem rd_sub {l s g : List Nat} {m : Nat} (h : rdF l = some (s, g, m)) : ∀ c ∈ s, c ∈ l := fun c hc => by
  rcases rd_subF l h c hc with h1 | h1
  · cases h1
  · exact h1
def intL (f : List Nat) : List V := f.map fun (n : Nat) => V.int (n : Int)
theorem intL_snoc (g : List Nat) (m : Nat) : intL (g ++ [m]) = intL g ++ [V.int (m : Int)] := by unfold intL; rw [List.map_append]; rfl
def spRead (A : Ad) : Sp := fun vs H Q E => ∃ z : Str, vs = [.str z] ∧ z.length ≤ 1000 ∧
  (∀ s g m, rdF (L z) = some (s, g, m) → ∀ T0 fl H', H T0 = none → H fl = none → T0 ≠ fl → Ex H H' → H' T0 = some (.tup [.str (TX.T s), .ref fl]) → H' fl = some (.lst (intL (g ++ [m]))) → Q (.ref T0) H') ∧
  (rdF (L z) = none → ∀ H', Ex H H' → E (.ref A.c_BadPattern) none H')
theorem ixN_last {α : Type} (xs : List α) (v : α) : ixN (xs ++ [v]).length (-1) = some xs.length := by
  unfold ixN
  rw [List.length_append]
  have e : [v].length = 1 := rfl
  rw [e, if_neg (by omega), if_pos (by omega)]
  congr 1
  omega
theorem set_last {α : Type} (xs : List α) (v w : α) : (xs ++ [v]).set xs.length w = xs ++ [w] := by
  rw [List.set_append_right _ _ (Nat.le_refl _), Nat.sub_self]
  rfl
theorem ok_read_figures (T : Txt K mg A) : FnOk P w K mg base (L2.CX P w) 1 A.f_read_figures A.d_read_figures P_read_figures (spRead A) := by
  refine T.F_read_figures.okX sc_read_figures (fun vs H Q E h => ?_) (fun cdv A' outer s H vs Q E hr h => ?_)
  · obtain ⟨z, rfl, _⟩ := h
    rfl
  · obtain ⟨z, rfl, hz, kS, kN⟩ := h
    refine ⟨_, (pss_cons (ps_set (i := 1) sc_read_figures.nd rfl (Or.inl rfl) pe_str)
      (pss_cons (ps_set (i := 2) sc_read_figures.nd rfl (Or.inl rfl) (pe_lst (pa_cons pe_int pa_nil)))
      (pss_cons (ps_for (passes_of rfl) rfl (pi_str (pv 0)) (pg_name (i := 3) sc_read_figures.nd rfl (Or.inl rfl))
      (pss_one (ps_if (pt_cmpR op_notIn_sign (pv 3) (pe_glob (v := .str "123456789") rfl (T.g_FIGURES).choose_spec ⟨_, rfl⟩) (by rfl)) (pss_cons (ps_aug (i := 1) sc_read_figures.nd rfl (Or.inl rfl) (pv 3) ip_addS)
      (pss_one (ps_expr (pe_bm PySem.F.plainAttrs_list PySem.F.slot_list_append PySem.F.type_list_append mt_append (pv 2) (pa_cons pe_int pa_nil))))) (pss_one (ps_if (pt_cmpR op_eq (pe_ix ix_list (pv 2) (pe_un un_neg pe_int) (fun _ _ => rfl)) pe_int (nomark _)) (pss_one (ps_asg (pe_callTy call_int_str (by rfl) T.n_int (by decide +kernel) (pa_cons (pv 3) pa_nil)) (pg_sub (pv 2) (pe_un un_neg pe_int) set_list))) (pss_one (ps_raise rfl (takes_of rfl rfl rfl rfl) (pmk_own PySem.F.excBase_ValueError T.x_BadPattern T.g_BadPattern T.k_BadPattern (raises_own T.s_BadPattern T.t_BadPattern) rfl))))))))
      (pss_one (ps_ret (pe_tup (pa_cons (pv 1) (pa_cons (pv 2) pa_nil)))))))), ?_⟩
    have hzl := len_L z
    refine q_asg (v := .str (TX.T [])) ev_c fun H1 e1 => ?_
    refine q_asgL (xs := intL [0]) (el_lst (ea_cons ev_c ea_nil) (by show 1 ≤ 100000; decide)) fun p H2 np e2 hp => ?_
    have e02 := e1.trans e2
    have np0 : H p = none := fresh_back e1 np
    refine q_forS (w := z) (ev_var rfl) (fun i σ' H' => Ex H H' ∧ ∃ s g m v3, rdF ((L z).take i) = some (s, g, m) ∧ σ' = [some (.str z), some (.str (TX.T s)), some (.ref p), v3] ∧ H' p = some (.lst (intL (g ++ [m]))))
      (fun H3 e3 => ⟨e02.trans e3, [], [], 0, none, rfl, rfl, e3 _ _ hp⟩) ?_ ?_
    · rintro i c σ' H' hc ⟨eH, s, g, m, v3, hr0, rfl, hp⟩
      have hi : i < (L z).length := (List.getElem?_eq_some_iff.mp hc).1
      have tk : (L z).take (i + 1) = (L z).take i ++ [c] := by rw [List.take_add_one, hc]; rfl
      have ok := rdF_ok _ hr0
      have sl : s.length ≤ i := by
        have := ok.2.2.2
        rw [List.length_take] at this
        show s.length ≤ i
        exact Nat.le_trans this (Nat.min_le_left _ _)
      have gl : g.length = s.length := ok.1
      have st : rdF ((L z).take (i + 1)) = rdStep (s, g, m) c := by rw [tk, rdF_snoc, hr0]; rfl
      refine s_if (b := !(isFig c)) (et_is (et_test (ev_op (ev_var rfl) ev_c rv_ninS)) (congrArg (!·) (figs_in c))) (fun hb H3 e3 => ?_) fun hb H3 e3 => ?_
      · have hb' : isFig c = false := by simpa using hb
        refine q_augS (a := TX.T s) (b := TX.T [c]) rfl (ev_var rfl) (by rw [len_T, len_T]; show s.length + 1 ≤ _; omega) fun H4 e4 => ?_
        have e34 := e3.trans e4
        refine s_app (xs := intL (g ++ [m])) (l := p) (e34 _ _ hp) (ev_var rfl) (v := .int 0) ev_c (by unfold intL; rw [List.length_map, List.length_append]; show g.length + 1 < _; omega) fun H5 e5 => ?_
        have ts : (TX.T s ++ TX.T [c] : Str) = TX.T (s ++ [c]) := by
          apply eq_L
          rw [L_add, L_T, L_T, L_T]
        refine ⟨Ex.mut (eH.trans (e34.trans e5)) np0, s ++ [c], g ++ [m], 0, _, ?_, by rw [ts]; rfl, ?_⟩
        · rw [st]
          unfold rdStep
          rw [if_neg (by rw [hb']; exact Bool.false_ne_true)]
        · rw [upd_same, intL_snoc (g ++ [m])]
          rfl
      · have hb' : isFig c = true := by simpa using hb
        refine s_if (b := decide (m = 0)) (et_is (et_test (ev_op (x := .int (m : Int)) (y := .int 0) (ev_op (ev_var rfl) (ev_un ev_c ru_neg) (rv_ixL (v := .int (m : Int)) (sq_of (e3 _ _ hp)) (by rw [intL_snoc]; exact atI_last _ _))) ev_c (rv_eq rfl))) ?_) (fun hm H4 e4 => ?_) fun hm H4 e4 => ?_
        · rw [decide_eq_decide]
          constructor
          · intro h; have := V.int.inj h; omega
          · intro h; rw [h]; rfl
        · have hm' : m = 0 := by simpa using hm
          have e34 := e3.trans e4
          refine s_setI (l := p) (xs := intL (g ++ [m])) (j := g.length) (v := .int ((c - 48 : Nat) : Int)) (ev_cb (ea_cons (ev_var rfl) ea_nil) (rc_intS (fig_int hb') (by rw [len_T]; show 1 ≤ 640; decide))) (ev_var rfl) (ev_un ev_c ru_neg) (e34 _ _ hp) ?_ fun H5 e5 => ?_
          · rw [intL_snoc]
            have := ixN_last (intL g) (V.int (m : Int))
            rw [show (intL g).length = g.length from List.length_map ..] at this
            exact this
          · refine ⟨Ex.mut (eH.trans (e34.trans e5)) np0, s, g, c - 48, _, ?_, rfl, ?_⟩
            · rw [st]
              unfold rdStep
              rw [if_pos hb', if_pos hm']
            · rw [upd_same, intL_snoc, intL_snoc]
              have := set_last (intL g) (V.int (m : Int)) (V.int ((c - 48 : Nat) : Int))
              rw [show (intL g).length = g.length from List.length_map ..] at this
              rw [this]
        · have hm' : ¬ m = 0 := by simpa using hm
          refine kN ?_ H4 (eH.trans (e3.trans e4))
          have : rdF ((L z).take (i + 1)) = none := by
            rw [st]
            unfold rdStep
            rw [if_pos hb', if_neg hm']
          rw [← List.take_append_drop (i + 1) (L z)]
          exact rdF_bad this
    · rintro σ' H' ⟨eH, s, g, m, v3, hr0, rfl, hp⟩
      rw [List.take_length] at hr0
      refine s_retU (xs := [.str (TX.T s), .ref p]) (eu_tup (ea_cons (ev_var rfl) (ea_cons (ev_var rfl) ea_nil)) (by show 2 ≤ 100000; decide)) fun T0 H3 nT e3 hT => ?_
      refine kS s g m hr0 T0 p H3 (fresh_back eH nT) np0 (fun e => by rw [e, hp] at nT; cases nT) (eH.trans e3) hT (e3 _ _ hp)
/-! ### a pattern's object -/
structure PatD where
  s : List Nat
  f : List Nat
def noDot (s : List Nat) : List Nat := if s[0]? = some 46 then s.tail else s
def inner (s : List Nat) : List Nat := if (noDot s).getLast? = some 46 then (noDot s).dropLast else noDot s
theorem inner_T (s : List Nat) : Txt.removesuffix (Txt.removeprefix (TX.T s) ⟨#[46]⟩) ⟨#[46]⟩ = TX.T (inner s) := by
  have e1 : Txt.removeprefix (TX.T s) ⟨#[46]⟩ = TX.T (noDot s) := by
    rw [noprefix, L_T]
    unfold noDot
    split <;> rfl
  rw [e1, nosuffix, L_T]
  unfold inner
  split <;> rfl
theorem inner_len (s : List Nat) : s.length ≤ (inner s).length + 2 ∧ (inner s).length ≤ s.length := by
  have h1 : s.length ≤ (noDot s).length + 1 ∧ (noDot s).length ≤ s.length := by
    unfold noDot
    split
    · rw [List.length_tail]; omega
    · omega
  unfold inner
  split
  · rw [List.length_dropLast]; omega
  · omega
theorem inner_sub (s : List Nat) : ∀ c ∈ inner s, c ∈ s := fun c hc => by
  have h1 : ∀ c ∈ noDot s, c ∈ s := fun c hc => by
    unfold noDot at hc
    split at hc
    · exact List.mem_of_mem_tail hc
    · exact hc
  unfold inner at hc
  split at hc
  · exact h1 c (List.dropLast_subset _ hc)
  · exact h1 c hc
def okIn (l : List Nat) : Bool := l.all small && (decide (1 ≤ l.length) && decide (l.length ≤ 6))
def patF (l : List Nat) : Option PatD := (rdF l).bind fun st => if (okIn (inner st.1) && (st.2.1 ++ [st.2.2]).any fun n => decide (0 < n)) = true then some ⟨st.1, st.2.1 ++ [st.2.2]⟩ else none
def patV : V → Option PatD | .str z => patF (L z) | _ => none
structure PatD.Ok (p : PatD) : Prop where
  len : p.f.length = p.s.length + 1
  nine : ∀ n ∈ p.f, n ≤ 9
  eight : p.s.length ≤ 8
  one : 1 ≤ p.s.length
theorem patF_ok {l : List Nat} {p : PatD} (h : patF l = some p) : p.Ok := by
  unfold patF at h
  cases h0 : rdF l with
  | none => rw [h0] at h; cases h
  | some st =>
    rw [h0] at h
    have h' : (if (okIn (inner st.1) && (st.2.1 ++ [st.2.2]).any fun n => decide (0 < n)) = true then some (PatD.mk st.1 (st.2.1 ++ [st.2.2])) else none) = some p := h
    split at h'
    · rename_i hc
      cases h'
      obtain ⟨a1, a2, a3, a4⟩ := rdF_ok l h0
      have il := inner_len st.1
      rw [Bool.and_eq_true] at hc
      have hc1 := hc.1
      unfold okIn at hc1
      rw [Bool.and_eq_true, Bool.and_eq_true, decide_eq_true_eq, decide_eq_true_eq] at hc1
      refine ⟨by rw [List.length_append, a1]; rfl, fun n hn => ?_, by show st.1.length ≤ 8; omega, by show 1 ≤ st.1.length; omega⟩
      rcases List.mem_append.mp hn with hn | hn
      · exact a2 n hn
      · rw [List.mem_singleton.mp hn]; exact a3
    · cases h'
theorem patV_ok {v : V} {p : PatD} (h : patV v = some p) : p.Ok := by
  cases v with
  | str z => exact patF_ok h
  | _ => cases h
def pFlds (fl : Addr) (s : List Nat) : List (Str × V) := putF "figures" (.ref fl) (putF "signs" (.str (TX.T s)) [])
theorem p_signs {fl : Addr} {s : List Nat} : (pFlds fl s).lookup ("signs" : Str) = some (.str (TX.T s)) := by
  unfold pFlds
  rw [lookup_putF, if_neg (by decide +kernel), lookup_putF, if_pos rfl]
theorem p_figures {fl : Addr} {s : List Nat} : (pFlds fl s).lookup ("figures" : Str) = some (.ref fl) := by
  unfold pFlds
  rw [lookup_putF, if_pos rfl]
theorem p_count {fl : Addr} {s : List Nat} : (pFlds fl s).lookup ("count_in" : Str) = none := by
  unfold pFlds
  rw [lookup_putF, if_neg (by decide +kernel), lookup_putF, if_neg (by decide +kernel)]
  rfl
def PatAt (A : Ad) (H : Hp) (x : Addr) (p : PatD) : Prop := ∃ dx fl, H x = some (.ins A.c_Pattern dx (pFlds fl p.s)) ∧ H fl = some (.lst (intL p.f)) ∧ p.Ok
theorem PatAt.mono {H H' : Hp} {x : Addr} {p : PatD} (h : PatAt A H x p) (e : Ex H H') : PatAt A H' x p := by
  obtain ⟨dx, fl, h1, h2, h3⟩ := h
  exact ⟨dx, fl, e _ _ h1, e _ _ h2, h3⟩
def spPat (A : Ad) : Sp := fun vs H Q E => ∃ x dx v, vs = [.ref x, v] ∧ H x = some (.ins A.c_Pattern dx []) ∧ Thing H v ∧
  (∀ p, patV v = some p → ∀ fl H', H fl = none → H' x = some (.ins A.c_Pattern dx (pFlds fl p.s)) → H' fl = some (.lst (intL p.f)) → Kept H H' x → Q .non H') ∧
  (patV v = none → ∀ H', Kept H H' x → E (.ref A.c_BadPattern) none H')
theorem dot_s : ("." : Str) = ⟨#[46]⟩ := by decide +kernel
def mxL (f : List Nat) : Nat := f.foldl max 0
theorem mxL_from : ∀ (f : List Nat) (a : Nat), (∀ b, f.foldl max a ≤ b ↔ a ≤ b ∧ ∀ n ∈ f, n ≤ b) ∧ (f.foldl max a = a ∨ f.foldl max a ∈ f)
  | [], a => ⟨fun b => ⟨fun h => ⟨h, fun n h => nomatch h⟩, fun h => h.1⟩, Or.inl rfl⟩
  | c :: f, a => by
    obtain ⟨h1, h2⟩ := mxL_from f (max a c)
    refine ⟨fun b => ?_, ?_⟩
    · rw [List.foldl_cons, h1 b]
      constructor
      · rintro ⟨q1, q2⟩
        refine ⟨by omega, fun n hn => ?_⟩
        rcases List.mem_cons.mp hn with rfl | hn
        · omega
        · exact q2 n hn
      · rintro ⟨q1, q2⟩
        have := q2 c List.mem_cons_self
        exact ⟨by omega, fun n hn => q2 n (List.mem_cons_of_mem _ hn)⟩
    · rw [List.foldl_cons]
      rcases h2 with h2 | h2
      · rcases Nat.le_total a c with hc | hc
        · exact Or.inr (by rw [h2, Nat.max_eq_right hc]; exact List.mem_cons_self)
        · exact Or.inl (by rw [h2, Nat.max_eq_left hc])
      · exact Or.inr (List.mem_cons_of_mem _ h2)
theorem mxL_le (f : List Nat) (b : Nat) : mxL f ≤ b ↔ ∀ n ∈ f, n ≤ b := by
  unfold mxL
  rw [(mxL_from f 0).1 b]
  exact ⟨fun h => h.2, fun h => ⟨Nat.zero_le _, h⟩⟩
theorem mxL_mem {f : List Nat} (h : f ≠ []) : mxL f ∈ f := by
  rcases (mxL_from f 0).2 with h1 | h1
  · cases f with
    | nil => exact absurd rfl h
    | cons a f =>
      have h2 : mxL (a :: f) = 0 := h1
      have h3 := (mxL_le (a :: f) 0).mp (by rw [h2]; exact Nat.le_refl _) a List.mem_cons_self
      have h4 : a = 0 := by omega
      rw [h2, h4]
      exact List.mem_cons_self
  · exact h1
theorem mxL_pos (f : List Nat) : decide (mxL f = 0) = !(f.any fun n => decide (0 < n)) := by
  rw [Bool.eq_iff_iff, decide_eq_true_eq, Bool.not_eq_true', List.any_eq_false]
  constructor
  · intro h n hn
    have := (mxL_le f 0).mp (by rw [h]; exact Nat.le_refl _) n hn
    simp
    omega
  · intro h
    have := (mxL_le f 0).mpr fun n hn => by
      have := h n hn
      simp at this
      omega
    omega
theorem rc_maxL {f : List Nat} {p : Addr} {H : Hp} (h : SqL K H p (intL f)) (hf : f ≠ []) : RC (rMax K) [.ref p] H (.int (mxL f : Int)) :=
  rc_max (ns := f.map fun (n : Nat) => (n : Int)) (by rw [List.map_map]; exact h) (List.mem_map.mpr ⟨_, mxL_mem hf, rfl⟩) fun y hy => by
    obtain ⟨n, hn, rfl⟩ := List.mem_map.mp hy
    have := (mxL_le f (mxL f)).mp (Nat.le_refl _) n hn
    omega
theorem ok_Pattern_init (T : Txt K mg A) : FnOk P w K mg base (L2.CX P w) 2 A.f_Pattern_init A.d_Pattern_init P_Pattern_init (spPat A) := by
  refine T.F_Pattern_init.okX sc_Pattern_init (fun vs H Q E h => ?_) (fun cdv A' outer s H vs Q E hr h => ?_)
  · obtain ⟨x, dx, v, rfl, _⟩ := h
    rfl
  · obtain ⟨x, dx, v, rfl, hx, hv, kS, kN⟩ := h
    refine ⟨_, (pss_cons (ps_if (pt_not (pt_val (pe_callB call_isi (by rfl) T.n_isinstance (by decide +kernel) (pa_cons (pv 1) (pa_cons (pe_bltn (v := .ty "str") (by rfl) T.n_str (by decide +kernel) rfl) pa_nil))))) (pss_one (ps_raise rfl (takes_of rfl rfl rfl rfl) (pmk_own PySem.F.excBase_ValueError T.x_BadPattern T.g_BadPattern T.k_BadPattern (raises_own T.s_BadPattern T.t_BadPattern) rfl))) pss_nil)
      (pss_cons (ps_asg (pe_call (E := E) (ok_read_figures T) hr rfl T.g_read_figures T.k_read_figures T.b_read_figures .nil (passes_call (takes_of rfl rfl rfl rfl) fun _ _ _ _ z => z) (pa_cons (pv 1) pa_nil)) (pg_tup (by rfl) (pgs_cons (pg_name (i := 2) sc_Pattern_init.nd rfl (Or.inl rfl)) (pgs_cons (pg_name (i := 3) sc_Pattern_init.nd rfl (Or.inl rfl)) pgs_nil))))
      (pss_cons (ps_set (i := 4) sc_Pattern_init.nd rfl (Or.inl rfl) (pe_bm PySem.F.plainAttrs_str PySem.F.slot_str_removesuffix PySem.F.type_str_removesuffix mt_removesuffix (pe_bm PySem.F.plainAttrs_str PySem.F.slot_str_removeprefix PySem.F.type_str_removeprefix mt_removeprefix (pv 2) (pa_cons pe_str pa_nil)) (pa_cons pe_str pa_nil)))
      (pss_cons (ps_if (PW.pt (pw_or (pt_not (pt_val (pe_call (ok_are_letters T) hr rfl T.g_are_letters T.k_are_letters T.b_are_letters .nil pass0 (pa_cons (pv 4) pa_nil)))) (pw_or1 (pt_not (pt_chain op_le op_le pe_int (pe_callB call_len_str (by rfl) T.n_len PySem.boot_len (pa_cons (pv 4) pa_nil)) (pe_glob (v := .int 6) rfl (T.g_MOST_LETTERS_OF_ONE).choose_spec ⟨_, rfl⟩)))))) (pss_one (ps_raise rfl (takes_of rfl rfl rfl rfl) (pmk_own PySem.F.excBase_ValueError T.x_BadPattern T.g_BadPattern T.k_BadPattern (raises_own T.s_BadPattern T.t_BadPattern) rfl))) pss_nil)
      (pss_cons (ps_if (pt_cmpR op_eq (pe_callB (cr_max (by rfl)) (by rfl) T.n_max (by decide +kernel) (pa_cons (pv 3) pa_nil)) pe_int (nomark _)) (pss_one (ps_raise rfl (takes_of rfl rfl rfl rfl) (pmk_own PySem.F.excBase_ValueError T.x_BadPattern T.g_BadPattern T.k_BadPattern (raises_own T.s_BadPattern T.t_BadPattern) rfl))) pss_nil)
      (pss_cons (ps_fld (pv 0) (pv 2) rfl)
      (pss_one (ps_fld (pv 0) (pv 3) rfl)))))))), ?_⟩
    refine q_when (b := !(isStr v)) (et_not (et_test (ev_cb (ea_cons (ev_var rfl) (ea_cons ev_c ea_nil)) (rc_isStr hv)))) (fun hb H1 e1 => ?_) fun hb H1 e1 => ?_
    · have hb' : isStr v = false := by simpa using hb
      refine kN ?_ H1 (Kept.of e1)
      cases v with
      | str z => cases hb'
      | _ => rfl
    · have hb' : isStr v = true := by simpa using hb
      obtain ⟨z, rfl⟩ := isStr_eq hb'
      have hz : z.length ≤ 1000 := hv.1
      refine q_asgCg (ea_cons (ev_var rfl) ea_nil) fun H2 e2 => ⟨z, rfl, hz, fun s g m hr0 T0 fl H3 nT nf nTf e3 hT hf => ?_, fun hr0 H3 e3 => ?_⟩
      · have e03 := (e1.trans e2).trans e3
        refine ⟨T0, _, rfl, st_of hT, rfl, _, _, rfl, _, _, rfl, rfl, ?_⟩
        have ok := rdF_ok _ hr0
        have sl : s.length ≤ 1000 := by
          have := ok.2.2.2
          rw [← len_L] at this
          exact Nat.le_trans this hz
        have gl : g.length = s.length := ok.1
        have il := inner_len s
        have pv : patV (.str z) = if (okIn (inner s) && (g ++ [m]).any fun n => decide (0 < n)) = true then some ⟨s, g ++ [m]⟩ else none := by
          show patF (L z) = _
          unfold patF
          rw [hr0]
          rfl
        refine q_asg (v := .str (TX.T (inner s))) ?_ fun H4 e4 => ?_
        · refine ev_is (ev_bmS (z := Txt.removeprefix (TX.T s) ⟨#[46]⟩) (v := .str (Txt.removesuffix (Txt.removeprefix (TX.T s) ⟨#[46]⟩) ⟨#[46]⟩)) (ev_bmS (z := TX.T s) (v := .str (Txt.removeprefix (TX.T s) ⟨#[46]⟩)) (ev_var rfl) (ea_cons ev_c ea_nil) fun _ _ _ q => ⟨TX.T s, _, rfl, by rw [dot_s], sz_of (by rw [len_T]; omega), q⟩) (ea_cons ev_c ea_nil)
            fun _ _ _ q => ⟨_, _, rfl, by rw [dot_s], sz_of ?_, q⟩) ?_
          · rw [noprefix, L_T]
            split
            · rw [len_T, List.length_tail]; omega
            · rw [len_T]; omega
          · rw [inner_T]
        have e04 := e03.trans e4
        have th : ∀ {H' : Hp}, Thing H' (.str (TX.T (inner s))) → Thing H' (.str (TX.T (inner s))) := id
        have hsg : signs (TX.T (inner s)) := by
          have hs0 : signs z := hv.2
          unfold signs at hs0 ⊢
          rw [List.all_eq_true] at hs0 ⊢
          intro c hc
          have hc' : c ∈ inner s := by
            have : (TX.T (inner s)).cps.toList = inner s := L_T _
            rwa [this] at hc
          exact hs0 c (rd_sub hr0 c (inner_sub s c hc'))
        have tl : (TX.T (inner s)).length = (inner s).length := len_T _
        refine q_when (b := !(okIn (inner s))) (et_is (et_or (a := !(lets (TX.T (inner s)))) (b := !(decide (1 ≤ (inner s).length) && decide ((inner s).length ≤ 6))) (et_not (et_B (ev_call (ea_cons (ev_var rfl) ea_nil) (spFn fun H5 e5 => ⟨_, rfl, (by rw [tl]; omega), hsg⟩))))
          fun _ => et_not (et_test (ev_is (ev_chain (x := .int 1) (y := .int (TX.T (inner s)).length) (z := .int 6) ev_c (ev_cb (ea_cons (ev_var rfl) ea_nil) (rc_lenS (by rw [tl]; omega))) rv_I0 (fun _ => ev_c) (fun _ => rv_I0)) ?_))) ?_) (fun hb H5 e5 => ?_) fun hb H5 e5 => ?_
        · rw [tl]
          congr 2 <;> (rw [decide_eq_decide]; omega)
        · unfold okIn lets
          have : (TX.T (inner s)).cps.toList = inner s := L_T _
          rw [this]
          cases (inner s).all small <;> rfl
        · have hb' : okIn (inner s) = false := by simpa using hb
          refine kN ?_ H5 (Kept.of (e04.trans e5))
          rw [pv, hb', Bool.false_and, if_neg Bool.false_ne_true]
        · have hb' : okIn (inner s) = true := by simpa using hb
          have e05 := e04.trans e5
          have e35 := e4.trans e5
          refine q_when (b := decide (mxL (g ++ [m]) = 0)) (et_is (et_test (ev_op (ev_cb (ea_cons (ev_var rfl) ea_nil) (rc_maxL (sq_of (e35 _ _ hf)) (by simp))) ev_c (rv_eq rfl))) ?_) (fun hm H6 e6 => ?_) fun hm H6 e6 => ?_
          · rw [decide_eq_decide]
            constructor
            · intro h; have := V.int.inj h; omega
            · intro h; rw [h]; rfl
          · refine kN ?_ H6 (Kept.of (e05.trans e6))
            rw [mxL_pos] at hm
            have hm' : ((g ++ [m]).any fun n => decide (0 < n)) = false := by simpa using hm
            rw [pv, hm', Bool.and_false, if_neg Bool.false_ne_true]
          · have hm' : ((g ++ [m]).any fun n => decide (0 < n)) = true := by
              rw [mxL_pos, Bool.not_eq_false'] at hm
              exact hm
            have e06 := e05.trans e6
            have hx6 := e06 _ _ hx
            have hf6 := (e35.trans e6) _ _ hf
            have nfx : fl ≠ x := fun e => by rw [e, (e1.trans e2) _ _ hx] at nf; cases nf
            refine ⟨_, rfl, _, rfl, x, A.c_Pattern, dx, [], rfl, hx6, T.cl_Pattern, T.na_Pattern_signs, (by show 0 < 1000; decide), ?_⟩
            refine ⟨_, rfl, _, rfl, x, A.c_Pattern, dx, _, rfl, upd_same, T.cl_Pattern, T.na_Pattern_figures, (by show 1 < 1000; decide), ?_⟩
            refine kS ⟨s, g ++ [m]⟩ (by rw [pv, hb', hm']; rfl) fl _ (fresh_back (e1.trans e2) nf) (by rw [upd_same]; rfl) (by rw [upd_ne nfx, upd_ne nfx]; exact hf6) ((Kept.of e06).trans (Kept.upd.trans Kept.upd))
      · refine kN ?_ H3 (Kept.of ((e1.trans e2).trans e3))
        show patF (L z) = none
        unfold patF
        rw [hr0]
        rfl
/-! ### what counts -/
def cntL (n : Nat) (F : Nat → Nat) : List V := (List.range n).map fun g => V.int (F g : Int)
theorem cntL_len (n : Nat) (F : Nat → Nat) : (cntL n F).length = n := by unfold cntL; rw [List.length_map, List.length_range]
theorem cntL_at {n : Nat} {F : Nat → Nat} {g : Nat} (h : g < n) : (cntL n F)[g]? = some (V.int (F g : Int)) := by
  unfold cntL
  rw [List.getElem?_map, List.getElem?_range h]
  rfl
theorem cntL_set (n : Nat) (F : Nat → Nat) (k v : Nat) : (cntL n F).set k (V.int (v : Int)) = cntL n fun g => if g = k then v else F g := by
  apply List.ext_getElem?
  intro j
  rw [List.getElem?_set]
  rcases Nat.lt_or_ge j n with hj | hj
  · rw [cntL_at hj, cntL_at hj]
    by_cases h : k = j
    · subst h
      rw [if_pos rfl, if_pos (by rw [cntL_len]; exact hj), if_pos rfl]
    · rw [if_neg h, if_neg (Ne.symm h)]
  · have e : ∀ F, (cntL n F)[j]? = none := fun F => List.getElem?_eq_none (by rw [cntL_len]; exact hj)
    rw [e, e]
    by_cases h : k = j
    · subst h
      rw [if_pos rfl, if_neg (by rw [cntL_len]; omega)]
    · rw [if_neg h]
def bump (F : Nat → Nat) (i : Nat) (f : List Nat) (j : Nat) : Nat → Nat := fun g => if i ≤ g ∧ g < i + j then max (F g) (f.getD (g - i) 0) else F g
theorem bump_zero (F : Nat → Nat) (i : Nat) (f : List Nat) : bump F i f 0 = F := by
  funext g
  unfold bump
  rw [if_neg (by omega)]
theorem bump_succ (F : Nat → Nat) (i : Nat) (f : List Nat) (j : Nat) : bump F i f (j + 1) = fun g => if g = i + j then max (bump F i f j (i + j)) (f.getD j 0) else bump F i f j g := by
  funext g
  by_cases h : g = i + j
  · subst h
    rw [if_pos rfl]
    unfold bump
    rw [if_pos (by omega), if_neg (by omega)]
    congr 2
    omega
  · rw [if_neg h]
    unfold bump
    by_cases h2 : i ≤ g ∧ g < i + j
    · rw [if_pos h2, if_pos (by omega)]
    · rw [if_neg h2, if_neg (by omega)]
def stepAt (E : List Nat) (p : PatD) (F : Nat → Nat) (i : Nat) : Nat → Nat := if (E.drop i).take p.s.length = p.s then bump F i p.f p.f.length else F
def cntTo (E : List Nat) (p : PatD) (F : Nat → Nat) : Nat → Nat → Nat
  | 0 => F
  | i + 1 => stepAt E p (cntTo E p F i) i
def spCount (A : Ad) : Sp := fun vs H Q _ => ∃ (x b : Addr) (E : List Nat) (p : PatD) (F : Nat → Nat) (Hb : Hp), vs = [.ref x, .str (TX.T E), .ref b] ∧ PatAt A Hb x p ∧ Ex Hb H ∧ Hb b = none ∧ H b = some (.lst (cntL (E.length + 1) F)) ∧ E.length ≤ 100 ∧
  ∀ H', Kept H H' b → H' b = some (.lst (cntL (E.length + 1) (cntTo E p F (E.length + 1 - p.s.length)))) → Q .non H'
theorem T_eq {a b : List Nat} : decide (V.str (TX.T a) = V.str (TX.T b)) = decide (a = b) := by
  rw [decide_eq_decide]
  exact ⟨fun h => T_inj (V.str.inj h), fun h => by rw [h]⟩
theorem ok_Pattern_count_in (T : Txt K mg A) : FnOk P w K mg base CX0 1 A.f_Pattern_count_in A.d_Pattern_count_in P_Pattern_count_in (spCount A) := by
  refine T.F_Pattern_count_in.ok sc_Pattern_count_in (fun vs H Q E h => ?_) (fun cdv A' outer s H vs Q E hr h => ?_)
  · obtain ⟨x, b, E, p, F, Hb, rfl, _⟩ := h
    rfl
  · obtain ⟨x, b, E', p, F, Hb, rfl, hP, eB, nb, hb, hE, k⟩ := h
    refine ⟨_, (pss_cons (ps_set (i := 3) sc_Pattern_count_in.nd rfl (Or.inl rfl) (pe_callB call_len_str (by rfl) T.n_len PySem.boot_len (pa_cons (pe_fld (pv 0) rfl) pa_nil)))
      (pss_one (ps_for PassesOwn.never rfl (pi_range1 rfl T.n_range (pa_cons (pe_op op_add (pe_op op_sub (pe_callB call_len_str (by rfl) T.n_len PySem.boot_len (pa_cons (pv 1) pa_nil)) (pv 3)) pe_int) pa_nil)) (pg_name (i := 4) sc_Pattern_count_in.nd rfl (Or.inl rfl))
      (pss_one (ps_if (pt_cmpR op_eq (pe_slice sl_str (pv 1) (po_some (pv 4)) (po_some (pe_op op_add (pv 4) (pv 3)))) (pe_fld (pv 0) rfl) (nomark _)) (pss_one (ps_for PassesOwn.never rfl (pi_enum (by rfl) T.n_enumerate (pa_cons (pe_fld (pv 0) rfl) pa_nil)) (pg_tup (by rfl) (pgs_cons (pg_name (i := 5) sc_Pattern_count_in.nd rfl (Or.inl rfl)) (pgs_cons (pg_name (i := 6) sc_Pattern_count_in.nd rfl (Or.inl rfl)) pgs_nil)))
      (pss_one (ps_asg (pe_callB (call_max2 rfl) (by rfl) T.n_max (by decide +kernel) (pa_cons (pe_ix ix_list (pv 2) (pe_op op_add (pv 4) (pv 5)) (fun _ _ => rfl)) (pa_cons (pv 6) pa_nil))) (pg_sub (pv 2) (pe_op op_add (pv 4) (pv 5)) set_list))))) pss_nil))))), ?_⟩
    obtain ⟨dx, fl, hx, hf, ok⟩ := hP
    have kx : ∀ {H' : Hp}, Kept H H' b → H' x = some (.ins A.c_Pattern dx (pFlds fl p.s)) := fun kp => kp _ _ (fun e => by rw [e, nb] at hx; cases hx) (eB _ _ hx)
    have kf : ∀ {H' : Hp}, Kept H H' b → H' fl = some (.lst (intL p.f)) := fun kp => kp _ _ (fun e => by rw [e, nb] at hf; cases hf) (eB _ _ hf)
    have p8 := ok.eight
    have pl := ok.len
    have tl : (TX.T p.s).length = p.s.length := len_T _
    have el : (TX.T E').length = E'.length := len_T _
    refine q_asg (v := .int (p.s.length : Int)) (ev_is (ev_cb (ea_cons (ev_fld (ev_var rfl) (eB _ _ hx) T.cl_Pattern T.na_Pattern_signs p_signs) ea_nil) (rc_lenS (by rw [tl]; omega))) (by rw [tl])) fun H1 e1 => ?_
    refine s_forRn (n := (E'.length : Int) - p.s.length + 1) (ea_cons (ev_is (ev_op (ev_op (ev_cb (ea_cons (ev_var rfl) ea_nil) (rc_lenS (by rw [el]; omega))) (ev_var rfl) rv_I0) ev_c rv_I0) (by rw [el])) ea_nil) (by omega)
      (fun i σ' H' => Kept H H' b ∧ (∃ v4 v5 v6, σ' = [some (.ref x), some (.str (TX.T E')), some (.ref b), some (.int (p.s.length : Int)), v4, v5, v6]) ∧ H' b = some (.lst (cntL (E'.length + 1) (cntTo E' p F i))))
      (fun H2 e2 => ⟨Kept.of (e1.trans e2), ⟨none, none, none, rfl⟩, (e1.trans e2) _ _ hb⟩) ?_ ?_
    · rintro i σ' H' hi ⟨kp, ⟨v4, v5, v6, rfl⟩, hb'⟩
      have iE : i + p.s.length ≤ E'.length := by omega
      have elL : (L (TX.T E')).length = E'.length := by rw [L_T]
      refine s_when (b := decide ((E'.drop i).take p.s.length = p.s)) (et_is (et_test (ev_op (ev_slS (w := TX.T E') (lo := some (i : Int)) (hi := some ((i + p.s.length : Nat) : Int)) (ev_var rfl) (eo_some (ev_var rfl)) (eo_some (ev_is (ev_op (ev_var rfl) (ev_var rfl) rv_I0) (by congr 1 <;> omega))) (by rw [el]; omega))
        (ev_fld (ev_var rfl) (kx kp) T.cl_Pattern T.na_Pattern_signs p_signs) (rv_eq rfl))) ?_) (fun hq H2 e2 => ?_) fun hq H2 e2 => ?_
      · rw [cut_from _ _ _ (Nat.le_add_right _ _) (by rw [elL]; exact iE), L_T, T_eq]
        have : i + p.s.length - i = p.s.length := by omega
        rw [this]
      · have hq' : (E'.drop i).take p.s.length = p.s := by simpa using hq
        have st : cntTo E' p F (i + 1) = bump (cntTo E' p F i) i p.f p.f.length := by
          show stepAt E' p (cntTo E' p F i) i = _
          unfold stepAt
          rw [if_pos hq']
        rw [st]
        generalize cntTo E' p F i = G at hb' st
        have kp2 := kp.trans (Kept.of (x := b) e2)
        have fle : (intL p.f).length = p.f.length := List.length_map ..
        refine s_forE (a := fl) (xs := intL p.f) (ea_cons (ev_fld (ev_var rfl) (kx kp2) T.cl_Pattern T.na_Pattern_figures p_figures) ea_nil) (sq_of (kf kp2))
          (fun j σ' H' => Kept H H' b ∧ (∃ v5 v6, σ' = [some (.ref x), some (.str (TX.T E')), some (.ref b), some (.int (p.s.length : Int)), some (.int (i : Int)), v5, v6]) ∧ H' b = some (.lst (cntL (E'.length + 1) (bump G i p.f j))))
          (fun H3 e3 => ⟨kp2.trans (Kept.of e3), ⟨v5, v6, rfl⟩, by rw [bump_zero]; exact (e2.trans e3) _ _ hb'⟩) (fun j σ' H' _ h => sq_of (kf h.1)) ?_ ?_
        · rintro j y σ' H3 H4 hy ⟨kp3, ⟨u5, u6, rfl⟩, hb3⟩ e4
          have hj : j < p.f.length := fle ▸ (List.getElem?_eq_some_iff.mp hy).1
          have hy' : y = .int (p.f.getD j 0 : Nat) := by
            unfold intL at hy
            rw [List.getElem?_map, List.getElem?_eq_getElem hj] at hy
            rw [List.getD_eq_getElem?_getD, List.getElem?_eq_getElem hj]
            exact (Option.some.inj hy).symm
          subst hy'
          have ij : i + j < E'.length + 1 := by omega
          have at_ : ∀ {H5 : Hp} {σ : L2.St}, Ex H3 H5 → σ[2]? = some (some (.ref b)) → σ[4]? = some (some (.int (i : Int))) → σ[5]? = some (some (.int (j : Int))) → Ev (tOp (rIxL K) (tVar 2) (tOp (rI0 fun i j => .int (i + j)) (tVar 4) (tVar 5))) σ H5 (.int (bump G i p.f j (i + j) : Nat)) := fun e h2 h4 h5 =>
            ev_op (ev_var h2) (ev_is (ev_op (ev_var h4) (ev_var h5) rv_I0) (w := .int ((i + j : Nat) : Int)) (by congr 1)) (rv_ixL (sq_of (e _ _ hb3)) (atI_nat (cntL_at ij)))
          refine s_setI (l := b) (xs := cntL (E'.length + 1) (bump G i p.f j)) (i := ((i + j : Nat) : Int)) (j := i + j) (v := .int ((max (bump G i p.f j (i + j)) (p.f.getD j 0) : Nat) : Int)) (ev_is (ev_cb (ea_cons (at_ e4 rfl rfl rfl) (ea_cons (ev_var rfl) ea_nil)) rc_max2) ?_) (ev_var rfl) (ev_is (ev_op (ev_var rfl) (ev_var rfl) rv_I0) (by congr 1)) (e4 _ _ hb3) (by rw [cntL_len]; exact ixN_nat ij) fun H5 e5 => ?_
          · congr 1
            split <;> omega
          · refine ⟨(kp3.trans (Kept.of (e4.trans e5))).trans Kept.upd, ⟨_, _, rfl⟩, ?_⟩
            rw [upd_same, cntL_set, bump_succ]
        · rintro σ' H3 ⟨kp3, ⟨u5, u6, rfl⟩, hb3⟩
          rw [fle] at hb3
          exact ⟨kp3, ⟨_, _, _, rfl⟩, hb3⟩
      · have hq' : ¬ (E'.drop i).take p.s.length = p.s := by simpa using hq
        refine ⟨kp.trans (Kept.of e2), ⟨_, _, _, rfl⟩, ?_⟩
        have st : cntTo E' p F (i + 1) = cntTo E' p F i := by
          show stepAt E' p (cntTo E' p F i) i = _
          unfold stepAt
          rw [if_neg hq']
        rw [st]
        exact e2 _ _ hb'
    · rintro σ' H' ⟨kp, _, hb'⟩
      have : ((E'.length : Int) - p.s.length + 1).toNat = E'.length + 1 - p.s.length := by omega
      rw [this] at hb'
      exact k H' kp hb'
/-! ### a Parter -/
def paFlds (pl dl : Addr) : List (Str × V) := putF "_told" (.ref dl) (putF "_patterns" (.ref pl) [])
theorem pa_patterns {pl dl : Addr} : (paFlds pl dl).lookup ("_patterns" : Str) = some (.ref pl) := by
  unfold paFlds
  rw [lookup_putF, if_neg (by decide +kernel), lookup_putF, if_pos rfl]
theorem pa_told {pl dl : Addr} : (paFlds pl dl).lookup ("_told" : Str) = some (.ref dl) := by
  unfold paFlds
  rw [lookup_putF, if_pos rfl]
theorem pa_no {pl dl : Addr} {m : Str} (h1 : m ≠ "_told") (h2 : m ≠ "_patterns") : (paFlds pl dl).lookup m = none := by
  unfold paFlds
  rw [lookup_putF, if_neg h1, lookup_putF, if_neg h2]
  rfl
theorem pa_counts {pl dl : Addr} : (paFlds pl dl).lookup ("counts" : Str) = none := pa_no (by decide +kernel) (by decide +kernel)
theorem pa_parts {pl dl : Addr} : (paFlds pl dl).lookup ("parts" : Str) = none := pa_no (by decide +kernel) (by decide +kernel)
theorem pa_put {pl dl : Addr} : (paFlds pl dl).lookup ("put" : Str) = none := pa_no (by decide +kernel) (by decide +kernel)
/-- item by item -/
def Pw {α β : Type} (R : α → β → Prop) (xs : List α) (ys : List β) : Prop := xs.length = ys.length ∧ ∀ (i : Nat) x y, xs[i]? = some x → ys[i]? = some y → R x y
theorem Pw.imp {α β : Type} {R R' : α → β → Prop} {xs : List α} {ys : List β} (h : Pw R xs ys) (i : ∀ x y, R x y → R' x y) : Pw R' xs ys := ⟨h.1, fun j x y a b => i x y (h.2 j x y a b)⟩
def PatO (A : Ad) (H : Hp) (v : V) (p : PatD) : Prop := ∃ x, v = .ref x ∧ PatAt A H x p
def ParterAt (A : Ad) (H : Hp) (x : Addr) (ps : List PatD) (dl : Addr) : Prop := ∃ dx pl qs, H x = some (.ins A.c_Parter dx (paFlds pl dl)) ∧ H pl = some (.lst qs) ∧ Pw (PatO A H) qs ps ∧ ps.length ≤ 200
theorem ParterAt.mono {H H' : Hp} {x dl : Addr} {ps : List PatD} (h : ParterAt A H x ps dl) (e : Ex H H') : ParterAt A H' x ps dl := by
  obtain ⟨dx, pl, qs, h1, h2, h3, h4⟩ := h
  refine ⟨dx, pl, qs, e _ _ h1, e _ _ h2, h3.imp fun v p h => ?_, h4⟩
  obtain ⟨y, h5, h6⟩ := h
  exact ⟨y, h5, h6.mono e⟩
/-- a new one -/
def ParterN (A : Ad) (ps : List PatD) (H : Hp) (v : V) : Prop := ∃ x dl, v = .ref x ∧ ParterAt A H x ps dl ∧ H dl = some (.dK [])
def patsOf : List V → Option (List PatD)
  | [] => some []
  | v :: r => (patV v).bind fun p => (patsOf r).map (p :: ·)
theorem patsOf_get : ∀ {vs : List V} {ps : List PatD}, patsOf vs = some ps → Pw (fun v p => patV v = some p) vs ps
  | [], ps, h => by
    cases h
    exact ⟨rfl, fun i x y h => by simp at h⟩
  | v :: r, ps, h => by
    unfold patsOf at h
    cases h1 : patV v with
    | none => rw [h1] at h; cases h
    | some p =>
      rw [h1] at h
      cases h2 : patsOf r with
      | none =>
        have h' : ((patsOf r).map (p :: ·)) = some ps := h
        rw [h2] at h'
        cases h'
      | some qs =>
        have h' : ((patsOf r).map (p :: ·)) = some ps := h
        rw [h2] at h'
        cases h'
        obtain ⟨a1, a2⟩ := patsOf_get h2
        refine ⟨by rw [List.length_cons, List.length_cons, a1], fun i x y hx hy => ?_⟩
        cases i with
        | zero => cases hx; cases hy; exact h1
        | succ i => exact a2 i x y hx hy
theorem patsOf_bad : ∀ {vs : List V}, patsOf vs = none → ∃ (i : Nat) (v : V), vs[i]? = some v ∧ patV v = none
  | [], h => by cases h
  | v :: r, h => by
    unfold patsOf at h
    cases h1 : patV v with
    | none => exact ⟨0, v, rfl, h1⟩
    | some p =>
      rw [h1] at h
      cases h2 : patsOf r with
      | none =>
        obtain ⟨i, u, a1, a2⟩ := patsOf_bad h2
        exact ⟨i + 1, u, a1, a2⟩
      | some qs =>
        have h' : ((patsOf r).map (p :: ·)) = none := h
        rw [h2] at h'
        cases h'
theorem patsOf_first : ∀ {vs : List V}, patsOf vs = none → ∃ (i : Nat) (v : V), vs[i]? = some v ∧ patV v = none ∧ ∀ j u, j < i → vs[j]? = some u → ∃ p, patV u = some p
  | [], h => by cases h
  | v :: r, h => by
    unfold patsOf at h
    cases h1 : patV v with
    | none => exact ⟨0, v, rfl, h1, fun j u hj => absurd hj (Nat.not_lt_zero j)⟩
    | some p =>
      rw [h1] at h
      cases h2 : patsOf r with
      | none =>
        obtain ⟨i, u, a1, a2, a3⟩ := patsOf_first h2
        refine ⟨i + 1, u, a1, a2, fun j x hj hx => ?_⟩
        cases j with
        | zero => cases hx; exact ⟨p, h1⟩
        | succ j => exact a3 j x (Nat.lt_of_succ_lt_succ hj) hx
      | some qs =>
        have h' : ((patsOf r).map (p :: ·)) = none := h
        rw [h2] at h'
        cases h'
theorem patsOf_all {vs : List V} {ps : List PatD} (h : patsOf vs = some ps) {i : Nat} {v : V} (hv : vs[i]? = some v) : ∃ p, ps[i]? = some p ∧ patV v = some p := by
  obtain ⟨a1, a2⟩ := patsOf_get h
  have hi : i < ps.length := a1 ▸ (List.getElem?_eq_some_iff.mp hv).1
  exact ⟨ps[i], List.getElem?_eq_getElem hi, a2 i v _ hv (List.getElem?_eq_getElem hi)⟩
/-- what a Parter is made of: the list at a -/
def spParter (A : Ad) : Sp := fun vs H Q E => ∃ (x dx : Addr) (v : V), vs = [.ref x, v] ∧ H x = some (.ins A.c_Parter dx []) ∧ Thing H v ∧ (∀ a xs, v = .ref a → H a = some (.lst xs) → xs.length ≤ 200 → ∀ y ∈ xs, Thing H y) ∧
  (∀ a xs ps, v = .ref a → H a = some (.lst xs) → xs.length ≤ 200 → patsOf xs = some ps → ∀ H', Kept H H' x → (∀ H'', (∀ b o, H b = none ∨ b = x → H' b = some o → H'' b = some o) → ParterN A ps H'' (.ref x)) → Q .non H') ∧
  ((∀ a xs, v = .ref a → H a = some (.lst xs) → xs.length ≤ 200 → patsOf xs = none) → ∀ H', Kept H H' x → E (.ref A.c_BadPattern) none H')
def isLstH (H : Hp) : V → Prop | .ref a => ∃ xs, H a = some (.lst xs) | _ => False
theorem rc_isLst {v : V} {H : Hp} {b : Bool} (h : Thing H v) (hb : b = true ↔ isLstH H v) : RC (rIsi K) [v, .ty "list"] H (.bl b) := rc_val fun H1 e Q q => by
  have mk : ∀ {T : String} {c : Bool}, TyX K H1 v (.type T) → kitB T "list" = some c → c = b → rIsi K [v, .ty "list"] H1 Q := fun {T c} ht hk hc => by
    subst hc
    exact ⟨v, .ty "list", .type T, .type "list", c, rfl, .ty _, ht, kit_ty hk, q⟩
  have no : (¬ isLstH H v) → false = b := fun n => by
    cases b with
    | false => rfl
    | true => exact absurd (hb.mp rfl) n
  cases v with
  | non => exact mk (.base .non) (by decide +kernel) (no fun h => h)
  | bl c => exact mk (T := "bool") (.base (.bl c)) (by decide +kernel) (no fun h => h)
  | int i => exact mk (T := "int") (.base (.int i)) (by decide +kernel) (no fun h => h)
  | str z => exact mk (T := "str") (.base (.str z)) (by decide +kernel) (no fun h => h)
  | byt c => exact h.elim
  | flt c => exact h.elim
  | ty c => exact h.elim
  | ref a =>
    rcases h with ⟨xs, h⟩ | ⟨xs, h⟩ | ⟨kvs, h⟩
    · exact mk (T := "list") (.base (.lst (e _ _ h))) (c := true) (by decide +kernel) (hb.mpr ⟨xs, h⟩).symm
    · exact mk (T := "tuple") (.base (.tup (e _ _ h))) (by decide +kernel) (no fun ⟨ys, h'⟩ => by rw [h] at h'; cases h')
    · exact mk (T := "dict") (.base (.dK (e _ _ h))) (by decide +kernel) (no fun ⟨ys, h'⟩ => by rw [h] at h'; cases h')
theorem ok_Parter_init (T : Txt K mg A) : FnOk P w K mg base (L2.CX P w) 4 A.f_Parter_init A.d_Parter_init P_Parter_init (spParter A) := by
  refine T.F_Parter_init.okX sc_Parter_init (fun vs H Q E h => ?_) (fun cdv A' outer s H vs Q E hr h => ?_)
  · obtain ⟨x, dx, v, rfl, _⟩ := h
    rfl
  · obtain ⟨x, dx, v, rfl, hx, hv, hT, kS, kN⟩ := h
    refine ⟨_, (pss_cons (ps_if (PW.pt (pw_or (pt_not (pt_val (pe_callB call_isi (by rfl) T.n_isinstance (by decide +kernel) (pa_cons (pv 1) (pa_cons (pe_bltn (v := .ty "list") (by rfl) T.n_list (by decide +kernel) rfl) pa_nil))))) (pw_or1 (pt_cmpR op_gt (pe_callB call_len_seq (by rfl) T.n_len PySem.boot_len (pa_cons (pv 1) pa_nil)) (pe_glob (v := .int 200) rfl (T.g_MOST_PATTERNS).choose_spec ⟨_, rfl⟩) (nomark _))))) (pss_one (ps_raise rfl (takes_of rfl rfl rfl rfl) (pmk_own PySem.F.excBase_ValueError T.x_BadPattern T.g_BadPattern T.k_BadPattern (raises_own T.s_BadPattern T.t_BadPattern) rfl))) pss_nil)
      (pss_cons (ps_fld (pv 0) (pe_lcX (E := E) (own := [("told", 2)]) (by rfl) sc_Parter_init.nd rfl rfl (takes_of rfl rfl rfl rfl) (fun _ _ _ _ z => z) (pi_list (pv 1)) (blkOk_by (own := [("told", 2)]) (N := N_Parter_init) (sc := defScope s_Parter_init) (by decide +kernel)) (fun _ _ _ _ _ => (pg_name (i := 2) sc_Parter_init.nd rfl (Or.inl rfl))) (fun _ _ _ _ _ => pts_nil) (fun _ _ _ _ _ _ hx => (pe_make (E := E) T.M_Pattern (ok_Pattern_init T) hr rfl T.g_Pattern T.b_Pattern_init .nil hx (pa_cons (pv 2) pa_nil)))) rfl)
      (pss_one (ps_fld (pv 0) pe_dnewK rfl)))), ?_⟩
    by_cases hl : ∃ a xs, v = .ref a ∧ H a = some (.lst xs)
    · obtain ⟨a, xs, rfl, ha⟩ := hl
      refine q_when (b := decide (200 < xs.length)) (et_is (et_or (a := false) (b := decide (200 < xs.length)) (et_is (et_not (et_test (ev_cb (ea_cons (ev_var rfl) (ea_cons ev_c ea_nil)) (rc_isLst (b := true) hv ⟨fun _ => ⟨xs, ha⟩, fun _ => rfl⟩)))) rfl)
        fun _ => et_is (et_test (ev_op (ev_cb (ea_cons (ev_var rfl) ea_nil) (rc_lenL (sq_of ha))) ev_c rv_I0)) ?_) (Bool.false_or _)) (fun hb H1 e1 => ?_) fun hb H1 e1 => ?_
      · rw [decide_eq_decide]
        omega
      · refine kN (fun a' xs' ea' ha' h200 => ?_) H1 (Kept.of e1)
        cases ea'
        rw [ha] at ha'
        cases ha'
        have : 200 < xs.length := by simpa using hb
        omega
      · have h200 : xs.length ≤ 200 := by
          have : ¬ 200 < xs.length := by simpa using hb
          omega
        have hth := hT a xs rfl ha h200
        cases hq : patsOf xs with
        | none =>
          obtain ⟨i0, v0, hv0, hb0, hg0⟩ := patsOf_first hq
          have bad : ∀ H2, Ex H1 H2 → ∀ Q : VK, tLc (iList K (tVar 1)) (gName 2) tYes (tMake A.c_Pattern (spPat A) [] E (tCons (tVar 2) tNil)) [2] [some (.ref x), some (.ref a), none] H2 Q := by
           refine lc_bad (K := K) (xs := xs) (i0 := i0) (es_v (ev_var rfl) (sq_of (e1 _ _ ha))) (by omega) (List.getElem?_eq_some_iff.mp hv0).1 (fun i y H2 e2 hi hle => ⟨_, fun Q q => q, rfl, fun hlt => ?_, fun he Q => ?_⟩)
           · obtain ⟨p, hyp⟩ := hg0 i y hlt hi
             have hyT : Thing H2 y := (hth y (List.mem_of_getElem? hi)).mono (e1.trans e2)
             refine EvN.toG (P := fun _ _ => True) (en_make (ea_cons (ev_var rfl) ea_nil) fun H3 z dz e3 nz ndz hzz Q q => ⟨z, dz, y, rfl, upd_same, ?_, fun p' hp' fl H4 nf h1 h2 kp => q H4 kp fun _ _ => True.intro, fun hp' => ?_⟩)
             · exact (hyT.mono e3).mono ((Ex.new ndz).trans (Ex.new (by rw [upd_ne (Ne.symm hzz)]; exact nz)))
             · rw [hyp] at hp'
               cases hp'
           · subst he
             rw [hv0] at hi
             cases hi
             have hyT : Thing H2 v0 := (hth v0 (List.mem_of_getElem? hv0)).mono (e1.trans e2)
             refine (ea_cons (ev_var rfl) ea_nil) H2 (Ex.refl _) _ fun H3 e3 z dz nz ndz hzz => ?_
             rw [List.append_nil]
             refine ⟨z, dz, v0, rfl, upd_same, (hyT.mono e3).mono ((Ex.new ndz).trans (Ex.new (by rw [upd_ne (Ne.symm hzz)]; exact nz))), (fun p' hp' => by rw [hb0] at hp'; cases hp'), fun _ H4 kp => kN (fun a' xs' ea' ha' _ => ?_) H4 fun b o hbx hb => ?_⟩
             · cases ea'
               rw [ha] at ha'
               cases ha'
               exact hq
             · have h3 := e3 _ _ (e2 _ _ (e1 _ _ hb))
               have n1 : b ≠ z := fun e => by rw [e, nz] at h3; cases h3
               have n2 : b ≠ dz := fun e => by rw [e, ndz] at h3; cases h3
               exact kp b o n1 (by rw [upd_ne n1, upd_ne n2]; exact h3)
          dsimp only [tSeq]
          unfold sFld
          exact bad H1 (Ex.refl _) _
        | some ps =>
        have hps := hq
        have comp : EvLN (fun i H' v => ∃ p, ps[i]? = some p ∧ PatO A H' v p) xs.length (tLc (iList K (tVar 1)) (gName 2) tYes (tMake A.c_Pattern (spPat A) [] E (tCons (tVar 2) tNil)) [2]) [some (.ref x), some (.ref a), none] H1 := by
          refine lcN (es_v (ev_var rfl) (sq_of (e1 _ _ ha))) (by omega) fun i y H2 e2 hi => ⟨_, fun Q q => q, rfl, ?_⟩
          obtain ⟨p, hp, hyp⟩ := patsOf_all hps hi
          have hyT : Thing H2 y := (hth y (List.mem_of_getElem? hi)).mono (e1.trans e2)
          refine en_make (ea_cons (ev_var rfl) ea_nil) fun H3 z dz e3 nz ndz hzz Q q => ⟨z, dz, y, rfl, upd_same, ?_, fun p' hp' fl H4 nf h1 h2 kp => ?_, fun hp' => ?_⟩
          · exact (hyT.mono e3).mono ((Ex.new ndz).trans (Ex.new (by rw [upd_ne (Ne.symm hzz)]; exact nz)))
          · rw [hyp] at hp'
            cases hp'
            have nf3 : H3 fl = none := by
              by_cases h1 : fl = z
              · rw [h1]; exact nz
              · rw [upd_ne h1] at nf
                by_cases h2 : fl = dz
                · rw [h2]; exact ndz
                · rw [upd_ne h2] at nf; exact nf
            exact q H4 kp fun H5 k5 => ⟨p, hp, z, rfl, dz, fl, k5 _ _ nz h1, k5 _ _ nf3 h2, patV_ok hyp⟩
          · rw [hyp] at hp'
            cases hp'
        dsimp only [tSeq]
        unfold sFld
        refine comp H1 (Ex.refl _) _ fun pl qs H2 np e2 hlen hn => ?_
        have e02 := e1.trans e2
        have hx2 := e02 _ _ hx
        refine ⟨_, rfl, x, A.c_Parter, dx, [], rfl, hx2, T.cl_Parter, T.na_Parter__patterns, (by show 0 < 1000; decide), ?_⟩
        intro dl nd
        have npx : pl ≠ x := fun e => by rw [e, e1 _ _ hx] at np; cases np
        have ndx : dl ≠ x := fun e => by rw [e, upd_same] at nd; cases nd
        have nd2 : H2 dl = none := by rwa [upd_ne ndx] at nd
        have ndp : dl ≠ pl := fun e => by rw [e, hn.here.1] at nd2; cases nd2
        refine ⟨_, rfl, x, A.c_Parter, dx, _, rfl, (by rw [upd_ne (Ne.symm ndx)]; exact upd_same), T.cl_Parter, T.na_Parter__told, (by show 1 < 1000; decide), ?_⟩
        have h1x : H1 x ≠ none := by rw [e1 _ _ hx]; exact fun e => nomatch e
        have nH : ∀ {b : Addr}, H1 b = none → H b = none := fun h => fresh_back e1 h
        refine kS a xs ps rfl ha h200 hps _ (((Kept.of e02).trans Kept.upd).trans (Kept.trans (Kept.of (Ex.new nd)) Kept.upd)) fun H'' k'' => ?_
        have keep2 : ∀ b o, H1 b = none → H2 b = some o → H'' b = some o := fun b o hb ho => by
          have nbx : b ≠ x := fun e => h1x (e ▸ hb)
          have nbd : b ≠ dl := fun e => by rw [e, nd2] at ho; cases ho
          refine k'' b o (Or.inl (nH hb)) ?_
          rw [upd_ne nbx, upd_ne nbd, upd_ne nbx]
          exact ho
        obtain ⟨g1, g2⟩ := hn H'' keep2
        refine ⟨x, dl, rfl, ⟨dx, pl, qs, k'' _ _ (Or.inr rfl) (by rw [upd_same]; rfl), g1, ⟨by rw [hlen]; exact (patsOf_get hps).1, fun i y p hy hp => ?_⟩, by rw [← (patsOf_get hps).1]; exact h200⟩, ?_⟩
        · obtain ⟨p', hp', ho⟩ := g2 i y hy
          rw [hp] at hp'
          cases hp'
          exact ho
        · refine k'' _ _ (Or.inl (fresh_back e02 nd2)) ?_
          rw [upd_ne ndx, upd_same]
    · refine q_when (b := true) (et_is (et_or (a := true) (b := true) (et_is (et_not (et_test (ev_cb (ea_cons (ev_var rfl) (ea_cons ev_c ea_nil)) (rc_isLst (b := false) hv ⟨(fun h => nomatch h), fun h => ?_⟩)))) rfl) fun h => nomatch h) rfl) (fun hb H1 e1 => ?_) fun hb => nomatch hb
      · cases v with
        | ref a => obtain ⟨xs, h⟩ := h; exact absurd ⟨a, xs, rfl, h⟩ hl
        | _ => exact h.elim
      · exact kN (fun a xs e h _ => absurd ⟨a, xs, e, h⟩ hl) H1 (Kept.of e1)
/-! ### counts -/
def ended (w : List Nat) : List Nat := 46 :: (w ++ [46])
theorem ended_len (w : List Nat) : (ended w).length = w.length + 2 := by unfold ended; simp
theorem ended_T (w : List Nat) : ("." ++ TX.T w ++ "." : Str) = TX.T (ended w) := by
  apply eq_L
  rw [L_add, L_add, L_T, L_T, dot_s]
  rfl
def cntAll (w : List Nat) (ps : List PatD) : Nat → Nat := ps.foldl (fun F p => cntTo (ended w) p F ((ended w).length + 1 - p.s.length)) fun _ => 0
theorem cntAll_snoc (w : List Nat) (ps : List PatD) (p : PatD) : cntAll w (ps ++ [p]) = cntTo (ended w) p (cntAll w ps) ((ended w).length + 1 - p.s.length) := by
  unfold cntAll
  rw [List.foldl_append]
  rfl
def gaps (ps : List PatD) (w : List Nat) : List V := (List.range (w.length - 1)).map fun (j : Nat) => V.int (cntAll w ps (j + 2) : Int)
theorem gaps_len (ps : List PatD) (w : List Nat) : (gaps ps w).length = w.length - 1 := by unfold gaps; rw [List.length_map, List.length_range]
theorem gaps_at {ps : List PatD} {w : List Nat} {j : Nat} (h : j < w.length - 1) : (gaps ps w)[j]? = some (V.int (cntAll w ps (j + 2) : Int)) := by
  unfold gaps
  rw [List.getElem?_map, List.getElem?_range h]
  rfl
theorem cut_gaps (ps : List PatD) (w : List Nat) (hw : 1 ≤ w.length) : cutV (cntL ((ended w).length + 1) (cntAll w ps)) (some 2) (some (-2)) = gaps ps w := by
  unfold cutV
  rw [cntL_len, ended_len]
  have h1 : HT.sIx (w.length + 2 + 1) 0 (some 2) = 2 := by
    have := HT.sIx_nat (w.length + 2 + 1) 0 2
    rw [show (some (2 : Int)) = some ((2 : Nat) : Int) from rfl, this]
    omega
  have h2 : HT.sIx (w.length + 2 + 1) (w.length + 2 + 1) (some (-2)) = w.length + 1 := by
    show (if (-2 : Int) < 0 then ((-2 : Int) + ((w.length + 2 + 1 : Nat) : Int)).toNat else min (-2 : Int).toNat (w.length + 2 + 1)) = _
    rw [if_pos (by decide)]
    omega
  rw [h1, h2]
  apply List.ext_getElem?
  intro j
  rw [List.getElem?_take]
  split
  · rename_i hj
    rw [List.getElem?_drop, cntL_at (by omega), gaps_at (by omega), Nat.add_comm 2 j]
  · rename_i hj
    exact (List.getElem?_eq_none (by rw [gaps_len]; omega)).symm
def spCounts (A : Ad) : Sp := fun vs H Q E => ∃ (x dl : Addr) (v : V) (ps : List PatD), vs = [.ref x, v] ∧ ParterAt A H x ps dl ∧ Thing H v ∧ (∀ w, v = .str (TX.T w) → vW v = true → RetL (gaps ps w) H Q) ∧ (vW v = false → ∀ H', Ex H H' → E (.ref A.c_BadWord) none H')
theorem q_callS {sp : Sp} {dvs vs : List V} {E : XK} {ta : TA} {σ : L2.St} {H : Hp} {D : Ends} {tz : TS} (h : EvA ta σ H vs) (hs : ∀ H1, Ex H H1 → sp (vs ++ dvs) H1 (fun _ H2 => tz D σ H2) E) : tSeq (tDrop (tCall sp dvs E ta)) tz D σ H := h H (Ex.refl H) _ fun H1 e => hs H1 e
theorem vW_T {w : List Nat} (h : vW (.str (TX.T w)) = true) : 1 ≤ w.length ∧ w.length ≤ 16 ∧ ∀ c ∈ w, small c = true := by
  have h1 : (lets (TX.T w) && (decide (1 ≤ (TX.T w).length) && decide ((TX.T w).length ≤ 16))) = true := h
  rw [Bool.and_eq_true, Bool.and_eq_true, decide_eq_true_eq, decide_eq_true_eq, len_T] at h1
  refine ⟨h1.2.1, h1.2.2, fun c hc => ?_⟩
  have h2 : (L (TX.T w)).all small = true := h1.1
  rw [L_T, List.all_eq_true] at h2
  exact h2 c hc
theorem rep_cnt (n : Nat) : (List.replicate n [V.int 0]).flatten = cntL n fun _ => 0 := by
  unfold cntL
  induction n with
  | zero => rfl
  | succ n ih => rw [List.range_succ, List.map_append, ← ih, List.replicate_succ', List.flatten_append]; rfl
theorem ok_Parter_counts (T : Txt K mg A) : FnOk P w K mg base (L2.CX P w) 4 A.f_Parter_counts A.d_Parter_counts P_Parter_counts (spCounts A) := by
  refine T.F_Parter_counts.okX sc_Parter_counts (fun vs H Q E h => ?_) (fun cdv A' outer s H vs Q E hr h => ?_)
  · obtain ⟨x, dl, v, ps, rfl, _⟩ := h
    rfl
  · obtain ⟨x, dl, v, ps, rfl, hP, hv, kS, kN⟩ := h
    refine ⟨_, (pss_cons (ps_expr (pe_call (E := E) (ok_need_word T) hr rfl T.g_need_word T.k_need_word T.b_need_word .nil (passes_call (takes_of rfl rfl rfl rfl) fun _ _ _ _ z => z) (pa_cons (pv 1) pa_nil)))
      (pss_cons (ps_set (i := 2) sc_Parter_counts.nd rfl (Or.inl rfl) (pe_op op_add_str (pe_op op_add_str pe_str (pv 1)) pe_str))
      (pss_cons (ps_set (i := 3) sc_Parter_counts.nd rfl (Or.inl rfl) (pe_op op_rep (pe_lst (pa_cons pe_int pa_nil)) (pe_op op_add (pe_callB call_len_str (by rfl) T.n_len PySem.boot_len (pa_cons (pv 2) pa_nil)) pe_int)))
      (pss_cons (ps_for (passes_of rfl) rfl (pi_list (pe_fld (pv 0) rfl)) (pg_name (i := 4) sc_Parter_counts.nd rfl (Or.inl rfl))
      (pss_one (ps_expr (pe_meth (pv 4) T.cl_Pattern T.mt_Pattern_count_in (ok_Pattern_count_in T) (hr.mono (by decide)) T.b_Pattern_count_in .nil pass0 (pa_cons (pv 2) (pa_cons (pv 3) pa_nil))))))
      (pss_one (ps_ret (pe_slice sl_list (pv 3) (po_some pe_int) (po_some (pe_un un_neg pe_int))))))))), ?_⟩
    refine q_callS (ea_cons (ev_var rfl) ea_nil) fun H1 e1 => ⟨v, rfl, hv.mono e1, fun hw H2 e2 => ?_, fun hw H2 e2 => kN hw H2 (e1.trans e2)⟩
    obtain ⟨w, rfl⟩ : ∃ w, v = .str (TX.T w) := by
      cases v with
      | str z => exact ⟨L z, by rw [T_L]⟩
      | _ => cases hw
    have ret := kS w rfl hw
    obtain ⟨w1, w16, _⟩ := vW_T hw
    have e02 := e1.trans e2
    have wl : (TX.T w).length = w.length := len_T _
    have dl1 : ("." : Str).length = 1 := by decide +kernel
    have dw : ("." ++ TX.T w : Str).length = 1 + w.length := by rw [len_L, L_add, List.length_append, ← len_L, L_T, dl1]
    refine q_asg (v := .str (TX.T (ended w))) (ev_is (ev_op (ev_op ev_c (ev_var rfl) (rv_addS (by rw [dl1, wl]; omega))) ev_c (rv_addS (by rw [dw, dl1]; omega))) (by rw [ended_T])) fun H3 e3 => ?_
    have el : (TX.T (ended w)).length = w.length + 2 := by rw [len_T, ended_len]
    refine q_asgL (xs := cntL ((ended w).length + 1) fun _ => 0) (el_is (el_rep (k := ((w.length + 3 : Nat) : Int)) (el_lst (ea_cons ev_c ea_nil) (by show 1 ≤ 100000; decide)) (ev_is (ev_op (ev_cb (ea_cons (ev_var rfl) ea_nil) (rc_lenS (by rw [el]; omega))) ev_c rv_I0) (by rw [el]; congr 1)) (by omega) (by omega) (by show 1 ≤ 1000; decide)) ?_) fun b H4 nb e4 hb => ?_
    · rw [ended_len]
      exact rep_cnt _
    have e04 := (e02.trans e3).trans e4
    have nb0 : H b = none := fresh_back (e02.trans e3) nb
    have hP0 := hP
    obtain ⟨dx, pl, qs, hx, hpl, hq, h200⟩ := hP
    refine q_forLn (a := pl) (xs := qs) (j := 4) (ev_fld (ev_var rfl) (e04 _ _ hx) T.cl_Parter T.na_Parter__patterns pa_patterns) (sq_of (e04 _ _ hpl)) (fun i σ' H' => Ex H H' ∧ (∃ v4, σ' = [some (.ref x), some (.str (TX.T w)), some (.str (TX.T (ended w))), some (.ref b), v4]) ∧ H' b = some (.lst (cntL ((ended w).length + 1) (cntAll w (ps.take i)))))
      (fun H5 e5 => ⟨e04.trans e5, ⟨none, rfl⟩, e5 _ _ hb⟩) (fun i σ' H' _ h => sq_of (h.1 _ _ hpl)) ?_ ?_
    · rintro i y σ' H5 hy ⟨eH, ⟨v4, rfl⟩, hb5⟩
      have hi : i < ps.length := hq.1 ▸ (List.getElem?_eq_some_iff.mp hy).1
      have hp : ps[i]? = some ps[i] := List.getElem?_eq_getElem hi
      generalize ps[i] = p at hp
      obtain ⟨z, rfl, hz⟩ := hq.2 i y p hy hp
      have tk : ps.take (i + 1) = ps.take i ++ [p] := by rw [List.take_add_one, hp]; rfl
      have hz0 := hz
      obtain ⟨dz, fl, hzx, _⟩ := hz0
      refine s_meth (ev_var rfl) (eH _ _ hzx) p_count (ea_cons (ev_var rfl) (ea_cons (ev_var rfl) ea_nil)) fun H6 e6 => ⟨z, b, ended w, p, _, H, rfl, hz, eH.trans e6, nb0, e6 _ _ hb5, by rw [ended_len]; omega, fun H7 kp h7 => ?_⟩
      refine ⟨fun a o ha => kp a o (fun e => by rw [e, nb0] at ha; cases ha) ((eH.trans e6) a o ha), ⟨_, rfl⟩, ?_⟩
      rw [h7, tk, cntAll_snoc]
    · rintro σ' H5 ⟨eH, ⟨v4, rfl⟩, hb5⟩
      rw [hq.1, List.take_length] at hb5
      refine s_retL (el_is (el_sl (ev_var rfl) (eo_some ev_c) (eo_some (ev_un ev_c ru_neg)) (sq_of hb5)) (cut_gaps ps w w1)) fun q H6 nq e6 h6 => ret q H6 (fresh_back eH nq) (eH.trans e6) h6
/-! ### parts -/
def cutOk (ps : List PatD) (w : List Nat) (k : Nat) : Bool := decide (cntAll w ps (k + 1) % 2 = 1) && (decide (2 ≤ k) && decide (k + 2 ≤ w.length))
def ptS (ps : List PatD) (w : List Nat) : Nat → List (List Nat) × Nat
  | 0 => ([], 0)
  | i + 1 => if cutOk ps w (i + 1) = true then ((ptS ps w i).1 ++ [(w.drop (ptS ps w i).2).take (i + 1 - (ptS ps w i).2)], i + 1) else ptS ps w i
theorem ptS_le (ps : List PatD) (w : List Nat) : ∀ i, (ptS ps w i).2 ≤ i ∧ (ptS ps w i).1.length ≤ i
  | 0 => ⟨Nat.le_refl _, Nat.le_refl _⟩
  | i + 1 => by
    have := ptS_le ps w i
    show (if _ then _ else _ : List (List Nat) × Nat).2 ≤ _ ∧ (if _ then _ else _ : List (List Nat) × Nat).1.length ≤ _
    split
    · refine ⟨Nat.le_refl _, ?_⟩
      rw [List.length_append]
      exact Nat.succ_le_succ this.2
    · omega
def strL (l : List (List Nat)) : List V := l.map fun y => V.str (TX.T y)
theorem strL_snoc (l : List (List Nat)) (y : List Nat) : strL (l ++ [y]) = strL l ++ [V.str (TX.T y)] := by unfold strL; rw [List.map_append]; rfl
def pcs (ps : List PatD) (w : List Nat) : List (List Nat) := (ptS ps w (w.length - 1)).1 ++ [w.drop (ptS ps w (w.length - 1)).2]
def spParts (A : Ad) : Sp := fun vs H Q E => ∃ (x dl : Addr) (v : V) (ps : List PatD) (kvs : List (Key × V)), vs = [.ref x, v] ∧ ParterAt A H x ps dl ∧ H dl = some (.dK kvs) ∧ Thing H v ∧
  (∀ w, v = .str (TX.T w) → vW v = true → (valV kvs (.inr (TX.T w)) = none → RetL (strL (pcs ps w)) H Q) ∧ ∀ u, valV kvs (.inr (TX.T w)) = some u → ∃ tl ys, u = .ref tl ∧ H tl = some (.lst ys) ∧ RetL ys H Q) ∧ (vW v = false → ∀ H', Ex H H' → E (.ref A.c_BadWord) none H')
theorem ok_Parter_parts (T : Txt K mg A) : FnOk P w K mg base (L2.CX P w) 5 A.f_Parter_parts A.d_Parter_parts P_Parter_parts (spParts A) := by
  refine T.F_Parter_parts.okX sc_Parter_parts (fun vs H Q E h => ?_) (fun cdv A' outer s H vs Q E hr h => ?_)
  · obtain ⟨x, dl, v, ps, kvs, rfl, _⟩ := h
    rfl
  · obtain ⟨x, dl, v, ps, kvs, rfl, hP, hd, hv, kS, kN⟩ := h
    refine ⟨_, (pss_cons (ps_expr (pe_call (E := E) (ok_need_word T) (hr.mono (by decide)) rfl T.g_need_word T.k_need_word T.b_need_word .nil (passes_call (takes_of rfl rfl rfl rfl) fun _ _ _ _ z => z) (pa_cons (pv 1) pa_nil)))
      (pss_cons (ps_if (pt_cmp (pc_din (hu_of hr) (pv 1) (pe_fld (pv 0) rfl)) (by rfl)) (pss_one (ps_ret (pe_callTy call_list_of (by rfl) T.n_list (by decide +kernel) (pa_cons (pe_dget (hu_of hr) (pe_fld (pv 0) rfl) (pv 1) (fun _ _ => rfl)) pa_nil)))) pss_nil)
      (pss_cons (ps_set (i := 2) sc_Parter_parts.nd rfl (Or.inl rfl) (pe_lst pa_nil))
      (pss_cons (ps_set (i := 3) sc_Parter_parts.nd rfl (Or.inl rfl) pe_int)
      (pss_cons (ps_for (passes_of rfl) rfl (pi_enumF (by rfl) T.n_enumerate (pa_cons (pe_meth (E := E) (pv 0) T.cl_Parter T.mt_Parter_counts (ok_Parter_counts T) hr T.b_Parter_counts .nil (passes_call (takes_of rfl rfl rfl rfl) fun _ _ _ _ z => z) (pa_cons (pv 1) pa_nil)) (pa_cons pe_int pa_nil))) (pg_tup (by rfl) (pgs_cons (pg_name (i := 4) sc_Parter_parts.nd rfl (Or.inl rfl)) (pgs_cons (pg_name (i := 5) sc_Parter_parts.nd rfl (Or.inl rfl)) pgs_nil)))
      (pss_one (ps_if (PW.pt (pw_and (pt_cmpR op_eq (pe_op op_mod (pv 5) pe_int) pe_int (nomark _)) (pw_and1 (pt_chain op_le op_le (pe_glob (v := .int 2) rfl (T.g_LEAST_AT_ENDS).choose_spec ⟨_, rfl⟩) (pv 4) (pe_op op_sub (pe_callB call_len_str (by rfl) T.n_len PySem.boot_len (pa_cons (pv 1) pa_nil)) (pe_glob (v := .int 2) rfl (T.g_LEAST_AT_ENDS).choose_spec ⟨_, rfl⟩)))))) (pss_cons (ps_expr (pe_bm PySem.F.plainAttrs_list PySem.F.slot_list_append PySem.F.type_list_append mt_append (pv 2) (pa_cons (pe_slice sl_str (pv 1) (po_some (pv 3)) (po_some (pv 4))) pa_nil)))
      (pss_one (ps_set (i := 3) sc_Parter_parts.nd rfl (Or.inl rfl) (pv 4)))) pss_nil)))
      (pss_one (ps_ret (pe_op op_cat (pv 2) (pe_lst (pa_cons (pe_slice sl_str (pv 1) (po_some (pv 3)) po_none) pa_nil)))))))))), ?_⟩
    refine q_callS (ea_cons (ev_var rfl) ea_nil) fun H1 e1 => ⟨v, rfl, hv.mono e1, fun hw H2 e2 => ?_, fun hw H2 e2 => kN hw H2 (e1.trans e2)⟩
    obtain ⟨w, rfl⟩ : ∃ w, v = .str (TX.T w) := by
      cases v with
      | str z => exact ⟨L z, by rw [T_L]⟩
      | _ => cases hw
    obtain ⟨retN, retS⟩ := kS w rfl hw
    obtain ⟨w1, w16, _⟩ := vW_T hw
    have e02 := e1.trans e2
    have wl : (TX.T w).length = w.length := len_T _
    have hP0 := hP
    obtain ⟨dx, pl, qs, hx, hpl, hq, h200⟩ := hP
    have told : ∀ {H' : Hp} {σ : L2.St}, Ex H H' → σ[0]? = some (some (.ref x)) → Ev (tFld K (tVar 0) "_told") σ H' (.ref dl) := fun e h0 => ev_fld (ev_var h0) (e _ _ hx) T.cl_Parter T.na_Parter__told pa_told
    refine q_when (b := (valV kvs (.inr (TX.T w))).isSome) (et_B (ev_din (k := .inr (TX.T w)) (ev_var rfl) (told e02 rfl) (Or.inl (e02 _ _ hd)))) (fun hb H3 e3 => ?_) fun hb H3 e3 => ?_
    · cases hu : valV kvs (.inr (TX.T w)) with
      | none => rw [hu] at hb; cases hb
      | some u =>
        obtain ⟨tl, ys, rfl, htl, ret⟩ := retS u hu
        have e03 := e02.trans e3
        exact s_retL (el_listOf (ev_dgetK (k := .inr (TX.T w)) (told e03 rfl) (ev_var rfl) (Or.inl (e03 _ _ hd)) hu) (sq_of (e03 _ _ htl))) fun q H4 nq e4 h4 => ret q H4 (fresh_back e03 nq) (e03.trans e4) h4
    · have hN : valV kvs (.inr (TX.T w)) = none := by
        cases hu : valV kvs (.inr (TX.T w)) with
        | none => rfl
        | some u => rw [hu] at hb; cases hb
      have ret := retN hN
      have e03 := e02.trans e3
      refine q_asgL (xs := strL []) (el_lst ea_nil (by show 0 ≤ 100000; decide)) fun q H4 nq e4 hq4 => ?_
      have nq0 : H q = none := fresh_back e03 nq
      refine q_asg (v := .int ((0 : Nat) : Int)) ev_c fun H5 e5 => ?_
      have e05 := (e03.trans e4).trans e5
      refine q_forEK (xs := gaps ps w) (k := 1) (eak_l (el_methL (ev_var rfl) (e05 _ _ hx) pa_counts (ea_cons (ev_var rfl) ea_nil) fun H6 e6 Q6 q6 E6 => ⟨x, dl, _, ps, rfl, hP0.mono (e05.trans e6), hv.mono (e05.trans e6), fun w' hw' _ => ?_, fun h => ?_⟩) fun H6 e6 => ev_c) (by omega)
        (fun a i σ' H' => Ex H H' ∧ SqL K H' a (gaps ps w) ∧ a ≠ q ∧ (∃ v4 v5, σ' = [some (.ref x), some (.str (TX.T w)), some (.ref q), some (.int ((ptS ps w i).2 : Int)), v4, v5]) ∧ H' q = some (.lst (strL (ptS ps w i).1)))
        (fun a H6 na e6 hS => ⟨e05.trans e6, sq_of hS, (fun e => by rw [e, e5 _ _ hq4] at na; cases na), ⟨none, none, rfl⟩, (e5.trans e6) _ _ hq4⟩) (fun a i σ' H' _ h => h.2.1) ?_ ?_
      · have := T_inj (V.str.inj hw')
        subst this
        exact q6
      · rw [hw] at h
        cases h
      · rintro a i y σ' H6 H7 hy ⟨eH, hS, naq, ⟨v4, v5, rfl⟩, hq6⟩ e7
        have hi : i < w.length - 1 := gaps_len ps w ▸ (List.getElem?_eq_some_iff.mp hy).1
        rw [gaps_at hi] at hy
        cases hy
        have le := ptS_le ps w i
        have dk1 : (decide (V.int ((cntAll w ps (i + 2) : Int) % 2) = V.int 1)) = decide (cntAll w ps (i + 1 + 1) % 2 = 1) := by
          rw [decide_eq_decide]
          constructor
          · intro h
            have := V.int.inj h
            show cntAll w ps (i + 2) % 2 = 1
            omega
          · intro h
            have h' : cntAll w ps (i + 2) % 2 = 1 := h
            congr 1
            omega
        refine s_if (b := cutOk ps w (i + 1)) (et_is (et_and (a := decide (cntAll w ps (i + 1 + 1) % 2 = 1)) (b := decide (2 ≤ i + 1) && decide (i + 1 + 2 ≤ w.length)) (et_is (et_test (ev_op (ev_op (ev_var rfl) ev_c (rv_I (by show (0 : Int) < _; decide))) ev_c (rv_eq rfl))) dk1)
          fun _ => et_is (et_test (ev_chain (x := .int 2) (y := .int (1 + (i : Int))) (z := .int ((w.length : Int) - 2)) ev_c (ev_var rfl) rv_I0 (fun _ => ev_is (ev_op (ev_cb (ea_cons (ev_var rfl) ea_nil) (rc_lenS (by rw [wl]; omega))) ev_c rv_I0) (by rw [wl])) (fun _ => rv_I0))) ?_) rfl) (fun hb H8 e8 => ?_) fun hb H8 e8 => ?_
        · congr 1 <;> (rw [decide_eq_decide]; omega)
        · have e78 := e7.trans e8
          have elL : (L (TX.T w)).length = w.length := by rw [L_T]
          refine q_app (xs := strL (ptS ps w i).1) (l := q) (v := .str (TX.T ((w.drop (ptS ps w i).2).take (i + 1 - (ptS ps w i).2)))) (e78 _ _ hq6) (ev_var rfl) (ev_is (ev_slS (w := TX.T w) (lo := some ((ptS ps w i).2 : Int)) (hi := some ((i + 1 : Nat) : Int)) (ev_var rfl) (eo_some (ev_var rfl)) (eo_some (ev_is (ev_var rfl) (by congr 1; omega))) (by rw [wl]; omega)) (by rw [cut_from _ _ _ (by omega) (by rw [elL]; omega), L_T])) (by unfold strL; rw [List.length_map]; omega) fun H9 e9 => ?_
          refine s_asg (v := .int ((i + 1 : Nat) : Int)) (ev_is (ev_var rfl) (by congr 1; omega)) fun H10 e10 => ?_
          have st : ptS ps w (i + 1) = ((ptS ps w i).1 ++ [(w.drop (ptS ps w i).2).take (i + 1 - (ptS ps w i).2)], i + 1) := if_pos hb
          rw [st]
          refine ⟨(Ex.mut (eH.trans (e78.trans e9)) nq0).trans e10, ?_, naq, ⟨_, _, rfl⟩, ?_⟩
          · refine ex_l e10 ?_
            rcases ex_l (e78.trans e9) hS with hS | hS
            · refine Or.inl ?_
              rcases hS with hS | ⟨u, hS⟩
              · exact Or.inl (by rw [upd_ne naq]; exact hS)
              · exact Or.inr ⟨u, by rw [upd_ne naq]; exact hS⟩
            · exact Or.inr hS
          · refine e10 _ _ ?_
            rw [upd_same, strL_snoc]
        · have st : ptS ps w (i + 1) = ptS ps w i := if_neg (by rw [hb]; exact Bool.false_ne_true)
          have e78 := e7.trans e8
          refine ⟨eH.trans e78, ex_l e78 hS, naq, ⟨_, _, by rw [st]; rfl⟩, ?_⟩
          rw [st]
          exact e78 _ _ hq6
      · rintro a σ' H6 ⟨eH, hS, naq, ⟨v4, v5, rfl⟩, hq6⟩
        rw [gaps_len] at hq6
        have le := ptS_le ps w (w.length - 1)
        have elL : (L (TX.T w)).length = w.length := by rw [L_T]
        refine s_retL (xs := strL (pcs ps w)) (el_is (el_catVL (ev_var rfl) hq6 (el_lst (ea_cons (ev_slS (w := TX.T w) (lo := some ((ptS ps w (w.length - 1)).2 : Int)) (hi := none) (ev_var rfl) (eo_some (ev_is (ev_var rfl) (by rw [gaps_len]))) eo_none (by rw [wl]; omega)) ea_nil) (by show 1 ≤ 100000; decide)) (by unfold strL; rw [List.length_map]; show _ + 1 ≤ _; omega)) ?_) fun p H7 np e7 h7 => ret p H7 (fresh_back eH np) (eH.trans e7) h7
        rw [cut_end _ _ (by rw [elL]; omega), L_T]
        unfold pcs
        rw [strL_snoc]

/-! ### put, refused -/
theorem strs_of : ∀ {xs : List V}, xs.all isStr = true → ∃ ys : List Str, xs = ys.map V.str
  | [], _ => ⟨[], rfl⟩
  | v :: r, h => by
    rw [List.all_cons, Bool.and_eq_true] at h
    obtain ⟨z, rfl⟩ := isStr_eq h.1
    obtain ⟨ys, rfl⟩ := strs_of h.2
    exact ⟨z :: ys, rfl⟩
theorem flatV_strs (ys : List Str) : (ys.map V.str).all flatV = true := by
  rw [List.all_map, List.all_eq_true]
  intro _ _
  rfl
theorem inV_strs {x : Str} {ys : List Str} : inV (.str x) (ys.map V.str) = decide (x ∈ ys) := by
  unfold inV
  rw [List.any_map, Bool.eq_iff_iff, List.any_eq_true, decide_eq_true_eq]
  constructor
  · rintro ⟨y, hy, e⟩
    have : (y == x) = true := e
    exact (eq_of_beq this) ▸ hy
  · intro h
    exact ⟨x, h, by show (x == x) = true; exact beq_self_eq_true x⟩
theorem sum_le {ys : List Str} {n : Nat} (h : ∀ y ∈ ys, y.length ≤ n) : (ys.map (·.length)).sum ≤ n * ys.length := by
  induction ys with
  | nil => exact Nat.zero_le _
  | cons y r ih =>
    have h1 := ih fun z hz => h z (List.mem_cons_of_mem _ hz)
    have h2 := h y List.mem_cons_self
    rw [List.map_cons, List.sum_cons, List.length_cons, Nat.mul_succ]
    omega
/-- what is no list of the pieces of a word -/
def NoPcs (H : Hp) (w : Str) (u : V) : Prop := Thing H u ∧ ∀ a xs, u = .ref a → H a = some (.lst xs) → xs.length ≤ 100 ∧ (∀ y ∈ xs, Thing H y) ∧ ∀ ys : List Str, xs = ys.map V.str → ("" : Str) ∈ ys ∨ Txt.join "" ys ≠ w
def spPutR (A : Ad) : Sp := fun vs H _ E => ∃ (x dl : Addr) (v u : V) (ps : List PatD), vs = [.ref x, v, u] ∧ ParterAt A H x ps dl ∧ Thing H v ∧ (vW v = false → ∀ H', Ex H H' → E (.ref A.c_BadWord) none H') ∧ (vW v = true → (∀ z, v = .str z → NoPcs H z u) ∧ ∀ H', Ex H H' → E (.ref A.c_BadPattern) none H')
theorem ok_Parter_put (T : Txt K mg A) : FnOk P w K mg base (L2.CX P w) 4 A.f_Parter_put A.d_Parter_put P_Parter_put (spPutR A) := by
  refine T.F_Parter_put.okX sc_Parter_put (fun vs H Q E h => ?_) (fun cdv A' outer s H vs Q E hr h => ?_)
  · obtain ⟨x, dl, v, u, ps, rfl, _⟩ := h
    rfl
  · obtain ⟨x, dl, v, u, ps, rfl, hP, hv, kW, kB⟩ := h
    refine ⟨_, (pss_cons (ps_expr (pe_call (E := E) (ok_need_word T) hr rfl T.g_need_word T.k_need_word T.b_need_word .nil (passes_call (takes_of rfl rfl rfl rfl) fun _ _ _ _ z => z) (pa_cons (pv 1) pa_nil)))
      (pss_cons (ps_if (PW.pt (pw_or (pt_not (pt_val (pe_callB call_isi (by rfl) T.n_isinstance (by decide +kernel) (pa_cons (pv 2) (pa_cons (pe_bltn (v := .ty "list") (by rfl) T.n_list (by decide +kernel) rfl) pa_nil))))) (pw_or1 (pt_not (pt_val (pe_callB (cr_all (by rfl)) (by rfl) T.n_all (by decide +kernel) (pa_cons (pe_lc (own := [("part", 3)]) (by rfl) sc_Parter_put.nd (pi_list (pv 2)) (blkOk_by (own := [("part", 3)]) (N := N_Parter_put) (sc := defScope s_Parter_put) (by decide +kernel)) (fun _ _ _ _ _ => (pg_name (i := 3) sc_Parter_put.nd rfl (Or.inl rfl))) (fun _ _ _ _ _ => pts_nil) (fun _ _ _ _ _ => (pe_callB (call_isjK (K := K) rfl) (by rfl) T.n_isinstance (by decide +kernel) (pa_cons (pv 3) (pa_cons (pe_bltn (v := .ty "str") (by rfl) T.n_str (by decide +kernel) rfl) pa_nil))))) pa_nil))))))) (pss_one (ps_raise rfl (takes_of rfl rfl rfl rfl) (pmk_own PySem.F.excBase_ValueError T.x_BadPattern T.g_BadPattern T.k_BadPattern (raises_own T.s_BadPattern T.t_BadPattern) rfl))) pss_nil)
      (pss_cons (ps_if (PW.pt (pw_or (pt_cmpR op_in_seq pe_str (pv 2) (by rfl)) (pw_or1 (pt_cmpR op_ne (pe_join pe_str (pv 2)) (pv 1) (nomark _))))) (pss_one (ps_raise rfl (takes_of rfl rfl rfl rfl) (pmk_own PySem.F.excBase_ValueError T.x_BadPattern T.g_BadPattern T.k_BadPattern (raises_own T.s_BadPattern T.t_BadPattern) rfl))) pss_nil)
      (pss_one (ps_dput (hu_of hr) (pe_fld (pv 0) rfl) (pv 1) (pe_callTy call_list_of (by rfl) T.n_list (by decide +kernel) (pa_cons (pv 2) pa_nil)) rfl))))), ?_⟩
    refine q_callS (ea_cons (ev_var rfl) ea_nil) fun H1 e1 => ⟨v, rfl, hv.mono e1, fun hw H2 e2 => ?_, fun hw H2 e2 => kW hw H2 (e1.trans e2)⟩
    obtain ⟨hN, kE⟩ := kB hw
    obtain ⟨z, rfl⟩ : ∃ z, v = .str z := by
      cases v with
      | str z => exact ⟨z, rfl⟩
      | _ => cases hw
    have zl : z.length ≤ 1000 := hv.1
    obtain ⟨hu, hL⟩ := hN z rfl
    have e02 := e1.trans e2
    have huT := hu.mono e02
    by_cases hl : ∃ a xs, u = .ref a ∧ H a = some (.lst xs)
    · obtain ⟨a, xs, rfl, ha⟩ := hl
      obtain ⟨xl, xt, xb⟩ := hL a xs rfl ha
      have ha2 := e02 _ _ ha
      refine q_when (b := !(xs.all isStr)) (et_is (et_or (a := false) (b := !(xs.all isStr)) (et_is (et_not (et_test (ev_cb (ea_cons (ev_var rfl) (ea_cons ev_c ea_nil)) (rc_isLst (b := true) huT ⟨fun _ => ⟨xs, ha2⟩, fun _ => rfl⟩)))) rfl) fun _ =>
        et_is (et_not (et_B (ev_allL (bs := xs.map isStr) (el_lcL (xs := xs) (fun _ => true) (fun i => .bl (isStr (xs.getD i .non))) (ev_var rfl) (sq_of ha2) (by omega) (fun _ => rfl) (fun i y H3 e3 hy => et_yes) fun i y H3 e3 hy _ => ?_) ?_))) ?_) (Bool.false_or _)) (fun hb H3 e3 => kE H3 (e02.trans e3)) fun hb H3 e3 => ?_
      · have : xs.getD i .non = y := by rw [List.getD_eq_getElem?_getD, hy]; rfl
        rw [this]
        exact ev_cb (ea_cons (ev_var rfl) (ea_cons ev_c ea_nil)) (rc_isStr ((xt y (List.mem_of_getElem? hy)).mono (e02.trans e3)))
      · rw [given_all, List.map_map]
        exact Rd.map_getD xs V.non fun v => V.bl (isStr v)
      · rw [List.all_map]
        rfl
      · have hall : xs.all isStr = true := by simpa using hb
        obtain ⟨ys, rfl⟩ := strs_of hall
        have hor := xb ys rfl
        have ha3 := e3 _ _ ha2
        have yl : ∀ y ∈ ys, y.length ≤ 1000 := fun y hy => (xt (.str y) (List.mem_map.mpr ⟨y, hy, rfl⟩)).1
        rw [List.length_map] at xl
        have sl := sum_le yl
        refine q_when (b := true) (et_is (et_or (a := decide (("" : Str) ∈ ys)) (b := true) (et_is (et_test (ev_op ev_c (ev_var rfl) (rv_isL (sq_of ha3) rfl (flatV_strs ys)))) inV_strs) fun hn => et_is (et_test (ev_op (ev_joinV (ys := ys) ev_c (ev_var rfl) (sq_of ha3) ?_) (ev_var rfl) (rv_ne rfl))) ?_) (Bool.or_true _)) (fun _ H4 e4 => kE H4 ((e02.trans e3).trans e4)) fun h => nomatch h
        · rw [emp_len, Nat.mul_zero, Nat.add_zero]
          omega
        · have hn' : ¬ ("" : Str) ∈ ys := by simpa using hn
          have hj := hor.resolve_left hn'
          rw [Bool.not_eq_true', decide_eq_false_iff_not]
          exact fun e => hj (V.str.inj e)
    · refine q_when (b := true) (et_is (et_or (a := true) (b := true) (et_is (et_not (et_test (ev_cb (ea_cons (ev_var rfl) (ea_cons ev_c ea_nil)) (rc_isLst (b := false) huT ⟨(fun h => nomatch h), fun h => ?_⟩)))) rfl) fun h => nomatch h) rfl) (fun _ H3 e3 => kE H3 (e02.trans e3)) fun h => nomatch h
      cases u with
      | ref a =>
        rcases hu with ⟨xs, hx⟩ | ⟨xs, hx⟩ | ⟨xs, hx⟩
        · exact absurd ⟨a, xs, rfl, hx⟩ hl
        · obtain ⟨ys, h⟩ := h
          rw [e02 _ _ hx] at h
          cases h
        · obtain ⟨ys, h⟩ := h
          rw [e02 _ _ hx] at h
          cases h
      | _ => exact h.elim

/-! ### the law's numbers -/
def mxN (c k : Int) : Int := (c % 10 ^ 60 + 13) * 48271 % 2147483647 + 7 * k
def mx (c k : Int) : Int := mxN c k * (16807 + 1031 * k * k) % 2147483629 / 8
theorem mx_bd (c k : Int) : 0 ≤ mx c k ∧ mx c k < 268435454 := by
  have h1 : 0 ≤ mxN c k * (16807 + 1031 * k * k) % 2147483629 := Int.emod_nonneg _ (by decide)
  have h2 : mxN c k * (16807 + 1031 * k * k) % 2147483629 < 2147483629 := Int.emod_lt_of_pos _ (by decide)
  unfold mx
  omega
def pMx (vs : List V) (_ : Hp) : Prop := ∃ c k, vs = [.int c, .int k] ∧ 0 ≤ k ∧ k ≤ 1000
def rMx : List V → V | [.int c, .int k] => .int (mx c k) | _ => .non
theorem ok_l_mixed (T : Txt K mg A) : FnOk P w K mg base CX0 1 A.f_l_mixed A.d_l_mixed P_l_mixed (SpFn pMx rMx) := by
  refine T.F_l_mixed.ok sc_l_mixed (fun vs H Q E h => ?_) (fun cdv A' outer s H vs Q E hr h => ?_)
  · obtain ⟨⟨c, k, rfl, _⟩, _⟩ := h
    rfl
  · obtain ⟨⟨c, k, rfl, h0, h1⟩, q⟩ := h
    refine ⟨_, (pss_cons (ps_set (i := 2) sc_l_mixed.nd rfl (Or.inl rfl) (pe_op op_add (pe_op op_mod (pe_op op_mul (pe_op op_add (pe_op op_mod (pv 0) (pe_op op_pow pe_int pe_int)) pe_int) pe_int) pe_int) (pe_op op_mul pe_int (pv 1))))
      (pss_one (ps_ret (pe_op op_fdiv (pe_op op_mod (pe_op op_mul (pv 2) (pe_op op_add pe_int (pe_op op_mul (pe_op op_mul pe_int (pv 1)) (pv 1)))) pe_int) pe_int)))), ?_⟩
    refine q_asg (v := .int (mxN c k)) ?_ fun H1 e1 => s_ret (v := .int (mx c k)) ?_ fun H2 e2 => q H2 (e1.trans e2)
    · refine ev_op (ev_op (ev_op (ev_op (ev_op (ev_var rfl) (ev_op ev_c ev_c (rv_I (C := CPow) ⟨by decide, by decide, by decide⟩)) (rv_I (by decide +kernel))) ev_c rv_I0) ev_c (rv_I (.inr ⟨by decide, by decide⟩))) ev_c (rv_I (by show (0 : Int) < _; decide)))
        (ev_op ev_c (ev_var rfl) (rv_I (.inl ⟨by decide, by decide⟩))) rv_I0
    · refine ev_op (ev_op (ev_op (ev_var rfl) (ev_op ev_c (ev_op (ev_op ev_c (ev_var rfl) (rv_I (.inl ⟨by decide, by decide⟩))) (ev_var rfl) (rv_I (.inr ⟨by omega, by omega⟩))) rv_I0) (rv_I (.inl ?_))) ev_c (rv_I (by show (0 : Int) < _; decide))) ev_c (rv_I ⟨by decide, by decide⟩)
      have h2 : 0 ≤ (c % 10 ^ 60 + 13) * 48271 % 2147483647 := Int.emod_nonneg _ (by decide)
      have h3 : (c % 10 ^ 60 + 13) * 48271 % 2147483647 < 2147483647 := Int.emod_lt_of_pos _ (by decide)
      unfold mxN
      omega
theorem mx_v {c k : Int} {H : Hp} (h0 : 0 ≤ k) (h1 : k ≤ 1000) : SpV (SpFn pMx rMx) [.int c, .int k] H (.int (mx c k)) := spFn fun H1 e => ⟨c, k, rfl, h0, h1⟩
def atN (ns : List Int) (k : Nat) : Int := ns.getD k 0
def spAtN (K : PySem.W.Frag) : Sp := fun vs H Q _ => ∃ (a : Addr) (ns : List Int) (k : Nat), vs = [.ref a, .int (k : Int)] ∧ SqL K H a (ns.map V.int) ∧ ∀ H', Ex H H' → Q (.int (atN ns k)) H'
theorem atN_v {a : Addr} {ns : List Int} {k : Nat} {H : Hp} (hS : SqL K H a (ns.map V.int)) : SpV (spAtN K) [.ref a, .int (k : Int)] H (.int (atN ns k)) := fun H1 e Q q E => ⟨a, ns, k, rfl, ex_l e hS, q⟩
theorem ok_l_at (T : Txt K mg A) : FnOk P w K mg base CX0 1 A.f_l_at A.d_l_at P_l_at (spAtN K) := by
  refine T.F_l_at.ok sc_l_at (fun vs H Q E h => ?_) (fun cdv A' outer s H vs Q E hr h => ?_)
  · obtain ⟨a, ns, k, rfl, _⟩ := h
    rfl
  · obtain ⟨a, ns, k, rfl, hS, q⟩ := h
    refine ⟨_, (pss_cons (ps_if (pt_cmpR op_lt (pv 1) (pe_callB call_len_seq (by rfl) T.n_len PySem.boot_len (pa_cons (pv 0) pa_nil)) (nomark _)) (pss_one (ps_ret (pe_ix ix_list (pv 0) (pv 1) (fun _ _ => rfl)))) pss_nil)
      (pss_one (ps_ret pe_int))), ?_⟩
    refine q_when (b := decide (k < ns.length)) (et_is (et_test (ev_op (ev_var rfl) (ev_cb (ea_cons (ev_var rfl) ea_nil) (rc_lenL hS)) rv_I0)) ?_) (fun hb H1 e1 => ?_) fun hb H1 e1 => ?_
    · rw [List.length_map, decide_eq_decide]
      omega
    · have hk : k < ns.length := by simpa using hb
      refine s_ret (v := .int (atN ns k)) (ev_op (ev_var rfl) (ev_var rfl) (rv_ixL (ex_l e1 hS) (atI_nat ?_))) fun H2 e2 => q H2 (e1.trans e2)
      rw [List.getElem?_map, List.getElem?_eq_getElem hk]
      unfold atN
      rw [List.getD_eq_getElem?_getD, List.getElem?_eq_getElem hk]
      rfl
    · have hk : ¬ k < ns.length := by simpa using hb
      refine s_ret (v := .int 0) ev_c fun H2 e2 => ?_
      have : atN ns k = 0 := by
        unfold atN
        rw [List.getD_eq_getElem?_getD, List.getElem?_eq_none (by omega)]
        rfl
      rw [← this]
      exact q H2 (e1.trans e2)
/-! ### the law's patterns -/
def FigsD (kvs : List (Key × V)) (f : List Nat) : Prop := ∀ k : Int, valV kvs (.inl k) = if 0 ≤ k ∧ f.getD k.toNat 0 ≠ 0 then some (.int (f.getD k.toNat 0 : Nat)) else none
structure GoodPt (p : PatD) : Prop where
  ok : p.Ok
  inn : okIn (inner p.s) = true
  fig : ∃ n ∈ p.f, 0 < n
  sgn : ∀ c ∈ p.s, isFig c = false
  bd : ∀ c ∈ p.s, c < 128
def PtnAt (H : Hp) (v : V) (p : PatD) : Prop := ∃ T0 d kvs, v = .ref T0 ∧ H T0 = some (.tup [.str (TX.T p.s), .ref d]) ∧ H d = some (.dK kvs) ∧ FigsD kvs p.f ∧ GoodPt p
theorem PtnAt.mono {H H' : Hp} {v : V} {p : PatD} (h : PtnAt H v p) (e : Ex H H') : PtnAt H' v p := by
  obtain ⟨T0, d, kvs, h1, h2, h3, h4⟩ := h
  exact ⟨T0, d, kvs, h1, e _ _ h2, e _ _ h3, h4⟩
theorem FigsD.zero (n : Nat) : FigsD [] (List.replicate n 0) := fun k => by
  rw [valV_nil, if_neg]
  rintro ⟨_, h⟩
  apply h
  rw [List.getD_eq_getElem?_getD, List.getElem?_replicate]
  split <;> rfl
theorem FigsD.put {kvs : List (Key × V)} {f : List Nat} (h : FigsD kvs f) {j v : Nat} (hj : j < f.length) (hv : v ≠ 0) : FigsD (putK kvs (.inl (j : Int)) (.int (v : Int))) (f.set j v) := fun k => by
  rw [valV_put]
  by_cases hk : k = (j : Int)
  · subst hk
    have e : (f.set j v).getD (j : Int).toNat 0 = v := by
      rw [List.getD_eq_getElem?_getD, Int.toNat_natCast, List.getElem?_set_self hj]
      rfl
    rw [if_pos rfl, e, if_pos ⟨by omega, hv⟩]
  · rw [if_neg (fun e => hk (Sum.inl.inj e)), h k]
    have e : 0 ≤ k → (f.set j v).getD k.toNat 0 = f.getD k.toNat 0 := fun h0 => by
      rw [List.getD_eq_getElem?_getD, List.getElem?_set_ne (by omega), List.getD_eq_getElem?_getD]
    by_cases h0 : 0 ≤ k
    · rw [e h0]
    · rw [if_neg (fun q => h0 q.1), if_neg (fun q => h0 q.1)]
def dotIf (b : Bool) : List Nat := if b = true then [46] else []
theorem inner_dots (a b : Bool) (W : List Nat) (hW : ∀ c ∈ W, small c = true) (h1 : 1 ≤ W.length) : inner (dotIf a ++ W ++ dotIf b) = W := by
  have n46 : ∀ c ∈ W, c ≠ 46 := fun c hc e => by have := hW c hc; rw [e] at this; exact absurd this (by decide)
  have e1 : noDot (dotIf a ++ W ++ dotIf b) = W ++ dotIf b := by
    unfold noDot
    cases a with
    | true =>
      have e : dotIf true ++ W ++ dotIf b = 46 :: (W ++ dotIf b) := rfl
      rw [e]
      rfl
    | false =>
      have e : dotIf false ++ W ++ dotIf b = W ++ dotIf b := rfl
      rw [e, if_neg]
      cases W with
      | nil => exact absurd h1 (by decide)
      | cons c r =>
        intro h
        exact n46 c List.mem_cons_self (Option.some.inj h)
  unfold inner
  rw [e1]
  cases b with
  | true =>
    have e : W ++ dotIf true = W ++ [46] := rfl
    rw [e, List.getLast?_concat, if_pos rfl, List.dropLast_concat]
  | false =>
    have e : W ++ dotIf false = W := List.append_nil W
    rw [e, if_neg]
    intro h
    exact n46 46 (List.mem_of_getLast? h) rfl
theorem l_letters {i : Int} (h0 : 0 ≤ i) (h1 : i < 3) : ∃ ws : Str, atI [V.str "ab", V.str "abc", V.str "aabz"] i = some (.str ws) ∧ lets ws = true ∧ 2 ≤ ws.length ∧ ws.length ≤ 4 := by
  obtain ⟨v, hv, hm⟩ := at_mem (xs := [V.str "ab", V.str "abc", V.str "aabz"]) h0 (by show i < 3; exact h1)
  simp only [List.mem_cons, List.not_mem_nil, or_false] at hm
  rcases hm with rfl | rfl | rfl <;> exact ⟨_, hv, by decide +kernel, by decide +kernel, by decide +kernel⟩
theorem l_size {i : Int} (h0 : 0 ≤ i) (h1 : i < 7) : ∃ m : Nat, atI [V.int 1, V.int 2, V.int 2, V.int 3, V.int 4, V.int 6, V.int 5] i = some (.int (m : Int)) ∧ 1 ≤ m ∧ m ≤ 6 := by
  obtain ⟨v, hv, hm⟩ := at_mem (xs := [V.int 1, V.int 2, V.int 2, V.int 3, V.int 4, V.int 6, V.int 5]) h0 (by show i < 7; exact h1)
  simp only [List.mem_cons, List.not_mem_nil, or_false] at hm
  rcases hm with rfl | rfl | rfl | rfl | rfl | rfl | rfl
  · exact ⟨1, hv, by decide, by decide⟩
  · exact ⟨2, hv, by decide, by decide⟩
  · exact ⟨2, hv, by decide, by decide⟩
  · exact ⟨3, hv, by decide, by decide⟩
  · exact ⟨4, hv, by decide, by decide⟩
  · exact ⟨6, hv, by decide, by decide⟩
  · exact ⟨5, hv, by decide, by decide⟩
/-- letters drawn by numbers -/
theorem el_drawn {σ : L2.St} {H : Hp} {te : TE} {p : Addr} {ws : Str} {n : Nat} {g : Nat → Int} {j : Nat} {tl : TE} {vs : List Nat} (hl : Ev tl σ H (.ref p)) (hp : H p = some (.lst ((List.range n).map fun i => V.int (g i)))) (hn : n ≤ 1000)
    (hw : ∀ x, wipe ((wipe σ vs).set j (some x)) vs = wipe σ vs) (he : ∀ (i : Nat) H1, Ex H H1 → i < n → Ev te ((wipe σ vs).set j (some (.int (g i)))) H1 (.str (sgn ws (g i % (ws.length : Int))))) :
    Ev (tM1 (rJoin K) (tC (.str "")) (tLc (iList K tl) (gName j) tYes te vs)) σ H (.str (drawnW ws n fun i => g i % (ws.length : Int))) := by
  refine ev_joinL (ys := (List.range n).map fun i => sgn ws (g i % (ws.length : Int))) ev_c (el_is (el_lcL (fun _ => true) (fun i => .str (sgn ws (g i % (ws.length : Int)))) hl (sq_of hp) (by rw [List.length_map, List.length_range]; omega) hw (fun i x H1 e1 hx => et_yes) fun i x H1 e1 hx _ => ?_) ?_) rfl ?_
  · have hi : i < n := by
      have := (List.getElem?_eq_some_iff.mp hx).1
      rwa [List.length_map, List.length_range] at this
    rw [List.getElem?_map, List.getElem?_range hi] at hx
    cases hx
    exact he i H1 e1 hi
  · rw [given_all, List.length_map, List.length_range, List.map_map]
    rfl
  · rw [sum_onesW]
    omega
def spPtn : Sp := fun vs H Q _ => ∃ n : Int, vs = [.int n] ∧ ∀ p v H', Ex H H' → New H (fun H' => PtnAt H' v p) H' → Q v H'
theorem q_unpack2 {σ : L2.St} {H : Hp} {te : TE} {D : Ends} {tz : TS} {i j : Nat} {T0 : Addr} {v u : V} (h : Ev te σ H (.ref T0)) (hT : SqT K H T0 [v, u]) (k : ∀ H1, Ex H H1 → tz D ((σ.set i (some v)).set j (some u)) H1) :
    tSeq (tAsg te (gTup K 2 (gCons (gName i) (gCons (gName j) gNil)))) tz D σ H := h H (Ex.refl _) _ fun H1 e => ⟨T0, _, rfl, ex_t e hT, rfl, _, _, rfl, _, [], rfl, rfl, k H1 e⟩
theorem ok_l_pattern (T : Txt K mg A) : FnOk P w K mg base CX0 2 A.f_l_pattern A.d_l_pattern P_l_pattern spPtn := by
  refine T.F_l_pattern.ok sc_l_pattern (fun vs H Q E h => ?_) (fun cdv A' outer s H vs Q E hr h => ?_)
  · obtain ⟨n, rfl, _⟩ := h
    rfl
  · obtain ⟨n, rfl, kk⟩ := h
    refine ⟨_, (pss_cons (ps_set (i := 1) sc_l_pattern.nd rfl (Or.inr rfl) (pe_ix ix_list (pe_lst (pa_cons pe_str (pa_cons pe_str (pa_cons pe_str pa_nil)))) (pe_op op_mod (pv 0) pe_int) (fun _ _ => rfl)))
      (pss_cons (ps_set (i := 2) sc_l_pattern.nd rfl (Or.inl rfl) (pe_ix ix_list (pe_lst (pa_cons pe_int (pa_cons pe_int (pa_cons pe_int (pa_cons pe_int (pa_cons pe_int (pa_cons pe_int (pa_cons pe_int pa_nil)))))))) (pe_op op_mod (pe_op op_fdiv (pv 0) pe_int) pe_int) (fun _ _ => rfl)))
      (pss_cons (ps_setLc (i := 3) (own := [("_law_k", 6)]) (by rfl) sc_l_pattern.nd rfl rfl (sw_true rfl rfl rfl (by decide +kernel)) (pi_range1 rfl T.n_range (pa_cons (pv 2) pa_nil)) (blkOk_by (own := [("_law_k", 6)]) (N := N_l_pattern) (sc := defScope s_l_pattern) (by decide +kernel)) (fun _ _ _ _ _ => (pg_name (i := 6) sc_l_pattern.nd rfl (Or.inl rfl))) (fun _ _ _ _ _ => pts_nil) (fun _ _ _ _ _ => (pe_call (ok_l_mixed T) hr rfl T.g_l_mixed T.k_l_mixed T.b_l_mixed .nil pass0 (pa_cons (pv 0) (pa_cons (pe_op op_add pe_int (pv 6)) pa_nil)))))
      (pss_cons (ps_set (i := 4) sc_l_pattern.nd rfl (Or.inl rfl) (pe_join pe_str (pe_lc (own := [("_law_number", 8)]) (by rfl) sc_l_pattern.nd (pi_list (pv 3)) (blkOk_by (own := [("_law_number", 8)]) (N := N_l_pattern) (sc := defScope s_l_pattern) (by decide +kernel)) (fun _ _ _ _ _ => (pg_name (i := 8) sc_l_pattern.nd rfl (Or.inl rfl))) (fun _ _ _ _ _ => pts_nil) (fun _ _ _ _ _ => (pe_ix ix_str (pv 1) (pe_op op_mod (pv 8) (pe_callB call_len_str (by rfl) T.n_len PySem.boot_len (pa_cons (pv 1) pa_nil))) (fun _ _ => rfl))))))
      (pss_cons (ps_set (i := 4) sc_l_pattern.nd rfl (Or.inl rfl) (pe_op op_add_str (pe_op op_add_str (pe_op op_mulS pe_str (pe_callTy call_int1 (by rfl) T.n_int (by decide +kernel) (pa_cons (pe_cmpR op_eq (pe_op op_mod (pe_op op_fdiv (pv 0) pe_int) pe_int) pe_int (nomark _)) pa_nil))) (pv 4)) (pe_op op_mulS pe_str (pe_callTy call_int1 (by rfl) T.n_int (by decide +kernel) (pa_cons (pe_cmpR op_eq (pe_op op_mod (pe_op op_fdiv (pv 0) pe_int) pe_int) pe_int (nomark _)) pa_nil)))))
      (pss_cons (ps_set (i := 5) sc_l_pattern.nd rfl (Or.inl rfl) pe_dnewK)
      (pss_cons (ps_for PassesOwn.never rfl (pi_range1 rfl T.n_range (pa_cons (pe_op op_add pe_int (pe_op op_mod (pe_op op_fdiv (pv 0) pe_int) pe_int)) pa_nil)) (pg_name (i := 6) sc_l_pattern.nd rfl (Or.inl rfl))
      (pss_cons (ps_set (i := 7) sc_l_pattern.nd rfl (Or.inl rfl) (pe_call (ok_l_mixed T) hr rfl T.g_l_mixed T.k_l_mixed T.b_l_mixed .nil pass0 (pa_cons (pv 0) (pa_cons (pe_op op_add pe_int (pv 6)) pa_nil))))
      (pss_one (ps_dput (hu_of hr) (pv 5) (pe_op op_mod (pv 7) (pe_op op_add (pe_callB call_len_str (by rfl) T.n_len PySem.boot_len (pa_cons (pv 4) pa_nil)) pe_int)) (pe_op op_add pe_int (pe_op op_mod (pe_op op_fdiv (pv 7) pe_int) pe_int)) rfl))))
      (pss_one (ps_ret (pe_tup (pa_cons (pv 4) (pa_cons (pv 5) pa_nil)))))))))))), ?_⟩
    obtain ⟨ws, hws, wl, w2, w4⟩ := l_letters (i := n % 3) (Int.emod_nonneg _ (by decide)) (Int.emod_lt_of_pos _ (by decide))
    refine q_asg (v := .str ws) (ev_opL1 (el_lst (ea_cons ev_c (ea_cons ev_c (ea_cons ev_c ea_nil))) (by show 3 ≤ 100000; decide)) (fun H2 e2 => ev_op (ev_var rfl) ev_c (rv_I (by show (0 : Int) < _; decide))) (fun p H2 hp e2 => rv_ixL (sq_of hp) hws)) fun H1 e1 => ?_
    obtain ⟨m, hm, m1, m6⟩ := l_size (i := n / 3 % 7) (Int.emod_nonneg _ (by decide)) (Int.emod_lt_of_pos _ (by decide))
    refine q_asg (v := .int (m : Int)) (ev_opL1 (el_lst (ea_cons ev_c (ea_cons ev_c (ea_cons ev_c (ea_cons ev_c (ea_cons ev_c (ea_cons ev_c (ea_cons ev_c ea_nil))))))) (by show 7 ≤ 100000; decide)) (fun H2 e2 => ev_op (ev_op (ev_var rfl) ev_c (rv_I ⟨by decide, by decide⟩)) ev_c (rv_I (by show (0 : Int) < _; decide))) (fun p H2 hp e2 => rv_ixL (sq_of hp) hm)) fun H2 e2 => ?_
    refine q_asgL (xs := (List.range m).map fun (i : Nat) => V.int (mx n (70 + (i : Int)))) (el_is (el_lcR1 (fun _ => true) (fun i => V.int (mx n (70 + (i : Int)))) (ea_cons (ev_var rfl) ea_nil) (by omega) (fun _ => rfl) (fun j H5 e5 hj => et_yes) (fun j H5 e5 hj _ => ev_call (ea_cons (ev_var rfl) (ea_cons (ev_op ev_c (ev_var rfl) rv_I0) ea_nil)) (mx_v (by omega) (by omega)))) (by rw [given_all]; rfl)) fun pn H3 _ e3 hn => ?_
    have wc : ws.length = ws.cps.toList.length := len_L ws
    have wpos : (0 : Int) < (ws.length : Int) := by omega
    refine q_asg (v := .str (drawnW ws m fun (i : Nat) => mx n (70 + (i : Int)) % (ws.length : Int))) (el_drawn (g := fun (i : Nat) => mx n (70 + (i : Int))) (ev_var rfl) hn (by omega) (fun _ => rfl) fun i H4 e4 hi => ev_sgn (ev_var rfl) (ev_op (ev_var rfl) (ev_cb (ea_cons (ev_var rfl) ea_nil) (rc_lenS (by omega))) (rv_I wpos)) (by omega) (Int.emod_nonneg _ (by omega)) (by rw [← wc]; exact Int.emod_lt_of_pos _ wpos)) fun H4 e4 => ?_
    have Wlen := drawnW_len ws m fun (i : Nat) => mx n (70 + (i : Int)) % (ws.length : Int)
    have Wlet := drawnW_lets wl m (fun (i : Nat) => mx n (70 + (i : Int)) % (ws.length : Int)) fun i => ⟨Int.emod_nonneg _ (by omega), by rw [← wc]; exact Int.emod_lt_of_pos _ wpos⟩
    generalize (drawnW ws m fun (i : Nat) => mx n (70 + (i : Int)) % (ws.length : Int)) = W at Wlen Wlet
    have dotT : ∀ b : Bool, (if (if b = true then (1 : Int) else 0) = 1 then ("." : Str) else "") = TX.T (dotIf b) := fun b => by cases b <;> decide +kernel
    have dotL : ∀ b : Bool, (dotIf b).length ≤ 1 := fun b => by cases b <;> decide
    have dl1 : ("." : Str).length ≤ 1000 := by decide +kernel
    have cond : ∀ {σ : L2.St} {H : Hp} {d : Int}, 0 < d → d < 1073741824 → σ[0]? = some (some (.int n)) → Ev (tOp rMulS (tC (.str ".")) (tCB (fun xs H Q => (∃ i, xs = [.int i] ∧ Q (.int i) H) ∨ ∃ k, xs = [.bl k] ∧ Q (.int (if k then 1 else 0)) H) (tCons (tOp rEq (tOp (rI (fun _ j => 0 < j) fun i j => .int (i % j)) (tOp (rI CDiv fun i j => .int (i / j)) (tVar 0) (tC (.int d))) (tC (.int 4))) (tC (.int 1))) tNil))) σ H (.str (TX.T (dotIf (decide (V.int (n / d % 4) = V.int 1))))) := fun h1 h2 h0 =>
      ev_is (ev_mulS ev_c (ev_cb (ea_cons (ev_op (ev_op (ev_op (ev_var h0) ev_c (rv_I ⟨h1, h2⟩)) ev_c (rv_I (by show (0 : Int) < _; decide))) ev_c (rv_eq rfl)) ea_nil) rc_int) (by split <;> decide) (by split <;> decide) dl1) (congrArg V.str (dotT _))
    generalize hb1 : decide (V.int (n / 32 % 4) = V.int 1) = b1
    generalize hb2 : decide (V.int (n / 128 % 4) = V.int 1) = b2
    have l1 := dotL b1
    have l2 := dotL b2
    have WT : W = TX.T (L W) := (T_L W).symm
    have WL : (L W).length = m := by rw [← len_L]; exact Wlen
    have add1 : (TX.T (dotIf b1) ++ W : Str) = TX.T (dotIf b1 ++ L W) := by apply eq_L; rw [L_add, L_T, L_T]
    refine q_asg (v := .str (TX.T (dotIf b1 ++ L W ++ dotIf b2))) (ev_is (ev_op (ev_op (hb1 ▸ cond (by decide) (by decide) rfl) (ev_var rfl) (rv_addS (by rw [len_T, Wlen]; omega))) (hb2 ▸ cond (by decide) (by decide) rfl) (rv_addS (by rw [add1, len_T, len_T, List.length_append, WL]; omega))) (by
      rw [add1]
      apply congrArg V.str
      apply eq_L
      rw [L_add, L_T, L_T, L_T])) fun H5 e5 => ?_
    have sml : ∀ c ∈ L W, small c = true := fun c hc => List.all_eq_true.mp Wlet c hc
    have inn := inner_dots b1 b2 (L W) sml (by omega)
    have SL : (dotIf b1 ++ L W ++ dotIf b2).length = (dotIf b1).length + m + (dotIf b2).length := by rw [List.length_append, List.length_append, WL]
    have Sin : okIn (inner (dotIf b1 ++ L W ++ dotIf b2)) = true := by
      rw [inn]
      unfold okIn
      rw [Bool.and_eq_true, Bool.and_eq_true, decide_eq_true_eq, decide_eq_true_eq]
      exact ⟨Wlet, by omega, by omega⟩
    have Ssg : ∀ c ∈ dotIf b1 ++ L W ++ dotIf b2, isFig c = false ∧ c < 128 := fun c hc => by
      have dotc : ∀ b : Bool, c ∈ dotIf b → c = 46 := fun b h => by
        cases b with
        | true => exact List.mem_singleton.mp h
        | false => cases h
      have h3 : c = 46 ∨ small c = true := by
        rcases List.mem_append.mp hc with hc | hc
        · rcases List.mem_append.mp hc with hc | hc
          · exact Or.inl (dotc _ hc)
          · exact Or.inr (sml c hc)
        · exact Or.inl (dotc _ hc)
      rcases h3 with rfl | h3
      · exact ⟨by decide, by decide⟩
      · have := small_bd h3
        refine ⟨?_, by omega⟩
        unfold isFig
        rw [decide_eq_false (by omega : ¬ c ≤ 57), Bool.and_false]
    generalize dotIf b1 ++ L W ++ dotIf b2 = S at inn SL Sin Ssg
    refine q_dnew fun d nd => ?_
    have e05 := (((e1.trans e2).trans e3).trans e4).trans e5
    have nd0 : H d = none := fresh_back e05 nd
    have rb : 0 ≤ n / 512 % 3 ∧ n / 512 % 3 < 3 := ⟨Int.emod_nonneg _ (by decide), Int.emod_lt_of_pos _ (by decide)⟩
    refine q_forR1 (n := 1 + n / 512 % 3) (ea_cons (ev_op ev_c (ev_op (ev_op (ev_var rfl) ev_c (rv_I ⟨by decide, by decide⟩)) ev_c (rv_I (by show (0 : Int) < _; decide))) rv_I0) ea_nil) (by omega)
      (fun i σ' H' => Ex H H' ∧ ∃ kvs f v6 v7, σ' = [some (.int n), some (.str ws), some (.int (m : Int)), some (.ref pn), some (.str (TX.T S)), some (.ref d), v6, v7, none] ∧ H' d = some (.dK kvs) ∧ FigsD kvs f ∧ f.length = S.length + 1 ∧ (∀ x ∈ f, x ≤ 9) ∧ kvs.length ≤ i ∧ (0 < i → ∃ x ∈ f, 0 < x))
      (fun H6 e6 => ⟨(e05.trans (Ex.new nd)).trans e6, [], List.replicate (S.length + 1) 0, none, none, rfl, e6 _ _ upd_same, FigsD.zero _, List.length_replicate, fun x hx => by rw [List.eq_of_mem_replicate hx]; exact Nat.zero_le _, Nat.le_refl _, fun h => absurd h (by decide)⟩) ?_ ?_
    · rintro i σ' H' hi ⟨eH, kvs, f, v6, v7, rfl, hd, hF, fl, f9, kl, _⟩
      have mb := mx_bd n (80 + (i : Int))
      refine q_asg (v := .int (mx n (80 + (i : Int)))) (ev_call (ea_cons (ev_var rfl) (ea_cons (ev_op ev_c (ev_var rfl) rv_I0) ea_nil)) (mx_v (by omega) (by omega))) fun H7 e7 => ?_
      generalize mx n (80 + (i : Int)) = x at mb
      have tS : (TX.T S).length = S.length := len_T S
      have s1 : (0 : Int) < (S.length : Int) + 1 := by omega
      have j0 := Int.emod_nonneg x (show ((S.length : Int) + 1) ≠ 0 by omega)
      have j1 := Int.emod_lt_of_pos x s1
      have v0 := Int.emod_nonneg (x / 16) (show (9 : Int) ≠ 0 by decide)
      have v1 := Int.emod_lt_of_pos (x / 16) (show (0 : Int) < 9 by decide)
      generalize hj : (x % ((S.length : Int) + 1)).toNat = j
      generalize hv : (1 + x / 16 % 9).toNat = u
      have hj' : x % ((S.length : Int) + 1) = (j : Int) := by omega
      have hv' : 1 + x / 16 % 9 = (u : Int) := by omega
      refine s_dput (k := .inl (j : Int)) (v := .int (u : Int)) (ev_is (ev_op ev_c (ev_op (ev_op (ev_var rfl) ev_c (rv_I ⟨by decide, by decide⟩)) ev_c (rv_I (by show (0 : Int) < _; decide))) rv_I0) (by rw [hv'])) (ev_var rfl) (ev_is (ev_op (ev_var rfl) (ev_op (ev_cb (ea_cons (ev_var rfl) ea_nil) (rc_lenS (by rw [tS]; omega))) ev_c rv_I0) (rv_I (by rw [tS]; exact s1))) (by rw [tS, hj']; rfl)) (e7 _ _ hd) (by omega) fun H8 e8 => ?_
      have jf : j < f.length := by omega
      refine ⟨Ex.mut (eH.trans (e7.trans e8)) nd0, putK kvs (.inl (j : Int)) (.int (u : Int)), f.set j u, _, _, rfl, upd_same, hF.put jf (by omega), by rw [List.length_set]; exact fl, fun y hy => ?_, ?_, fun _ => ⟨u, ?_, by omega⟩⟩
      · rcases List.mem_or_eq_of_mem_set hy with hy | hy
        · exact f9 y hy
        · omega
      · have := length_putK kvs (.inl (j : Int)) (.int (u : Int))
        omega
      · exact List.mem_of_getElem? (by rw [List.getElem?_set_self jf])
    · rintro σ' H' ⟨eH, kvs, f, v6, v7, rfl, hd, hF, fl, f9, kl, hx⟩
      refine s_retU (xs := [.str (TX.T S), .ref d]) (eu_tup (ea_cons (ev_var rfl) (ea_cons (ev_var rfl) ea_nil)) (by show 2 ≤ 100000; decide)) fun T0 H7 nT e7 hT => ?_
      refine kk ⟨S, f⟩ _ H7 (eH.trans e7) fun H'' k'' => ⟨T0, d, kvs, rfl, k'' _ _ (fresh_back eH nT) hT, k'' _ _ nd0 (e7 _ _ hd), hF, ⟨⟨fl, f9, ?_, ?_⟩, Sin, hx (by omega), fun c hc => (Ssg c hc).1, fun c hc => (Ssg c hc).2⟩⟩
      · show S.length ≤ 8
        omega
      · show 1 ≤ S.length
        omega
/-! ### the law's texts -/
def figT (p : PatD) (k : Nat) : List Nat := if p.f.getD k 0 ≠ 0 then [48 + p.f.getD k 0] else []
theorem figT_len (p : PatD) (k : Nat) : (figT p k).length ≤ 1 := by
  unfold figT
  split
  · exact Nat.le_refl _
  · exact Nat.zero_le _
def txN (p : PatD) : Nat → List Nat
  | 0 => []
  | k + 1 => txN p k ++ figT p k ++ (p.s.drop k).take 1
def txt (p : PatD) : List Nat := txN p (p.s.length + 1)
theorem txN_len (p : PatD) : ∀ k, (txN p k).length ≤ 2 * k
  | 0 => Nat.le_refl _
  | k + 1 => by
    have h1 := txN_len p k
    have h2 : (figT p k).length ≤ 1 := figT_len p _
    have h3 : ((p.s.drop k).take 1).length ≤ 1 := by rw [List.length_take]; omega
    show (txN p k ++ figT p k ++ (p.s.drop k).take 1).length ≤ _
    rw [List.length_append, List.length_append]
    omega
theorem fig_is {n : Nat} (h : n ≠ 0) (h9 : n ≤ 9) : isFig (48 + n) = true := by
  unfold isFig
  rw [Bool.and_eq_true, decide_eq_true_eq, decide_eq_true_eq]
  omega
theorem rd_tx (p : PatD) (h : GoodPt p) : ∀ k, k ≤ p.s.length → rdF (txN p k) = some (p.s.take k, p.f.take k, 0)
  | 0, _ => rfl
  | k + 1, hk => by
    have ih := rd_tx p h k (by omega)
    have ok := h.ok
    have kl : k < p.f.length := by rw [ok.len]; omega
    have fk : p.f.getD k 0 = p.f[k] := by rw [List.getD_eq_getElem?_getD, List.getElem?_eq_getElem kl]; rfl
    have f9 : p.f.getD k 0 ≤ 9 := by rw [fk]; exact ok.nine _ (List.getElem_mem kl)
    have s1 : rdF (txN p k ++ figT p k) = some (p.s.take k, p.f.take k, p.f.getD k 0) := by
      unfold figT
      by_cases h0 : p.f.getD k 0 ≠ 0
      · rw [if_pos h0, rdF_snoc, ih]
        show rdStep (p.s.take k, p.f.take k, 0) (48 + p.f.getD k 0) = _
        unfold rdStep
        rw [if_pos (fig_is h0 f9), if_pos rfl]
        congr 3
        omega
      · rw [if_neg h0, List.append_nil, ih]
        have : p.f.getD k 0 = 0 := by omega
        rw [this]
    have dk : (p.s.drop k).take 1 = [p.s[k]] := by
      rw [← List.getElem_cons_drop (by omega : k < p.s.length)]
      rfl
    show rdF (txN p k ++ figT p k ++ (p.s.drop k).take 1) = _
    rw [dk, rdF_snoc, s1]
    show rdStep (p.s.take k, p.f.take k, p.f.getD k 0) p.s[k] = _
    unfold rdStep
    have ns : isFig p.s[k] = false := h.sgn _ (List.getElem_mem _)
    rw [if_neg (by rw [ns]; exact Bool.false_ne_true), fk]
    have t1 : p.s.take (k + 1) = p.s.take k ++ [p.s[k]] := by rw [List.take_add_one, List.getElem?_eq_getElem (by omega : k < p.s.length)]; rfl
    have t2 : p.f.take (k + 1) = p.f.take k ++ [p.f[k]] := by rw [List.take_add_one, List.getElem?_eq_getElem kl]; rfl
    rw [t1, t2]
theorem pat_txt {p : PatD} (h : GoodPt p) : patF (txt p) = some p := by
  have ok := h.ok
  have ih := rd_tx p h p.s.length (Nat.le_refl _)
  have kl : p.s.length < p.f.length := by rw [ok.len]; omega
  have fk : p.f.getD p.s.length 0 = p.f[p.s.length] := by rw [List.getD_eq_getElem?_getD, List.getElem?_eq_getElem kl]; rfl
  have f9 : p.f.getD p.s.length 0 ≤ 9 := by rw [fk]; exact ok.nine _ (List.getElem_mem kl)
  have e0 : (p.s.drop p.s.length).take 1 = [] := by rw [List.drop_length]; rfl
  have s1 : rdF (txt p) = some (p.s, p.f.take p.s.length, p.f.getD p.s.length 0) := by
    show rdF (txN p p.s.length ++ figT p p.s.length ++ (p.s.drop p.s.length).take 1) = _
    rw [e0, List.append_nil]
    unfold figT
    by_cases h0 : p.f.getD p.s.length 0 ≠ 0
    · rw [if_pos h0, rdF_snoc, ih]
      show rdStep (p.s.take p.s.length, p.f.take p.s.length, 0) (48 + p.f.getD p.s.length 0) = _
      unfold rdStep
      rw [if_pos (fig_is h0 f9), if_pos rfl, List.take_length]
      congr 3
      omega
    · rw [if_neg h0, List.append_nil, ih, List.take_length]
      have : p.f.getD p.s.length 0 = 0 := by omega
      rw [this]
  have fe : p.f.take p.s.length ++ [p.f.getD p.s.length 0] = p.f := by
    rw [fk]
    have t2 : p.f.take (p.s.length + 1) = p.f.take p.s.length ++ [p.f[p.s.length]] := by rw [List.take_add_one, List.getElem?_eq_getElem kl]; rfl
    rw [← t2, ← ok.len, List.take_length]
  unfold patF
  rw [s1]
  show (if (okIn (inner p.s) && (p.f.take p.s.length ++ [p.f.getD p.s.length 0]).any fun n => decide (0 < n)) = true then some (PatD.mk p.s (p.f.take p.s.length ++ [p.f.getD p.s.length 0])) else none) = _
  rw [fe, h.inn, if_pos]
  rw [Bool.true_and, List.any_eq_true]
  obtain ⟨n, hn, h0⟩ := h.fig
  exact ⟨n, hn, decide_eq_true h0⟩
def spTxt : Sp := fun vs H Q _ => ∃ v p, vs = [v] ∧ PtnAt H v p ∧ ∀ H', Ex H H' → Q (.str (TX.T (txt p))) H'
theorem dig_str {n : Nat} (h : n ≠ 0) (h9 : n ≤ 9) : (toString (n : Int) : Str) = TX.T [48 + n] := by
  have : n = 1 ∨ n = 2 ∨ n = 3 ∨ n = 4 ∨ n = 5 ∨ n = 6 ∨ n = 7 ∨ n = 8 ∨ n = 9 := by omega
  rcases this with rfl | rfl | rfl | rfl | rfl | rfl | rfl | rfl | rfl <;> decide +kernel
theorem ok_l_text (T : Txt K mg A) : FnOk P w K mg base CX0 1 A.f_l_text A.d_l_text P_l_text spTxt := by
  refine T.F_l_text.ok sc_l_text (fun vs H Q E h => ?_) (fun cdv A' outer s H vs Q E hr h => ?_)
  · obtain ⟨v, p, rfl, _⟩ := h
    rfl
  · obtain ⟨v, p, rfl, hp, kk⟩ := h
    refine ⟨_, (pss_cons (ps_asg (pv 0) (pg_tup (by rfl) (pgs_cons (pg_name (i := 1) sc_l_text.nd rfl (Or.inl rfl)) (pgs_cons (pg_name (i := 2) sc_l_text.nd rfl (Or.inl rfl)) pgs_nil))))
      (pss_cons (ps_set (i := 3) sc_l_text.nd rfl (Or.inl rfl) pe_str)
      (pss_cons (ps_for PassesOwn.never rfl (pi_range1 rfl T.n_range (pa_cons (pe_op op_add (pe_callB call_len_str (by rfl) T.n_len PySem.boot_len (pa_cons (pv 1) pa_nil)) pe_int) pa_nil)) (pg_name (i := 4) sc_l_text.nd rfl (Or.inl rfl))
      (pss_one (ps_set (i := 3) sc_l_text.nd rfl (Or.inl rfl) (pe_op op_add_str (pe_op op_add_str (pv 3) (pe_ifExp (pt_cmp (pc_din (hu_of hr) (pv 4) (pv 2)) (by rfl)) (pe_callTy call_str_int (by rfl) T.n_str (by decide +kernel) (pa_cons (pe_dget (hu_of hr) (pv 2) (pv 4) (fun _ _ => rfl)) pa_nil)) pe_str)) (pe_slice sl_str (pv 1) (po_some (pv 4)) (po_some (pe_op op_add (pv 4) pe_int)))))))
      (pss_one (ps_ret (pv 3)))))), ?_⟩
    obtain ⟨T0, d, kvs, rfl, hT, hd, hF, G⟩ := hp
    have ok := G.ok
    have p8 := ok.eight
    have tS : (TX.T p.s).length = p.s.length := len_T _
    refine q_unpack2 (ev_var rfl) (st_of hT) fun H1 e1 => ?_
    refine q_asg (v := .str (TX.T (txN p 0))) ev_c fun H2 e2 => ?_
    refine q_forR1 (n := (p.s.length : Int) + 1) (ea_cons (ev_is (ev_op (ev_cb (ea_cons (ev_var rfl) ea_nil) (rc_lenS (by rw [tS]; omega))) ev_c rv_I0) (by rw [tS])) ea_nil) (by omega)
      (fun i σ' H' => Ex H H' ∧ ∃ v4, σ' = [some (.ref T0), some (.str (TX.T p.s)), some (.ref d), some (.str (TX.T (txN p i))), v4]) (fun H3 e3 => ⟨(e1.trans e2).trans e3, none, rfl⟩) ?_ ?_
    · rintro i σ' H' hi ⟨eH, v4, rfl⟩
      have hi' : i ≤ p.s.length := by omega
      have il : i < p.f.length := by rw [ok.len]; omega
      have fi := hF (i : Int)
      rw [Int.toNat_natCast] at fi
      have f9 : p.f.getD i 0 ≤ 9 := by
        have : p.f.getD i 0 = p.f[i] := by rw [List.getD_eq_getElem?_getD, List.getElem?_eq_getElem il]; rfl
        rw [this]; exact ok.nine _ (List.getElem_mem il)
      have tl := txN_len p i
      have fl1 : (figT p i).length ≤ 1 := figT_len p _
      have dl1 : ((p.s.drop i).take 1).length ≤ 1 := by rw [List.length_take]; omega
      have sL : (L (TX.T p.s)).length = p.s.length := by rw [L_T]
      have cutE : cutS (TX.T p.s) (some (i : Int)) (some ((i : Int) + 1)) = TX.T ((p.s.drop i).take 1) := by
        rcases Nat.lt_or_ge i p.s.length with h | h
        · have e : ((i : Int) + 1) = ((i + 1 : Nat) : Int) := by omega
          rw [e, cut_from _ _ _ (Nat.le_succ _) (by rw [sL]; omega), L_T]
          congr 2
          omega
        · have e : i = p.s.length := by omega
          subst e
          rw [List.drop_length]
          have c1 : (cutS (TX.T p.s) (some ((p.s.length : Nat) : Int)) (some (((p.s.length : Nat) : Int) + 1))) = TX.T [] := by
            unfold cutS
            have h1 : HT.sIx (TX.T p.s).length 0 (some ((p.s.length : Nat) : Int)) = p.s.length := by rw [HT.sIx_nat, tS]; omega
            rw [h1]
            have h2 : (TX.T p.s).cps.toList = p.s := L_T _
            rw [h2, List.drop_length, List.take_nil]
          exact c1
      refine s_asg (v := .str (TX.T (txN p (i + 1)))) (ev_is (ev_op (ev_op (ev_var rfl) (ev_if (v := .str (TX.T (figT p i))) (et_B (ev_din (k := .inl (i : Int)) (ev_var rfl) (ev_var rfl) (Or.inl (eH _ _ hd)))) (fun hb => ?_) (fun hb => ?_)) (rv_addS (by rw [len_T, len_T]; omega))) (ev_slS (w := TX.T p.s) (lo := some (i : Int)) (hi := some ((i : Int) + 1)) (ev_var rfl) (eo_some (ev_var rfl)) (eo_some (ev_op (ev_var rfl) ev_c rv_I0)) (by rw [tS]; omega)) (rv_addS ?_)) ?_) fun H3 e3 => ⟨eH.trans e3, _, rfl⟩
      · by_cases h0 : p.f.getD i 0 ≠ 0
        · rw [if_pos ⟨by omega, h0⟩] at fi
          have e : figT p i = [48 + p.f.getD i 0] := if_pos h0
          rw [e, ← dig_str h0 f9]
          refine ev_cb (ea_cons (ev_dgetK (k := .inl (i : Int)) (ev_var rfl) (ev_var rfl) (Or.inl (eH _ _ hd)) fi) ea_nil) (rc_strI ?_)
          have : ((p.f.getD i 0 : Nat) : Int).natAbs ≤ 9 := by omega
          exact Nat.lt_of_le_of_lt (Nat.log2_le_self _) (by omega)
        · rw [if_neg (fun q => h0 q.2)] at fi
          rw [fi] at hb
          cases hb
      · by_cases h0 : p.f.getD i 0 ≠ 0
        · rw [if_pos ⟨by omega, h0⟩] at fi
          rw [fi] at hb
          cases hb
        · have e : figT p i = [] := if_neg h0
          rw [e]
          exact ev_c
      · rw [cutE, len_L, L_add, List.length_append, L_T, L_T, len_T]
        omega
      · rw [cutE]
        apply congrArg V.str
        apply eq_L
        rw [L_add, L_add, L_T, L_T, L_T, L_T]
        rfl
    · rintro σ' H' ⟨eH, v4, rfl⟩
      have : ((p.s.length : Int) + 1).toNat = p.s.length + 1 := by omega
      rw [this]
      exact s_ret (ev_var rfl) fun H3 e3 => kk H3 (eH.trans e3)
/-! ### the law's words -/
def spAsk : Sp := fun vs H Q _ => ∃ n : Int, vs = [.int n] ∧ ∀ wd H', Ex H H' → vW (.str (TX.T wd)) = true → Q (.str (TX.T wd)) H'
theorem ok_l_asked (T : Txt K mg A) : FnOk P w K mg base CX0 2 A.f_l_asked A.d_l_asked P_l_asked spAsk := by
  refine T.F_l_asked.ok sc_l_asked (fun vs H Q E h => ?_) (fun cdv A' outer s H vs Q E hr h => ?_)
  · obtain ⟨n, rfl, _⟩ := h
    rfl
  · obtain ⟨n, rfl, kk⟩ := h
    refine ⟨_, (pss_cons (ps_set (i := 1) sc_l_asked.nd rfl (Or.inr rfl) (pe_ix ix_list (pe_lst (pa_cons pe_str (pa_cons pe_str (pa_cons pe_str pa_nil)))) (pe_op op_mod (pv 0) pe_int) (fun _ _ => rfl)))
      (pss_cons (ps_setLc (i := 2) (own := [("_law_k", 3)]) (by rfl) sc_l_asked.nd rfl rfl (sw_true rfl rfl rfl (by decide +kernel)) (pi_range1 rfl T.n_range (pa_cons (pe_op op_add pe_int (pe_op op_mod (pe_op op_fdiv (pv 0) pe_int) pe_int)) pa_nil)) (blkOk_by (own := [("_law_k", 3)]) (N := N_l_asked) (sc := defScope s_l_asked) (by decide +kernel)) (fun _ _ _ _ _ => (pg_name (i := 3) sc_l_asked.nd rfl (Or.inl rfl))) (fun _ _ _ _ _ => pts_nil) (fun _ _ _ _ _ => (pe_call (ok_l_mixed T) hr rfl T.g_l_mixed T.k_l_mixed T.b_l_mixed .nil pass0 (pa_cons (pv 0) (pa_cons (pe_op op_add pe_int (pv 3)) pa_nil)))))
      (pss_one (ps_ret (pe_join pe_str (pe_lc (own := [("_law_number", 4)]) (by rfl) sc_l_asked.nd (pi_list (pv 2)) (blkOk_by (own := [("_law_number", 4)]) (N := N_l_asked) (sc := defScope s_l_asked) (by decide +kernel)) (fun _ _ _ _ _ => (pg_name (i := 4) sc_l_asked.nd rfl (Or.inl rfl))) (fun _ _ _ _ _ => pts_nil) (fun _ _ _ _ _ => (pe_ix ix_str (pv 1) (pe_op op_mod (pv 4) (pe_callB call_len_str (by rfl) T.n_len PySem.boot_len (pa_cons (pv 1) pa_nil))) (fun _ _ => rfl))))))))), ?_⟩
    obtain ⟨ws, hws, wl, w2, w4⟩ := l_letters (i := n % 3) (Int.emod_nonneg _ (by decide)) (Int.emod_lt_of_pos _ (by decide))
    refine q_asg (v := .str ws) (ev_opL1 (el_lst (ea_cons ev_c (ea_cons ev_c (ea_cons ev_c ea_nil))) (by show 3 ≤ 100000; decide)) (fun H2 e2 => ev_op (ev_var rfl) ev_c (rv_I (by show (0 : Int) < _; decide))) (fun p H2 hp e2 => rv_ixL (sq_of hp) hws)) fun H1 e1 => ?_
    have r0 := Int.emod_nonneg (n / 8) (show (16 : Int) ≠ 0 by decide)
    have r1 := Int.emod_lt_of_pos (n / 8) (show (0 : Int) < 16 by decide)
    generalize hm : (1 + n / 8 % 16).toNat = m
    have hm' : 1 + n / 8 % 16 = (m : Int) := by omega
    refine q_asgL (xs := (List.range m).map fun (i : Nat) => V.int (mx n (30 + (i : Int)))) (el_is (el_lcR1 (n := (m : Int)) (fun _ => true) (fun i => V.int (mx n (30 + (i : Int)))) (ea_cons (ev_is (ev_op ev_c (ev_op (ev_op (ev_var rfl) ev_c (rv_I ⟨by decide, by decide⟩)) ev_c (rv_I (by show (0 : Int) < _; decide))) rv_I0) (by rw [hm'])) ea_nil) (by omega) (fun _ => rfl) (fun j H5 e5 hj => et_yes) (fun j H5 e5 hj _ => ev_call (ea_cons (ev_var rfl) (ea_cons (ev_op ev_c (ev_var rfl) rv_I0) ea_nil)) (mx_v (by omega) (by omega)))) (by rw [given_all]; rfl)) fun pn H3 _ e3 hn => ?_
    have wc : ws.length = ws.cps.toList.length := len_L ws
    have wpos : (0 : Int) < (ws.length : Int) := by omega
    refine s_ret (v := .str (drawnW ws m fun (i : Nat) => mx n (30 + (i : Int)) % (ws.length : Int))) (el_drawn (g := fun (i : Nat) => mx n (30 + (i : Int))) (ev_var rfl) hn (by omega) (fun _ => rfl) fun i H4 e4 hi => ev_sgn (ev_var rfl) (ev_op (ev_var rfl) (ev_cb (ea_cons (ev_var rfl) ea_nil) (rc_lenS (by omega))) (rv_I wpos)) (by omega) (Int.emod_nonneg _ (by omega)) (by rw [← wc]; exact Int.emod_lt_of_pos _ wpos)) fun H4 e4 => ?_
    have Wlen := drawnW_len ws m fun (i : Nat) => mx n (30 + (i : Int)) % (ws.length : Int)
    have Wlet := drawnW_lets wl m (fun (i : Nat) => mx n (30 + (i : Int)) % (ws.length : Int)) fun i => ⟨Int.emod_nonneg _ (by omega), by rw [← wc]; exact Int.emod_lt_of_pos _ wpos⟩
    generalize (drawnW ws m fun (i : Nat) => mx n (30 + (i : Int)) % (ws.length : Int)) = W at Wlen Wlet
    rw [← T_L W]
    refine kk (L W) H4 ((e1.trans e3).trans e4) ?_
    rw [T_L]
    show (lets W && (decide (1 ≤ W.length) && decide (W.length ≤ 16))) = true
    rw [Wlet, Wlen, Bool.true_and, Bool.and_eq_true, decide_eq_true_eq, decide_eq_true_eq]
    omega

/-! ### the mathematics of what counts -/
def hit (E : List Nat) (p : PatD) (i g : Nat) : Nat := if (E.drop i).take p.s.length = p.s ∧ i ≤ g ∧ g < i + p.f.length then p.f.getD (g - i) 0 else 0
theorem cntTo_le (E : List Nat) (p : PatD) (F : Nat → Nat) (g b : Nat) : ∀ m, cntTo E p F m g ≤ b ↔ F g ≤ b ∧ ∀ i, i < m → hit E p i g ≤ b
  | 0 => ⟨fun h => ⟨h, fun i hi => absurd hi (Nat.not_lt_zero i)⟩, fun h => h.1⟩
  | m + 1 => by
    have ih := cntTo_le E p F g b m
    have step : cntTo E p F (m + 1) g ≤ b ↔ cntTo E p F m g ≤ b ∧ hit E p m g ≤ b := by
      show stepAt E p (cntTo E p F m) m g ≤ b ↔ _
      unfold stepAt hit
      by_cases h1 : (E.drop m).take p.s.length = p.s
      · rw [if_pos h1]
        unfold bump
        by_cases h2 : m ≤ g ∧ g < m + p.f.length
        · rw [if_pos h2, if_pos ⟨h1, h2⟩]
          omega
        · rw [if_neg h2, if_neg (fun q => h2 q.2)]
          exact ⟨fun h => ⟨h, Nat.zero_le _⟩, fun h => h.1⟩
      · rw [if_neg h1, if_neg (fun q => h1 q.1)]
        exact ⟨fun h => ⟨h, Nat.zero_le _⟩, fun h => h.1⟩
    rw [step, ih]
    constructor
    · rintro ⟨⟨h1, h2⟩, h3⟩
      refine ⟨h1, fun i hi => ?_⟩
      rcases Nat.lt_succ_iff_lt_or_eq.mp hi with hi | rfl
      · exact h2 i hi
      · exact h3
    · rintro ⟨h1, h2⟩
      exact ⟨⟨h1, fun i hi => h2 i (Nat.lt_succ_of_lt hi)⟩, h2 m (Nat.lt_succ_self m)⟩
theorem foldCnt_le (w : List Nat) (g b : Nat) : ∀ (ps : List PatD) (F : Nat → Nat), (ps.foldl (fun F p => cntTo (ended w) p F ((ended w).length + 1 - p.s.length)) F) g ≤ b ↔ F g ≤ b ∧ ∀ p ∈ ps, ∀ i, i < (ended w).length + 1 - p.s.length → hit (ended w) p i g ≤ b
  | [], F => ⟨fun h => ⟨h, fun p hp => nomatch hp⟩, fun h => h.1⟩
  | p :: ps, F => by
    rw [List.foldl_cons, foldCnt_le w g b ps, cntTo_le]
    constructor
    · rintro ⟨⟨h1, h2⟩, h3⟩
      refine ⟨h1, fun q hq => ?_⟩
      rcases List.mem_cons.mp hq with rfl | hq
      · exact h2
      · exact h3 q hq
    · rintro ⟨h1, h2⟩
      exact ⟨⟨h1, h2 p List.mem_cons_self⟩, fun q hq => h2 q (List.mem_cons_of_mem _ hq)⟩
theorem cntAll_le (w : List Nat) (ps : List PatD) (g b : Nat) : cntAll w ps g ≤ b ↔ ∀ p ∈ ps, ∀ i, i < (ended w).length + 1 - p.s.length → hit (ended w) p i g ≤ b := by
  unfold cntAll
  rw [foldCnt_le]
  exact ⟨fun h => h.2, fun h => ⟨Nat.zero_le _, h⟩⟩
theorem eq_of_le {x y : Nat} (h : ∀ b, x ≤ b ↔ y ≤ b) : x = y := Nat.le_antisymm ((h y).mpr (Nat.le_refl _)) ((h x).mp (Nat.le_refl _))
theorem cntAll_mem {w : List Nat} {ps qs : List PatD} (h : ∀ p, p ∈ ps ↔ p ∈ qs) : cntAll w ps = cntAll w qs := funext fun g => eq_of_le fun b => by
  rw [cntAll_le, cntAll_le]
  exact ⟨fun q p hp => q p ((h p).mpr hp), fun q p hp => q p ((h p).mp hp)⟩
theorem cntAll_sub {w : List Nat} {ps qs : List PatD} (h : ∀ p, p ∈ ps → p ∈ qs) (g : Nat) : cntAll w ps g ≤ cntAll w qs g :=
  (cntAll_le w ps g _).mpr fun p hp => (cntAll_le w qs g _).mp (Nat.le_refl _) p (h p hp)
theorem cntAll_nine {w : List Nat} {ps : List PatD} (h : ∀ p ∈ ps, p.Ok) (g : Nat) : cntAll w ps g ≤ 9 := (cntAll_le w ps g 9).mpr fun p hp i hi => by
  unfold hit
  split
  · rw [List.getD_eq_getElem?_getD]
    cases hx : p.f[g - i]? with
    | none => exact Nat.zero_le _
    | some x => exact (h p hp).nine x (List.mem_of_getElem? hx)
  · exact Nat.zero_le _
/-- place by place the greatest -/
def mxF (Fs : List (Nat → Nat)) : Nat → Nat := Fs.foldl (fun G F j => max (G j) (F j)) fun _ => 0
theorem mxF_snoc (Fs : List (Nat → Nat)) (F : Nat → Nat) : mxF (Fs ++ [F]) = fun j => max (mxF Fs j) (F j) := by unfold mxF; rw [List.foldl_append]; rfl
theorem foldF_le (j b : Nat) : ∀ (Fs : List (Nat → Nat)) (G : Nat → Nat), (Fs.foldl (fun G F j => max (G j) (F j)) G) j ≤ b ↔ G j ≤ b ∧ ∀ F ∈ Fs, F j ≤ b
  | [], G => ⟨fun h => ⟨h, fun p hp => nomatch hp⟩, fun h => h.1⟩
  | F :: Fs, G => by
    rw [List.foldl_cons, foldF_le j b Fs]
    constructor
    · rintro ⟨h1, h3⟩
      refine ⟨by omega, fun q hq => ?_⟩
      rcases List.mem_cons.mp hq with rfl | hq
      · omega
      · exact h3 q hq
    · rintro ⟨h1, h2⟩
      have := h2 F List.mem_cons_self
      exact ⟨by omega, fun q hq => h2 q (List.mem_cons_of_mem _ hq)⟩
theorem mxF_le (Fs : List (Nat → Nat)) (j b : Nat) : mxF Fs j ≤ b ↔ ∀ F ∈ Fs, F j ≤ b := by
  unfold mxF
  rw [foldF_le]
  exact ⟨fun h => h.2, fun h => ⟨Nat.zero_le _, h⟩⟩
theorem mxF_singles (w : List Nat) (ps : List PatD) : mxF (ps.map fun p j => cntAll w [p] (j + 2)) = fun j => cntAll w ps (j + 2) := funext fun j => eq_of_le fun b => by
  rw [mxF_le, cntAll_le]
  constructor
  · intro h p hp
    exact (cntAll_le w [p] (j + 2) b).mp (h _ (List.mem_map.mpr ⟨p, hp, rfl⟩)) p List.mem_cons_self
  · intro h F hF
    obtain ⟨p, hp, rfl⟩ := List.mem_map.mp hF
    refine (cntAll_le w [p] (j + 2) b).mpr fun q hq => ?_
    rw [List.mem_singleton.mp hq]
    exact h p hp
/-! ### the mathematics of the pieces -/
theorem ptS_flat (ps : List PatD) (w : List Nat) : ∀ i, i ≤ w.length → (ptS ps w i).1.flatten = w.take (ptS ps w i).2
  | 0, _ => by rw [show ptS ps w 0 = ([], 0) from rfl]; rfl
  | i + 1, hi => by
    have ih := ptS_flat ps w i (by omega)
    have le := ptS_le ps w i
    unfold ptS
    split
    · show ((ptS ps w i).1 ++ [(w.drop (ptS ps w i).2).take (i + 1 - (ptS ps w i).2)]).flatten = w.take (i + 1)
      rw [List.flatten_append, ih, List.flatten_cons, List.flatten_nil, List.append_nil]
      have e : i + 1 = (ptS ps w i).2 + (i + 1 - (ptS ps w i).2) := by omega
      conv => rhs; rw [e, List.take_add]
    · exact ih
theorem pcs_flat (ps : List PatD) (w : List Nat) : (pcs ps w).flatten = w := by
  unfold pcs
  rw [List.flatten_append, ptS_flat ps w _ (by omega), List.flatten_cons, List.flatten_nil, List.append_nil, List.take_append_drop]
theorem ptS_ne (ps : List PatD) (w : List Nat) : ∀ i, i ≤ w.length → ∀ y ∈ (ptS ps w i).1, y ≠ []
  | 0, _, y, hy => nomatch hy
  | i + 1, hi, y, hy => by
    have ih := ptS_ne ps w i (by omega)
    have le := ptS_le ps w i
    unfold ptS at hy
    split at hy
    · rcases List.mem_append.mp hy with hy | hy
      · exact ih y hy
      · rw [List.mem_singleton.mp hy]
        intro e
        have := congrArg List.length e
        rw [List.length_take, List.length_drop] at this
        simp at this
        omega
    · exact ih y hy
theorem ptS_lt (ps : List PatD) (w : List Nat) (hw : 1 ≤ w.length) : ∀ i, (ptS ps w i).2 < w.length
  | 0 => hw
  | i + 1 => by
    have ih := ptS_lt ps w hw i
    unfold ptS
    split
    · rename_i h
      unfold cutOk at h
      rw [Bool.and_eq_true, Bool.and_eq_true, decide_eq_true_eq, decide_eq_true_eq, decide_eq_true_eq] at h
      show i + 1 < w.length
      omega
    · exact ih
theorem pcs_ne (ps : List PatD) (w : List Nat) (hw : 1 ≤ w.length) : ∀ y ∈ pcs ps w, y ≠ [] := fun y hy => by
  unfold pcs at hy
  rcases List.mem_append.mp hy with hy | hy
  · exact ptS_ne ps w _ (by omega) y hy
  · rw [List.mem_singleton.mp hy]
    intro e
    have := congrArg List.length e
    rw [List.length_drop] at this
    have l := ptS_lt ps w hw (w.length - 1)
    simp at this
    omega
/-- the borders of pieces -/
def cum (l : List (List Nat)) : List Nat := l.foldl (fun a y => a ++ [y.length + a.getLastD 0]) []
theorem cum_snoc (l : List (List Nat)) (y : List Nat) : cum (l ++ [y]) = cum l ++ [y.length + (cum l).getLastD 0] := by unfold cum; rw [List.foldl_append]; rfl
theorem cum_len (l : List (List Nat)) : (cum l).length = l.length := by
  rcases List.eq_nil_or_concat l with rfl | ⟨r, y, rfl⟩
  · rfl
  · have := cum_len r
    rw [List.concat_eq_append, cum_snoc, List.length_append, List.length_append, this]
    rfl
termination_by l.length
decreasing_by subst_vars; simp
theorem ptS_cum (ps : List PatD) (w : List Nat) : ∀ i, i ≤ w.length → cum (ptS ps w i).1 = (List.range (i + 1)).filter (cutOk ps w) ∧ (cum (ptS ps w i).1).getLastD 0 = (ptS ps w i).2
  | 0, _ => by
    refine ⟨?_, rfl⟩
    have : cutOk ps w 0 = false := by unfold cutOk; rw [decide_eq_false (by omega : ¬ 2 ≤ 0), Bool.false_and, Bool.and_false]
    rw [show ptS ps w 0 = ([], 0) from rfl, show List.range (0 + 1) = [0] from rfl, List.filter_cons_of_neg (by rw [this]; exact Bool.false_ne_true)]
    rfl
  | i + 1, hi => by
    obtain ⟨h1, h2⟩ := ptS_cum ps w i (by omega)
    have le := ptS_le ps w i
    rw [List.range_succ, List.filter_append, show ptS ps w (i + 1) = (if cutOk ps w (i + 1) = true then ((ptS ps w i).1 ++ [(w.drop (ptS ps w i).2).take (i + 1 - (ptS ps w i).2)], i + 1) else ptS ps w i) from rfl, ← h1]
    by_cases hc : cutOk ps w (i + 1) = true
    · rw [if_pos hc, List.filter_cons_of_pos hc]
      have l : ((w.drop (ptS ps w i).2).take (i + 1 - (ptS ps w i).2)).length + (cum (ptS ps w i).1).getLastD 0 = i + 1 := by
        rw [h2, List.length_take, List.length_drop]
        omega
      show cum ((ptS ps w i).1 ++ [(w.drop (ptS ps w i).2).take (i + 1 - (ptS ps w i).2)]) = _ ∧ (cum ((ptS ps w i).1 ++ [(w.drop (ptS ps w i).2).take (i + 1 - (ptS ps w i).2)])).getLastD 0 = i + 1
      rw [cum_snoc, l]
      exact ⟨rfl, by simp⟩
    · rw [if_neg hc, List.filter_cons_of_neg hc]
      exact ⟨(List.append_nil _).symm, h2⟩
theorem due_eq (p : Nat → Bool) (n : Nat) (h0 : p 0 = false) (h1 : p 1 = false) (hn : ∀ k, p k = true → k + 2 ≤ n) : (List.range (n - 1 + 1)).filter p = ((List.range (n - 3)).filter fun i => p (i + 2)).map (· + 2) := by
  have nf : ∀ k, n < k + 2 → p k = false := fun k hk => by
    cases hp : p k with
    | false => rfl
    | true => have := hn k hp; omega
  rcases Nat.lt_or_ge n 3 with h | h
  · have e : (List.range (n - 3)) = [] := by rw [show n - 3 = 0 by omega]; rfl
    rw [e]
    rw [List.filter_eq_nil_iff.mpr]
    · rfl
    · intro k hk
      have := List.mem_range.mp hk
      have : p k = false := by
        have : k = 0 ∨ k = 1 := by omega
        rcases this with rfl | rfl
        · exact h0
        · exact h1
      rw [this]
      exact Bool.false_ne_true
  · obtain ⟨m, rfl⟩ : ∃ m, n = m + 3 := ⟨n - 3, by omega⟩
    have e1 : m + 3 - 1 + 1 = m + 1 + 1 + 1 := by omega
    have e2 : m + 3 - 3 = m := by omega
    rw [e1, e2, List.range_succ_eq_map, List.filter_cons_of_neg (by rw [h0]; exact Bool.false_ne_true), List.range_succ_eq_map, List.map_cons, List.filter_cons_of_neg (by rw [h1]; exact Bool.false_ne_true), List.map_map, List.filter_map, List.range_succ, List.filter_append]
    have nm : (p ∘ Nat.succ ∘ Nat.succ) m = false := nf (m + 2) (by omega)
    rw [List.filter_cons_of_neg (by rw [nm]; exact Bool.false_ne_true), List.filter_nil, List.append_nil]
    rfl

/-! ### shared by the laws -/
theorem sh_flat {xs : List V} (hf : xs.all flatOk = true) : SeqAt.shaped (.list (xs.map dpOf)) = true := shaped_flat hf
/-- two lists of flat values, alike -/
theorem et_neL {σ : L2.St} {H : Hp} {ta tb : TE} {xs : List V} (ha : EvG (fun H1 v => Dp K H1 v (.list (xs.map dpOf))) ta σ H) (hb : ∀ H1, Ex H H1 → EvG (fun H1 v => Dp K H1 v (.list (xs.map dpOf))) tb σ H1) (hf : xs.all flatOk = true) :
    EvT (tTest (tOp (rNeD K) ta tb)) σ H false := et_is (et_neD ha hb (shaped_flat hf) (shaped_flat hf)) (by rw [eqvs_self hf]; rfl)
theorem eg_dv {σ : L2.St} {H : Hp} {te : TE} {p : Addr} {xs : List V} (h : Ev te σ H (.ref p)) (hp : H p = some (.lst xs)) (hf : xs.all flatOk = true) : EvG (fun H1 v => Dp K H1 v (.list (xs.map dpOf))) te σ H :=
  eg_v h fun H1 e => .lst (sq_of (e _ _ hp)) (dps_flat hf)
theorem eg_dl {σ : L2.St} {H : Hp} {te : TE} {xs : List V} (h : EvL te σ H xs) (hf : xs.all flatOk = true) : EvG (fun H1 v => Dp K H1 v (.list (xs.map dpOf))) te σ H :=
  eg_l h fun a H1 ha => .lst (sq_of ha) (dps_flat hf)
theorem cntL_flat (n : Nat) (F : Nat → Nat) : (cntL n F).all flatOk = true := by
  rw [List.all_eq_true]
  intro v hv
  unfold cntL at hv
  obtain ⟨g, _, rfl⟩ := List.mem_map.mp hv
  rfl
theorem gaps_cnt (ps : List PatD) (w : List Nat) : gaps ps w = cntL (w.length - 1) fun j => cntAll w ps (j + 2) := rfl
theorem strL_flat {l : List (List Nat)} (h : ∀ y ∈ l, ∀ c ∈ y, c < 0x110000) : (strL l).all flatOk = true := by
  rw [List.all_eq_true]
  intro v hv
  unfold strL at hv
  obtain ⟨y, hy, rfl⟩ := List.mem_map.mp hv
  show (TX.T y).cps.all (· < 0x110000) = true
  rw [Array.all_eq_true']
  intro c hc
  have : c ∈ y := by
    have h2 : c ∈ (TX.T y).cps.toList := Array.mem_toList_iff.mpr hc
    have h3 : (TX.T y).cps.toList = y := L_T y
    rwa [h3] at h2
  exact decide_eq_true (h y hy c this)
theorem join_T (l : List (List Nat)) : Txt.join "" (l.map TX.T) = TX.T l.flatten := by
  apply eq_L
  show (Txt.join "" (l.map TX.T)).cps.toList = _
  rw [join0, L_T, List.map_map]
  congr 1
  conv => rhs; rw [← List.map_id l]
  exact List.map_congr_left fun y _ => L_T y
theorem cut_last {l : List V} (v : V) : cutV (l ++ [v]) none (some (-1)) = l := by
  unfold cutV
  have h1 : HT.sIx (l ++ [v]).length 0 none = 0 := rfl
  have h2 : HT.sIx (l ++ [v]).length (l ++ [v]).length (some (-1)) = l.length := by
    show (if (-1 : Int) < 0 then ((-1 : Int) + (((l ++ [v]).length : Nat) : Int)).toNat else min (-1 : Int).toNat (l ++ [v]).length) = _
    rw [if_pos (by decide), List.length_append]
    show ((-1 : Int) + ((l.length + 1 : Nat) : Int)).toNat = _
    omega
  rw [h1, h2]
  show (l ++ [v]).take (l.length - 0) = l
  rw [Nat.sub_zero, List.take_left]
theorem el_lcR2 {σ : L2.St} {H : Hp} {t : TT} {te : TE} {ta : TA} {j : Nat} {vs : List Nat} {lo n : Int} (f : Nat → Bool) (v : Nat → V) (h : EvA ta σ H [.int lo, .int n]) (hn : 0 ≤ lo ∧ lo ≤ 40000 ∧ -40000 ≤ n ∧ n ≤ 40000) (hw : ∀ x, wipe ((wipe σ vs).set j (some x)) vs = wipe σ vs)
    (ht : ∀ (i : Nat) H1, Ex H H1 → lo + (i : Int) < n → EvT t ((wipe σ vs).set j (some (.int (lo + (i : Int))))) H1 (f i)) (he : ∀ (i : Nat) H1, Ex H H1 → lo + (i : Int) < n → f i = true → Ev te ((wipe σ vs).set j (some (.int (lo + (i : Int))))) H1 (v i)) :
    EvL (tLc (iRng2 ta) (gName j) t te vs) σ H (given (n - lo).toNat f v) := fun H0 e Q q => h H0 e _ fun H1 e1 => ⟨lo, n, rfl, ⟨by omega, by omega, by omega, by omega⟩, fun Dl hD =>
  lc_range (lo := lo) (n := (n - lo).toNat) (Cw H1 f v Dl) ⟨hD, Ex.new hD, upd_same⟩ (fun i H' hi p =>
    ⟨hw _, cw_turn p (by omega) (ht i H1 (e.trans e1) (by omega)) (fun hf => he i H1 (e.trans e1) (by omega) hf)⟩) (fun H' p => q Dl H' (fresh_back e1 p.1) (e1.trans p.2.1) p.2.2)⟩
theorem en_ptn {σ : L2.St} {H : Hp} {ta : TA} {E : XK} {n : Int} (h : EvA ta σ H [.int n]) : EvN (fun H v => ∃ p, PtnAt H v p) (tCall spPtn [] E ta) σ H := fun H1 e Q q =>
  h H1 e _ fun H2 e2 => ⟨n, rfl, fun p v H3 e3 hn => q v H3 (e2.trans e3) ((hn.imp fun _ h => ⟨p, h⟩).back e2)⟩
theorem ev_call3L {σ : L2.St} {H : Hp} {ta tb tc : TE} {x y z : V} {xs : List V} {sp : Sp} {E : XK} (h1 : Ev ta σ H x) (h2 : Ev tb σ H y) (h3 : EvL tc σ H xs)
    (hs : ∀ p H1, Ex H H1 → H1 p = some (.lst xs) → ∀ Q : VK, (∀ H2, Ex H1 H2 → Q z H2) → sp [x, y, .ref p] H1 Q E) : Ev (tCall sp [] E (tCons ta (tCons tb (tCons tc tNil)))) σ H z := fun H1 e Q q =>
  h1 H1 e _ fun H2 e2 => h2 H2 (e.trans e2) _ fun H3 e3 => h3 H3 ((e.trans e2).trans e3) _ fun p H4 _ e4 h4 => hs p H4 (((e.trans e2).trans e3).trans e4) h4 Q fun H5 e5 => q H5 (((e2.trans e3).trans e4).trans e5)
theorem el_callLN {σ : L2.St} {H : Hp} {ta tb : TE} {y : V} {xs : List V} {sp : Sp} {E : XK} {P : Nat → Hp → V → Prop} {n : Nat} (h1 : EvLN P n ta σ H) (h2 : ∀ H1, Ex H H1 → Ev tb σ H1 y)
    (hs : ∀ r rs H1, Ex H H1 → rs.length = n → H1 r = some (.lst rs) → (∀ i x, rs[i]? = some x → P i H1 x) → ∀ Q : VK, RetL xs H1 Q → sp [.ref r, y] H1 Q E) (mo : ∀ i H H' v, Ex H H' → P i H v → P i H' v) : EvL (tCall sp [] E (tCons ta (tCons tb tNil))) σ H xs := fun H1 e Q q =>
  h1 H1 e _ fun r rs H2 nr e2 hl hn => h2 H2 (e.trans e2) H2 (Ex.refl _) _ fun H3 e3 => hs r rs H3 ((e.trans e2).trans e3) hl (e3 _ _ hn.here.1) (fun i x hx => mo _ _ _ _ e3 (hn.here.2 i x hx)) Q fun p H4 np e4 h4 => q p H4 (fresh_back (e2.trans e3) np) ((e2.trans e3).trans e4) h4
theorem th_word {w : List Nat} (h : vW (.str (TX.T w)) = true) {H : Hp} : Thing H (.str (TX.T w)) := by
  obtain ⟨w1, w16, ws⟩ := vW_T h
  refine ⟨by show (TX.T w).length ≤ 1000; rw [len_T]; omega, ?_⟩
  rw [List.all_eq_true]
  intro c hc
  have e : (TX.T w).cps.toList = w := L_T _
  rw [e] at hc
  have := small_bd (ws c hc)
  exact decide_eq_true (by omega)
theorem el_counts {σ : L2.St} {H : Hp} {i j : Nat} {x dl : Addr} {ps : List PatD} {wd : List Nat} {E : XK} (hP : ParterAt A H x ps dl) (hx : σ[i]? = some (some (.ref x))) (hw : σ[j]? = some (some (.str (TX.T wd)))) (vw : vW (.str (TX.T wd)) = true) :
    EvL (tMeth A.c_Parter "counts" (spCounts A) [] E (tVar i) (tCons (tVar j) tNil)) σ H (gaps ps wd) := by
  have hP0 := hP
  obtain ⟨dx, pl, qs, h, _⟩ := hP0
  refine el_methL (ev_var hx) h pa_counts (ea_cons (ev_var hw) ea_nil) fun H1 e1 Q q E => ⟨x, dl, _, ps, rfl, hP.mono e1, th_word vw, fun w' e _ => ?_, fun h => ?_⟩
  · have := T_inj (V.str.inj e)
    subst this
    exact q
  · rw [vw] at h
    cases h
theorem el_parts {σ : L2.St} {H : Hp} {i j : Nat} {x dl : Addr} {ps : List PatD} {wd : List Nat} {E : XK} (hP : ParterAt A H x ps dl) (hd : H dl = some (.dK [])) (hx : σ[i]? = some (some (.ref x))) (hw : σ[j]? = some (some (.str (TX.T wd)))) (vw : vW (.str (TX.T wd)) = true) :
    EvL (tMeth A.c_Parter "parts" (spParts A) [] E (tVar i) (tCons (tVar j) tNil)) σ H (strL (pcs ps wd)) := by
  have hP0 := hP
  obtain ⟨dx, pl, qs, h, _⟩ := hP0
  refine el_methL (ev_var hx) h pa_parts (ea_cons (ev_var hw) ea_nil) fun H1 e1 Q q E => ⟨x, dl, _, ps, [], rfl, hP.mono e1, e1 _ _ hd, th_word vw, fun w' e _ => ⟨fun _ => ?_, fun u hu => by cases hu⟩, fun h => ?_⟩
  · have := T_inj (V.str.inj e)
    subst this
    exact q
  · rw [vw] at h
    cases h
theorem pcs_bd {ps : List PatD} {w : List Nat} (h : vW (.str (TX.T w)) = true) : (strL (pcs ps w)).all flatOk = true := strL_flat fun y hy c hc => by
  have hc' : c ∈ w := by
    have : c ∈ (pcs ps w).flatten := List.mem_flatten.mpr ⟨y, hy, hc⟩
    rwa [pcs_flat] at this
  have := small_bd ((vW_T h).2.2 c hc')
  omega
theorem pats_txt : ∀ {ps : List PatD}, (∀ p ∈ ps, GoodPt p) → patsOf (strL (ps.map txt)) = some ps
  | [], _ => rfl
  | p :: ps, h => by
    show (patV (.str (TX.T (txt p)))).bind (fun p => (patsOf (strL (ps.map txt))).map (p :: ·)) = _
    rw [pats_txt fun q hq => h q (List.mem_cons_of_mem _ hq)]
    show (patF (L (TX.T (txt p)))).bind _ = _
    rw [L_T, pat_txt (h p List.mem_cons_self)]
    rfl
theorem txt_things {ps : List PatD} (h : ∀ p ∈ ps, GoodPt p) {H : Hp} : ∀ y ∈ strL (ps.map txt), Thing H y := fun y hy => by
  unfold strL at hy
  rw [List.map_map] at hy
  obtain ⟨p, hp, rfl⟩ := List.mem_map.mp hy
  have G := h p hp
  have p8 := G.ok.eight
  have tl := txN_len p (p.s.length + 1)
  refine ⟨?_, ?_⟩
  · show (TX.T (txt p)).length ≤ 1000
    rw [len_T]
    show (txN p (p.s.length + 1)).length ≤ 1000
    omega
  · rw [List.all_eq_true]
    intro c hc
    have e : (TX.T (txt p)).cps.toList = txt p := L_T _
    rw [e] at hc
    have bd : ∀ k, ∀ c ∈ txN p k, c < 1114112 := fun k => by
      induction k with
      | zero => intro c hc; cases hc
      | succ k ih =>
        intro c hc
        have hc' : c ∈ txN p k ++ figT p k ++ (p.s.drop k).take 1 := hc
        rcases List.mem_append.mp hc' with hc' | hc'
        · rcases List.mem_append.mp hc' with hc' | hc'
          · exact ih c hc'
          · unfold figT at hc'
            split at hc'
            · rw [List.mem_singleton.mp hc']
              have : p.f.getD k 0 ≤ 9 := by
                rw [List.getD_eq_getElem?_getD]
                cases hx : p.f[k]? with
                | none => exact Nat.zero_le _
                | some x => exact G.ok.nine x (List.mem_of_getElem? hx)
              omega
            · cases hc'
        · have := G.bd c (List.mem_of_mem_drop (List.mem_of_mem_take hc'))
          omega
    exact decide_eq_true (bd _ c hc)
theorem en_parter (T : Txt K mg A) {σ : L2.St} {H : Hp} {te : TE} {ps : List PatD} (h : EvL te σ H (strL (ps.map txt))) (hG : ∀ p ∈ ps, GoodPt p) (hl : ps.length ≤ 200) : EvN (ParterN A ps) (tMake A.c_Parter (spParter A) [] E0 (tCons te tNil)) σ H :=
  en_makeL h fun H1 a x dx e1 ha hx hdx hxd Q q => by
    have nxa : a ≠ x := fun e => by rw [e, hx] at ha; cases ha
    have nda : a ≠ dx := fun e => by rw [e, hdx] at ha; cases ha
    have ha2 : (upd (upd H1 dx (.own x)) x (.ins A.c_Parter dx [])) a = some (.lst (strL (ps.map txt))) := by rw [upd_ne nxa, upd_ne nda]; exact ha
    have sl : (strL (ps.map txt)).length = ps.length := by unfold strL; rw [List.length_map, List.length_map]
    refine ⟨x, dx, .ref a, rfl, upd_same, Or.inl ⟨_, ha2⟩, fun a' xs ea hxs _ => ?_, fun a' xs qs ea hxs _ hq H' kp n => ?_, fun hn => ?_⟩
    · cases ea
      rw [ha2] at hxs
      cases hxs
      exact txt_things hG
    · cases ea
      rw [ha2] at hxs
      cases hxs
      rw [pats_txt hG] at hq
      cases hq
      refine q H' kp fun H'' k'' => n H'' fun b o hb ho => k'' b o ?_ ho
      rcases hb with hb | rfl
      · by_cases h1 : b = x
        · rw [h1]; exact hx
        · rw [upd_ne h1] at hb
          by_cases h2 : b = dx
          · rw [h2]; exact hdx
          · rw [upd_ne h2] at hb; exact hb
      · exact hx
    · have hq := hn a _ rfl ha2 (by rw [sl]; exact hl)
      rw [pats_txt hG] at hq
      cases hq
theorem el_catVV {σ : L2.St} {H : Hp} {ta tb : TE} {xs ys : List V} {p p' : Addr} (ha : Ev ta σ H (.ref p)) (hb : Ev tb σ H (.ref p')) (hp : H p = some (.lst xs)) (hp' : H p' = some (.lst ys)) (hz : xs.length + ys.length ≤ 100000) :
    EvL (tOp rCat ta tb) σ H (xs ++ ys) := fun H1 e Q q =>
  ha H1 e _ fun H2 e2 => hb H2 (e.trans e2) _ fun H3 e3 =>
    ⟨p, p', xs, ys, rfl, rfl, ((e.trans e2).trans e3) _ _ hp, ((e.trans e2).trans e3) _ _ hp', sz_of hz, fun l hl => q l _ (fresh_back (e2.trans e3) hl) ((e2.trans e3).trans (Ex.new hl)) upd_same⟩
theorem cut_first (xs : List V) (n : Nat) (h : xs.length ≤ n) : cutV xs none (some (n : Int)) = xs := by
  unfold cutV
  rw [HT.sIx_none, HT.sIx_nat]
  show xs.take (min n xs.length - 0) = xs
  rw [List.take_of_length_le (by omega)]
theorem cut_tail (xs : List V) : cutV xs (some 1) none = xs.tail := by
  unfold cutV
  rw [HT.sIx_none]
  have h1 := HT.sIx_nat xs.length 0 1
  rw [show (some (1 : Int)) = some ((1 : Nat) : Int) from rfl, h1]
  cases xs with
  | nil => rfl
  | cons x xs =>
    have e : min 1 (x :: xs).length = 1 := by rw [List.length_cons]; omega
    rw [e]
    show xs.take ((x :: xs).length - 1) = xs
    rw [List.length_cons, Nat.add_sub_cancel, List.take_length]
theorem exists_pw {α β : Type} {R : α → β → Prop} : ∀ (xs : List α), (∀ x ∈ xs, ∃ y, R x y) → ∃ ys, Pw R xs ys
  | [], _ => ⟨[], rfl, fun i x y h => by simp at h⟩
  | x :: xs, h => by
    obtain ⟨y, hy⟩ := h x List.mem_cons_self
    obtain ⟨ys, h1, h2⟩ := exists_pw xs fun z hz => h z (List.mem_cons_of_mem _ hz)
    refine ⟨y :: ys, by rw [List.length_cons, List.length_cons, h1], fun i u v hu hv => ?_⟩
    cases i with
    | zero => cases hu; cases hv; exact hy
    | succ i => exact h2 i u v hu hv
theorem Pw.get {α β : Type} {R : α → β → Prop} {xs : List α} {ys : List β} (h : Pw R xs ys) {i : Nat} {x : α} (hx : xs[i]? = some x) : ∃ y, ys[i]? = some y ∧ R x y := by
  have hi : i < ys.length := h.1 ▸ (List.getElem?_eq_some_iff.mp hx).1
  exact ⟨ys[i], List.getElem?_eq_getElem hi, h.2 i x _ hx (List.getElem?_eq_getElem hi)⟩
theorem Pw.mem {α β : Type} {R : α → β → Prop} {xs : List α} {ys : List β} (h : Pw R xs ys) {y : β} (hy : y ∈ ys) : ∃ x, x ∈ xs ∧ R x y := by
  obtain ⟨i, hi⟩ := List.getElem?_of_mem hy
  have hl : i < xs.length := h.1 ▸ (List.getElem?_eq_some_iff.mp hi).1
  exact ⟨xs[i], List.getElem_mem hl, h.2 i _ y (List.getElem?_eq_getElem hl) hi⟩

/-! ### counted -/
theorem mxL_snoc (S : List Nat) (n b : Nat) : mxL (S ++ [n]) ≤ b ↔ mxL S ≤ b ∧ n ≤ b := by
  rw [mxL_le, mxL_le]
  constructor
  · intro h
    exact ⟨fun m hm => h m (List.mem_append_left _ hm), h n (List.mem_append_right _ List.mem_cons_self)⟩
  · rintro ⟨h1, h2⟩ m hm
    rcases List.mem_append.mp hm with hm | hm
    · exact h1 m hm
    · rw [List.mem_singleton.mp hm]; exact h2
def spCd (K : PySem.W.Frag) : Sp := fun vs H Q _ => ∃ (pp : Addr) (w : List Nat) (xs : List V) (ps : List PatD), vs = [.ref pp, .str (TX.T w)] ∧ H pp = some (.lst xs) ∧ Pw (PtnAt H) xs ps ∧ ps.length ≤ 12 ∧ w.length ≤ 16 ∧ RetL (gaps ps w) H Q
theorem ok_l_counted (T : Txt K mg A) : FnOk P w K mg base CX0 1 A.f_l_counted A.d_l_counted P_l_counted (spCd K) := by
  refine T.F_l_counted.ok sc_l_counted (fun vs H Q E h => ?_) (fun cdv A' outer s H vs Q E hr h => ?_)
  · obtain ⟨pp, w, xs, ps, rfl, _⟩ := h
    rfl
  · obtain ⟨pp, w, xs, ps, rfl, hpp, hR, p12, w16, kk⟩ := h
    refine ⟨_, (pss_cons (ps_set (i := 2) sc_l_counted.nd rfl (Or.inl rfl) (pe_op op_add_str (pe_op op_add_str pe_str (pv 1)) pe_str))
      (pss_cons (ps_set (i := 3) sc_l_counted.nd rfl (Or.inl rfl) (pe_lst pa_nil))
      (pss_cons (ps_for PassesOwn.never rfl (pi_range2 rfl T.n_range (pa_cons pe_int (pa_cons (pe_op op_add (pe_callB call_len_str (by rfl) T.n_len PySem.boot_len (pa_cons (pv 1) pa_nil)) pe_int) pa_nil))) (pg_name (i := 4) sc_l_counted.nd rfl (Or.inl rfl))
      (pss_cons (ps_set (i := 5) sc_l_counted.nd rfl (Or.inl rfl) (pe_lst (pa_cons pe_int pa_nil)))
      (pss_cons (ps_for PassesOwn.never rfl (pi_list (pv 0)) (pg_tup (by rfl) (pgs_cons (pg_name (i := 6) sc_l_counted.nd rfl (Or.inl rfl)) (pgs_cons (pg_name (i := 7) sc_l_counted.nd rfl (Or.inl rfl)) pgs_nil)))
      (pss_one (ps_for PassesOwn.never rfl (pi_range1 rfl T.n_range (pa_cons (pe_op op_add (pe_op op_sub (pe_callB call_len_str (by rfl) T.n_len PySem.boot_len (pa_cons (pv 2) pa_nil)) (pe_callB call_len_str (by rfl) T.n_len PySem.boot_len (pa_cons (pv 6) pa_nil))) pe_int) pa_nil)) (pg_name (i := 8) sc_l_counted.nd rfl (Or.inl rfl))
      (pss_one (ps_if (pt_cmpR op_eq (pe_slice sl_str (pv 2) (po_some (pv 8)) (po_some (pe_op op_add (pv 8) (pe_callB call_len_str (by rfl) T.n_len PySem.boot_len (pa_cons (pv 6) pa_nil))))) (pv 6) (nomark _)) (pss_one (ps_expr (pe_bm PySem.F.plainAttrs_list PySem.F.slot_list_append PySem.F.type_list_append mt_append (pv 5) (pa_cons (pe_dget2 (hu_of hr) (pv 7) (pe_op op_sub (pv 4) (pv 8)) pe_int ⟨rfl, rfl, rfl, rfl⟩) pa_nil)))) pss_nil)))))
      (pss_one (ps_expr (pe_bm PySem.F.plainAttrs_list PySem.F.slot_list_append PySem.F.type_list_append mt_append (pv 3) (pa_cons (pe_callB (cr_max (by rfl)) (by rfl) T.n_max (by decide +kernel) (pa_cons (pv 5) pa_nil)) pa_nil)))))))
      (pss_one (ps_ret (pv 3)))))), ?_⟩
    have wl : (TX.T w).length = w.length := len_T _
    have dl1 : ("." : Str).length = 1 := by decide +kernel
    have dw : ("." ++ TX.T w : Str).length = 1 + w.length := by rw [len_L, L_add, List.length_append, ← len_L, L_T, dl1]
    refine q_asg (v := .str (TX.T (ended w))) (ev_is (ev_op (ev_op ev_c (ev_var rfl) (rv_addS (by rw [dl1, wl]; omega))) ev_c (rv_addS (by rw [dw, dl1]; omega))) (by rw [ended_T])) fun H1 e1 => ?_
    have el : (TX.T (ended w)).length = w.length + 2 := by rw [len_T, ended_len]
    have elL : (L (TX.T (ended w))).length = w.length + 2 := by rw [L_T, ended_len]
    refine q_asgL (xs := []) (el_lst ea_nil (by show 0 ≤ 100000; decide)) fun f H2 nf e2 hf => ?_
    have e02 := e1.trans e2
    have nf0 : H f = none := fresh_back e1 nf
    refine q_forR2 (lo := 2) (n := (w.length : Int) + 1) (ea_cons ev_c (ea_cons (ev_is (ev_op (ev_cb (ea_cons (ev_var rfl) ea_nil) (rc_lenS (by rw [wl]; omega))) ev_c rv_I0) (by rw [wl])) ea_nil)) (by omega)
      (fun i σ' H' => Ex H H' ∧ (∃ v4 v5 v6 v7 v8, σ' = [some (.ref pp), some (.str (TX.T w)), some (.str (TX.T (ended w))), some (.ref f), v4, v5, v6, v7, v8]) ∧ H' f = some (.lst ((List.range i).map fun (j : Nat) => V.int (cntAll w ps (j + 2) : Int))))
      (fun H3 e3 => ⟨e02.trans e3, ⟨none, none, none, none, none, rfl⟩, e3 _ _ hf⟩) ?_ ?_
    · rintro i σ' H3 hi ⟨eH, ⟨v4, v5, v6, v7, v8, rfl⟩, hf3⟩
      refine q_asgL (xs := intL [0]) (el_lst (ea_cons ev_c ea_nil) (by show 1 ≤ 100000; decide)) fun sm H4 ns e4 hsm => ?_
      have nsf : sm ≠ f := fun e => by rw [e, hf3] at ns; cases ns
      have ns0 : H sm = none := fresh_back eH ns
      have ge : ((2 : Int) + (i : Int)) = ((i + 2 : Nat) : Int) := by omega
      rw [ge]
      refine q_forL (a := pp) (xs := xs) (ev_var rfl) (sq_of ((eH.trans e4) _ _ hpp)) (fun t σ' H' => Ex H H' ∧ H' f = some (.lst ((List.range i).map fun (j : Nat) => V.int (cntAll w ps (j + 2) : Int))) ∧ ∃ S v6 v7 v8, σ' = [some (.ref pp), some (.str (TX.T w)), some (.str (TX.T (ended w))), some (.ref f), some (.int ((i + 2 : Nat) : Int)), some (.ref sm), v6, v7, v8] ∧ H' sm = some (.lst (intL S)) ∧ S ≠ [] ∧ S.length ≤ 1 + 20 * t ∧
          ∀ b, mxL S ≤ b ↔ ∀ p ∈ ps.take t, ∀ j, j < (ended w).length + 1 - p.s.length → hit (ended w) p j (i + 2) ≤ b)
        (fun H5 e5 => ⟨(eH.trans e4).trans e5, (e4.trans e5) _ _ hf3, [0], v6, v7, v8, rfl, e5 _ _ hsm, by simp, by decide, fun b => ⟨(fun _ p hp => nomatch hp), fun _ => Nat.zero_le _⟩⟩) (fun t σ' H' _ h => sq_of (h.1 _ _ hpp)) ?_ ?_
      · rintro t y σ' H5 hy ⟨eH5, hf5, S, v6, v7, v8, rfl, hsm5, Sne, Sl, hS⟩
        have ht : t < ps.length := hR.1 ▸ (List.getElem?_eq_some_iff.mp hy).1
        have hp : ps[t]? = some ps[t] := List.getElem?_eq_getElem ht
        generalize ps[t] = p at hp
        obtain ⟨T0, d, kvs, rfl, hT0, hd, hF, G⟩ := hR.2 t y p hy hp
        have ok := G.ok
        have p8 := ok.eight
        have tS : (TX.T p.s).length = p.s.length := len_T _
        refine ⟨T0, _, rfl, st_of (eH5 _ _ hT0), rfl, _, _, rfl, _, [], rfl, rfl, ?_⟩
        refine s_forRn (n := ((w.length + 2 : Nat) : Int) - p.s.length + 1) (ea_cons (ev_is (ev_op (ev_op (ev_cb (ea_cons (ev_var rfl) ea_nil) (rc_lenS (by rw [el]; omega))) (ev_cb (ea_cons (ev_var rfl) ea_nil) (rc_lenS (by rw [tS]; omega))) rv_I0) ev_c rv_I0) (by rw [el, tS])) ea_nil) (by omega)
          (fun u σ' H' => Ex H H' ∧ H' f = some (.lst ((List.range i).map fun (j : Nat) => V.int (cntAll w ps (j + 2) : Int))) ∧ ∃ S v8, σ' = [some (.ref pp), some (.str (TX.T w)), some (.str (TX.T (ended w))), some (.ref f), some (.int ((i + 2 : Nat) : Int)), some (.ref sm), some (.str (TX.T p.s)), some (.ref d), v8] ∧ H' sm = some (.lst (intL S)) ∧ S ≠ [] ∧ S.length ≤ 1 + 20 * t + u ∧
            ∀ b, mxL S ≤ b ↔ (∀ p ∈ ps.take t, ∀ j, j < (ended w).length + 1 - p.s.length → hit (ended w) p j (i + 2) ≤ b) ∧ ∀ j, j < u → hit (ended w) p j (i + 2) ≤ b)
          (fun H6 e6 => ⟨eH5.trans e6, e6 _ _ hf5, S, v8, rfl, e6 _ _ hsm5, Sne, Sl, fun b => by rw [hS b]; exact ⟨fun h => ⟨h, fun j hj => absurd hj (Nat.not_lt_zero j)⟩, fun h => h.1⟩⟩) ?_ ?_
        · rintro u σ' H6 hu ⟨eH6, hf6, S, v8, rfl, hsm6, Sne, Sl, hS⟩
          refine s_when (b := decide (((ended w).drop u).take p.s.length = p.s)) (et_is (et_test (ev_op (ev_slS (w := TX.T (ended w)) (lo := some (u : Int)) (hi := some ((u + p.s.length : Nat) : Int)) (ev_var rfl) (eo_some (ev_var rfl)) (eo_some (ev_is (ev_op (ev_var rfl) (ev_cb (ea_cons (ev_var rfl) ea_nil) (rc_lenS (by rw [tS]; omega))) rv_I0) (by rw [tS]; congr 1))) (by rw [el]; omega)) (ev_var rfl) (rv_eq rfl))) ?_) (fun hq H7 e7 => ?_) fun hq H7 e7 => ?_
          · rw [cut_from _ _ _ (Nat.le_add_right _ _) (by rw [elL]; omega), L_T, T_eq]
            have : u + p.s.length - u = p.s.length := by omega
            rw [this]
          · have hq' : ((ended w).drop u).take p.s.length = p.s := by simpa using hq
            have hitV : (valV kvs (.inl (((i + 2 : Nat) : Int) - (u : Int)))).getD (.int 0) = .int (hit (ended w) p u (i + 2) : Int) := by
              rw [hF]
              by_cases h1 : u ≤ i + 2 ∧ i + 2 < u + p.f.length
              · have hh : hit (ended w) p u (i + 2) = p.f.getD (i + 2 - u) 0 := if_pos ⟨hq', h1⟩
                have e : (((i + 2 : Nat) : Int) - (u : Int)).toNat = i + 2 - u := by omega
                rw [hh, e]
                by_cases h2 : p.f.getD (i + 2 - u) 0 ≠ 0
                · rw [if_pos ⟨by omega, h2⟩]; rfl
                · rw [if_neg (fun q => h2 q.2)]
                  have : p.f.getD (i + 2 - u) 0 = 0 := by omega
                  rw [this]; rfl
              · have hh : hit (ended w) p u (i + 2) = 0 := if_neg fun q => h1 q.2
                rw [hh, if_neg]
                · rfl
                · rintro ⟨h2, h3⟩
                  have e : (((i + 2 : Nat) : Int) - (u : Int)).toNat = i + 2 - u := by omega
                  rw [e] at h3
                  apply h3
                  rw [List.getD_eq_getElem?_getD, List.getElem?_eq_none (by omega)]
                  rfl
            refine s_app (l := sm) (xs := intL S) (v := .int (hit (ended w) p u (i + 2) : Int)) (e7 _ _ hsm6) (ev_var rfl) (ev_is (ev_dget2 (k := .inl (((i + 2 : Nat) : Int) - (u : Int))) (ev_var rfl) (ev_op (ev_var rfl) (ev_var rfl) rv_I0) ev_c (Or.inl ((eH6.trans e7) _ _ hd))) hitV) (by unfold intL; rw [List.length_map]; omega) fun H8 e8 => ?_
            refine ⟨Ex.mut (eH6.trans (e7.trans e8)) ns0, by rw [upd_ne (Ne.symm nsf)]; exact (e7.trans e8) _ _ hf6, S ++ [hit (ended w) p u (i + 2)], _, rfl, by rw [upd_same, intL_snoc], by simp, by rw [List.length_append]; show S.length + 1 ≤ _; omega, fun b => ?_⟩
            rw [mxL_snoc, hS b]
            constructor
            · rintro ⟨⟨h1, h2⟩, h3⟩
              refine ⟨h1, fun j hj => ?_⟩
              rcases Nat.lt_succ_iff_lt_or_eq.mp hj with hj | rfl
              · exact h2 j hj
              · exact h3
            · rintro ⟨h1, h2⟩
              exact ⟨⟨h1, fun j hj => h2 j (Nat.lt_succ_of_lt hj)⟩, h2 u (Nat.lt_succ_self u)⟩
          · have hq' : ¬ ((ended w).drop u).take p.s.length = p.s := by simpa using hq
            refine ⟨eH6.trans e7, e7 _ _ hf6, S, _, rfl, e7 _ _ hsm6, Sne, by omega, fun b => ?_⟩
            rw [hS b]
            constructor
            · rintro ⟨h1, h2⟩
              refine ⟨h1, fun j hj => ?_⟩
              rcases Nat.lt_succ_iff_lt_or_eq.mp hj with hj | rfl
              · exact h2 j hj
              · unfold hit
                rw [if_neg (fun q => hq' q.1)]
                exact Nat.zero_le _
            · rintro ⟨h1, h2⟩
              exact ⟨h1, fun j hj => h2 j (Nat.lt_succ_of_lt hj)⟩
        · rintro σ' H6 ⟨eH6, hf6, S, v8, rfl, hsm6, Sne, Sl, hS⟩
          have en : (((w.length + 2 : Nat) : Int) - p.s.length + 1).toNat = (ended w).length + 1 - p.s.length := by rw [ended_len]; omega
          have en2 : (((w.length + 2 : Nat) : Int) - p.s.length + 1).toNat ≤ 19 := by omega
          have tk : ps.take (t + 1) = ps.take t ++ [p] := by rw [List.take_add_one, hp]; rfl
          refine ⟨eH6, hf6, S, _, _, _, rfl, hsm6, Sne, by omega, fun b => ?_⟩
          rw [hS b, tk, en]
          constructor
          · rintro ⟨h1, h2⟩ q hq
            rcases List.mem_append.mp hq with hq | hq
            · exact h1 q hq
            · rw [List.mem_singleton.mp hq]; exact h2
          · intro h
            exact ⟨fun q hq => h q (List.mem_append_left _ hq), h p (List.mem_append_right _ List.mem_cons_self)⟩
      · rintro σ' H5 ⟨eH5, hf5, S, v6, v7, v8, rfl, hsm5, Sne, Sl, hS⟩
        rw [hR.1, List.take_length] at hS
        have mE : mxL S = cntAll w ps (i + 2) := eq_of_le fun b => by rw [hS b, cntAll_le]
        refine s_app (l := f) (xs := (List.range i).map fun (j : Nat) => V.int (cntAll w ps (j + 2) : Int)) (v := .int (cntAll w ps (i + 2) : Int)) hf5 (ev_var rfl) (ev_is (ev_cb (ea_cons (ev_var rfl) ea_nil) (rc_maxL (sq_of hsm5) Sne)) (by rw [mE])) (by rw [List.length_map, List.length_range]; omega) fun H6 e6 => ?_
        refine ⟨Ex.mut (eH5.trans e6) nf0, ⟨_, _, _, _, _, rfl⟩, ?_⟩
        rw [upd_same, List.range_succ, List.map_append]
        rfl
    · rintro σ' H3 ⟨eH, ⟨v4, v5, v6, v7, v8, rfl⟩, hf3⟩
      have en : ((w.length : Int) + 1 - 2).toNat = w.length - 1 := by omega
      rw [en] at hf3
      exact s_ret (ev_var rfl) fun H4 e4 => kk f H4 nf0 (eH.trans e4) (e4 _ _ hf3)

/-! ### the word of a refusal -/
structure KinC (K : PySem.W.Frag) (A : Ad) (D : Addr) (a b c : Bool) : Prop where
  exc : ExcC K D
  k1 : PySem.W.kitOne K (.ref D) (.ref A.c_BadRule) = some false
  k2 : PySem.W.kitOne K (.ref D) (.ref A.c_BadText) = some false
  k3 : PySem.W.kitOne K (.ref D) (.ref A.c_Twice) = some false
  k4 : PySem.W.kitOne K (.ref D) (.ref A.c_NoStem) = some false
  k5 : PySem.W.kitOne K (.ref D) (.ref A.c_NoClass) = some false
  k6 : PySem.W.kitOne K (.ref D) (.ref A.c_InUse) = some false
  k7 : PySem.W.kitOne K (.ref D) (.ref A.c_TooMany) = some false
  k8 : PySem.W.kitOne K (.ref D) (.ref A.c_NoNumber) = some false
  k9 : PySem.W.kitOne K (.ref D) (.ref A.c_NoWord) = some false
  k10 : PySem.W.kitOne K (.ref D) (.ref A.c_NoPlace) = some false
  ka : PySem.W.kitOne K (.ref D) (.ref A.c_BadWord) = some a
  kb : PySem.W.kitOne K (.ref D) (.ref A.c_BadPrice) = some b
  kc : PySem.W.kitOne K (.ref D) (.ref A.c_BadPattern) = some c
  kv : PySem.W.kitOne K (.ref D) (.type "ValueError") = some true
theorem kin_word (T : Txt K mg A) : KinC K A A.c_BadWord true false false :=
  ⟨T.e_BadWord, T.i_BadWord_BadRule, T.i_BadWord_BadText, T.i_BadWord_Twice, T.i_BadWord_NoStem, T.i_BadWord_NoClass, T.i_BadWord_InUse, T.i_BadWord_TooMany, T.i_BadWord_NoNumber, T.i_BadWord_NoWord, T.i_BadWord_NoPlace, T.i_BadWord_BadWord, T.i_BadWord_BadPrice, T.i_BadWord_BadPattern, T.i_BadWord_ValueError⟩
theorem kin_pattern (T : Txt K mg A) : KinC K A A.c_BadPattern false false true :=
  ⟨T.e_BadPattern, T.i_BadPattern_BadRule, T.i_BadPattern_BadText, T.i_BadPattern_Twice, T.i_BadPattern_NoStem, T.i_BadPattern_NoClass, T.i_BadPattern_InUse, T.i_BadPattern_TooMany, T.i_BadPattern_NoNumber, T.i_BadPattern_NoWord, T.i_BadPattern_NoPlace, T.i_BadPattern_BadWord, T.i_BadPattern_BadPrice, T.i_BadPattern_BadPattern, T.i_BadPattern_ValueError⟩
/-- an error's word -/
def ErrW (A : Ad) (D : Addr) (z : Str) : Prop := (D = A.c_BadWord ∧ z = "word") ∨ (D = A.c_BadPattern ∧ z = "pattern")
def spClass (A : Ad) : Sp := fun vs H Q _ => ∃ a D z, vs = [.ref a] ∧ H a = some (ErrO (.ref D) none a) ∧ ErrW A D z ∧ ∀ H', Ex H H' → Q (.str z) H'
theorem ok_l_class (T : Txt K mg A) : FnOk P w K mg base CX0 1 A.f_l_class A.d_l_class P_l_class (spClass A) := by
  refine T.F_l_class.ok sc_l_class (fun vs H Q E h => ?_) (fun cdv A' outer s H vs Q E hr h => ?_)
  · obtain ⟨a, D, z, rfl, _⟩ := h
    rfl
  · obtain ⟨a, D, z, rfl, ha, hW, q⟩ := h
    refine ⟨_, (pss_cons (ps_if (pt_cmpR op_isN (pv 0) pe_non (nomark _)) (pss_one (ps_ret pe_str)) pss_nil)
      (pss_cons (ps_set (i := 1) sc_l_class.nd rfl (Or.inl rfl) (pe_or (pe_callB call_isErr (by rfl) T.n_isinstance (by decide +kernel) (pa_cons (pv 0) (pa_cons (pe_glob (v := .ref A.c_BadRule) rfl T.g_BadRule rfl) pa_nil))) (pe_or (pe_callB call_isErr (by rfl) T.n_isinstance (by decide +kernel) (pa_cons (pv 0) (pa_cons (pe_glob (v := .ref A.c_BadText) rfl T.g_BadText rfl) pa_nil))) (pe_one (pe_callB call_isErr (by rfl) T.n_isinstance (by decide +kernel) (pa_cons (pv 0) (pa_cons (pe_glob (v := .ref A.c_Twice) rfl T.g_Twice rfl) pa_nil)))))))
      (pss_cons (ps_set (i := 1) sc_l_class.nd rfl (Or.inl rfl) (pe_or (pv 1) (pe_or (pe_callB call_isErr (by rfl) T.n_isinstance (by decide +kernel) (pa_cons (pv 0) (pa_cons (pe_glob (v := .ref A.c_NoStem) rfl T.g_NoStem rfl) pa_nil))) (pe_or (pe_callB call_isErr (by rfl) T.n_isinstance (by decide +kernel) (pa_cons (pv 0) (pa_cons (pe_glob (v := .ref A.c_NoClass) rfl T.g_NoClass rfl) pa_nil))) (pe_one (pe_callB call_isErr (by rfl) T.n_isinstance (by decide +kernel) (pa_cons (pv 0) (pa_cons (pe_glob (v := .ref A.c_InUse) rfl T.g_InUse rfl) pa_nil))))))))
      (pss_cons (ps_set (i := 1) sc_l_class.nd rfl (Or.inl rfl) (pe_or (pv 1) (pe_or (pe_callB call_isErr (by rfl) T.n_isinstance (by decide +kernel) (pa_cons (pv 0) (pa_cons (pe_glob (v := .ref A.c_TooMany) rfl T.g_TooMany rfl) pa_nil))) (pe_or (pe_callB call_isErr (by rfl) T.n_isinstance (by decide +kernel) (pa_cons (pv 0) (pa_cons (pe_glob (v := .ref A.c_NoNumber) rfl T.g_NoNumber rfl) pa_nil))) (pe_one (pe_callB call_isErr (by rfl) T.n_isinstance (by decide +kernel) (pa_cons (pv 0) (pa_cons (pe_glob (v := .ref A.c_NoWord) rfl T.g_NoWord rfl) pa_nil))))))))
      (pss_cons (ps_set (i := 2) sc_l_class.nd rfl (Or.inl rfl) (pe_lst (pa_cons (pe_callB call_isErr (by rfl) T.n_isinstance (by decide +kernel) (pa_cons (pv 0) (pa_cons (pe_glob (v := .ref A.c_BadWord) rfl T.g_BadWord rfl) pa_nil))) (pa_cons (pe_callB call_isErr (by rfl) T.n_isinstance (by decide +kernel) (pa_cons (pv 0) (pa_cons (pe_glob (v := .ref A.c_BadPrice) rfl T.g_BadPrice rfl) pa_nil))) (pa_cons (pe_callB call_isErr (by rfl) T.n_isinstance (by decide +kernel) (pa_cons (pv 0) (pa_cons (pe_glob (v := .ref A.c_BadPattern) rfl T.g_BadPattern rfl) pa_nil))) pa_nil)))))
      (pss_cons (ps_if (PW.pt (pw_or (pt_val (pv 1)) (pw_or (pt_val (pe_callB call_isErr (by rfl) T.n_isinstance (by decide +kernel) (pa_cons (pv 0) (pa_cons (pe_glob (v := .ref A.c_NoPlace) rfl T.g_NoPlace rfl) pa_nil)))) (pw_or (pt_cmpR op_ne (pe_bm PySem.F.plainAttrs_list PySem.F.slot_list_count PySem.F.type_list_count (mt_countD hr.u65) (pv 2) (pa_cons pe_bl pa_nil)) pe_int (nomark _)) (pw_or1 (pt_not (pt_val (pe_callB call_isErr (by rfl) T.n_isinstance (by decide +kernel) (pa_cons (pv 0) (pa_cons (pe_bltn (v := .ty "ValueError") (by rfl) T.n_ValueError (by decide +kernel) rfl) pa_nil)))))))))) (pss_one (ps_ret pe_str)) pss_nil)
      (pss_one (ps_ret (pe_ix ix_list (pe_lst (pa_cons pe_str (pa_cons pe_str (pa_cons pe_str pa_nil)))) (pe_bm PySem.F.plainAttrs_list PySem.F.slot_list_index PySem.F.type_list_index mt_index (pv 2) (pa_cons pe_bl pa_nil)) (fun _ _ => rfl)))))))))), ?_⟩
    obtain ⟨b1, b2, C, hz⟩ : ∃ b1 b2 : Bool, KinC K A D b1 false b2 ∧ ((b1 = true ∧ b2 = false ∧ z = "word") ∨ (b1 = false ∧ b2 = true ∧ z = "pattern")) := by
      rcases hW with ⟨rfl, rfl⟩ | ⟨rfl, rfl⟩
      · exact ⟨true, false, kin_word T, Or.inl ⟨rfl, rfl, rfl⟩⟩
      · exact ⟨false, true, kin_pattern T, Or.inr ⟨rfl, rfl, rfl⟩⟩
    have is_ : ∀ {H1 : Hp} {σ : L2.St} {c : V} {cv : Value} {b : Bool}, Ex H H1 → σ[0]? = some (some (.ref a)) → ClsV c cv → PySem.W.kitOne K (.ref D) cv = some b → Ev (tCB (rIsErr K) (tCons (tVar 0) (tCons (tC c) tNil))) σ H1 (.bl b) := fun e h0 hc hk => ev_cb (ea_cons (ev_var h0) (ea_cons ev_c ea_nil)) (rc_err (e _ _ ha) C.exc hc hk)
    refine q_when (b := false) (et_is (et_test (ev_op (ev_var rfl) ev_c rv_isN)) rfl) (fun h => nomatch h) fun _ H1 e1 => ?_
    refine q_asg (v := .bl false) (ev_is (ev_orV (a := false) (b := false) (is_ e1 rfl (.own _) C.k1) fun _ => ev_is (ev_orV (a := false) (b := false) (is_ e1 rfl (.own _) C.k2) fun _ => is_ e1 rfl (.own _) C.k3) rfl) rfl) fun H2 e2 => ?_
    have e02 := e1.trans e2
    refine q_asg (v := .bl false) (ev_is (ev_orV (a := false) (b := false) (ev_var rfl) fun _ => ev_is (ev_orV (a := false) (b := false) (is_ e02 rfl (.own _) C.k4) fun _ => ev_is (ev_orV (a := false) (b := false) (is_ e02 rfl (.own _) C.k5) fun _ => is_ e02 rfl (.own _) C.k6) rfl) rfl) rfl) fun H3 e3 => ?_
    have e03 := e02.trans e3
    refine q_asg (v := .bl false) (ev_is (ev_orV (a := false) (b := false) (ev_var rfl) fun _ => ev_is (ev_orV (a := false) (b := false) (is_ e03 rfl (.own _) C.k7) fun _ => ev_is (ev_orV (a := false) (b := false) (is_ e03 rfl (.own _) C.k8) fun _ => is_ e03 rfl (.own _) C.k9) rfl) rfl) rfl) fun H4 e4 => ?_
    have e04 := e03.trans e4
    refine q_asgL (xs := [.bl b1, .bl false, .bl b2]) (el_lst (ea_cons (is_ e04 rfl (.own _) C.ka) (ea_cons (is_ e04 rfl (.own _) C.kb) (ea_cons (is_ e04 rfl (.own _) C.kc) ea_nil))) (by show 3 ≤ 100000; decide)) fun p H5 np e5 hp => ?_
    have e05 := e04.trans e5
    have f5 : ([V.bl b1, .bl false, .bl b2] : List V).all flatOk = true := rfl
    have hc1 : (([V.bl b1, .bl false, .bl b2] : List V).map dpOf).countP (fun e => PyData.eqv e (dpOf (.bl true))) = 1 := by rcases hz with ⟨rfl, rfl, _⟩ | ⟨rfl, rfl, _⟩ <;> decide +kernel
    have hp1 : PyData.plainAll (([V.bl b1, .bl false, .bl b2] : List V).map dpOf) = true := by rcases hz with ⟨rfl, rfl, _⟩ | ⟨rfl, rfl, _⟩ <;> decide +kernel
    refine q_when (b := false) (et_is (et_or (a := false) (b := false) (et_test (ev_var rfl)) fun _ => et_is (et_or (a := false) (b := false) (et_test (is_ e05 rfl (.own _) C.k10)) fun _ => et_is (et_or (a := false) (b := false) (et_is (et_test (ev_op (x := .int ((1 : Nat) : Int)) (y := .int 1) (ev_countD (ev_var rfl) hp ev_c f5 rfl hp1 (by decide +kernel) hc1) ev_c (rv_ne rfl))) (by decide +kernel)) fun _ => et_is (et_not (et_test (is_ e05 rfl (.ty _) C.kv))) rfl) rfl) rfl) rfl) (fun h => nomatch h) fun _ H6 e6 => ?_
    have e06 := e05.trans e6
    rcases hz with ⟨rfl, rfl, rfl⟩ | ⟨rfl, rfl, rfl⟩
    · refine s_ret (v := .str "word") (ev_opL1 (el_lst (ea_cons ev_c (ea_cons ev_c (ea_cons ev_c ea_nil))) (by show 3 ≤ 100000; decide)) (fun H7 e7 => ev_indexF (j := 0) (ev_var rfl) ((e6.trans e7) _ _ hp) ev_c rfl rfl rfl rfl fun m z' h => absurd h (Nat.not_lt_zero m)) fun l H7 hl e7 => rv_ixL (sq_of hl) rfl) fun H7 e7 => q H7 (e06.trans e7)
    · refine s_ret (v := .str "pattern") (ev_opL1 (el_lst (ea_cons ev_c (ea_cons ev_c (ea_cons ev_c ea_nil))) (by show 3 ≤ 100000; decide)) (fun H7 e7 => ev_indexF (j := 2) (ev_var rfl) ((e6.trans e7) _ _ hp) ev_c rfl rfl rfl rfl fun m z' h hm => ?_) fun l H7 hl e7 => rv_ixL (sq_of hl) rfl) fun H7 e7 => q H7 (e06.trans e7)
      have : m = 0 ∨ m = 1 := by omega
      rcases this with rfl | rfl <;> (cases hm; rfl)

/-! ### made, or the word -/
def spMade (A : Ad) : Sp := fun vs H Q _ => ∃ v : V, vs = [v] ∧ Thing H v ∧ (∀ a xs, v = .ref a → H a = some (.lst xs) → xs.length ≤ 200 → ∀ y ∈ xs, Thing H y) ∧
  (∀ a xs ps, v = .ref a → H a = some (.lst xs) → xs.length ≤ 200 → patsOf xs = some ps → ∀ u H', Ex H H' → New H (fun H' => ParterN A ps H' u) H' → Q u H') ∧
  ((∀ a xs, v = .ref a → H a = some (.lst xs) → xs.length ≤ 200 → patsOf xs = none) → ∀ H', Ex H H' → Q (.str "pattern") H')
theorem lst_back {H H' : Hp} {a : Addr} {xs : List V} (h : Thing H (.ref a)) (e : Ex H H') (hx : H' a = some (.lst xs)) : H a = some (.lst xs) := by
  rcases h with ⟨ys, hy⟩ | ⟨ys, hy⟩ | ⟨ys, hy⟩
  · have := e _ _ hy
    rw [hx] at this
    rw [hy, ← this]
  · have := e _ _ hy
    rw [hx] at this
    cases this
  · have := e _ _ hy
    rw [hx] at this
    cases this
theorem ex_made {H : Hp} {x dx : Addr} {o1 o2 : HO} (h1 : H x = none) (h2 : H dx = none) (h3 : dx ≠ x) : Ex H (upd (upd H dx o1) x o2) :=
  (Ex.new h2).trans (Ex.new (by rw [upd_ne (Ne.symm h3)]; exact h1))
theorem s_asgMakeS {C : Addr} {sp : Sp} {E : L2.St → XK} {t : TA} {vs : List V} {σ : L2.St} {H : Hp} {D : Ends} {i : Nat} (h : EvA t σ H vs)
    (k : ∀ x dx H1, Ex H H1 → H1 x = none → H1 dx = none → dx ≠ x → sp (.ref x :: vs) (upd (upd H1 dx (.own x)) x (.ins C dx [])) (fun v H2 => v = .non ∧ D.nx (σ.set i (some (.ref x))) H2) (E σ)) : tAsg (tMakeS C sp E t) (gName i) D σ H :=
  h H (Ex.refl H) _ fun H1 e x dx hx hdx hne => k x dx H1 e hx hdx hne
theorem ok_l_made (T : Txt K mg A) : FnOk P w K mg base CX0 6 A.f_l_made A.d_l_made P_l_made (spMade A) := by
  refine T.F_l_made.ok sc_l_made (fun vs H Q E h => ?_) (fun cdv A' outer s H vs Q E hr h => ?_)
  · obtain ⟨v, rfl, _⟩ := h
    rfl
  · obtain ⟨v, rfl, hv, hT, kS, kN⟩ := h
    refine ⟨_, (pss_cons (ps_set (i := 1) sc_l_made.nd rfl (Or.inl rfl) pe_non)
      (pss_cons (ps_set (i := 2) sc_l_made.nd rfl (Or.inl rfl) pe_non)
      (pss_cons (ps_try_keep (i := 3) (Wout := fun _ _ _ _ => False) rfl rfl sc_l_made.nd rfl rfl ⟨rfl, by decide, Or.inl T.g_MendError⟩ takes0 rfl
      (fun W pn xe tk _ => (pss_one (ps_set (i := 1) sc_l_made.nd rfl (Or.inl rfl) (pe_makeS T.M_Parter (ok_Parter_init T) hr rfl T.g_Parter T.b_Parter_init (fun σ => passAt tk σ) (pa_cons (pv 0) pa_nil)))))
      (fun _ _ => (pss_one (ps_set (i := 2) sc_l_made.nd rfl (Or.inl rfl) (pv 3)))))
      (pss_one (ps_ret (pe_ifExp (pt_cmpR op_isN (pv 2) pe_non (nomark _)) (pv 1) (pe_call (ok_l_class T) (hr.mono (by decide)) rfl T.g_l_class T.k_l_class T.b_l_class .nil pass0 (pa_cons (pv 2) pa_nil)))))))), ?_⟩
    refine q_asg (v := .non) ev_c fun H1 e1 => ?_
    refine q_asg (v := .non) ev_c fun H2 e2 => ?_
    have e02 := e1.trans e2
    refine q_tb ?_
    refine s_asgMakeS (ea_cons (ev_var rfl) ea_nil) fun x dx H3 e3 nx ndx ne => ?_
    have e03 := e02.trans e3
    have e13 := e03.trans (ex_made (o1 := .own x) (o2 := .ins A.c_Parter dx []) nx ndx ne)
    have nx0 : H x = none := fresh_back e03 nx
    have outG : ∀ {H3 : Hp} {D : Ends}, (∀ H4, Ex H3 H4 → D.rt (.ref x) H4) → tRet (tIf (tTest (tOp (fun x y H Q => y = .non ∧ Q (.bl (decide (x = .non))) H) (tVar 2) (tC .non))) (tVar 1) (tCall (spClass A) [] E0 (tCons (tVar 2) tNil))) D [some v, some (.ref x), some .non, none] H3 := fun {H3 D} k =>
      s_ret (v := .ref x) (ev_if (b := true) (et_test (ev_op (ev_var rfl) ev_c rv_isN)) (fun _ => ev_var rfl) fun h => nomatch h) k
    have outB : ∀ {H3 : Hp} {D : Ends} {a : Addr}, H3 a = some (ErrO (.ref A.c_BadPattern) none a) → (∀ H4, Ex H3 H4 → D.rt (.str "pattern") H4) → tRet (tIf (tTest (tOp (fun x y H Q => y = .non ∧ Q (.bl (decide (x = .non))) H) (tVar 2) (tC .non))) (tVar 1) (tCall (spClass A) [] E0 (tCons (tVar 2) tNil))) D [some v, some .non, some (.ref a), none] H3 := fun {H3 D a} ha k =>
      s_ret (v := .str "pattern") (ev_if (b := false) (et_test (ev_op (ev_var rfl) ev_c rv_isN)) (fun h => nomatch h) fun _ => ev_call (ea_cons (ev_var rfl) ea_nil) fun H6 e6 Q6 q6 E6 => ⟨a, A.c_BadPattern, "pattern", rfl, e6 _ _ ha, Or.inr ⟨rfl, rfl⟩, q6⟩) k
    have old : ∀ {b : Addr} {o : HO}, H b = some o → b ≠ x := fun hb e => by rw [e, nx0] at hb; cases hb
    refine ⟨x, dx, v, rfl, upd_same, hv.mono e13, fun a xs ea ha hl y hy => ?_, fun a xs ps ea ha hl hq H4 kp hn => ⟨rfl, ?_⟩, fun hn H4 kp => ?_⟩
    · subst ea
      exact (hT a xs rfl (lst_back hv e13 ha) hl y hy).mono e13
    · subst ea
      have e04 : Ex H H4 := fun b o hb => kp b o (old hb) (e13 b o hb)
      refine outG fun H5 e5 => ?_
      refine kS a xs ps rfl (lst_back hv e13 ha) hl hq _ H5 (e04.trans e5) fun H'' k'' => hn H'' fun b o hb ho => k'' b o ?_ (e5 _ _ ho)
      rcases hb with hb | rfl
      · exact fresh_back e13 hb
      · exact nx0
    · have e04 : Ex H H4 := fun b o hb => kp b o (old hb) (e13 b o hb)
      refine ⟨true, T.m_BadPattern_MendError, fun _ a na => ?_, fun q => nomatch q⟩
      refine s_asg (ev_var rfl) fun H5 e5 => ?_
      refine outB (e5 a _ upd_same) fun H6 e6 => ?_
      refine kN (fun a xs ea ha hl => ?_) H6 (e04.trans ((Ex.new na).trans (e5.trans e6)))
      subst ea
      exact hn a xs rfl (e13 _ _ ha) hl
/-! ### a text bent -/
theorem sgn_T {z : Str} {i : Int} : sgn z i = TX.T [z.cps.toList.getD i.toNat 0] := rfl
theorem getD_bd {l : List Nat} {b : Nat} (h : ∀ c ∈ l, c < b) (h0 : 0 < b) (i : Nat) : l.getD i 0 < b := by
  rw [List.getD_eq_getElem?_getD]
  cases hx : l[i]? with
  | none => exact h0
  | some c => exact h c (List.mem_of_getElem? hx)
theorem cut_T (l : List Nat) (lo hi : Option Int) : cutS (TX.T l) lo hi = TX.T ((l.drop (HT.sIx l.length 0 lo)).take (HT.sIx l.length l.length hi - HT.sIx l.length 0 lo)) := by
  unfold cutS
  rw [len_T]
theorem cut_to (l : List Nat) (n : Nat) (h : n ≤ l.length) : cutS (TX.T l) none (some (n : Int)) = TX.T (l.take n) := by
  rw [cut_T, HT.sIx_none, HT.sIx_nat]
  show TX.T (l.take (min n l.length - 0)) = _
  rw [Nat.sub_zero, Nat.min_eq_left h]
theorem cut_fr (l : List Nat) (n : Nat) : cutS (TX.T l) (some (n : Int)) none = TX.T (l.drop n) := by
  rw [cut_T, HT.sIx_none, HT.sIx_nat, List.take_of_length_le (by rw [List.length_drop]; omega)]
  congr 1
  rcases Nat.le_total n l.length with h | h
  · rw [Nat.min_eq_left h]
  · rw [Nat.min_eq_right h, List.drop_eq_nil_of_le h, List.drop_length]
theorem addT (a b : List Nat) : (TX.T a ++ TX.T b : Str) = TX.T (a ++ b) := by
  apply eq_L
  rw [L_add, L_T, L_T, L_T]
def spBent : Sp := fun vs H Q _ => ∃ (z : List Nat) (n : Int), vs = [.str (TX.T z), .int n] ∧ z.length ≤ 100 ∧ (∀ c ∈ z, c < 128) ∧ ∀ y H', Ex H H' → y.length ≤ z.length + 1 → (∀ c ∈ y, c < 128) → Q (.str (TX.T y)) H'
theorem ok_l_bent (T : Txt K mg A) : FnOk P w K mg base CX0 1 A.f_l_bent A.d_l_bent P_l_bent spBent := by
  refine T.F_l_bent.ok sc_l_bent (fun vs H Q E h => ?_) (fun cdv A' outer s H vs Q E hr h => ?_)
  · obtain ⟨z, n, rfl, _⟩ := h
    rfl
  · obtain ⟨z, n, rfl, hz, hb, kk⟩ := h
    refine ⟨_, (pss_cons (ps_set (i := 2) sc_l_bent.nd rfl (Or.inl rfl) (pe_op op_mod (pe_op op_fdiv (pv 1) pe_int) (pe_op op_add (pe_callB call_len_str (by rfl) T.n_len PySem.boot_len (pa_cons (pv 0) pa_nil)) pe_int)))
      (pss_cons (ps_set (i := 3) sc_l_bent.nd rfl (Or.inl rfl) (pe_ix ix_str pe_str (pe_op op_mod (pe_op op_fdiv (pv 1) pe_int) pe_int) (fun _ _ => rfl)))
      (pss_cons (ps_if (pt_cmpR op_eq (pe_op op_mod (pv 1) pe_int) pe_int (nomark _)) (pss_one (ps_ret (pe_op op_add_str (pe_op op_add_str (pe_slice sl_str (pv 0) po_none (po_some (pv 2))) (pv 3)) (pe_slice sl_str (pv 0) (po_some (pv 2)) po_none)))) pss_nil)
      (pss_one (ps_ret (pe_op op_add_str (pe_op op_add_str (pe_slice sl_str (pv 0) po_none (po_some (pv 2))) (pe_op op_mulS (pv 3) (pe_callTy call_int1 (by rfl) T.n_int (by decide +kernel) (pa_cons (pe_cmpR op_eq (pe_op op_mod (pv 1) pe_int) pe_int (nomark _)) pa_nil)))) (pe_slice sl_str (pv 0) (po_some (pe_op op_add (pv 2) pe_int)) po_none))))))), ?_⟩
    have zl : (TX.T z).length = z.length := len_T _
    have p0 : (0 : Int) < (z.length : Int) + 1 := by omega
    have j0 := Int.emod_nonneg (n / 3) (show ((z.length : Int) + 1) ≠ 0 by omega)
    have j1 := Int.emod_lt_of_pos (n / 3) p0
    obtain ⟨j, hj⟩ : ∃ j : Nat, n / 3 % ((z.length : Int) + 1) = (j : Int) := ⟨(n / 3 % ((z.length : Int) + 1)).toNat, by omega⟩
    have jz : j ≤ z.length := by omega
    refine q_asg (v := .int (j : Int)) (ev_is (ev_op (ev_op (ev_var rfl) ev_c (rv_I ⟨by decide, by decide⟩)) (ev_op (ev_cb (ea_cons (ev_var rfl) ea_nil) (rc_lenS (by rw [zl]; omega))) ev_c rv_I0) (rv_I (by rw [zl]; exact p0))) (by rw [zl, hj])) fun H1 e1 => ?_
    have i0 := Int.emod_nonneg (n / 64) (show (10 : Int) ≠ 0 by decide)
    have i1 := Int.emod_lt_of_pos (n / 64) (show (0 : Int) < 10 by decide)
    have wl : ("abz.190A -" : Str).cps.toList.length = 10 := by decide +kernel
    obtain ⟨g, hg, gb⟩ : ∃ g, sgn "abz.190A -" (n / 64 % 10) = TX.T [g] ∧ g < 128 := ⟨_, rfl, getD_bd (by decide +kernel) (by decide) _⟩
    refine q_asg (v := .str (TX.T [g])) (ev_is (ev_sgn ev_c (ev_op (ev_op (ev_var rfl) ev_c (rv_I ⟨by decide, by decide⟩)) ev_c (rv_I (by show (0 : Int) < _; decide))) (by decide +kernel) i0 (by rw [wl]; exact i1)) (by rw [hg])) fun H2 e2 => ?_
    have e02 := e1.trans e2
    have tk : (z.take j).length = j := by rw [List.length_take, Nat.min_eq_left jz]
    have bdm : ∀ {m : List Nat} {k : Nat}, (∀ c ∈ m, c < 128) → ∀ c ∈ z.take j ++ m ++ z.drop k, c < 128 := fun hm c hc => by
      rcases List.mem_append.mp hc with hc | hc
      · rcases List.mem_append.mp hc with hc | hc
        · exact hb c (List.mem_of_mem_take hc)
        · exact hm c hc
      · exact hb c (List.mem_of_mem_drop hc)
    have one : ∀ c ∈ [g], c < 128 := fun c hc => by rw [List.mem_singleton.mp hc]; exact gb
    refine q_when (b := decide (n % 3 = 0)) (et_is (et_test (ev_op (ev_op (ev_var rfl) ev_c (rv_I (by show (0 : Int) < _; decide))) ev_c (rv_eq rfl))) ?_) (fun hq H3 e3 => ?_) fun hq H3 e3 => ?_
    · rw [decide_eq_decide]
      exact ⟨fun h => V.int.inj h, fun h => congrArg V.int h⟩
    · refine s_ret (v := .str (TX.T (z.take j ++ [g] ++ z.drop j))) (ev_is (ev_op (ev_op (ev_is (ev_slS (w := TX.T z) (lo := none) (hi := some (j : Int)) (ev_var rfl) eo_none (eo_some (ev_var rfl)) (by rw [zl]; omega)) (by rw [cut_to z j jz])) (ev_var rfl) (rv_addS (by rw [len_T, len_T, tk]; show j + 1 ≤ _; omega))) (ev_slS (w := TX.T z) (lo := some (j : Int)) (hi := none) (ev_var rfl) (eo_some (ev_var rfl)) eo_none (by rw [zl]; omega)) (rv_addS ?_)) ?_) fun H4 e4 => kk _ H4 (e02.trans (e3.trans e4)) ?_ (bdm one)
      · rw [addT, cut_fr, len_T, len_T, List.length_append, List.length_drop, tk]
        show j + 1 + _ ≤ _
        omega
      · rw [addT, cut_fr, addT]
      · rw [List.length_append, List.length_append, List.length_drop, tk]
        show j + 1 + _ ≤ _
        omega
    · obtain ⟨m, hm, ml, mb⟩ : ∃ m, (if (if decide (V.int (n % 3) = V.int 1) = true then (1 : Int) else 0) = 1 then (TX.T [g] : Str) else "") = TX.T m ∧ m.length ≤ 1 ∧ ∀ c ∈ m, c < 128 := by
        cases decide (V.int (n % 3) = V.int 1) with
        | true => exact ⟨[g], rfl, Nat.le_refl _, one⟩
        | false => exact ⟨[], (by rw [if_neg (by decide)]; decide +kernel), by decide, nofun⟩
      refine s_ret (v := .str (TX.T (z.take j ++ m ++ z.drop (j + 1)))) (ev_is (ev_op (ev_op (ev_is (ev_slS (w := TX.T z) (lo := none) (hi := some (j : Int)) (ev_var rfl) eo_none (eo_some (ev_var rfl)) (by rw [zl]; omega)) (by rw [cut_to z j jz])) (ev_is (ev_mulS (ev_var (v := .str (TX.T [g])) rfl) (ev_cb (ea_cons (ev_op (ev_op (ev_var rfl) ev_c (rv_I (by show (0 : Int) < _; decide))) ev_c (rv_eq rfl)) ea_nil) rc_int) (by split <;> decide) (by split <;> decide) (by rw [len_T]; show 1 ≤ 1000; decide)) (congrArg V.str hm)) (rv_addS (by rw [len_T, len_T, tk]; omega))) (ev_slS (w := TX.T z) (lo := some ((j + 1 : Nat) : Int)) (hi := none) (ev_var rfl) (eo_some (ev_op (ev_var rfl) ev_c rv_I0)) eo_none (by rw [zl]; omega)) (rv_addS ?_)) ?_) fun H4 e4 => kk _ H4 (e02.trans (e3.trans e4)) ?_ (bdm mb)
      · rw [addT, cut_fr, len_T, len_T, List.length_append, List.length_drop, tk]
        omega
      · rw [addT, cut_fr, addT]
      · rw [List.length_append, List.length_append, List.length_drop, tk]
        omega
/-! ### odd things -/
def OddP (H : Hp) (v : V) : Prop := Thing H v ∧ patV v = none
theorem OddP.mo : ∀ H H' v, Ex H H' → OddP H v → OddP H' v := fun _ _ _ e h => ⟨h.1.mono e, h.2⟩
def spOdd : Sp := fun vs H Q _ => ∃ n : Int, vs = [.int n] ∧ ∀ v H', Ex H H' → OddP H' v → Q v H'
theorem eg_ixC {ti tc : TE} {ta : TA} {p0 : Addr} {xs : List V} {n : Nat} {i : Int} {R : Hp → V → Prop} {σ : L2.St} {H : Hp} (mo : ∀ H H' v, Ex H H' → R H v → R H' v) (hc : Ev tc σ H (.ref p0)) (h0 : H p0 = some (.lst xs)) (hx : ∀ v ∈ xs, R H v) (h : EvGs R ta σ H n) (hn : xs.length + n ≤ 1000)
    (ht : ∀ H1, Ex H H1 → Ev ti σ H1 (.int i)) (l0 : 0 ≤ i) (l1 : i < xs.length + n) : EvG R (tOp (rIxL K) (tOp rCat tc (tLst ta)) ti) σ H := fun H0 e0 Q q =>
  hc H0 e0 _ fun H1 e1 => h H1 (e0.trans e1) _ fun vs H2 e2 hl hvs => ⟨sz_of (by omega), fun p hp => by
    have e3 : Ex H2 (upd H2 p (.lst vs)) := Ex.new hp
    have hp0 : (upd H2 p (.lst vs)) p0 = some (.lst xs) := (((e0.trans e1).trans e2).trans e3) _ _ h0
    refine ⟨p0, p, xs, vs, rfl, rfl, hp0, upd_same, sz_of (by omega), fun l hl' => ?_⟩
    have e4 : Ex (upd H2 p (.lst vs)) (upd (upd H2 p (.lst vs)) l (.lst (xs ++ vs))) := Ex.new hl'
    refine ht _ ((((e0.trans e1).trans e2).trans e3).trans e4) _ (Ex.refl _) _ fun H5 e5 => ?_
    obtain ⟨v, hv, vm⟩ := at_mem (xs := xs ++ vs) (i := i) l0 (by rw [List.length_append, hl]; omega)
    refine ⟨l, xs ++ vs, i, v, rfl, rfl, sq_of (e5 _ _ upd_same), hv, q v H5 (((e1.trans e2).trans e3).trans (e4.trans e5)) ?_⟩
    rcases List.mem_append.mp vm with hv | hv
    · exact mo _ _ _ (((((e0.trans e1).trans e2).trans e3).trans e4).trans e5) (hx v hv)
    · exact mo _ _ _ ((e3.trans e4).trans e5) (hvs v hv)⟩
theorem ok_l_odd (T : Txt K mg A) : FnOk P w K mg base CX0 1 A.f_l_odd A.d_l_odd P_l_odd spOdd := by
  refine T.F_l_odd.ok sc_l_odd (fun vs H Q E h => ?_) (fun cdv A' outer s H vs Q E hr h => ?_)
  · obtain ⟨n, rfl, _⟩ := h
    rfl
  · obtain ⟨n, rfl, kk⟩ := h
    refine ⟨_, (pss_cons (ps_set (i := 1) sc_l_odd.nd rfl (Or.inl rfl) (pe_lst (pa_cons pe_str (pa_cons pe_str (pa_cons pe_str (pa_cons pe_str (pa_cons pe_str (pa_cons pe_str (pa_cons pe_str (pa_cons pe_str (pa_cons pe_str (pa_cons pe_str (pa_cons pe_str (pa_cons pe_str (pa_cons pe_str (pa_cons pe_str (pa_cons pe_str pa_nil)))))))))))))))))
      (pss_cons (ps_set (i := 1) sc_l_odd.nd rfl (Or.inl rfl) (pe_op op_cat (pv 1) (pe_lst (pa_cons pe_str (pa_cons pe_str (pa_cons pe_str (pa_cons pe_str (pa_cons pe_str (pa_cons pe_str (pa_cons pe_int (pa_cons pe_non (pa_cons pe_bl (pa_cons (pe_lst (pa_cons pe_str pa_nil)) (pa_cons (pe_tup (pa_cons pe_str pa_nil)) (pa_cons pe_dnewK (pa_cons pe_str pa_nil))))))))))))))))
      (pss_one (ps_ret (pe_ix ix_list (pe_op op_cat (pv 1) (pe_lst (pa_cons pe_str (pa_cons pe_str pa_nil)))) (pe_op op_mod (pv 0) pe_int) (fun _ _ => rfl)))))), ?_⟩
    have st : ∀ {H : Hp} (z : Str), (decide (z.length ≤ 1000) && (z.cps.toList.all (fun c => decide (c < 0x110000)) && (patF (L z)).isNone)) = true → OddP H (.str z) := fun {H} z h => by
      rw [Bool.and_eq_true, Bool.and_eq_true] at h
      exact ⟨⟨of_decide_eq_true h.1, h.2.1⟩, Option.isNone_iff_eq_none.mp h.2.2⟩
    have es : ∀ {σ : L2.St} {H : Hp} (z : Str), (decide (z.length ≤ 1000) && (z.cps.toList.all (fun c => decide (c < 0x110000)) && (patF (L z)).isNone)) = true → EvG OddP (tC (.str z)) σ H := fun z h => eg_v ev_c fun _ _ => st z h
    have m0 := Int.emod_nonneg n (show (30 : Int) ≠ 0 by decide)
    have m1 := Int.emod_lt_of_pos n (show (0 : Int) < 30 by decide)
    refine q_asgG (P2 := OddP) (n := 15) (egs_cons OddP.mo (es _ (by decide +kernel)) (egs_cons OddP.mo (es _ (by decide +kernel)) (egs_cons OddP.mo (es _ (by decide +kernel)) (egs_cons OddP.mo (es _ (by decide +kernel)) (egs_cons OddP.mo (es _ (by decide +kernel)) (egs_cons OddP.mo (es _ (by decide +kernel)) (egs_cons OddP.mo (es _ (by decide +kernel)) (egs_cons OddP.mo (es _ (by decide +kernel)) (egs_cons OddP.mo (es _ (by decide +kernel)) (egs_cons OddP.mo (es _ (by decide +kernel)) (egs_cons OddP.mo (es _ (by decide +kernel)) (egs_cons OddP.mo (es _ (by decide +kernel)) (egs_cons OddP.mo (es _ (by decide +kernel)) (egs_cons OddP.mo (es _ (by decide +kernel)) (egs_cons OddP.mo (es _ (by decide +kernel)) egs_nil))))))))))))))) (by decide) (fun p xs H1 e1 hp hl hx => ?_) OddP.mo
    refine q_asgGc (P2 := OddP) (n := 13) rfl hp hx (egs_cons OddP.mo (es _ (by decide +kernel)) (egs_cons OddP.mo (es _ (by decide +kernel)) (egs_cons OddP.mo (es _ (by decide +kernel)) (egs_cons OddP.mo (es _ (by decide +kernel)) (egs_cons OddP.mo (es _ (by decide +kernel)) (egs_cons OddP.mo (es _ (by decide +kernel)) (egs_cons OddP.mo (eg_v ev_c fun _ _ => ⟨True.intro, rfl⟩) (egs_cons OddP.mo (eg_v ev_c fun _ _ => ⟨True.intro, rfl⟩) (egs_cons OddP.mo (eg_v ev_c fun _ _ => ⟨True.intro, rfl⟩)
      (egs_cons OddP.mo (eg_l (el_lst (ea_cons ev_c ea_nil) (by show 1 ≤ 100000; decide)) fun _ _ h => ⟨Or.inl ⟨_, h⟩, rfl⟩) (egs_cons OddP.mo (eg_u (eu_tup (ea_cons ev_c ea_nil) (by show 1 ≤ 100000; decide)) fun _ _ h => ⟨Or.inr (Or.inl ⟨_, h⟩), rfl⟩) (egs_cons OddP.mo (eg_d fun _ _ h => ⟨Or.inr (Or.inr ⟨_, h⟩), rfl⟩) (egs_cons OddP.mo (es _ (by decide +kernel)) egs_nil))))))))))))) (by rw [hl]; decide) (fun p2 ys H2 e2 hp2 hl2 hy => ?_) OddP.mo
    rw [hl] at hl2
    refine s_retG (P2 := OddP) (eg_ixC (K := K) (n := 2) OddP.mo (ev_var rfl) hp2 hy (egs_cons OddP.mo (es _ (by decide +kernel)) (egs_cons OddP.mo (es _ (by decide +kernel)) egs_nil)) (by rw [hl2]; decide) (fun H3 e3 => ev_op (ev_var rfl) ev_c (rv_I (by show (0 : Int) < _; decide))) m0 (by rw [hl2]; exact m1)) fun v H3 e3 h3 => kk v H3 ((e1.trans e2).trans e3) h3

/-! ### read, by the law -/
def spLRead : Sp := fun vs H Q _ => ∃ z : List Nat, vs = [.str (TX.T z)] ∧ z.length ≤ 1000 ∧ (∀ c ∈ z, c < 128) ∧ (patF z = none → ∀ H', Ex H H' → Q .non H') ∧ ∀ p v H', patF z = some p → Ex H H' → PtnAt H' v p → Q v H'
theorem getD_app0 (f : List Nat) (k : Nat) : (f ++ [0]).getD k 0 = f.getD k 0 := by
  rw [List.getD_eq_getElem?_getD, List.getD_eq_getElem?_getD]
  rcases Nat.lt_or_ge k f.length with h | h
  · rw [List.getElem?_append_left h]
  · rw [List.getElem?_append_right h, List.getElem?_eq_none h]
    cases k - f.length with
    | zero => rfl
    | succ n => rfl
theorem getD_last (g : List Nat) (m : Nat) : (g ++ [m]).getD g.length 0 = m := by
  rw [List.getD_eq_getElem?_getD, List.getElem?_append_right (Nat.le_refl _), Nat.sub_self]
  rfl
theorem putK_some (kvs : List (Key × V)) (k : Key) (v : V) : (putK kvs k v).isEmpty = false := by
  cases h : putK kvs k v with
  | cons _ _ => rfl
  | nil =>
    have := valV_put kvs k k v
    rw [h, valV_nil, if_pos rfl] at this
    cases this
theorem dotT : ("." : Str) = TX.T [46] := by decide +kernel
theorem first_dot (l : List Nat) : decide (V.str (cutS (TX.T l) none (some ((1 : Nat) : Int))) = V.str ".") = decide (l[0]? = some 46) := by
  rw [decide_eq_decide, dotT]
  cases l with
  | nil => constructor <;> intro h <;> exact absurd h (by decide +kernel)
  | cons c r =>
    rw [cut_to _ _ (by rw [List.length_cons]; omega)]
    constructor
    · intro h
      have h2 : ((c :: r).take 1) = [46] := T_inj (V.str.inj h)
      have h3 : c = 46 := (List.cons.inj h2).1
      rw [h3]
      rfl
    · intro h
      have h3 : c = 46 := Option.some.inj h
      rw [h3]
      rfl
theorem sIx_neg1 (n d : Nat) : HT.sIx n d (some (-1)) = n - 1 := by
  show (if (-1 : Int) < 0 then ((-1 : Int) + (n : Int)).toNat else min (-1 : Int).toNat n) = _
  rw [if_pos (by decide)]
  omega
theorem last_dot (l : List Nat) : decide (V.str (cutS (TX.T l) (some (-1)) none) = V.str ".") = decide (l.getLast? = some 46) := by
  rw [decide_eq_decide, dotT, cut_T, sIx_neg1, HT.sIx_none]
  rcases List.eq_nil_or_concat l with rfl | ⟨r, c, rfl⟩
  · constructor <;> intro h <;> exact absurd h (by decide +kernel)
  · rw [List.concat_eq_append]
    have e : ((r ++ [c]).drop ((r ++ [c]).length - 1)).take ((r ++ [c]).length - ((r ++ [c]).length - 1)) = [c] := by
      have h1 : (r ++ [c]).length - 1 = r.length := by rw [List.length_append]; rfl
      have h2 : (r ++ [c]).length - r.length = 1 := by rw [List.length_append]; show r.length + 1 - r.length = 1; omega
      rw [h1, h2, List.drop_left]
      rfl
    rw [e, List.getLast?_concat]
    constructor
    · intro h
      have h2 : [c] = [46] := T_inj (V.str.inj h)
      rw [(List.cons.inj h2).1]
    · intro h
      rw [Option.some.inj h]
theorem cut_but (l : List Nat) : cutS (TX.T l) none (some (-1)) = TX.T l.dropLast := by
  rw [cut_T, sIx_neg1, HT.sIx_none, List.drop_zero, Nat.sub_zero, List.dropLast_eq_take]
theorem abc_in (c : Nat) : decide (c ∈ ("abcdefghijklmnopqrstuvwxyz" : Str).cps.toList) = small c := by
  have e : ("abcdefghijklmnopqrstuvwxyz" : Str).cps.toList = (List.range 26).map (· + 97) := by decide +kernel
  rw [e, Bool.eq_iff_iff]
  unfold small
  simp only [decide_eq_true_eq, List.mem_map, List.mem_range, Bool.and_eq_true]
  constructor
  · rintro ⟨k, hk, rfl⟩
    omega
  · intro h
    exact ⟨c - 97, by omega, by omega⟩
theorem et_neNil {σ : L2.St} {H : Hp} {ta tb : TE} {xs : List V} (ha : EvG (fun H1 v => Dp K H1 v (.list (xs.map dpOf))) ta σ H) (hb : ∀ H1, Ex H H1 → EvG (fun H1 v => Dp K H1 v (.list (([] : List V).map dpOf))) tb σ H1) (hf : xs.all flatOk = true) :
    EvT (tTest (tOp (rNeD K) ta tb)) σ H (!xs.isEmpty) := et_is (et_neD ha hb (shaped_flat hf) (shaped_flat rfl)) (by
      congr 1
      cases xs with
      | nil => rfl
      | cons x r => rfl)
theorem odd_none (l : List Nat) (f : Nat → V) : ((l.filter fun c => !small c).map f).isEmpty = l.all small := by
  rw [List.isEmpty_map]
  induction l with
  | nil => rfl
  | cons c r ih =>
    rw [List.filter_cons, List.all_cons]
    cases h : small c with
    | true => exact ih
    | false => rfl
theorem ok_l_read (T : Txt K mg A) : FnOk P w K mg base CX0 1 A.f_l_read A.d_l_read P_l_read spLRead := by
  refine T.F_l_read.ok sc_l_read (fun vs H Q E h => ?_) (fun cdv A' outer s H vs Q E hr h => ?_)
  · obtain ⟨z, rfl, _⟩ := h
    rfl
  · obtain ⟨z, rfl, hz, hb, kN, kS⟩ := h
    refine ⟨_, (pss_cons (ps_set (i := 1) sc_l_read.nd rfl (Or.inl rfl) pe_str)
      (pss_cons (ps_set (i := 2) sc_l_read.nd rfl (Or.inl rfl) pe_dnewK)
      (pss_cons (ps_for PassesOwn.never rfl (pi_str (pv 0)) (pg_name (i := 3) sc_l_read.nd rfl (Or.inl rfl))
      (pss_one (ps_if (pt_cmpR op_notIn_sign (pv 3) pe_str (by rfl)) (pss_one (ps_set (i := 1) sc_l_read.nd rfl (Or.inl rfl) (pe_op op_add_str (pv 1) (pv 3)))) (pss_one (ps_if (pt_cmp (pc_din (hu_of hr) (pe_callB call_len_str (by rfl) T.n_len PySem.boot_len (pa_cons (pv 1) pa_nil)) (pv 2)) (by rfl)) (pss_one (ps_ret pe_non)) (pss_one (ps_dput (hu_of hr) (pv 2) (pe_callB call_len_str (by rfl) T.n_len PySem.boot_len (pa_cons (pv 1) pa_nil)) (pe_callTy call_int_str (by rfl) T.n_int (by decide +kernel) (pa_cons (pv 3) pa_nil)) rfl)))))))
      (pss_cons (ps_set (i := 4) sc_l_read.nd rfl (Or.inl rfl) (pe_ifExp (pt_cmpR op_eq (pe_slice sl_str (pv 1) po_none (po_some pe_int)) pe_str (nomark _)) (pe_slice sl_str (pv 1) (po_some pe_int) po_none) (pv 1)))
      (pss_cons (ps_set (i := 4) sc_l_read.nd rfl (Or.inl rfl) (pe_ifExp (pt_cmpR op_eq (pe_slice sl_str (pv 4) (po_some (pe_un un_neg pe_int)) po_none) pe_str (nomark _)) (pe_slice sl_str (pv 4) po_none (po_some (pe_un un_neg pe_int))) (pv 4)))
      (pss_cons (ps_setLc (i := 5) (own := [("_law_sign", 3)]) (by rfl) sc_l_read.nd rfl rfl (sw_true rfl rfl rfl (by decide +kernel)) (pi_str (pv 4)) (blkOk_by (own := [("_law_sign", 3)]) (N := N_l_read) (sc := defScope s_l_read) (by decide +kernel)) (fun _ _ _ _ _ => (pg_name (i := 3) sc_l_read.nd rfl (Or.inl rfl))) (fun _ _ _ _ _ => pts_one (pt_cmpR op_notIn_sign (pv 3) pe_str (by rfl))) (fun _ _ _ _ _ => (pv 3)))
      (pss_one (ps_ret (pe_ifExp (PW.pt (pw_or (pt_cmpR (op_eqDE (Nat.lt_of_succ_lt (hu_of hr))) (pv 2) pe_dnewK (nomark _)) (pw_or (pt_cmpR (show OpR _ (compareOp .NotEq) (rNeD K) from op_neD hr.units) (pv 5) (pe_lst pa_nil) (nomark _)) (pw_or1 (pt_not (pt_chain op_le op_le pe_int (pe_callB call_len_str (by rfl) T.n_len PySem.boot_len (pa_cons (pv 4) pa_nil)) pe_int)))))) pe_non (pe_tup (pa_cons (pv 1) (pa_cons (pv 2) pa_nil)))))))))))), ?_⟩
    refine q_asg (v := .str (TX.T [])) ev_c fun H1 e1 => ?_
    refine q_dnew fun d nd => ?_
    have nd0 : H d = none := fresh_back e1 nd
    refine q_forS (w := TX.T z) (ev_var rfl) (fun i σ' H' => Ex H H' ∧ ∃ s g m kvs v3, rdF (z.take i) = some (s, g, m) ∧ (∀ c ∈ s, isFig c = false ∧ c < 128) ∧ σ' = [some (.str (TX.T z)), some (.str (TX.T s)), some (.ref d), v3, none, none] ∧ H' d = some (.dK kvs) ∧ FigsD kvs (g ++ [m]) ∧ kvs.length ≤ i ∧ kvs.isEmpty = !((g ++ [m]).any fun n => decide (0 < n)))
      (fun H3 e3 => ⟨(e1.trans (Ex.new nd)).trans e3, [], [], 0, [], none, rfl, nofun, rfl, e3 _ _ upd_same, FigsD.zero 1, Nat.zero_le _, rfl⟩) ?_ ?_
    · rintro i c σ' H' hc ⟨eH, s, g, m, kvs, v3, hr0, hs, rfl, hd, hF, kl, hem⟩
      rw [L_T] at hc
      have hi : i < z.length := (List.getElem?_eq_some_iff.mp hc).1
      have tk : z.take (i + 1) = z.take i ++ [c] := by rw [List.take_add_one, hc]; rfl
      have ok := rdF_ok _ hr0
      have sl : s.length ≤ i := by
        have := ok.2.2.2
        rw [List.length_take] at this
        show s.length ≤ i
        exact Nat.le_trans this (Nat.min_le_left _ _)
      have gl : g.length = s.length := ok.1
      have st : rdF (z.take (i + 1)) = rdStep (s, g, m) c := by rw [tk, rdF_snoc, hr0]; rfl
      have ln : ∀ {σ : L2.St} {H : Hp}, σ[1]? = some (some (.str (TX.T s))) → EvA (tCons (tVar 1) tNil) σ H [.str (TX.T s)] := fun h => ea_cons (ev_var h) ea_nil
      refine s_if (b := !(isFig c)) (et_is (et_test (ev_op (ev_var rfl) ev_c rv_ninS)) (congrArg (!·) (figs_in c))) (fun hb1 H3 e3 => ?_) fun hb1 H3 e3 => ?_
      · have hb' : isFig c = false := by simpa using hb1
        refine s_asg (v := .str (TX.T (s ++ [c]))) (ev_is (ev_op (x := .str (TX.T s)) (y := .str (TX.T [c])) (ev_var rfl) (ev_var rfl) (rv_addS (by rw [len_T, len_T]; show s.length + 1 ≤ _; omega))) (by rw [addT])) fun H4 e4 => ?_
        refine ⟨eH.trans (e3.trans e4), s ++ [c], g ++ [m], 0, kvs, _, ?_, fun x hx => ?_, rfl, (e3.trans e4) _ _ hd, fun k => ?_, Nat.le_succ_of_le kl, ?_⟩
        · rw [st]
          unfold rdStep
          rw [if_neg (by rw [hb']; exact Bool.false_ne_true)]
        · rcases List.mem_append.mp hx with hx | hx
          · exact hs x hx
          · rw [List.mem_singleton.mp hx]
            exact ⟨hb', hb c (List.mem_of_getElem? hc)⟩
        · rw [hF k, getD_app0]
        · have : ((g ++ [m] ++ [0]).any fun n => decide (0 < n)) = ((g ++ [m]).any fun n => decide (0 < n)) := by simp [List.any_append]
          rw [hem, this]
      · have hb' : isFig c = true := by simpa using hb1
        have c1 : 49 ≤ c := by
          unfold isFig at hb'
          rw [Bool.and_eq_true, decide_eq_true_eq] at hb'
          exact hb'.1
        have vm : valV kvs (.inl (s.length : Int)) = if m ≠ 0 then some (.int (m : Int)) else none := by
          rw [hF, Int.toNat_natCast, ← gl, getD_last]
          by_cases h0 : m ≠ 0
          · rw [if_pos h0, if_pos ⟨by omega, h0⟩]
          · rw [if_neg h0, if_neg fun q => h0 q.2]
        have key : ∀ {σ : L2.St} {H : Hp}, σ[1]? = some (some (.str (TX.T s))) → (TX.T s).length ≤ 100000 ∧ V.int ((TX.T s).length : Int) = kV (.inl (s.length : Int)) := fun _ => ⟨by rw [len_T]; omega, by rw [len_T]; rfl⟩
        refine s_if (b := (valV kvs (.inl (s.length : Int))).isSome) (et_B (ev_din (k := .inl (s.length : Int)) (ev_is (ev_cb (ln rfl) (rc_lenS (by rw [len_T]; omega))) (by rw [len_T]; rfl)) (ev_var rfl) (Or.inl (e3 _ _ hd)))) (fun hv H4 e4 => ?_) fun hv H4 e4 => ?_
        · have m0 : m ≠ 0 := fun h => by rw [vm, if_neg (fun q => q h)] at hv; cases hv
          refine s_ret (v := .non) ev_c fun H5 e5 => kN ?_ H5 (eH.trans ((e3.trans e4).trans e5))
          have : rdF (z.take (i + 1)) = none := by
            rw [st]
            unfold rdStep
            rw [if_pos hb', if_neg m0]
          have h2 : rdF z = none := by
            rw [← List.take_append_drop (i + 1) z]
            exact rdF_bad this
          unfold patF
          rw [h2]
          rfl
        · have m0 : m = 0 := by
            rcases Nat.eq_zero_or_pos m with h | h
            · exact h
            · rw [vm, if_pos (by omega)] at hv
              cases hv
          have e34 := e3.trans e4
          refine s_dput (k := .inl (s.length : Int)) (v := .int ((c - 48 : Nat) : Int)) (ev_cb (ea_cons (ev_var rfl) ea_nil) (rc_intS (fig_int hb') (by rw [len_T]; show 1 ≤ 640; decide))) (ev_var rfl) (ev_is (ev_cb (ln rfl) (rc_lenS (by rw [len_T]; omega))) (by rw [len_T]; rfl)) (e34 _ _ hd) (by omega) fun H5 e5 => ?_
          have fp := hF.put (j := s.length) (v := c - 48) (by rw [List.length_append, gl]; show s.length < s.length + 1; omega) (by omega)
          have sg : (g ++ [m]).set s.length (c - 48) = g ++ [c - 48] := by rw [← gl]; exact set_last g m (c - 48)
          rw [sg] at fp
          refine ⟨Ex.mut (eH.trans (e34.trans e5)) nd0, s, g, c - 48, _, _, ?_, hs, rfl, upd_same, fp, ?_, ?_⟩
          · rw [st]
            unfold rdStep
            rw [if_pos hb', if_pos m0]
          · have := length_putK kvs (.inl (s.length : Int)) (.int ((c - 48 : Nat) : Int))
            omega
          · rw [putK_some, List.any_append]
            have : ([c - 48].any fun n => decide (0 < n)) = true := by
              show (decide (0 < c - 48) || false) = true
              rw [decide_eq_true (by omega)]
              rfl
            rw [this, Bool.or_true]
            rfl
    · rintro σ' H' ⟨eH, s, g, m, kvs, v3, hr0, hs, rfl, hd, hF, kl, hem⟩
      rw [L_T, List.take_length] at hr0
      have ok := rdF_ok _ hr0
      have sl : s.length ≤ z.length := ok.2.2.2
      have sT : (TX.T s).length = s.length := len_T _
      refine q_asg (v := .str (TX.T (noDot s))) (ev_if (b := decide (s[0]? = some 46)) (et_is (et_test (ev_op (ev_slS (w := TX.T s) (lo := none) (hi := some ((1 : Nat) : Int)) (ev_var rfl) eo_none (eo_some ev_c) (by rw [sT]; omega)) ev_c (rv_eq rfl))) (first_dot s)) (fun h => ev_is (ev_slS (w := TX.T s) (lo := some ((1 : Nat) : Int)) (hi := none) (ev_var rfl) (eo_some ev_c) eo_none (by rw [sT]; omega)) ?_) fun h => ev_is (ev_var rfl) ?_) fun H2 e2 => ?_
      · rw [cut_fr]
        unfold noDot
        rw [if_pos (by simpa using h), List.drop_one]
      · unfold noDot
        rw [if_neg (by simpa using h)]
      · have nl : (noDot s).length ≤ s.length := by
          unfold noDot
          split
          · rw [List.length_tail]; omega
          · omega
        have nT : (TX.T (noDot s)).length = (noDot s).length := len_T _
        refine q_asg (v := .str (TX.T (inner s))) (ev_if (b := decide ((noDot s).getLast? = some 46)) (et_is (et_test (ev_op (ev_slS (w := TX.T (noDot s)) (lo := some (-1)) (hi := none) (ev_var rfl) (eo_some (ev_un ev_c ru_neg)) eo_none (by rw [nT]; omega)) ev_c (rv_eq rfl))) (last_dot _)) (fun h => ev_is (ev_slS (w := TX.T (noDot s)) (lo := none) (hi := some (-1)) (ev_var rfl) eo_none (eo_some (ev_un ev_c ru_neg)) (by rw [nT]; omega)) ?_) fun h => ev_is (ev_var rfl) ?_) fun H3 e3 => ?_
        · rw [cut_but]
          unfold inner
          rw [if_pos (by simpa using h)]
        · unfold inner
          rw [if_neg (by simpa using h)]
        · have il := inner_len s
          have iT : (TX.T (inner s)).length = (inner s).length := len_T _
          have isz : (TX.T (inner s)).cps.size = (inner s).length := iT
          refine q_asgL (xs := ((inner s).filter fun c => !small c).map fun c => V.str (TX.T [c])) (el_is (el_lcS (w := TX.T (inner s)) (fun i => !small ((inner s).getD i 0)) (fun i => V.str (TX.T [(inner s).getD i 0])) (ev_var rfl) (by rw [isz]; omega) (fun _ => rfl) (fun i c H4 e4 hc => ?_) fun i c H4 e4 hc _ => ?_) (Rd.given_of (inner s) (fun c => !small c) (fun c => V.str (TX.T [c])) _ isz)) fun od H4 no e4 hod => ?_
          · have hc' : (inner s).getD i 0 = c := by
              rw [List.getD_eq_getElem?_getD]
              have : (inner s)[i]? = some c := by
                have h2 : (TX.T (inner s)).cps.toList = inner s := L_T _
                rw [← h2, Array.getElem?_toList]
                exact hc
              rw [this]
              rfl
            rw [hc']
            exact et_is (et_test (ev_op (ev_var rfl) ev_c rv_ninS)) (congrArg (!·) (abc_in c))
          · have hc' : (inner s).getD i 0 = c := by
              rw [List.getD_eq_getElem?_getD]
              have : (inner s)[i]? = some c := by
                have h2 : (TX.T (inner s)).cps.toList = inner s := L_T _
                rw [← h2, Array.getElem?_toList]
                exact hc
              rw [this]
              rfl
            rw [hc']
            exact ev_var rfl
          · have e24 := (e2.trans e3).trans e4
            have hfl : (((inner s).filter fun c => !small c).map fun c => V.str (TX.T [c])).all flatOk = true := by
              have := strL_flat (l := ((inner s).filter fun c => !small c).map fun c => [c]) fun y hy c hc => by
                obtain ⟨x, hx, rfl⟩ := List.mem_map.mp hy
                rw [List.mem_singleton.mp hc]
                have := (hs x (inner_sub s x (List.mem_filter.mp hx).1)).2
                omega
              unfold strL at this
              rw [List.map_map] at this
              exact this
            have any : ((g ++ [m]).any fun n => decide (0 < n)) = !kvs.isEmpty := by rw [hem, Bool.not_not]
            have pf : patF z = if (okIn (inner s) && !kvs.isEmpty) = true then some ⟨s, g ++ [m]⟩ else none := by
              unfold patF
              rw [hr0]
              show (if (okIn (inner s) && (g ++ [m]).any fun n => decide (0 < n)) = true then some (PatD.mk s (g ++ [m])) else none) = _
              rw [any]
            refine s_retG (P2 := fun H v => (patF z = none ∧ v = .non) ∨ (patF z = some ⟨s, g ++ [m]⟩ ∧ ∃ T0, v = .ref T0 ∧ H T0 = some (.tup [.str (TX.T s), .ref d]))) (eg_if (c := kvs.isEmpty || (!((inner s).all small) || !(decide (1 ≤ (inner s).length) && decide ((inner s).length ≤ 6)))) (et_or (et_eqDE (ev_var rfl) (e24 _ _ hd)) fun _ => et_or (et_is (et_neNil (eg_dv (ev_var rfl) hod hfl) (fun H5 e5 => eg_dl (xs := []) (el_lst ea_nil (by show 0 ≤ 100000; decide)) rfl) hfl) ?_) fun _ => et_not (et_is (et_test (ev_chain (x := .int 1) (y := .int ((inner s).length : Int)) (z := .int 6) ev_c (ev_is (ev_cb (ea_cons (ev_var rfl) ea_nil) (rc_lenS (by rw [iT]; omega))) (by rw [iT])) rv_I0 (fun _ => ev_c) (fun _ => rv_I0))) ?_)) (fun hq => eg_v ev_c fun _ _ => Or.inl ⟨?_, rfl⟩) fun hq => eg_u (eu_tup (ea_cons (ev_var rfl) (ea_cons (ev_var rfl) ea_nil)) (by show 2 ≤ 100000; decide)) fun T0 H5 hT => Or.inr ⟨?_, T0, rfl, hT⟩) fun v H5 e5 hv => ?_
            · rw [odd_none]
            · congr 1 <;> (rw [decide_eq_decide]; omega)
            · rw [pf, if_neg]
              unfold okIn
              intro hk
              rw [Bool.and_eq_true, Bool.and_eq_true] at hk
              rw [hk.1.1, hk.1.2] at hq
              rw [Bool.not_eq_true'] at hk
              rw [hk.2] at hq
              cases hq
            · rw [pf, if_pos]
              rw [Bool.or_eq_false_iff, Bool.or_eq_false_iff] at hq
              unfold okIn
              rw [hq.1]
              have h1 := hq.2.1
              have h2 := hq.2.2
              rw [Bool.not_eq_false'] at h1 h2
              rw [h1, h2]
              rfl
            · have eH5 := eH.trans (e24.trans e5)
              rcases hv with ⟨hn, rfl⟩ | ⟨hp, T0, rfl, hT⟩
              · exact kN hn H5 eH5
              · refine kS _ _ H5 hp eH5 ⟨T0, d, kvs, rfl, hT, (e24.trans e5) _ _ hd, hF, ⟨patF_ok hp, ?_, ?_, fun c hc => (hs c hc).1, fun c hc => (hs c hc).2⟩⟩
                · rw [pf] at hp
                  split at hp
                  · rename_i h
                    rw [Bool.and_eq_true] at h
                    exact h.1
                  · cases hp
                · rw [pf] at hp
                  split at hp
                  · rename_i h
                    rw [Bool.and_eq_true, ← any] at h
                    obtain ⟨n, hn, h0⟩ := List.any_eq_true.mp h.2
                    exact ⟨n, hn, of_decide_eq_true h0⟩
                  · cases hp

/-! ### what a deed says -/
/-- the deed is refused by D, whose word is z -/
def TTS (A : Ad) : (XK → Hp → VK → Prop) → Hp → VK → Prop := fun tl H Q => ∃ D z, ErrW A D z ∧ (∀ H1, Ex H H1 → ∀ (E : XK) (Q' : VK), (∀ H', Ex H1 H' → E (.ref D) none H') → tl E H1 Q') ∧ ∀ H', Ex H H' → Q (.str z) H'
theorem gives_said {X : Cx} (T : Txt X.K X.mg A) (hr0 : Room 2 X.A) {cdv : Value} {q : Str} : LamX.GivesTo X N_l_said "_law_said" (defScope s_l_said) A.f_l_said cdv (defBody s_l_said) "_law_deed" q (TTS A) := by
  intro f c' s H Q tl act hc h
  have hr : Room 1 (X.A.deeper (PyProof.Rows.envOfC "_law_said" (defScope s_l_said) s.heap.objs.size A.f_l_said cdv)) := hr0.deeper _
  refine ⟨_, (pss_cons (ps_set (i := 1) sc_l_said.nd rfl (Or.inl rfl) pe_non)
      (pss_cons (ps_try_keep (i := 2) (Wout := fun _ _ _ _ => False) rfl rfl sc_l_said.nd rfl rfl ⟨rfl, by decide, Or.inl T.g_MendError⟩ takes0 rfl
      (fun W pn xe tk _ => (pss_one (ps_expr (act _ pn xe (fun cls d H' => ∀ σ' : L2.St, σ'.length = 3 → W cls d σ' H') _ _ (takes_len tk) fun _ _ _ _ h l => h _ l))))
      (fun _ _ => (pss_one (ps_set (i := 1) sc_l_said.nd rfl (Or.inl rfl) (pv 2)))))
      (pss_one (ps_ret (pe_call (ok_l_class T) hr rfl T.g_l_class T.k_l_class T.b_l_class .nil pass0 (pa_cons (pv 1) pa_nil)))))), ?_⟩
  obtain ⟨D, z, hW, ht, hq⟩ := h
  refine q_asg (v := .non) ev_c fun H1 e1 => ?_
  refine q_tb ?_
  refine ⟨rfl, e1 _ _ hc, ht H1 e1 _ _ fun H2 e2 σ' hl => ?_⟩
  refine ⟨true, ?_, fun _ a na => ?_, fun h => nomatch h⟩
  · rcases hW with ⟨rfl, _⟩ | ⟨rfl, _⟩
    · exact T.m_BadWord_MendError
    · exact T.m_BadPattern_MendError
  · match σ', hl with
    | [u0, u1, u2], _ =>
      refine s_asg (v := .ref a) (ev_var rfl) fun H3 e3 => ?_
      refine s_ret (v := .str z) (ev_call (ea_cons (ev_var rfl) ea_nil) fun H4 e4 Q4 q4 E4 => ⟨a, D, z, rfl, (e3.trans e4) _ _ upd_same, hW, q4⟩) fun H4 e4 => hq H4 ((e1.trans e2).trans ((Ex.new na).trans (e3.trans e4)))
theorem pe_said {X : Cx} (T : Txt X.K X.mg A) (TB : LamX.TabB X.base X.mg A.kc A.kt) (hcode : X.env.code = .ref A.kc) {k : Nat} (hr : Room (k + 2) X.A) {sc : Scope} (hsc : X.env.scope = sc) {params : Arguments} {body : Expr} {scope : Scope} {lpos p pos : Pos} {t : XK → TE} (L : LamX.lamSB sc scope = true)
    (hbody : ∀ (A1 : Around) (o1 : List Env) (z1 : Shared) (H1 : Hp) (E1 : XK) (f1 c1 : Addr), Room k (A1.deeper (LamX.lamEnv X scope z1.heap.objs.size f1 c1)) → PE (LamX.lamCx X A1 o1 z1 H1 E1 scope f1 c1) body (t E1))
    (hg : Gl X "_law_said" := by rfl) (hdef : defaultsOf params X.env = ([], []) := by rfl) (hbind : ∀ (q : Str) (cl : List (Str × Addr)) (pm cv ctv : Value), bindArgs (PySem.W.kla_fn "<lambda>" q params body scope cl pm cv ctv) ⟨[], []⟩ = pure [] := by intros; rfl) :
    PE X (.Call (.Name "_law_said" p) [.Lambda params body scope lpos] [] pos) (LamX.tLam [(A.kt, X.env.qual ++ "<lambda>")] (TTS A) t) := by
  obtain ⟨oc, od, kV, doc, pm, an, cdv, ct, osl, hfd, lk, hcd⟩ := T.F_l_said.ex
  have hb := T.b_l_said
  rw [hfd] at hb lk
  exact LamX.pe_lamcall (T := [(A.kt, X.env.qual ++ "<lambda>")]) (TT := TTS A) (Ng := N_l_said) hg T.g_l_said T.k_l_said lk hcd hb sc_l_said rfl (Or.inl (by decide +kernel)) (gives_said T (hr.mono (by omega))) TB hcode (List.mem_singleton.mpr rfl) (fun p hp _ => by rw [List.mem_singleton.mp hp]) hr (hsc ▸ LamX.lamS_by L) hdef hbind hbody
theorem meth_raw {C a dx : Addr} {m : Str} {sp : Sp} {E : XK} {ta : TE} {t : TA} {σ : L2.St} {H : Hp} {Q : VK} {vs : List V} {fs : List (Str × V)} (h : Ev ta σ H (.ref a)) (ho : H a = some (.ins C dx fs)) (hm : fs.lookup m = none) (ht : EvA t σ H vs)
    (hs : ∀ H1, Ex H H1 → sp (.ref a :: vs) H1 Q E) : tMeth C m sp [] E ta t σ H Q := h H (Ex.refl _) _ fun H2 e2 => ⟨a, dx, fs, rfl, e2 _ _ ho, hm, ht H2 e2 _ fun H3 e3 => by
      rw [List.append_nil]
      exact hs H3 (e2.trans e3)⟩
/-! ### refusals of put, counts and parts -/
def lamQ : Str := (PyProof.Rows.envOfC "_law_put_refused" (defScope s_l_put_refused) 0 0 .none).qual ++ "<lambda>"
abbrev Tbs (A : Ad) (H : Hp) : Prop := LamX.Tabs [(A.kt, lamQ)] H
theorem ParterAt.extN {H H' : Hp} {x dl : Addr} {ps : List PatD} (h : ParterAt A H x ps dl) (e : LamX.ExtN H H') : ParterAt A H' x ps dl := by
  obtain ⟨dx, pl, qs, h1, h2, h3, h4⟩ := h
  refine ⟨dx, pl, qs, e _ _ h1 (fun ps z => nomatch z), e _ _ h2 (fun ps z => nomatch z), ⟨h3.1, fun i y p hy hp => ?_⟩, h4⟩
  obtain ⟨u, rfl, dy, fl, k1, k2, k3⟩ := h3.2 i y p hy hp
  exact ⟨u, rfl, dy, fl, e _ _ k1 (fun ps z => nomatch z), e _ _ k2 (fun ps z => nomatch z), k3⟩
theorem NoPcs.mo {z : Str} : ∀ H H' v, Ex H H' → NoPcs H z v → NoPcs H' z v := fun H H' v e h => ⟨h.1.mono e, fun a xs ha hx => by
  subst ha
  have hx0 : H a = some (.lst xs) := by
    rcases h.1 with ⟨ys, hy⟩ | ⟨ys, hy⟩ | ⟨ys, hy⟩
    · have := e _ _ hy
      rw [hx] at this
      rw [hy, ← this]
    · have := e _ _ hy
      rw [hx] at this
      cases this
    · have := e _ _ hy
      rw [hx] at this
      cases this
  obtain ⟨k1, k2, k3⟩ := h.2 a xs rfl hx0
  exact ⟨k1, fun y hy => (k2 y hy).mono e, k3⟩⟩
def OddW (H : Hp) (v : V) : Prop := Thing H v ∧ vW v = false
theorem OddW.mo : ∀ H H' v, Ex H H' → OddW H v → OddW H' v := fun _ _ _ e h => ⟨h.1.mono e, h.2⟩
theorem Thing.extN {H H' : Hp} {v : V} (h : Thing H v) (e : LamX.ExtN H H') : Thing H' v := by
  cases v with
  | ref a =>
    rcases h with ⟨ys, hy⟩ | ⟨ys, hy⟩ | ⟨ys, hy⟩
    · exact Or.inl ⟨ys, e _ _ hy (fun ps z => nomatch z)⟩
    · exact Or.inr (Or.inl ⟨ys, e _ _ hy (fun ps z => nomatch z)⟩)
    · exact Or.inr (Or.inr ⟨ys, e _ _ hy (fun ps z => nomatch z)⟩)
  | _ => exact h
theorem NoPcs.extN {H H' : Hp} {z : Str} {v : V} (h : NoPcs H z v) (e : LamX.ExtN H H') : NoPcs H' z v := ⟨Thing.extN h.1 e, fun a xs ha hx => by
  subst ha
  have hx0 : H a = some (.lst xs) := by
    rcases h.1 with ⟨ys, hy⟩ | ⟨ys, hy⟩ | ⟨ys, hy⟩
    · have := e _ _ hy (fun ps z => nomatch z)
      rw [hx] at this
      rw [hy, ← this]
    · have := e _ _ hy (fun ps z => nomatch z)
      rw [hx] at this
      cases this
    · have := e _ _ hy (fun ps z => nomatch z)
      rw [hx] at this
      cases this
  obtain ⟨k1, k2, k3⟩ := h.2 a xs rfl hx0
  exact ⟨k1, fun y hy => Thing.extN (k2 y hy) e, k3⟩⟩
theorem np_v {H : Hp} {z : Str} {v : V} (h : Thing H v) (n : ∀ a, v ≠ .ref a) : NoPcs H z v := ⟨h, fun a _ e => absurd e (n a)⟩
theorem np_u {H : Hp} {z : Str} {a : Addr} {xs : List V} (h : H a = some (.tup xs)) : NoPcs H z (.ref a) := ⟨Or.inr (Or.inl ⟨xs, h⟩), fun b ys e hy => by cases e; rw [h] at hy; cases hy⟩
theorem np_d {H : Hp} {z : Str} {a : Addr} (h : H a = some (.dK [])) : NoPcs H z (.ref a) := ⟨Or.inr (Or.inr ⟨[], h⟩), fun b ys e hy => by cases e; rw [h] at hy; cases hy⟩
theorem np_l {H : Hp} {z : Str} {a : Addr} {xs : List V} (h : H a = some (.lst xs)) (h1 : xs.length ≤ 100) (h2 : ∀ y ∈ xs, Thing H y) (h3 : ∀ ys : List Str, xs = ys.map V.str → ("" : Str) ∈ ys ∨ Txt.join "" ys ≠ z) : NoPcs H z (.ref a) :=
  ⟨Or.inl ⟨xs, h⟩, fun b ys e hy => by
    cases e
    rw [h] at hy
    cases hy
    exact ⟨h1, h2, h3⟩⟩
theorem map_str_inj : ∀ {xs ys : List Str}, xs.map V.str = ys.map V.str → xs = ys
  | [], [], _ => rfl
  | x :: xs, y :: ys, h => by
    rw [List.map_cons, List.map_cons] at h
    injection h with h1 h2
    rw [V.str.inj h1, map_str_inj h2]
  | [], y :: ys, h => by simp at h
  | x :: xs, [], h => by simp at h
def spPR (A : Ad) : Sp := fun vs H Q _ => ∃ (x dl : Addr) (w : List Nat) (n : Int) (ps : List PatD), vs = [.ref x, .str (TX.T w), .int n] ∧ ParterAt A H x ps dl ∧ H dl = some (.dK []) ∧ vW (.str (TX.T w)) = true ∧ Tbs A H ∧
  ∀ p H', LamX.ExtN H H' → Tbs A H' → H' p = some (.lst [.str "word", .str "pattern", .str "word", .str "word"]) → Q (.ref p) H'
theorem exN {H H' : Hp} (e : Ex H H') : LamX.ExtN H H' := LamX.ExtN.of e
theorem exN_upd {H H1 : Hp} {l : Addr} {o : HO} (h : LamX.ExtN H H1) (n : H1 l = none) : LamX.ExtN H (upd H1 l o) := h.trans (exN (Ex.new n))
theorem tbs_ex {H H' : Hp} (h : Tbs A H) (e : Ex H H') : Tbs A H' := LamX.Tabs.ext h e
theorem tbs_upd {H : Hp} {l : Addr} {o : HO} {xs : List V} (h : Tbs A H) (hl : H l = some (.lst xs)) : Tbs A (upd H l o) := fun p hp => by
  obtain ⟨ps, h1, h2, h3⟩ := h p hp
  refine ⟨ps, by rw [upd_ne (ne_of h1 hl fun z => nomatch z)]; exact h1, h2, fun pos cv hc => ?_⟩
  obtain ⟨c, rfl, hcc⟩ := h3 pos cv hc
  exact ⟨c, rfl, by rw [upd_ne (ne_of hcc hl fun z => by unfold LamX.CodeO at z; cases z)]; exact hcc⟩
theorem exN_mut {H H1 : Hp} {l : Addr} {o : HO} (h : LamX.ExtN H H1) (n : H l = none) : LamX.ExtN H (upd H1 l o) := fun b o' hb hn => by
  rw [upd_ne (fun e => by rw [e, n] at hb; cases hb)]
  exact h b o' hb hn
theorem said_one {q : Str} {t : XK → TE} {σ : L2.St} {H : Hp} {Q : VK} {D : Addr} {z : Str} (hT : LamX.Tabs [(A.kt, q)] H) (hW : ErrW A D z) (ht : ∀ H1, LamX.ExtN H H1 → ∀ (E : XK) (Q' : VK), (∀ H', Ex H1 H' → E (.ref D) none H') → t E σ H1 Q')
    (k : ∀ H1, LamX.ExtN H H1 → LamX.Tabs [(A.kt, q)] H1 → Q (.str z) H1) : LamX.tLam [(A.kt, q)] (TTS A) t σ H Q :=
  ⟨hT, fun H1 e1 t1 => ⟨D, z, hW, fun H2 e2 E Q' hE => ht H2 (e1.trans (exN e2)) E Q' hE, fun H' e => k H' (e1.trans (exN e)) (LamX.Tabs.ext t1 e)⟩⟩
theorem q_appSaid {q : Str} {t : XK → TE} {σ : L2.St} {H : Hp} {D : Ends} {tz : TS} {C : Addr} {z : Str} {l : Addr} {xs : List V} {ta : TE} (hl : H l = some (.lst xs)) (ha : Ev ta σ H (.ref l)) (hz : xs.length < 100000) (hT : LamX.Tabs [(A.kt, q)] H) (hW : ErrW A C z)
    (ht : ∀ H1, LamX.ExtN H H1 → ∀ (E : XK) (Q' : VK), (∀ H', Ex H1 H' → E (.ref C) none H') → t E σ H1 Q') (k : ∀ H1, LamX.ExtN H H1 → LamX.Tabs [(A.kt, q)] H1 → tz D σ (upd H1 l (.lst (xs ++ [.str z])))) :
    tSeq (tDrop (tBM K "list" rAppend ta (tCons (LamX.tLam [(A.kt, q)] (TTS A) t) tNil))) tz D σ H :=
  ha H (Ex.refl _) _ fun H1 e1 => ⟨Or.inl ⟨rfl, xs, sq_of (e1 _ _ hl)⟩, said_one (LamX.Tabs.ext hT e1) hW (fun H2 e2 => ht H2 ((exN e1).trans e2)) fun H2 e2 t2 => ⟨l, xs, .str z, rfl, rfl, (e2 _ _ (e1 _ _ hl) (fun ps z => nomatch z)), sz_lt hz, k H2 ((exN e1).trans e2) t2⟩⟩
theorem s_retSaid {q : Str} {t : XK → TE} {σ : L2.St} {H : Hp} {D : Ends} {C : Addr} {z : Str} {l : Addr} {xs : List V} {ta : TE} (hl : H l = some (.lst xs)) (ha : Ev ta σ H (.ref l)) (hz : xs.length + 1 ≤ 100000) (hT : LamX.Tabs [(A.kt, q)] H) (hW : ErrW A C z)
    (ht : ∀ H1, LamX.ExtN H H1 → ∀ (E : XK) (Q' : VK), (∀ H', Ex H1 H' → E (.ref C) none H') → t E σ H1 Q') (k : ∀ p H1, LamX.ExtN H H1 → LamX.Tabs [(A.kt, q)] H1 → H1 p = some (.lst (xs ++ [.str z])) → D.rt (.ref p) H1) :
    tRet (tOp rCat ta (tLst (tCons (LamX.tLam [(A.kt, q)] (TTS A) t) tNil))) D σ H :=
  ha H (Ex.refl _) _ fun H1 e1 => said_one (LamX.Tabs.ext hT e1) hW (fun H2 e2 => ht H2 ((exN e1).trans e2)) fun H2 e2 t2 => ⟨sz_of (by show 1 ≤ 100000; decide), fun l2 nl2 =>
    ⟨l, l2, xs, [.str z], rfl, rfl, (Ex.new nl2) _ _ (e2 _ _ (e1 _ _ hl) (fun ps z => nomatch z)), upd_same, sz_of hz, fun l3 nl3 =>
      k l3 _ ((((exN e1).trans e2).trans (exN (Ex.new nl2))).trans (exN (Ex.new nl3))) (LamX.Tabs.ext (LamX.Tabs.ext t2 (Ex.new nl2)) (Ex.new nl3)) upd_same⟩⟩
section
variable {x dl : Addr} {ps : List PatD} {od u : V} {Ha : Hp} {σ : L2.St} {E : XK} {Q : VK} {i j : Nat}
theorem put_odd (hP : ParterAt A Ha x ps dl) (ho : OddW Ha od) (h0 : σ[0]? = some (some (.ref x))) (h1 : σ[i]? = some (some od)) (h2 : σ[j]? = some (some u)) (hE : ∀ H', Ex Ha H' → E (.ref A.c_BadWord) none H') :
    tMeth A.c_Parter "put" (spPutR A) [] E (tVar 0) (tCons (tVar i) (tCons (tVar j) tNil)) σ Ha Q := by
  obtain ⟨dx, pl, qs, hx, _⟩ := id hP
  exact meth_raw (ev_var h0) hx pa_put (ea_cons (ev_var h1) (ea_cons (ev_var h2) ea_nil)) fun H1 e1 => ⟨x, dl, od, u, ps, rfl, hP.mono e1, ho.1.mono e1, fun _ H' e' => hE H' (e1.trans e'), fun h => by rw [ho.2] at h; cases h⟩
theorem put_bad {w : List Nat} (hP : ParterAt A Ha x ps dl) (vw : vW (.str (TX.T w)) = true) (hu : NoPcs Ha (TX.T w) u) (h0 : σ[0]? = some (some (.ref x))) (h1 : σ[i]? = some (some (.str (TX.T w)))) (h2 : σ[j]? = some (some u)) (hE : ∀ H', Ex Ha H' → E (.ref A.c_BadPattern) none H') :
    tMeth A.c_Parter "put" (spPutR A) [] E (tVar 0) (tCons (tVar i) (tCons (tVar j) tNil)) σ Ha Q := by
  obtain ⟨dx, pl, qs, hx, _⟩ := id hP
  exact meth_raw (ev_var h0) hx pa_put (ea_cons (ev_var h1) (ea_cons (ev_var h2) ea_nil)) fun H1 e1 => ⟨x, dl, .str (TX.T w), u, ps, rfl, hP.mono e1, th_word vw, (fun h => by rw [vw] at h; cases h), fun _ => ⟨fun z hz => by cases hz; exact NoPcs.mo _ _ _ e1 hu, fun H' e' => hE H' (e1.trans e')⟩⟩
theorem counts_odd (hP : ParterAt A Ha x ps dl) (ho : OddW Ha od) (h0 : σ[0]? = some (some (.ref x))) (h1 : σ[i]? = some (some od)) (hE : ∀ H', Ex Ha H' → E (.ref A.c_BadWord) none H') :
    tMeth A.c_Parter "counts" (spCounts A) [] E (tVar 0) (tCons (tVar i) tNil) σ Ha Q := by
  obtain ⟨dx, pl, qs, hx, _⟩ := id hP
  exact meth_raw (ev_var h0) hx pa_counts (ea_cons (ev_var h1) ea_nil) fun H1 e1 => ⟨x, dl, od, ps, rfl, hP.mono e1, ho.1.mono e1, (fun w' e hv => by rw [ho.2] at hv; cases hv), fun _ H' e' => hE H' (e1.trans e')⟩
theorem parts_odd (hP : ParterAt A Ha x ps dl) (hd : Ha dl = some (.dK [])) (ho : OddW Ha od) (h0 : σ[0]? = some (some (.ref x))) (h1 : σ[i]? = some (some od)) (hE : ∀ H', Ex Ha H' → E (.ref A.c_BadWord) none H') :
    tMeth A.c_Parter "parts" (spParts A) [] E (tVar 0) (tCons (tVar i) tNil) σ Ha Q := by
  obtain ⟨dx, pl, qs, hx, _⟩ := id hP
  exact meth_raw (ev_var h0) hx pa_parts (ea_cons (ev_var h1) ea_nil) fun H1 e1 => ⟨x, dl, od, ps, [], rfl, hP.mono e1, e1 _ _ hd, ho.1.mono e1, (fun w' e hv => by rw [ho.2] at hv; cases hv), fun _ H' e' => hE H' (e1.trans e')⟩
end
theorem ok_l_put_refused (T : Txt K mg A) (TB : LamX.TabB base mg A.kc A.kt) : FnOk P w K mg base CX0 8 A.f_l_put_refused A.d_l_put_refused P_l_put_refused (spPR A) := by
  refine T.F_l_put_refused.ok sc_l_put_refused (fun vs H Q E h => ?_) (fun A' outer s H vs Q E hr h => ?_)
  · obtain ⟨x, dl, w, n, ps, rfl, _⟩ := h
    rfl
  · obtain ⟨x, dl, w, n, ps, rfl, hP, hd, vw, hT, kk⟩ := h
    refine ⟨_, (pss_cons (ps_set (i := 3) sc_l_put_refused.nd rfl (Or.inr rfl) (pe_ix ix_list (pe_lst (pa_cons pe_non (pa_cons pe_str (pa_cons pe_str (pa_cons pe_int (pa_cons (pe_lst (pa_cons pe_str pa_nil)) (pa_cons pe_str (pa_cons (pe_tup (pa_cons pe_str pa_nil)) (pa_cons pe_dnewK (pa_cons pe_bl (pa_cons pe_str pa_nil))))))))))) (pe_op op_mod (pv 2) pe_int) (fun _ _ => rfl)))
      (pss_cons (ps_set (i := 4) sc_l_put_refused.nd rfl (Or.inr rfl) (pe_lst (pa_cons pe_non (pa_cons (pv 1) (pa_cons (pe_lst pa_nil) (pa_cons (pe_lst (pa_cons (pv 1) (pa_cons pe_str pa_nil))) (pa_cons (pe_lst (pa_cons pe_str (pa_cons (pv 1) pa_nil))) (pa_cons (pe_lst (pa_cons (pe_op op_add_str (pv 1) pe_str) pa_nil)) (pa_cons (pe_tup (pa_cons (pv 1) pa_nil)) (pa_cons (pe_lst (pa_cons pe_int pa_nil)) (pa_cons (pe_lst (pa_cons (pv 1) (pa_cons pe_str pa_nil))) (pa_cons pe_dnewK (pa_cons (pe_lst (pa_cons (pe_callTy (call_list_text rfl) (by rfl) T.n_list (by decide +kernel) (pa_cons (pv 1) pa_nil)) pa_nil)) (pa_cons pe_int pa_nil))))))))))))))
      (pss_cons (ps_set (i := 4) sc_l_put_refused.nd rfl (Or.inr rfl) (pe_ix ix_list (pv 4) (pe_op op_mod (pe_op op_fdiv (pv 2) pe_int) pe_int) (fun _ _ => rfl)))
      (pss_cons (ps_set (i := 5) sc_l_put_refused.nd rfl (Or.inl rfl) (pe_lst (pa_cons (pe_said T TB rfl (k := 5) (hr.mono (by decide)) (sc := defScope s_l_put_refused) rfl (by decide +kernel) (fun A1 o1 z1 H1 E1 f1 c1 hr => (pe_meth (E := E1) (pv 0) T.cl_Parter T.mt_Parter_put (ok_Parter_put T) (hr.mono (by decide)) T.b_Parter_put .nil (passes_call (takes_of rfl rfl rfl rfl) fun _ _ _ _ z => z) (pa_cons (pv 3) (pa_cons (pv 4) pa_nil))))) pa_nil)))
      (pss_cons (ps_expr (pe_bm PySem.F.plainAttrs_list PySem.F.slot_list_append PySem.F.type_list_append mt_append (pv 5) (pa_cons (pe_said T TB rfl (k := 5) (hr.mono (by decide)) (sc := defScope s_l_put_refused) rfl (by decide +kernel) (fun A1 o1 z1 H1 E1 f1 c1 hr => (pe_meth (E := E1) (pv 0) T.cl_Parter T.mt_Parter_put (ok_Parter_put T) (hr.mono (by decide)) T.b_Parter_put .nil (passes_call (takes_of rfl rfl rfl rfl) fun _ _ _ _ z => z) (pa_cons (pv 1) (pa_cons (pv 4) pa_nil))))) pa_nil)))
      (pss_cons (ps_expr (pe_bm PySem.F.plainAttrs_list PySem.F.slot_list_append PySem.F.type_list_append mt_append (pv 5) (pa_cons (pe_said T TB rfl (k := 5) (hr.mono (by decide)) (sc := defScope s_l_put_refused) rfl (by decide +kernel) (fun A1 o1 z1 H1 E1 f1 c1 hr => (pe_meth (E := E1) (pv 0) T.cl_Parter T.mt_Parter_counts (ok_Parter_counts T) (hr.mono (by decide)) T.b_Parter_counts .nil (passes_call (takes_of rfl rfl rfl rfl) fun _ _ _ _ z => z) (pa_cons (pv 3) pa_nil)))) pa_nil)))
      (pss_one (ps_ret (pe_op op_cat (pv 5) (pe_lst (pa_cons (pe_said T TB rfl (k := 5) (hr.mono (by decide)) (sc := defScope s_l_put_refused) rfl (by decide +kernel) (fun A1 o1 z1 H1 E1 f1 c1 hr => (pe_meth (E := E1) (pv 0) T.cl_Parter T.mt_Parter_parts (ok_Parter_parts T) (hr.mono (by decide)) T.b_Parter_parts .nil (passes_call (takes_of rfl rfl rfl rfl) fun _ _ _ _ z => z) (pa_cons (pv 3) pa_nil)))) pa_nil))))))))))), ?_⟩
    obtain ⟨w1, w16, ws⟩ := vW_T vw
    have wl : (TX.T w).length = w.length := len_T _
    have wth : ∀ {H : Hp}, Thing H (.str (TX.T w)) := th_word vw
    have wa : ∀ {H : Hp}, Thing H (.str (TX.T w ++ "a")) := fun {H} => by
      refine ⟨?_, ?_⟩
      · show (TX.T w ++ "a" : Str).length ≤ 1000
        rw [Str.length_append, wl]
        have : ("a" : Str).length = 1 := by decide +kernel
        omega
      · have h1 : signs (TX.T w) := (wth (H := H)).2
        exact signs_add h1 (by unfold signs; decide +kernel)
    have ten := Int.emod_nonneg n (show (10 : Int) ≠ 0 by decide)
    have ten1 := Int.emod_lt_of_pos n (show (0 : Int) < 10 by decide)
    have tw0 := Int.emod_nonneg (n / 10) (show (12 : Int) ≠ 0 by decide)
    have tw1 := Int.emod_lt_of_pos (n / 10) (show (0 : Int) < 12 by decide)
    have so : ∀ {z : Str} {H : Hp}, z.length ≤ 1000 → signs z → vW (.str z) = false → OddW H (.str z) := fun a b c => ⟨⟨a, b⟩, c⟩
    refine q_asgIx (R := OddW) (n := 10) OddW.mo (egs_cons OddW.mo (eg_v ev_c fun _ _ => ⟨True.intro, rfl⟩) (egs_cons OddW.mo (eg_v ev_c fun _ _ => so (by decide +kernel) (by unfold signs; decide +kernel) (by decide +kernel)) (egs_cons OddW.mo (eg_v ev_c fun _ _ => so (by decide +kernel) (by unfold signs; decide +kernel) (by decide +kernel))
      (egs_cons OddW.mo (eg_v ev_c fun _ _ => ⟨True.intro, rfl⟩) (egs_cons OddW.mo (eg_l (el_lst (ea_cons ev_c ea_nil) (by show 1 ≤ 100000; decide)) fun _ _ h => ⟨Or.inl ⟨_, h⟩, rfl⟩) (egs_cons OddW.mo (eg_v ev_c fun _ _ => so (by decide +kernel) (by unfold signs; decide +kernel) (by decide +kernel))
      (egs_cons OddW.mo (eg_u (eu_tup (ea_cons ev_c ea_nil) (by show 1 ≤ 100000; decide)) fun _ _ h => ⟨Or.inr (Or.inl ⟨_, h⟩), rfl⟩) (egs_cons OddW.mo (eg_d fun _ _ h => ⟨Or.inr (Or.inr ⟨_, h⟩), rfl⟩) (egs_cons OddW.mo (eg_v ev_c fun _ _ => ⟨True.intro, rfl⟩)
      (egs_cons OddW.mo (eg_v ev_c fun _ _ => so (by decide +kernel) (by unfold signs; decide +kernel) (by decide +kernel)) egs_nil)))))))))) (fun H1 e1 => ev_op (ev_var rfl) ev_c (rv_I (by show (0 : Int) < _; decide))) ten ten1 (by decide) fun od H1 e1 hod => ?_
    have one : ∀ {ys : List Str} {y : Str}, [V.str y] = ys.map V.str → ys = [y] := fun {ys y} h => (map_str_inj (xs := [y]) h).symm
    have two : ∀ {ys : List Str} {y y2 : Str}, [V.str y, V.str y2] = ys.map V.str → ys = [y, y2] := fun {ys y y2} h => (map_str_inj (xs := [y, y2]) h).symm
    have jl : ∀ ys : List Str, L (Txt.join "" ys) = (ys.map L).flatten := fun ys => join0 ys
    have la : L ("a" : Str) = [97] := by decide +kernel
    have NP : ∀ H H' v, Ex H H' → NoPcs H (TX.T w) v → NoPcs H' (TX.T w) v := NoPcs.mo
    refine q_asgG (P2 := fun H v => NoPcs H (TX.T w) v) (n := 12) (egs_cons NP (eg_v ev_c fun _ _ => np_v True.intro fun a h => nomatch h) (egs_cons NP (eg_v (ev_var rfl) fun _ _ => np_v wth fun a h => nomatch h)
      (egs_cons NP (eg_l (el_lst ea_nil (by show 0 ≤ 100000; decide)) fun _ _ h => np_l h (by decide) (fun y hy => nomatch hy) fun ys hy => Or.inr fun e => ?_)
      (egs_cons NP (eg_l (el_lst (ea_cons (ev_var rfl) (ea_cons ev_c ea_nil)) (by show 2 ≤ 100000; decide)) fun _ _ h => np_l h (by show 2 ≤ 100; decide) (fun y hy => ?_) fun ys hy => Or.inl (by rw [two hy]; exact List.mem_cons_of_mem _ List.mem_cons_self))
      (egs_cons NP (eg_l (el_lst (ea_cons ev_c (ea_cons (ev_var rfl) ea_nil)) (by show 2 ≤ 100000; decide)) fun _ _ h => np_l h (by show 2 ≤ 100; decide) (fun y hy => ?_) fun ys hy => Or.inl (by rw [two hy]; exact List.mem_cons_self))
      (egs_cons NP (eg_l (el_lst (ea_cons (ev_op (ev_var rfl) ev_c (rv_addS (by rw [wl]; have h1 : ("a" : Str).length = 1 := (by decide +kernel); omega))) ea_nil) (by show 1 ≤ 100000; decide)) fun _ _ h => np_l h (by show 1 ≤ 100; decide) (fun y hy => ?_) fun ys hy => Or.inr fun e => ?_)
      (egs_cons NP (eg_u (eu_tup (ea_cons (ev_var rfl) ea_nil) (by show 1 ≤ 100000; decide)) fun _ _ h => np_u h)
      (egs_cons NP (eg_l (el_lst (ea_cons ev_c ea_nil) (by show 1 ≤ 100000; decide)) fun _ _ h => np_l h (by show 1 ≤ 100; decide) (fun y hy => by rw [List.mem_singleton.mp hy]; exact True.intro) fun ys hy => by
        cases ys with
        | nil => cases hy
        | cons y r => rw [List.map_cons] at hy; injection hy with h1; cases h1)
      (egs_cons NP (eg_l (el_lst (ea_cons (ev_var rfl) (ea_cons ev_c ea_nil)) (by show 2 ≤ 100000; decide)) fun _ _ h => np_l h (by show 2 ≤ 100; decide) (fun y hy => ?_) fun ys hy => Or.inr fun e => ?_)
      (egs_cons NP (eg_d fun _ _ h => np_d h) (egs_cons NP (fun H2 e2 Q2 q2 => el_text (K := K) (ev_var (v := .str (TX.T w)) rfl) (by rw [wl]; omega) H2 e2 _ fun l H3 nl e3 hl => ⟨sz_of (by show 1 ≤ 100000; decide), fun l2 n2 => q2 _ _ (e3.trans (Ex.new n2)) (np_l upd_same (by show 1 ≤ 100; decide) (fun y hy => by rw [List.mem_singleton.mp hy]; exact Or.inl ⟨_, (Ex.new n2) _ _ hl⟩) fun ys hy => by
        cases ys with
        | nil => cases hy
        | cons y r => rw [List.map_cons] at hy; injection hy with h1; cases h1)⟩)
      (egs_cons NP (eg_v ev_c fun _ _ => np_v True.intro fun a h => nomatch h) egs_nil)))))))))))) (by decide) (fun bp xs H2 e2 hbp hl2 hx2 => ?_) NP
    · obtain rfl : ys = [] := by
        cases ys with
        | nil => rfl
        | cons y r => cases hy
      have := congrArg L e
      rw [jl, L_T] at this
      rw [← this] at w1
      exact absurd w1 (by decide)
    · rcases List.mem_cons.mp hy with rfl | hy
      · exact wth
      · rw [List.mem_singleton.mp hy]
        exact ⟨by decide +kernel, by decide +kernel⟩
    · rcases List.mem_cons.mp hy with rfl | hy
      · exact ⟨by decide +kernel, by decide +kernel⟩
      · rw [List.mem_singleton.mp hy]
        exact wth
    · rw [List.mem_singleton.mp hy]
      exact wa
    · rw [one hy] at e
      have := congrArg (fun z => (L z).length) e
      simp only [jl, L_T, List.map_cons, List.map_nil, List.flatten_cons, List.flatten_nil, List.append_nil, L_add, la, List.length_append] at this
      have h1 : [97].length = 1 := rfl
      omega
    · rcases List.mem_cons.mp hy with rfl | hy
      · exact wth
      · rw [List.mem_singleton.mp hy]
        exact ⟨by decide +kernel, by decide +kernel⟩
    · rw [two hy] at e
      have := congrArg (fun z => (L z).length) e
      simp only [jl, L_T, List.map_cons, List.map_nil, List.flatten_cons, List.flatten_nil, List.append_nil, la, List.length_append] at this
      have h1 : [97].length = 1 := rfl
      omega
    · refine (eg_ix (K := K) NP (ev_var rfl) hbp hx2 (ev_op (ev_op (ev_var rfl) ev_c (rv_I ⟨by decide, by decide⟩)) ev_c (rv_I (by show (0 : Int) < _; decide))) tw0 (by rw [hl2]; exact tw1)) H2 (Ex.refl _) _ fun bd H3 e3 hbd => ?_
      have e03 := (e1.trans e2).trans e3
      have hod3 : OddW H3 od := OddW.mo _ _ _ (e2.trans e3) hod
      have hP3 := hP.mono e03
      have hT3 : Tbs A H3 := tbs_ex hT e03
      have hb3 : NoPcs H3 (TX.T w) bd := hbd
      have hd3 := e03 _ _ hd
      refine said_one hT3 (Or.inl ⟨rfl, rfl⟩) (fun H4 e4 E Q' hE => put_odd (hP3.extN e4) ⟨Thing.extN hod3.1 e4, hod3.2⟩ rfl rfl rfl hE) fun H4 e4 t4 => ⟨sz_of (by show 1 ≤ 100000; decide), fun l nl => ?_⟩
      have hP4 := hP3.extN e4
      have ho4 : OddW H4 od := ⟨Thing.extN hod3.1 e4, hod3.2⟩
      have hb4 := hb3.extN e4
      have hd4 := e4 _ _ hd3 (fun ps z => nomatch z)
      have e45 : LamX.ExtN H4 (upd H4 l (.lst [.str "word"])) := exN (Ex.new nl)
      have t5 : Tbs A (upd H4 l (.lst [.str "word"])) := tbs_ex t4 (Ex.new nl)
      refine q_appSaid (l := l) (xs := [.str "word"]) upd_same (ev_var rfl) (by decide) t5 (Or.inr ⟨rfl, rfl⟩) (fun H6 e6 E Q' hE => put_bad (hP4.extN (e45.trans e6)) vw (hb4.extN (e45.trans e6)) rfl rfl rfl hE) fun H6 e6 t6 => ?_
      have e46 : LamX.ExtN H4 (upd H6 l (.lst ([.str "word"] ++ [.str "pattern"]))) := exN_mut (e45.trans e6) nl
      have t7 : Tbs A (upd H6 l (.lst ([.str "word"] ++ [.str "pattern"]))) := tbs_upd t6 (e6 _ _ upd_same (fun ps z => nomatch z))
      refine q_appSaid (l := l) (xs := [.str "word", .str "pattern"]) upd_same (ev_var rfl) (by decide) t7 (Or.inl ⟨rfl, rfl⟩) (fun H8 e8 E Q' hE => counts_odd (hP4.extN (e46.trans e8)) ⟨Thing.extN ho4.1 (e46.trans e8), ho4.2⟩ rfl rfl hE) fun H8 e8 t8 => ?_
      have e48 : LamX.ExtN H4 (upd H8 l (.lst ([.str "word", .str "pattern"] ++ [.str "word"]))) := exN_mut (e46.trans e8) nl
      have t9 : Tbs A (upd H8 l (.lst ([.str "word", .str "pattern"] ++ [.str "word"]))) := tbs_upd t8 (e8 _ _ upd_same (fun ps z => nomatch z))
      have hl9 : (upd H8 l (.lst ([.str "word", .str "pattern"] ++ [.str "word"]))) l = some (.lst [.str "word", .str "pattern", .str "word"]) := upd_same
      generalize (upd H8 l (.lst ([.str "word", .str "pattern"] ++ [.str "word"]))) = H9 at e48 t9 hl9
      exact s_retSaid hl9 (ev_var rfl) (by decide) t9 (Or.inl ⟨rfl, rfl⟩) (fun H11 e11 E Q' hE => parts_odd (hP4.extN (e48.trans e11)) ((e48.trans e11) _ _ hd4 (fun ps z => nomatch z)) ⟨Thing.extN ho4.1 (e48.trans e11), ho4.2⟩ rfl rfl hE) fun p H11 e11 t11 hp =>
        kk p H11 (((exN e03).trans e4).trans (e48.trans e11)) t11 hp

/-! ### the law itself -/
theorem lcGR {σ : L2.St} {H : Hp} {te : TE} {ta : TA} {vs : List Nat} {n j : Nat} {R : Addr → Nat → Hp → V → Prop} (mo : ∀ p i H H' v, Ex H H' → R p i H v → R p i H' v) (h : EvA ta σ H [.int (n : Int)]) (hz : n ≤ 40000) (hw : ∀ x, wipe ((wipe σ vs).set j (some x)) vs = wipe σ vs)
    (he : ∀ (i : Nat) H1 Dl ys, Ex H H1 → H Dl = none → H1 Dl = some (.lst ys) → i < n → EvG (fun H4 v => ∀ zs, R Dl i (upd H4 Dl (.lst zs)) v) te ((wipe σ vs).set j (some (.int (i : Int)))) H1) :
    EvLG R n (tLc (iRng1 ta) (gName j) tYes te vs) σ H := fun H0 e Q q =>
  h H0 e _ fun H1 e1 => ⟨(n : Int), rfl, by omega, by omega, fun Dl hD =>
    lc_range (lo := 0) (n := (n : Int).toNat) (Cg R H1 Dl) ⟨hD, Ex.new hD, [], upd_same, rfl, fun j y h => by simp at h⟩ (fun i H' hi p => by
      have e0 : (0 : Int) + (i : Int) = (i : Int) := Int.zero_add _
      show wipe ((wipe σ vs).set j (some (.int ((0 : Int) + (i : Int))))) vs = wipe σ vs ∧ tYes ((wipe σ vs).set j (some (.int ((0 : Int) + (i : Int))))) H' fun b H3 => if b = true then te ((wipe σ vs).set j (some (.int ((0 : Int) + (i : Int))))) H3 fun y H4 => ∃ acc, H4 Dl = some (.lst acc) ∧ acc.length < sizeLine ∧ Cg R H1 Dl (i + 1) (upd H4 Dl (.lst (acc ++ [y]))) else Cg R H1 Dl (i + 1) H3
      rw [e0]
      obtain ⟨p1, p2, ys, p3, p4, p5⟩ := p
      refine ⟨hw _, ?_⟩
      show te _ H' fun y H4 => ∃ acc, H4 Dl = some (.lst acc) ∧ acc.length < sizeLine ∧ Cg R H1 Dl (i + 1) (upd H4 Dl (.lst (acc ++ [y])))
      refine he i H' Dl ys ((e.trans e1).trans p2) (fresh_back (e.trans e1) p1) p3 (by omega) H' (Ex.refl _) _ fun v H4 e4 pv => ⟨ys, e4 _ _ p3, sz_lt (by omega), p1, Ex.mut (p2.trans e4) p1, ys ++ [v], upd_same, by rw [List.length_append, p4]; rfl, fun j y hj zs => ?_⟩
      rw [upd_upd]
      rcases Nat.lt_or_ge j ys.length with hlt | hge
      · rw [List.getElem?_append_left hlt] at hj
        exact mo _ _ _ _ _ (Ex.both e4) (p5 j y hj zs)
      · have hj2 : j = ys.length := by
          have := (List.getElem?_eq_some_iff.mp hj).1
          rw [List.length_append] at this
          have h1 : [v].length = 1 := rfl
          omega
        subst hj2
        rw [List.getElem?_append_right (Nat.le_refl _), Nat.sub_self] at hj
        cases hj
        rw [p4]
        exact pv zs)
      (fun H' p => by
        obtain ⟨p1, p2, ys, p3, p4, p5⟩ := p
        refine q Dl ys H' (fresh_back e1 p1) (e1.trans p2) p3 (by omega) fun j y hj => ?_
        have := p5 j y hj ys
        rw [updSelf p3] at this
        exact this)⟩
theorem lcNR {σ : L2.St} {H : Hp} {te : TE} {ta : TA} {vs : List Nat} {n j : Nat} {P : Nat → Hp → V → Prop} (h : EvA ta σ H [.int (n : Int)]) (hz : n ≤ 40000) (hw : ∀ x, wipe ((wipe σ vs).set j (some x)) vs = wipe σ vs)
    (he : ∀ (i : Nat) H1, Ex H H1 → i < n → EvN (P i) te ((wipe σ vs).set j (some (.int (i : Int)))) H1) : EvLN P n (tLc (iRng1 ta) (gName j) tYes te vs) σ H := eln_of fun Hb e0 =>
  lcGR (fun p i H H' v => Rn.mono p i H H' v) (fun H1 e => h H1 (e0.trans e)) hz hw fun i H1 Dl ys e1 nD hD hi => eg_Rn e1 hD (he i H1 (e0.trans e1) hi)
theorem cut_takeV (xs : List V) (n : Nat) : cutV xs none (some (n : Int)) = xs.take n := by
  unfold cutV
  rw [HT.sIx_none, HT.sIx_nat]
  show xs.take (min n xs.length - 0) = xs.take n
  rw [Nat.sub_zero, List.take_eq_take_iff]
  omega
theorem cut_dropV (xs : List V) (n : Nat) (h : n ≤ xs.length) : cutV xs (some (n : Int)) none = xs.drop n := by
  unfold cutV
  rw [HT.sIx_none, HT.sIx_nat, Nat.min_eq_left h, List.take_of_length_le (by rw [List.length_drop]; omega)]
theorem q_clear1 {σ : L2.St} {H : Hp} {D : Ends} {tz : TS} {ta : TE} {l : Addr} {xs : List V} (hl : H l = some (.lst xs)) (ha : Ev ta σ H (.ref l)) (k : ∀ H1, Ex H H1 → tz D σ (upd H1 l (.lst []))) : tSeq (tDrop (tBM0 K "list" rClear ta)) tz D σ H :=
  ha H (Ex.refl H) _ fun H1 e1 => ⟨Or.inl ⟨rfl, xs, sq_of (e1 l _ hl)⟩, l, xs, rfl, rfl, e1 _ _ hl, k H1 e1⟩
theorem patsOf_mem : ∀ {xs : List V} {v : V}, v ∈ xs → patV v = none → patsOf xs = none
  | x :: r, v, h, hv => by
    show (patV x).bind (fun p => (patsOf r).map (p :: ·)) = none
    rcases List.mem_cons.mp h with rfl | h
    · rw [hv]; rfl
    · rw [patsOf_mem h hv]
      cases patV x <;> rfl
theorem txt_bd {p : PatD} (G : GoodPt p) : ∀ c ∈ txt p, c < 128 := by
  have bd : ∀ k, ∀ c ∈ txN p k, c < 128 := fun k => by
    induction k with
    | zero => intro c hc; cases hc
    | succ k ih =>
      intro c hc
      have hc' : c ∈ txN p k ++ figT p k ++ (p.s.drop k).take 1 := hc
      rcases List.mem_append.mp hc' with hc' | hc'
      · rcases List.mem_append.mp hc' with hc' | hc'
        · exact ih c hc'
        · unfold figT at hc'
          split at hc'
          · rw [List.mem_singleton.mp hc']
            have : p.f.getD k 0 ≤ 9 := by
              rw [List.getD_eq_getElem?_getD]
              cases hx : p.f[k]? with
              | none => exact Nat.zero_le _
              | some x => exact G.ok.nine x (List.mem_of_getElem? hx)
            omega
          · cases hc'
      · exact G.bd c (List.mem_of_mem_drop (List.mem_of_mem_take hc'))
  exact bd _
theorem txt_len {p : PatD} (G : GoodPt p) : (txt p).length ≤ 18 := by
  have p8 := G.ok.eight
  have tl := txN_len p (p.s.length + 1)
  show (txN p (p.s.length + 1)).length ≤ 18
  omega
theorem txt_flat {ps : List PatD} (h : ∀ p ∈ ps, GoodPt p) : (strL (ps.map txt)).all flatOk = true := strL_flat fun y hy c hc => by
  obtain ⟨p, hp, rfl⟩ := List.mem_map.mp hy
  have := txt_bd (h p hp) c hc
  omega
theorem th_small {y : List Nat} (hl : y.length ≤ 1000) (hb : ∀ c ∈ y, c < 128) {H : Hp} : Thing H (.str (TX.T y)) := by
  refine ⟨by show (TX.T y).length ≤ 1000; rw [len_T]; exact hl, ?_⟩
  rw [List.all_eq_true]
  intro c hc
  have e : (TX.T y).cps.toList = y := L_T _
  rw [e] at hc
  have := hb c hc
  exact decide_eq_true (by omega)
section
variable {σ : L2.St} {H : Hp} {te ta tb : TE} {E : XK} {p : Addr} {xs : List V} {ps : List PatD}
theorem en_madeL (h : EvL te σ H xs) (ht : ∀ y ∈ xs, Thing H y) (hq : patsOf xs = some ps) (hl : xs.length ≤ 200) : EvN (ParterN A ps) (tCall (spMade A) [] E (tCons te tNil)) σ H := fun H1 e Q q =>
  h H1 e _ fun p H2 np e2 h2 => ⟨.ref p, rfl, Or.inl ⟨_, h2⟩, fun a ys ea ha _ y hy => by
    cases ea
    rw [h2] at ha
    cases ha
    exact (ht y hy).mono (e.trans e2), fun a ys qs ea ha _ hq' u H3 e3 n3 => by
    cases ea
    rw [h2] at ha
    cases ha
    rw [hq] at hq'
    cases hq'
    exact q u H3 (e2.trans e3) (n3.back e2), fun hb => by
    have := hb p xs rfl h2 hl
    rw [hq] at this
    cases this⟩
theorem en_made (h : Ev te σ H (.ref p)) (hp : H p = some (.lst xs)) (ht : ∀ y ∈ xs, Thing H y) (hq : patsOf xs = some ps) (hl : xs.length ≤ 200) : EvN (ParterN A ps) (tCall (spMade A) [] E (tCons te tNil)) σ H := fun H1 e Q q =>
  h H1 e _ fun H2 e2 => by
    have h2 := (e.trans e2) _ _ hp
    refine ⟨.ref p, rfl, Or.inl ⟨_, h2⟩, fun a ys ea ha _ y hy => ?_, fun a ys qs ea ha _ hq' u H3 e3 n3 => ?_, fun hb => ?_⟩
    · cases ea
      rw [h2] at ha
      cases ha
      exact (ht y hy).mono (e.trans e2)
    · cases ea
      rw [h2] at ha
      cases ha
      rw [hq] at hq'
      cases hq'
      exact q u H3 (e2.trans e3) (n3.back e2)
    · have := hb p xs rfl h2 hl
      rw [hq] at this
      cases this
theorem ev_madeBad (h : EvL te σ H xs) (ht : xs.length ≤ 200 → ∀ y ∈ xs, Thing H y) (hq : xs.length ≤ 200 → patsOf xs = none) : Ev (tCall (spMade A) [] E (tCons te tNil)) σ H (.str "pattern") := fun H1 e Q q =>
  h H1 e _ fun p H2 np e2 h2 => ⟨.ref p, rfl, Or.inl ⟨_, h2⟩, fun a ys ea ha hl y hy => by
    cases ea
    rw [h2] at ha
    cases ha
    exact (ht hl y hy).mono (e.trans e2), (fun a ys qs ea ha hl hq' => by
    cases ea
    rw [h2] at ha
    cases ha
    rw [hq hl] at hq'
    cases hq'), fun _ H' e' => q H' (e2.trans e')⟩
def NotL (H : Hp) (v : V) : Prop := Thing H v ∧ ∀ a xs, v = .ref a → H a ≠ some (.lst xs)
theorem NotL.mo : ∀ H H' v, Ex H H' → NotL H v → NotL H' v := fun H H' v e h => ⟨Thing.mono e h.1, fun a xs ea hx => by
  subst ea
  exact h.2 a xs rfl (lst_back h.1 e hx)⟩
theorem NotL.th {v : V} (h : NotL H v) : Thing H v := h.1
theorem NotL.no {a : Addr} (h : NotL H (.ref a)) : H a ≠ some (.lst xs) := h.2 a xs rfl
theorem ev_madeNot {v : V} (h : Ev te σ H v) (hn : NotL H v) : Ev (tCall (spMade A) [] E (tCons te tNil)) σ H (.str "pattern") := fun H1 e Q q =>
  h H1 e _ fun H2 e2 => by
    have n2 := NotL.mo _ _ _ (e.trans e2) hn
    refine ⟨v, rfl, n2.th, fun a ys ea ha => ?_, fun a ys qs ea ha => ?_, fun _ H' e' => q H' (e2.trans e')⟩
    · subst ea
      exact absurd ha n2.no
    · subst ea
      exact absurd ha n2.no
theorem ev_isNew (T : Txt K mg A) (h : EvN (ParterN A ps) te σ H) : Ev (tCB (rIsi K) (tCons te (tCons (tC (.ty "str")) tNil))) σ H (.bl false) := fun H1 e Q q =>
  h H1 e _ fun v H2 e2 n => by
    obtain ⟨x, dl, rfl, hP, _⟩ := n.here
    obtain ⟨dx, pl, qs, hx, _⟩ := hP
    exact rc_isC hx T.ic_Parter (.ty _) T.ki_Parter_str H2 (Ex.refl _) Q fun H3 e3 => q H3 (e2.trans e3)
theorem el_countsN {wd : List Nat} {s : Str} (hs : s = TX.T wd) (h : EvN (ParterN A ps) te σ H) (vw : vW (.str (TX.T wd)) = true) : EvL (tMeth A.c_Parter "counts" (spCounts A) [] E te (tCons (tC (.str s)) tNil)) σ H (gaps ps wd) := fun H1 e Q q =>
  h H1 e _ fun v H2 e2 n => by
    subst hs
    obtain ⟨x, dl, rfl, hP, _⟩ := n.here
    obtain ⟨dx, pl, qs, hx, _⟩ := id hP
    refine ⟨x, dx, _, rfl, hx, pa_counts, ?_⟩
    show spCounts A [.ref x, .str (TX.T wd)] H2 Q E
    refine ⟨x, dl, _, ps, rfl, hP, th_word vw, fun w' ew _ => ?_, fun h => ?_⟩
    · have := T_inj (V.str.inj ew)
      subst this
      exact fun p H3 np e3 h3 => q p H3 (fresh_back e2 np) (e2.trans e3) h3
    · rw [vw] at h
      cases h
theorem ev_eqSame (ha : EvL ta σ H xs) (hb : ∀ H1, Ex H H1 → EvL tb σ H1 xs) (hf : xs.all flatOk = true) : Ev (tOp (rEqD K) ta tb) σ H (.bl true) := fun H1 e Q q =>
  ha H1 e _ fun p H2 _ e2 h2 => hb H2 (e.trans e2) H2 (Ex.refl _) _ fun l H3 _ e3 h3 => by
    refine ⟨.list (xs.map dpOf), .list (xs.map dpOf), .lst (sq_of (e3 p _ h2)) (dps_flat hf), .lst (sq_of h3) (dps_flat hf), shaped_flat hf, shaped_flat hf, ?_⟩
    rw [eqvs_self hf]
    exact q _ (e2.trans e3)
theorem el_call1L {sp : Sp} {y : V} {zs : List V} (h1 : EvL ta σ H xs) (h2 : ∀ H1, Ex H H1 → Ev tb σ H1 y) (hs : ∀ p H1, Ex H H1 → H1 p = some (.lst xs) → ∀ Q : VK, RetL zs H1 Q → sp [.ref p, y] H1 Q E) : EvL (tCall sp [] E (tCons ta (tCons tb tNil))) σ H zs := fun H1 e Q q =>
  h1 H1 e _ fun p H2 np e2 hp => h2 H2 (e.trans e2) H2 (Ex.refl _) _ fun H3 e3 => hs p H3 ((e.trans e2).trans e3) (e3 _ _ hp) Q fun r H4 nr e4 h4 => q r H4 (fresh_back (e2.trans e3) nr) ((e2.trans e3).trans e4) h4
theorem q_neX {D : Ends} {tu tz : TS} {R : Hp → Prop} (h : ∀ Q : VK, (∀ p H1, R H1 → H1 p = some (.lst xs) → Q (.ref p) H1) → ta σ H Q) (hb : ∀ H1, R H1 → EvL tb σ H1 xs) (hf : xs.all flatOk = true) (mo : ∀ H H', Ex H H' → R H → R H') (k : ∀ H1, R H1 → tz D σ H1) :
    tSeq (tIfS (tTest (tOp (rNeD K) ta tb)) tu tNext) tz D σ H :=
  h _ fun p H1 r hp => hb H1 r H1 (Ex.refl _) _ fun l H2 _ e2 h2 => by
    refine ⟨.list (xs.map dpOf), .list (xs.map dpOf), .lst (sq_of (e2 _ _ hp)) (dps_flat hf), .lst (sq_of h2) (dps_flat hf), shaped_flat hf, shaped_flat hf, _, rfl, ?_⟩
    rw [eqvs_self hf]
    exact k H2 (mo _ _ e2 r)
end
theorem a1_pats : ∃ ps, patsOf ((List.replicate 200 [V.str "a1"]).flatten) = some ps := Option.isSome_iff_exists.mp (by decide +kernel)
theorem a1_things {n : Nat} {H : Hp} : ∀ y ∈ (List.replicate n [V.str "a1"]).flatten, Thing H y := fun y hy => by
  obtain ⟨l, hl, hy⟩ := List.mem_flatten.mp hy
  rw [List.eq_of_mem_replicate hl] at hy
  rw [List.mem_singleton.mp hy]
  exact ⟨by decide +kernel, by decide +kernel⟩
theorem a1_len (n : Nat) : ((List.replicate n [V.str "a1"]).flatten).length = n := by simp
def spLaw (K : PySem.W.Frag) (kt : Addr) : Sp := fun vs H Q _ => ∃ (a : Addr) (ns : List Int), vs = [.ref a] ∧ SqL K H a (ns.map V.int) ∧ ns.length ≤ 63 ∧ LamX.Tabs [(kt, lamQ)] H ∧ ∀ H', Q (.bl true) H'
set_option maxHeartbeats 8000000 in
theorem ok_law (T : Txt K mg A) (TB : LamX.TabB base mg A.kc A.kt) : FnOk P w K mg base CX0 9 A.f_law A.d_law P_law (spLaw K A.kt) := by
  refine T.F_law.ok sc_law (fun vs H Q E h => ?_) (fun cdv A' outer s H vs Q E hr h => ?_)
  · obtain ⟨a, ns, rfl, _⟩ := h
    rfl
  · obtain ⟨a, ns, rfl, hS, hlen, hT, k⟩ := h
    refine ⟨_, (pss_cons (ps_for PassesOwn.never rfl (pi_enum (by rfl) T.n_enumerate (pa_cons (pe_op op_cat (pe_lst (pa_cons pe_int pa_nil)) (pe_slice sl_list (pv 0) po_none (po_some pe_int))) pa_nil)) (pg_tup (by rfl) (pgs_cons (pg_name (i := 1) sc_law.nd rfl (Or.inl rfl)) (pgs_cons (pg_name (i := 2) sc_law.nd rfl (Or.inl rfl)) pgs_nil)))
      (pss_cons (ps_set (i := 3) sc_law.nd rfl (Or.inr rfl) (pe_call (ok_l_mixed T) (hr.mono (by decide)) rfl T.g_l_mixed T.k_l_mixed T.b_l_mixed .nil pass0 (pa_cons (pv 2) (pa_cons (pv 1) pa_nil))))
      (pss_cons (ps_setLc (i := 4) (own := [("_law_j", 18)]) (by rfl) sc_law.nd rfl rfl (sw_true rfl rfl rfl (by decide +kernel)) (pi_range1 rfl T.n_range (pa_cons (pe_op op_add pe_int (pe_op op_mod (pv 3) pe_int)) pa_nil)) (blkOk_by (own := [("_law_j", 18)]) (N := N_law) (sc := defScope s_law) (by decide +kernel)) (fun _ _ _ _ _ => (pg_name (i := 18) sc_law.nd rfl (Or.inl rfl))) (fun _ _ _ _ _ => pts_nil) (fun _ _ _ _ _ => (pe_call (ok_l_pattern T) (hr.mono (by decide)) rfl T.g_l_pattern T.k_l_pattern T.b_l_pattern .nil pass0 (pa_cons (pe_call (ok_l_mixed T) (hr.mono (by decide)) rfl T.g_l_mixed T.k_l_mixed T.b_l_mixed .nil pass0 (pa_cons (pv 3) (pa_cons (pe_op op_add pe_int (pv 18)) pa_nil))) pa_nil))))
      (pss_cons (ps_setLc (i := 5) (own := [("_law_pattern_here", 19)]) (by rfl) sc_law.nd rfl rfl (sw_true rfl rfl rfl (by decide +kernel)) (pi_list (pv 4)) (blkOk_by (own := [("_law_pattern_here", 19)]) (N := N_law) (sc := defScope s_law) (by decide +kernel)) (fun _ _ _ _ _ => (pg_name (i := 19) sc_law.nd rfl (Or.inl rfl))) (fun _ _ _ _ _ => pts_nil) (fun _ _ _ _ _ => (pe_call (ok_l_text T) (hr.mono (by decide)) rfl T.g_l_text T.k_l_text T.b_l_text .nil pass0 (pa_cons (pv 19) pa_nil))))
      (pss_cons (ps_set (i := 6) sc_law.nd rfl (Or.inl rfl) (pe_call (ok_l_asked T) (hr.mono (by decide)) rfl T.g_l_asked T.k_l_asked T.b_l_asked .nil pass0 (pa_cons (pe_op op_fdiv (pv 3) pe_int) pa_nil)))
      (pss_cons (ps_set (i := 7) sc_law.nd rfl (Or.inl rfl) (pe_callTy call_list_of (by rfl) T.n_list (by decide +kernel) (pa_cons (pv 5) pa_nil)))
      (pss_cons (ps_set (i := 8) sc_law.nd rfl (Or.inl rfl) (pe_call (ok_l_made T) (hr.mono (by decide)) rfl T.g_l_made T.k_l_made T.b_l_made .nil pass0 (pa_cons (pv 7) pa_nil)))
      (pss_cons (ps_set (i := 9) sc_law.nd rfl (Or.inl rfl) (pe_call (ok_l_counted T) (hr.mono (by decide)) rfl T.g_l_counted T.k_l_counted T.b_l_counted .nil pass0 (pa_cons (pv 4) (pa_cons (pv 6) pa_nil))))
      (pss_cons (ps_if (PW.pt (pw_or (pt_val (pe_callB call_isi (by rfl) T.n_isinstance (by decide +kernel) (pa_cons (pv 8) (pa_cons (pe_bltn (v := .ty "str") (by rfl) T.n_str (by decide +kernel) rfl) pa_nil)))) (pw_or (pt_cmpR (show OpR _ (compareOp .NotEq) (rNeD K) from op_neD hr.units) (pv 7) (pv 5) (nomark _)) (pw_or1 (pt_cmpR (show OpR _ (compareOp .NotEq) (rNeD K) from op_neD hr.units) (pe_meth (pv 8) T.cl_Parter T.mt_Parter_counts (ok_Parter_counts T) (hr.mono (by decide)) T.b_Parter_counts .nil passL (pa_cons (pv 6) pa_nil)) (pv 9) (nomark _)))))) (pss_one (ps_ret pe_bl)) pss_nil)
      (pss_cons (ps_expr (pe_bm0 PySem.F.plainAttrs_list PySem.F.slot_list_clear PySem.F.type_list_clear mt_clear (pv 7)))
      (pss_cons (ps_set (i := 10) sc_law.nd rfl (Or.inl rfl) (pe_meth (pv 8) T.cl_Parter T.mt_Parter_parts (ok_Parter_parts T) (hr.mono (by decide)) T.b_Parter_parts .nil passL (pa_cons (pv 6) pa_nil)))
      (pss_cons (ps_if (pt_cmpR (show OpR _ (compareOp .NotEq) (rNeD K) from op_neD hr.units) (pe_call (ok_l_put_refused T TB) hr rfl T.g_l_put_refused T.k_l_put_refused T.b_l_put_refused .nil pass0 (pa_cons (pv 8) (pa_cons (pv 6) (pa_cons (pe_op op_fdiv (pv 3) pe_int) pa_nil)))) (pe_lst (pa_cons pe_str (pa_cons pe_str (pa_cons pe_str (pa_cons pe_str pa_nil))))) (nomark _)) (pss_one (ps_ret pe_bl)) pss_nil)
      (pss_cons (ps_if (PW.pt (pw_or (pt_cmpR op_ne (pe_join pe_str (pv 10)) (pv 6) (nomark _)) (pw_or (pt_cmpR (show OpR _ (compareOp .NotEq) (rNeD K) from op_neD hr.units) (pe_meth (pv 8) T.cl_Parter T.mt_Parter_parts (ok_Parter_parts T) (hr.mono (by decide)) T.b_Parter_parts .nil passL (pa_cons (pv 6) pa_nil)) (pv 10) (nomark _)) (pw_or1 (pt_cmpR (show OpR _ (compareOp .NotEq) (rNeD K) from op_neD hr.units) (pe_meth (pv 8) T.cl_Parter T.mt_Parter_counts (ok_Parter_counts T) (hr.mono (by decide)) T.b_Parter_counts .nil passL (pa_cons (pv 6) pa_nil)) (pv 9) (nomark _)))))) (pss_one (ps_ret pe_bl)) pss_nil)
      (pss_cons (ps_set (i := 11) sc_law.nd rfl (Or.inl rfl) (pe_op op_mod (pe_op op_fdiv (pv 3) pe_int) (pe_op op_add (pe_callB call_len_seq (by rfl) T.n_len PySem.boot_len (pa_cons (pv 5) pa_nil)) pe_int)))
      (pss_cons (ps_set (i := 12) sc_law.nd rfl (Or.inl rfl) (pe_call (ok_l_odd T) (hr.mono (by decide)) rfl T.g_l_odd T.k_l_odd T.b_l_odd .nil pass0 (pa_cons (pe_op op_fdiv (pv 3) pe_int) pa_nil)))
      (pss_cons (ps_if (pt_cmpR op_ne (pe_call (ok_l_made T) (hr.mono (by decide)) rfl T.g_l_made T.k_l_made T.b_l_made .nil pass0 (pa_cons (pe_op op_cat (pe_op op_cat (pe_slice sl_list (pv 5) po_none (po_some (pv 11))) (pe_lst (pa_cons (pv 12) pa_nil))) (pe_slice sl_list (pv 5) (po_some (pv 11)) po_none)) pa_nil)) pe_str (nomark _)) (pss_one (ps_ret pe_bl)) pss_nil)
      (pss_cons (ps_set (i := 13) sc_law.nd rfl (Or.inl rfl) (pe_call (ok_l_bent T) (hr.mono (by decide)) rfl T.g_l_bent T.k_l_bent T.b_l_bent .nil pass0 (pa_cons (pe_ix ix_list (pv 5) pe_int (fun _ _ => rfl)) (pa_cons (pe_op op_fdiv (pv 3) pe_int) pa_nil))))
      (pss_cons (ps_set (i := 14) sc_law.nd rfl (Or.inl rfl) (pe_call (ok_l_read T) (hr.mono (by decide)) rfl T.g_l_read T.k_l_read T.b_l_read .nil pass0 (pa_cons (pv 13) pa_nil)))
      (pss_cons (ps_set (i := 15) sc_law.nd rfl (Or.inl rfl) (pe_call (ok_l_made T) (hr.mono (by decide)) rfl T.g_l_made T.k_l_made T.b_l_made .nil pass0 (pa_cons (pe_lst (pa_cons (pv 13) pa_nil)) pa_nil)))
      (pss_cons (ps_if (PW.pt (pw_or (pt_cmpR op_ne (pe_callB call_isi (by rfl) T.n_isinstance (by decide +kernel) (pa_cons (pv 15) (pa_cons (pe_bltn (v := .ty "str") (by rfl) T.n_str (by decide +kernel) rfl) pa_nil))) (pe_cmpR op_isN (pv 14) pe_non (nomark _)) (nomark _)) (pw_or1 (PW.pt (pw_and (pt_cmpR op_isN (pv 14) pe_non (nomark _)) (pw_and1 (pt_cmpR op_ne (pv 15) pe_str (nomark _)))))))) (pss_one (ps_ret pe_bl)) pss_nil)
      (pss_one (ps_if (PW.pt (pw_and (pt_cmpR op_notN (pv 14) pe_non (nomark _)) (pw_and1 (pt_cmpR (show OpR _ (compareOp .NotEq) (rNeD K) from op_neD hr.units) (pe_meth (pv 15) T.cl_Parter T.mt_Parter_counts (ok_Parter_counts T) (hr.mono (by decide)) T.b_Parter_counts .nil passL (pa_cons (pv 6) pa_nil)) (pe_call (ok_l_counted T) (hr.mono (by decide)) rfl T.g_l_counted T.k_l_counted T.b_l_counted .nil pass0 (pa_cons (pe_lst (pa_cons (pv 14) pa_nil)) (pa_cons (pv 6) pa_nil))) (nomark _))))) (pss_one (ps_ret pe_bl)) pss_nil))))))))))))))))))))))
      (pss_cons (ps_set (i := 16) sc_law.nd rfl (Or.inl rfl) (pe_call (ok_l_mixed T) (hr.mono (by decide)) rfl T.g_l_mixed T.k_l_mixed T.b_l_mixed .nil pass0 (pa_cons (pe_call (ok_l_at T) (hr.mono (by decide)) rfl T.g_l_at T.k_l_at T.b_l_at .nil pass0 (pa_cons (pv 0) (pa_cons pe_int pa_nil))) (pa_cons pe_int pa_nil))))
      (pss_cons (ps_set (i := 17) sc_law.nd rfl (Or.inl rfl) (pe_ix ix_list (pe_lst (pa_cons pe_non (pa_cons pe_str (pa_cons pe_int (pa_cons (pe_tup (pa_cons pe_str pa_nil)) (pa_cons pe_dnewK (pa_cons pe_bl (pa_cons (pe_disp (pps_cons pe_str pe_int pps_nil) (by rfl) (by rfl) (by simp) (by decide)) pa_nil)))))))) (pe_op op_mod (pv 16) pe_int) (fun _ _ => rfl)))
      (pss_cons (ps_if (PW.pt (pw_or (pt_cmpR op_ne (pe_call (ok_l_made T) (hr.mono (by decide)) rfl T.g_l_made T.k_l_made T.b_l_made .nil pass0 (pa_cons (pv 17) pa_nil)) pe_str (nomark _)) (pw_or1 (pt_cmpR op_ne (pe_call (ok_l_made T) (hr.mono (by decide)) rfl T.g_l_made T.k_l_made T.b_l_made .nil pass0 (pa_cons (pe_op op_rep (pe_lst (pa_cons pe_str pa_nil)) pe_int) pa_nil)) pe_str (nomark _))))) (pss_one (ps_ret pe_bl)) pss_nil)
      (pss_one (ps_ret (pe_and (pe_not (pe_callB call_isi (by rfl) T.n_isinstance (by decide +kernel) (pa_cons (pe_call (ok_l_made T) (hr.mono (by decide)) rfl T.g_l_made T.k_l_made T.b_l_made .nil pass0 (pa_cons (pe_op op_rep (pe_lst (pa_cons pe_str pa_nil)) pe_int) pa_nil)) (pa_cons (pe_bltn (v := .ty "str") (by rfl) T.n_str (by decide +kernel) rfl) pa_nil)))) (pe_one (pe_cmpR (show OpR _ (compareOp .Eq) (rEqD K) from op_eqD hr.units) (pe_meth (pe_call (ok_l_made T) (hr.mono (by decide)) rfl T.g_l_made T.k_l_made T.b_l_made .nil pass0 (pa_cons (pe_lst pa_nil) pa_nil)) T.cl_Parter T.mt_Parter_counts (ok_Parter_counts T) (hr.mono (by decide)) T.b_Parter_counts .nil passL (pa_cons pe_str pa_nil)) (pe_lst (pa_cons pe_int (pa_cons pe_int pa_nil))) (nomark _)))))))))), ?_⟩
    have nl : (ns.map V.int).length ≤ 63 := by rw [List.length_map]; exact hlen
    refine q_forEN (xs := [V.int 7] ++ ns.map V.int) (eas_l (el_catLL (el_lst (ea_cons ev_c ea_nil) (by show 1 ≤ 100000; decide)) (el_is (el_sl (hi := some ((63 : Nat) : Int)) (ev_var rfl) eo_none (eo_some ev_c) hS) (cut_first _ _ nl)) (by show 1 + _ ≤ _; omega)))
      (fun a' i σ' H' => SqL K H' a' ([V.int 7] ++ ns.map V.int) ∧ SqL K H' a (ns.map V.int) ∧ Tbs A H' ∧ ∃ v1 v2 v3 v4 v5 v6 v7 v8 v9 v10 v11 v12 v13 v14 v15, σ' = [some (.ref a), v1, v2, v3, v4, v5, v6, v7, v8, v9, v10, v11, v12, v13, v14, v15, none, none, none, none])
      (fun a' H1 e1 h1 => ⟨h1, ex_l e1 hS, tbs_ex hT e1, none, none, none, none, none, none, none, none, none, none, none, none, none, none, none, rfl⟩) (fun a' i σ' H' _ h => h.1) ?_ ?_
    · rintro a' i x σ' H0 B hx ⟨hxs, hS0, hT0, v1, v2, v3, v4, v5, v6, v7, v8, v9, v10, v11, v12, v13, v14, v15, rfl⟩ e0
      have hxB := ex_l e0 hxs
      have hSB := ex_l e0 hS0
      have hTB := tbs_ex hT0 e0
      have hi : i ≤ 63 := by
        have := (List.getElem?_eq_some_iff.mp hx).1
        rw [List.length_append] at this
        have h1 : [V.int 7].length = 1 := rfl
        omega
      obtain ⟨c, rfl⟩ : ∃ c, x = .int c := by
        rcases List.mem_append.mp (List.mem_of_getElem? hx) with h | h
        · exact ⟨7, List.mem_singleton.mp h⟩
        · obtain ⟨c, _, rfl⟩ := List.mem_map.mp h
          exact ⟨c, rfl⟩
      clear hxs hS0 hT0
      refine q_asg (v := .int (mx c (i : Int))) (ev_call (ea_cons (ev_var rfl) (ea_cons (ev_var rfl) ea_nil)) (mx_v (by omega) (by omega))) fun H1 e1 => ?_
      have mb := mx_bd c (i : Int)
      generalize mx c (i : Int) = n at mb
      show tSeq _ _ _ _ _
      refine q_sl (σ' := [some (.ref a), some (.int (i : Int)), some (.int c), some (.int n), v4, v5, v6, v7, v8, v9, v10, v11, v12, v13, v14, v15, none, none, none, none]) rfl ?_
      have q0 := Int.emod_nonneg n (show (4 : Int) ≠ 0 by decide)
      have q1 := Int.emod_lt_of_pos n (show (0 : Int) < 4 by decide)
      obtain ⟨m, hm, m1, m4⟩ : ∃ m : Nat, 1 + n % 4 = (m : Int) ∧ 1 ≤ m ∧ m ≤ 4 := ⟨(1 + n % 4).toNat, by omega, by omega, by omega⟩
      refine q_asgLN (P := fun _ H v => ∃ p, PtnAt H v p) (n := m) (lcNR (ea_cons (ev_is (ev_op ev_c (ev_op (ev_var rfl) ev_c (rv_I (by show (0 : Int) < _; decide))) rv_I0) (by rw [hm])) ea_nil) (by omega) (fun _ => rfl) fun j H2 e2 hj => ?_) fun pp xs H2 np e2 hl2 hn2 => ?_
      · exact en_ptn (ea_cons (ev_call (ea_cons (ev_var rfl) (ea_cons (ev_op ev_c (ev_var rfl) rv_I0) ea_nil)) (mx_v (by omega) (by omega))) ea_nil)
      obtain ⟨hpp, hpx⟩ := hn2.here
      obtain ⟨ps, hps⟩ := exists_pw (R := fun v p => PtnAt H2 v p) xs fun x hx => by
        obtain ⟨i, hi⟩ := List.getElem?_of_mem hx
        exact hpx i x hi
      have pl : ps.length = m := by rw [← hps.1, hl2]
      have hG : ∀ p ∈ ps, GoodPt p := fun p hp => by
        obtain ⟨v, _, h⟩ := hps.mem hp
        obtain ⟨_, _, _, _, _, _, _, G⟩ := h
        exact G
      have sl : (strL (ps.map txt)).length = ps.length := by unfold strL; rw [List.length_map, List.length_map]
      have fl := txt_flat hG
      refine q_asgL (xs := strL (ps.map txt)) (el_is (el_lcL (xs := xs) (fun _ => true) (fun i => (strL (ps.map txt)).getD i .non) (ev_var rfl) (sq_of hpp) (by omega) (fun _ => rfl) (fun i x H3 e3 hx => et_yes) fun i x H3 e3 hx _ => ?_) ?_) fun pt H3 nt e3 ht => ?_
      · obtain ⟨p, hp, hv⟩ := hps.get hx
        have : (strL (ps.map txt)).getD i .non = .str (TX.T (txt p)) := by
          unfold strL
          rw [List.getD_eq_getElem?_getD, List.map_map, List.getElem?_map, hp]
          rfl
        rw [this]
        exact ev_call (ea_cons (ev_var rfl) ea_nil) fun H4 e4 Q3 q3 E3 => ⟨_, p, rfl, hv.mono (e3.trans e4), q3⟩
      · have sl2 : (strL (ps.map txt)).length = xs.length := by rw [sl, hps.1]
        rw [given_all, ← sl2]
        conv => rhs; rw [← List.map_id (strL (ps.map txt))]
        exact Rd.map_getD (strL (ps.map txt)) V.non id
      have e03 := (e1.trans e2).trans e3
      refine q_asgC (ea_cons (ev_op (ev_var rfl) ev_c (rv_I ⟨by decide, by decide⟩)) ea_nil) fun H4 e4 => ⟨_, rfl, fun wd H5 e5 vw => ?_⟩
      obtain ⟨w1, w16, wsm⟩ := vW_T vw
      show tSeq _ _ _ _ _
      refine q_sl (σ' := [some (.ref a), some (.int (i : Int)), some (.int c), some (.int n), some (.ref pp), some (.ref pt), some (.str (TX.T wd)), v7, v8, v9, v10, v11, v12, v13, v14, v15, none, none, none, none]) rfl ?_
      have wl : (TX.T wd).length = wd.length := len_T _
      have cf : ∀ ps : List PatD, (gaps ps wd).all flatOk = true := fun ps => cntL_flat _ _
      have e35 := e4.trans e5
      refine q_asgL (xs := strL (ps.map txt)) (el_listOf (ev_var rfl) (sq_of (e35 _ _ ht))) fun hn H6 nh e6 hh => ?_
      refine q_asgN (P := ParterN A ps) (en_made (ev_var rfl) hh (txt_things hG) (pats_txt hG) (by omega)) fun vP H7 e7 n7 => ?_
      obtain ⟨x, dl, rfl, hP7, hd7⟩ := n7.here
      have e37 := (e35.trans e6).trans e7
      refine q_asgL (xs := gaps ps wd) (el_call (ea_cons (ev_var rfl) (ea_cons (ev_var rfl) ea_nil)) fun H8 e8 Q q E => ⟨pp, wd, xs, ps, rfl, ((e3.trans e37).trans e8) _ _ hpp, ⟨hps.1, fun i x y hx hy => (hps.2 i x y hx hy).mono ((e3.trans e37).trans e8)⟩, by omega, w16, q⟩) fun pc H8 npc e8 hpc => ?_
      have e68 := e7.trans e8
      have hP8 := hP7.mono e8
      have hh8 := e68 _ _ hh
      have ht8 := (e37.trans e8) _ _ ht
      obtain ⟨dx, plx, qs, hx8, _⟩ := id hP8
      refine q_when (b := false) (et_is (et_or (a := false) (b := false) (et_B (ev_cb (ea_cons (ev_var rfl) (ea_cons ev_c ea_nil)) (rc_isC hx8 T.ic_Parter (.ty _) T.ki_Parter_str))) fun _ => et_is (et_or (a := false) (b := false) (et_neL (xs := strL (ps.map txt)) (eg_dv (ev_var rfl) hh8 fl) (fun H9 e9 => eg_dv (ev_var rfl) (e9 _ _ ht8) fl) fl) fun _ =>
        et_neL (xs := gaps ps wd) (eg_dl (el_counts hP8 rfl rfl vw) (cf ps)) (fun H9 e9 => eg_dv (ev_var rfl) (e9 _ _ hpc) (cf ps)) (cf ps)) rfl) rfl) (fun h => nomatch h) fun _ H9 e9 => ?_
      refine q_clear1 (e9 _ _ hh8) (ev_var rfl) fun H10 e10 => ?_
      have e810 := e9.trans e10
      have n10 : New H6 (fun H' => ParterN A ps H' (.ref x)) (upd H10 hn (.lst [])) := (n7.mono (e8.trans e810)).upd (by rw [hh]; exact fun e => nomatch e)
      obtain ⟨x', dl', ex', hP10, hd10⟩ := n10.here
      cases ex'
      have eB5 : Ex B H5 := e03.trans e35
      have e5c : Ex H5 (upd H10 hn (.lst [])) := Ex.mut (e6.trans (e68.trans e810)) nh
      have hpc10 : (upd H10 hn (.lst [])) pc = some (.lst (gaps ps wd)) := by
        rw [upd_ne (fun e => by rw [e, e7 _ _ hh] at npc; cases npc)]
        exact e810 _ _ hpc
      have ht10 := e5c _ _ (e35 _ _ ht)
      have hxB10 := ex_l (eB5.trans e5c) hxB
      have hSB10 := ex_l (eB5.trans e5c) hSB
      have hTB10 := tbs_ex hTB (eB5.trans e5c)
      generalize upd H10 hn (.lst []) = C at hP10 hd10 hpc10 ht10 hxB10 hSB10 hTB10 e5c n10
      clear hP7 hd7 n7 hP8 hx8 n10 hn2 hpx
      show tSeq _ _ _ _ _
      refine q_sl (σ' := [some (.ref a), some (.int (i : Int)), some (.int c), some (.int n), some (.ref pp), some (.ref pt), some (.str (TX.T wd)), some (.ref hn), some (.ref x), some (.ref pc), v10, v11, v12, v13, v14, v15, none, none, none, none]) rfl ?_
      refine q_asgL (xs := strL (pcs ps wd)) (el_parts hP10 hd10 rfl rfl vw) fun kp C1 nk f1 hk => ?_
      have fk := pcs_bd (ps := ps) vw
      refine q_neX (xs := [.str "word", .str "pattern", .str "word", .str "word"]) (R := fun H' => LamX.ExtN C1 H' ∧ Tbs A H') (fun Q q => (ea_cons (ev_var (v := .ref x) rfl) (ea_cons (ev_var (v := .str (TX.T wd)) rfl) (ea_cons (ev_op (ev_var rfl) ev_c (rv_I ⟨by decide, by decide⟩)) ea_nil))) C1 (Ex.refl _) _ fun C2 f2 => ?_) (fun H' r => el_lst (ea_cons ev_c (ea_cons ev_c (ea_cons ev_c (ea_cons ev_c ea_nil)))) (by show 4 ≤ 100000; decide)) (by decide +kernel) (fun H H' e r => ⟨r.1.trans (exN e), tbs_ex r.2 e⟩) fun C3 r3 => ?_
      · exact ⟨x, dl', wd, _, ps, rfl, hP10.mono (f1.trans f2), (f1.trans f2) _ _ hd10, vw, tbs_ex hTB10 (f1.trans f2), fun p H' eN t hp => q p H' ⟨(exN f2).trans eN, t⟩ hp⟩
      obtain ⟨g13, hT3⟩ := r3
      have gC3 : LamX.ExtN C C3 := (exN f1).trans g13
      have hP3 := hP10.extN gC3
      have hd3 := gC3 _ _ hd10 (fun ps z => nomatch z)
      have hpc3 := gC3 _ _ hpc10 (fun ps z => nomatch z)
      have ht3 := gC3 _ _ ht10 (fun ps z => nomatch z)
      have hk3 := g13 _ _ hk (fun ps z => nomatch z)
      have hxB3 := sqL_extN hxB10 gC3
      have hSB3 := sqL_extN hSB10 gC3
      clear hP10 hd10 hpc10 ht10 hk hxB10 hSB10 hTB10
      show tSeq _ _ _ _ _
      refine q_sl (σ' := [some (.ref a), some (.int (i : Int)), some (.int c), some (.int n), some (.ref pp), some (.ref pt), some (.str (TX.T wd)), some (.ref hn), some (.ref x), some (.ref pc), some (.ref kp), v11, v12, v13, v14, v15, none, none, none, none]) rfl ?_
      have jn : Txt.join "" ((pcs ps wd).map TX.T) = TX.T wd := by rw [join_T, pcs_flat]
      have kmap : strL (pcs ps wd) = ((pcs ps wd).map TX.T).map V.str := by unfold strL; rw [List.map_map]; rfl
      have sum : (((pcs ps wd).map TX.T).map (·.length)).sum = wd.length := by
        have h1 : ((pcs ps wd).map TX.T).map (·.length) = (pcs ps wd).map List.length := by
          rw [List.map_map]
          exact List.map_congr_left fun y _ => len_T y
        rw [h1, ← List.length_flatten, pcs_flat]
      refine q_when (b := false) (et_is (et_or (a := false) (b := false) (et_is (et_test (ev_op (x := .str (TX.T wd)) (y := .str (TX.T wd)) (ev_is (ev_joinV (ys := (pcs ps wd).map TX.T) ev_c (ev_var rfl) (sq_of (by rw [← kmap]; exact hk3)) ?_) (by rw [jn])) (ev_var rfl) (rv_ne rfl))) ?_) fun _ => et_is (et_or (a := false) (b := false) (et_neL (xs := strL (pcs ps wd)) (eg_dl (el_parts hP3 hd3 rfl rfl vw) fk) (fun H9 e9 => eg_dv (ev_var rfl) (e9 _ _ hk3) fk) fk) fun _ =>
        et_neL (xs := gaps ps wd) (eg_dl (el_counts hP3 rfl rfl vw) (cf ps)) (fun H9 e9 => eg_dv (ev_var rfl) (e9 _ _ hpc3) (cf ps)) (cf ps)) rfl) rfl) (fun h => nomatch h) fun _ C4 f4 => ?_
      · rw [sum]
        have : ("" : Str).length = 0 := by decide +kernel
        rw [this, Nat.mul_zero]
        omega
      · rw [decide_eq_true rfl]
        rfl
      have z0 : (0 : Int) < (ps.length : Int) + 1 := by omega
      have j0 := Int.emod_nonneg (n / 16) (show ((ps.length : Int) + 1) ≠ 0 by omega)
      have j1 := Int.emod_lt_of_pos (n / 16) z0
      obtain ⟨j, hj⟩ : ∃ j : Nat, n / 16 % ((ps.length : Int) + 1) = (j : Int) := ⟨(n / 16 % ((ps.length : Int) + 1)).toNat, by omega⟩
      have jl : j ≤ ps.length := by omega
      refine q_asg (v := .int (j : Int)) (ev_is (ev_op (ev_op (ev_var rfl) ev_c (rv_I ⟨by decide, by decide⟩)) (ev_op (ev_cb (ea_cons (ev_var rfl) ea_nil) (rc_lenL (sq_of (f4 _ _ ht3)))) ev_c rv_I0) (rv_I (by rw [sl]; exact z0))) (by rw [sl, hj])) fun C5 f5 => ?_
      have f45 := f4.trans f5
      refine q_asgC (ea_cons (ev_op (ev_var rfl) ev_c (rv_I ⟨by decide, by decide⟩)) ea_nil) fun C6 f6 => ⟨_, rfl, fun od C7 f7 hod => ?_⟩
      have f37 := f45.trans (f6.trans f7)
      show tSeq _ _ _ _ _
      refine q_sl (σ' := [some (.ref a), some (.int (i : Int)), some (.int c), some (.int n), some (.ref pp), some (.ref pt), some (.str (TX.T wd)), some (.ref hn), some (.ref x), some (.ref pc), some (.ref kp), some (.int (j : Int)), some od, v13, v14, v15, none, none, none, none]) rfl ?_
      have ht7 := f37 _ _ ht3
      have hS7 : ∀ {H' : Hp}, Ex C7 H' → SqL K H' pt (strL (ps.map txt)) := fun e => sq_of (e _ _ ht7)
      have cutl : (cutV (strL (ps.map txt)) none (some (j : Int))).length ≤ 4 := by rw [cut_takeV, List.length_take]; omega
      have cutr : (cutV (strL (ps.map txt)) (some (j : Int)) none).length ≤ 4 := by rw [cut_dropV _ _ (by omega), List.length_drop]; omega
      refine q_when (b := false) (et_is (et_test (ev_op (x := .str "pattern") (y := .str "pattern") (ev_madeBad (xs := cutV (strL (ps.map txt)) none (some (j : Int)) ++ [od] ++ cutV (strL (ps.map txt)) (some (j : Int)) none) (el_catLL (el_catLL (el_sl (hi := some (j : Int)) (ev_var rfl) eo_none (eo_some (ev_var rfl)) (hS7 (Ex.refl _))) (el_lst (ea_cons (ev_var rfl) ea_nil) (by show 1 ≤ 100000; decide)) (by show _ + 1 ≤ _; omega)) (el_sl (lo := some (j : Int)) (ev_var rfl) (eo_some (ev_var rfl)) eo_none (hS7 (Ex.refl _))) (by rw [List.length_append]; show _ + 1 + _ ≤ _; omega)) (fun _ y hy => ?_) fun _ => ?_) ev_c (rv_ne rfl))) ?_) (fun h => nomatch h) fun _ C8 f8 => ?_
      · rcases List.mem_append.mp hy with hy | hy
        · rcases List.mem_append.mp hy with hy | hy
          · rw [cut_takeV] at hy
            exact txt_things hG y (List.mem_of_mem_take hy)
          · rw [List.mem_singleton.mp hy]
            exact hod.1
        · rw [cut_dropV _ _ (by omega)] at hy
          exact txt_things hG y (List.mem_of_mem_drop hy)
      · exact patsOf_mem (List.mem_append_left _ (List.mem_append_right _ List.mem_cons_self)) hod.2
      · decide +kernel
      have ht8 := f8 _ _ ht7
      obtain ⟨p0, pr, rfl⟩ : ∃ p0 pr, ps = p0 :: pr := by
        cases ps with
        | nil => rw [List.length_nil] at pl; omega
        | cons p0 pr => exact ⟨p0, pr, rfl⟩
      have G0 := hG p0 List.mem_cons_self
      have l0 := txt_len G0
      refine q_asgC (ea_cons (ev_op (ev_var rfl) ev_c (rv_ixL (v := .str (TX.T (txt p0))) (sq_of ht8) (atI_nat (j := 0) rfl))) (ea_cons (ev_op (ev_var rfl) ev_c (rv_I ⟨by decide, by decide⟩)) ea_nil)) fun C9 f9 => ⟨txt p0, _, rfl, by omega, txt_bd G0, fun y C10 f10 yl yb => ?_⟩
      have f310 := ((f37.trans f8).trans f9).trans f10
      show tSeq _ _ _ _ _
      refine q_sl (σ' := [some (.ref a), some (.int (i : Int)), some (.int c), some (.int n), some (.ref pp), some (.ref pt), some (.str (TX.T wd)), some (.ref hn), some (.ref x), some (.ref pc), some (.ref kp), some (.int (j : Int)), some od, some (.str (TX.T y)), v14, v15, none, none, none, none]) rfl ?_
      have thy : ∀ {H : Hp}, Thing H (.str (TX.T y)) := th_small (by omega) yb
      have pvy : patV (.str (TX.T y)) = patF y := by
        show patF (L (TX.T y)) = _
        rw [L_T]
      have hP10 := hP3.mono f310
      refine q_asgC (ea_cons (ev_var rfl) ea_nil) fun C11 f11 => ⟨y, rfl, by omega, yb, fun hq C12 f12 => ?_, fun p vm C12 hq f12 hv => ?_⟩
      · have done : ∀ {H' : Hp}, Ex C12 H' → SqL K H' a' ([V.int 7] ++ ns.map V.int) ∧ SqL K H' a (ns.map V.int) ∧ Tbs A H' := fun e => by
          have g := f310.trans (f11.trans (f12.trans e))
          exact ⟨ex_l g hxB3, ex_l g hSB3, tbs_ex hT3 g⟩
        show tSeq _ _ _ _ _
        refine q_sl (σ' := [some (.ref a), some (.int (i : Int)), some (.int c), some (.int n), some (.ref pp), some (.ref pt), some (.str (TX.T wd)), some (.ref hn), some (.ref x), some (.ref pc), some (.ref kp), some (.int (j : Int)), some od, some (.str (TX.T y)), some .non, v15, none, none, none, none]) rfl ?_
        refine q_asg (v := .str "pattern") (ev_madeBad (xs := [.str (TX.T y)]) (el_lst (ea_cons (ev_var rfl) ea_nil) (by show 1 ≤ 100000; decide)) (fun _ z hz => by rw [List.mem_singleton.mp hz]; exact thy) fun _ => patsOf_mem List.mem_cons_self (by rw [pvy, hq])) fun C13 f13 => ?_
        have thp : ∀ {H : Hp}, Thing H (.str "pattern") := fun {H} => ⟨by decide +kernel, by decide +kernel⟩
        show tSeq _ _ _ _ _
        refine q_sl (σ' := [some (.ref a), some (.int (i : Int)), some (.int c), some (.int n), some (.ref pp), some (.ref pt), some (.str (TX.T wd)), some (.ref hn), some (.ref x), some (.ref pc), some (.ref kp), some (.int (j : Int)), some od, some (.str (TX.T y)), some .non, some (.str "pattern"), none, none, none, none]) rfl ?_
        refine q_when (b := false) (et_is (et_or (a := false) (b := false) (et_is (et_test (ev_op (x := .bl true) (y := .bl true) (ev_cb (ea_cons (ev_var rfl) (ea_cons ev_c ea_nil)) (rc_isStr thp)) (ev_op (x := .non) (ev_var rfl) ev_c rv_isN) (rv_ne rfl))) rfl) fun _ => et_is (et_and (a := true) (b := false) (et_is (et_test (ev_op (x := .non) (ev_var rfl) ev_c rv_isN)) rfl) fun _ => et_is (et_test (ev_op (x := .str "pattern") (y := .str "pattern") (ev_var rfl) ev_c (rv_ne rfl))) (by decide +kernel)) rfl) rfl) (fun h => nomatch h) fun _ C14 f14 => ?_
        refine s_when (b := false) (et_is (et_and (a := false) (b := false) (et_is (et_test (ev_op (x := .non) (ev_var rfl) ev_c rv_notN)) rfl) fun h => nomatch h) rfl) (fun h => nomatch h) fun _ C15 f15 => ?_
        obtain ⟨d1, d2, d3⟩ := done (f13.trans (f14.trans f15))
        exact ⟨d1, d2, d3, _, _, _, _, _, _, _, _, _, _, _, _, _, _, _, rfl⟩
      · have done : ∀ {H' : Hp}, Ex C12 H' → SqL K H' a' ([V.int 7] ++ ns.map V.int) ∧ SqL K H' a (ns.map V.int) ∧ Tbs A H' := fun e => by
          have g := f310.trans (f11.trans (f12.trans e))
          exact ⟨ex_l g hxB3, ex_l g hSB3, tbs_ex hT3 g⟩
        obtain ⟨T0, d, kvs, rfl, hT0, hdm, hF, G⟩ := id hv
        have pq : patsOf [.str (TX.T y)] = some [p] := by
          show (patV (.str (TX.T y))).bind (fun p => (patsOf []).map (p :: ·)) = _
          rw [pvy, hq]
          rfl
        show tSeq _ _ _ _ _
        refine q_sl (σ' := [some (.ref a), some (.int (i : Int)), some (.int c), some (.int n), some (.ref pp), some (.ref pt), some (.str (TX.T wd)), some (.ref hn), some (.ref x), some (.ref pc), some (.ref kp), some (.int (j : Int)), some od, some (.str (TX.T y)), some (.ref T0), v15, none, none, none, none]) rfl ?_
        refine q_asgN (P := ParterN A [p]) (en_madeL (xs := [.str (TX.T y)]) (el_lst (ea_cons (ev_var rfl) ea_nil) (by show 1 ≤ 100000; decide)) (fun z hz => by rw [List.mem_singleton.mp hz]; exact thy) pq (by show 1 ≤ 200; decide)) fun vO C13 f13 n13 => ?_
        obtain ⟨xo, dlo, rfl, hPo, hdo⟩ := n13.here
        obtain ⟨dxo, plo, qso, hxo, _⟩ := id hPo
        show tSeq _ _ _ _ _
        refine q_sl (σ' := [some (.ref a), some (.int (i : Int)), some (.int c), some (.int n), some (.ref pp), some (.ref pt), some (.str (TX.T wd)), some (.ref hn), some (.ref x), some (.ref pc), some (.ref kp), some (.int (j : Int)), some od, some (.str (TX.T y)), some (.ref T0), some (.ref xo), none, none, none, none]) rfl ?_
        refine q_when (b := false) (et_is (et_or (a := false) (b := false) (et_is (et_test (ev_op (x := .bl false) (y := .bl false) (ev_cb (ea_cons (ev_var rfl) (ea_cons ev_c ea_nil)) (rc_isC hxo T.ic_Parter (.ty _) T.ki_Parter_str)) (ev_op (x := .ref T0) (ev_var rfl) ev_c rv_isN) (rv_ne rfl))) rfl) fun _ => et_is (et_and (a := false) (b := false) (et_is (et_test (ev_op (x := .ref T0) (ev_var rfl) ev_c rv_isN)) rfl) fun h => nomatch h) rfl) rfl) (fun h => nomatch h) fun _ C14 f14 => ?_
        have hPo14 := hPo.mono f14
        have hv14 := hv.mono (f13.trans f14)
        refine s_when (b := false) (et_is (et_and (a := true) (b := false) (et_is (et_test (ev_op (x := .ref T0) (ev_var rfl) ev_c rv_notN)) rfl) fun _ => et_neL (xs := gaps [p] wd) (eg_dl (el_counts hPo14 rfl rfl vw) (cf [p])) (fun H9 e9 => eg_dl (el_call1L (xs := [.ref T0]) (el_lst (ea_cons (ev_var rfl) ea_nil) (by show 1 ≤ 100000; decide)) (fun H e => ev_var (v := .str (TX.T wd)) rfl) fun r H' e' hr Q q => ⟨r, wd, [.ref T0], [p], rfl, hr, ⟨rfl, fun i u z hu hz => ?_⟩, by show 1 ≤ 12; decide, w16, q⟩) (cf [p])) (cf [p])) rfl) (fun h => nomatch h) fun _ C15 f15 => ?_
        · match i, hu, hz with
          | 0, hu, hz =>
            cases hu
            cases hz
            exact hv14.mono (e9.trans e')
          | i + 1, hu, hz => simp at hu
        · obtain ⟨d1, d2, d3⟩ := done (f13.trans (f14.trans f15))
          exact ⟨d1, d2, d3, _, _, _, _, _, _, _, _, _, _, _, _, _, _, _, rfl⟩
    · rintro a' σ' H1 ⟨_, hS1, _, v1, v2, v3, v4, v5, v6, v7, v8, v9, v10, v11, v12, v13, v14, v15, rfl⟩
      refine q_asg (v := .int (mx (atN ns 0) 9)) (ev_call (ea_cons (ev_call (ea_cons (ev_var rfl) (ea_cons ev_c ea_nil)) (atN_v (k := 0) hS1)) (ea_cons ev_c ea_nil)) (mx_v (by decide) (by decide))) fun H2 e2 => ?_
      generalize mx (atN ns 0) 9 = n
      have s0 := Int.emod_nonneg n (show (7 : Int) ≠ 0 by decide)
      have s1 := Int.emod_lt_of_pos n (show (0 : Int) < 7 by decide)
      refine q_asgIx (R := NotL) (n := 7) NotL.mo (egs_cons NotL.mo (eg_v ev_c fun _ _ => ⟨True.intro, nofun⟩) (egs_cons NotL.mo (eg_v ev_c fun _ _ => ⟨⟨by decide +kernel, by decide +kernel⟩, nofun⟩) (egs_cons NotL.mo (eg_v ev_c fun _ _ => ⟨True.intro, nofun⟩) (egs_cons NotL.mo (eg_u (eu_tup (ea_cons ev_c ea_nil) (by show 1 ≤ 100000; decide)) fun _ _ h => ⟨Or.inr (Or.inl ⟨_, h⟩), fun a xs e hx => by cases e; rw [h] at hx; cases hx⟩)
        (egs_cons NotL.mo (eg_d fun _ _ h => ⟨Or.inr (Or.inr ⟨_, h⟩), fun a xs e hx => by cases e; rw [h] at hx; cases hx⟩) (egs_cons NotL.mo (eg_v ev_c fun _ _ => ⟨True.intro, nofun⟩) (egs_cons NotL.mo (fun H3 e3 Q q => ?_) egs_nil))))))) (fun H3 e3 => ev_op (ev_var rfl) ev_c (rv_I (by show (0 : Int) < _; decide))) s0 s1 (by decide) fun th H3 e3 hth => ?_
      · dsimp only [tDisp, tPairs, tC]
        intro d nd
        refine ⟨upd_same, [((.inr "a1" : Key), V.int 1)], rfl, Nat.le_of_ble_eq_true rfl, ?_⟩
        rw [upd_upd]
        exact q _ _ (Ex.new nd) ⟨Or.inr (Or.inr ⟨_, upd_same⟩), fun a xs e hx => by cases e; rw [upd_same] at hx; cases hx⟩
      · refine q_when (b := false) (et_is (et_or (a := false) (b := false) (et_is (et_test (ev_op (x := .str "pattern") (y := .str "pattern") (ev_madeNot (ev_var rfl) hth) ev_c (rv_ne rfl))) (by decide +kernel)) fun _ => et_is (et_test (ev_op (x := .str "pattern") (y := .str "pattern") (ev_madeBad (el_rep (el_lst (ea_cons ev_c ea_nil) (by show 1 ≤ 100000; decide)) ev_c (by decide) (by decide) (by show 1 ≤ 1000; decide)) (fun h => absurd h (by rw [a1_len]; decide)) fun h => absurd h (by rw [a1_len]; decide)) ev_c (rv_ne rfl))) (by decide +kernel)) rfl) (fun h => nomatch h) fun _ H4 e4 => ?_
        obtain ⟨pa, hpa⟩ := a1_pats
        have abc : ("abc" : Str) = TX.T [97, 98, 99] := by decide +kernel
        refine s_ret (v := .bl true) (ev_is (ev_andV (a := true) (b := true) (ev_is (ev_notV (a := false) (ev_isNew T (en_madeL (ps := pa) (el_rep (el_lst (ea_cons ev_c ea_nil) (by show 1 ≤ 100000; decide)) ev_c (by decide) (by decide) (by show 1 ≤ 1000; decide)) a1_things hpa (by rw [a1_len]; decide)))) rfl) fun _ => ev_eqSame (xs := gaps [] [97, 98, 99]) (el_countsN abc (en_madeL (xs := []) (ps := []) (el_lst ea_nil (by show 0 ≤ 100000; decide)) (fun y hy => nomatch hy) rfl (by decide)) (by decide +kernel)) (fun H5 e5 => el_lst (ea_cons ev_c (ea_cons ev_c ea_nil)) (by show 2 ≤ 100000; decide)) (by decide +kernel)) rfl) fun H5 _ => k H5

end
theorem all_mk {l : PySem.W.OpenLaw} {w : World} {K : PySem.W.Frag} {h : Heap} {mg : Str → Option Value} {fa kc kt : Addr} (X : K.In h) (G : h.Ns mainGlobals mg) (hfa : mg "law" = some (.ref fa)) (hT : h.get? kt = some (PySem.W.tabObj #[]))
    {t_LETTERS : Tok}
    {t_MOST_LETTERS : Tok}
    {t_FIGURES : Tok}
    {t_MOST_LETTERS_OF_ONE : Tok}
    {t_MOST_PATTERNS : Tok}
    {t_LEAST_AT_ENDS : Tok}
    {c_MendError : Addr}
    {c_BadWord : Addr}
    {c_BadRule : Addr}
    {c_BadText : Addr}
    {c_Twice : Addr}
    {c_NoStem : Addr}
    {c_NoClass : Addr}
    {c_InUse : Addr}
    {c_TooMany : Addr}
    {c_NoNumber : Addr}
    {c_NoWord : Addr}
    {c_BadPrice : Addr}
    {c_NoPlace : Addr}
    {c_BadPattern : Addr}
    {c_Pattern : Addr}
    {c_Parter : Addr}
    {f_are_letters : Addr} {od_are_letters an_are_letters : Option Addr} {sl_are_letters : Array (Option Value)} {oc_are_letters kV_are_letters dc_are_letters pm_are_letters cd_are_letters ct_are_letters : Value}
    {f_is_word : Addr} {od_is_word an_is_word : Option Addr} {sl_is_word : Array (Option Value)} {oc_is_word kV_is_word dc_is_word pm_is_word cd_is_word ct_is_word : Value}
    {f_need_word : Addr} {od_need_word an_need_word : Option Addr} {sl_need_word : Array (Option Value)} {oc_need_word kV_need_word dc_need_word pm_need_word cd_need_word ct_need_word : Value}
    {f_read_figures : Addr} {od_read_figures an_read_figures : Option Addr} {sl_read_figures : Array (Option Value)} {oc_read_figures kV_read_figures dc_read_figures pm_read_figures cd_read_figures ct_read_figures : Value}
    {f_Pattern_init : Addr} {od_Pattern_init an_Pattern_init : Option Addr} {sl_Pattern_init : Array (Option Value)} {oc_Pattern_init kV_Pattern_init dc_Pattern_init pm_Pattern_init cd_Pattern_init ct_Pattern_init : Value}
    {f_Pattern_count_in : Addr} {od_Pattern_count_in an_Pattern_count_in : Option Addr} {sl_Pattern_count_in : Array (Option Value)} {oc_Pattern_count_in kV_Pattern_count_in dc_Pattern_count_in pm_Pattern_count_in cd_Pattern_count_in ct_Pattern_count_in : Value}
    {f_Parter_init : Addr} {od_Parter_init an_Parter_init : Option Addr} {sl_Parter_init : Array (Option Value)} {oc_Parter_init kV_Parter_init dc_Parter_init pm_Parter_init cd_Parter_init ct_Parter_init : Value}
    {f_Parter_put : Addr} {od_Parter_put an_Parter_put : Option Addr} {sl_Parter_put : Array (Option Value)} {oc_Parter_put kV_Parter_put dc_Parter_put pm_Parter_put cd_Parter_put ct_Parter_put : Value}
    {f_Parter_counts : Addr} {od_Parter_counts an_Parter_counts : Option Addr} {sl_Parter_counts : Array (Option Value)} {oc_Parter_counts kV_Parter_counts dc_Parter_counts pm_Parter_counts cd_Parter_counts ct_Parter_counts : Value}
    {f_Parter_parts : Addr} {od_Parter_parts an_Parter_parts : Option Addr} {sl_Parter_parts : Array (Option Value)} {oc_Parter_parts kV_Parter_parts dc_Parter_parts pm_Parter_parts cd_Parter_parts ct_Parter_parts : Value}
    {f_l_mixed : Addr} {od_l_mixed an_l_mixed : Option Addr} {sl_l_mixed : Array (Option Value)} {oc_l_mixed kV_l_mixed dc_l_mixed pm_l_mixed cd_l_mixed ct_l_mixed : Value}
    {f_l_at : Addr} {od_l_at an_l_at : Option Addr} {sl_l_at : Array (Option Value)} {oc_l_at kV_l_at dc_l_at pm_l_at cd_l_at ct_l_at : Value}
    {f_l_class : Addr} {od_l_class an_l_class : Option Addr} {sl_l_class : Array (Option Value)} {oc_l_class kV_l_class dc_l_class pm_l_class cd_l_class ct_l_class : Value}
    {f_l_pattern : Addr} {od_l_pattern an_l_pattern : Option Addr} {sl_l_pattern : Array (Option Value)} {oc_l_pattern kV_l_pattern dc_l_pattern pm_l_pattern cd_l_pattern ct_l_pattern : Value}
    {f_l_text : Addr} {od_l_text an_l_text : Option Addr} {sl_l_text : Array (Option Value)} {oc_l_text kV_l_text dc_l_text pm_l_text cd_l_text ct_l_text : Value}
    {f_l_counted : Addr} {od_l_counted an_l_counted : Option Addr} {sl_l_counted : Array (Option Value)} {oc_l_counted kV_l_counted dc_l_counted pm_l_counted cd_l_counted ct_l_counted : Value}
    {f_l_asked : Addr} {od_l_asked an_l_asked : Option Addr} {sl_l_asked : Array (Option Value)} {oc_l_asked kV_l_asked dc_l_asked pm_l_asked cd_l_asked ct_l_asked : Value}
    {f_l_read : Addr} {od_l_read an_l_read : Option Addr} {sl_l_read : Array (Option Value)} {oc_l_read kV_l_read dc_l_read pm_l_read cd_l_read ct_l_read : Value}
    {f_l_made : Addr} {od_l_made an_l_made : Option Addr} {sl_l_made : Array (Option Value)} {oc_l_made kV_l_made dc_l_made pm_l_made cd_l_made ct_l_made : Value}
    {f_l_bent : Addr} {od_l_bent an_l_bent : Option Addr} {sl_l_bent : Array (Option Value)} {oc_l_bent kV_l_bent dc_l_bent pm_l_bent cd_l_bent ct_l_bent : Value}
    {f_l_odd : Addr} {od_l_odd an_l_odd : Option Addr} {sl_l_odd : Array (Option Value)} {oc_l_odd kV_l_odd dc_l_odd pm_l_odd cd_l_odd ct_l_odd : Value}
    {f_l_put_refused : Addr} {od_l_put_refused an_l_put_refused : Option Addr} {sl_l_put_refused : Array (Option Value)} {oc_l_put_refused kV_l_put_refused dc_l_put_refused pm_l_put_refused ct_l_put_refused : Value}

    {f_l_said : Addr} {od_l_said an_l_said : Option Addr} {sl_l_said : Array (Option Value)} {oc_l_said kV_l_said dc_l_said pm_l_said cd_l_said ct_l_said : Value}
    {f_law : Addr} {od_law an_law : Option Addr} {sl_law : Array (Option Value)} {oc_law kV_law dc_law pm_law cd_law ct_law : Value}
    (h_n_isinstance : PySem.W.nsIn K mainGlobals "isinstance" = some none)
    (h_n_str : PySem.W.nsIn K mainGlobals "str" = some none)
    (h_n_len : PySem.W.nsIn K mainGlobals "len" = some none)
    (h_n_int : PySem.W.nsIn K mainGlobals "int" = some none)
    (h_n_max : PySem.W.nsIn K mainGlobals "max" = some none)
    (h_n_range : PySem.W.nsIn K mainGlobals "range" = some none)
    (h_n_enumerate : PySem.W.nsIn K mainGlobals "enumerate" = some none)
    (h_n_list : PySem.W.nsIn K mainGlobals "list" = some none)
    (h_n_all : PySem.W.nsIn K mainGlobals "all" = some none)
    (h_n_ValueError : PySem.W.nsIn K mainGlobals "ValueError" = some none)
    (h_g_LETTERS : PySem.W.nsIn K mainGlobals "LETTERS" = some (some (.str "abcdefghijklmnopqrstuvwxyz" t_LETTERS)))
    (h_g_MOST_LETTERS : PySem.W.nsIn K mainGlobals "MOST_LETTERS" = some (some (.int 16 t_MOST_LETTERS)))
    (h_g_FIGURES : PySem.W.nsIn K mainGlobals "FIGURES" = some (some (.str "123456789" t_FIGURES)))
    (h_g_MOST_LETTERS_OF_ONE : PySem.W.nsIn K mainGlobals "MOST_LETTERS_OF_ONE" = some (some (.int 6 t_MOST_LETTERS_OF_ONE)))
    (h_g_MOST_PATTERNS : PySem.W.nsIn K mainGlobals "MOST_PATTERNS" = some (some (.int 200 t_MOST_PATTERNS)))
    (h_g_LEAST_AT_ENDS : PySem.W.nsIn K mainGlobals "LEAST_AT_ENDS" = some (some (.int 2 t_LEAST_AT_ENDS)))
    (h_g_MendError : PySem.W.nsIn K mainGlobals "MendError" = some (some (.ref c_MendError)))
    (h_g_BadWord : PySem.W.nsIn K mainGlobals "BadWord" = some (some (.ref c_BadWord)))
    (h_g_BadRule : PySem.W.nsIn K mainGlobals "BadRule" = some (some (.ref c_BadRule)))
    (h_g_BadText : PySem.W.nsIn K mainGlobals "BadText" = some (some (.ref c_BadText)))
    (h_g_Twice : PySem.W.nsIn K mainGlobals "Twice" = some (some (.ref c_Twice)))
    (h_g_NoStem : PySem.W.nsIn K mainGlobals "NoStem" = some (some (.ref c_NoStem)))
    (h_g_NoClass : PySem.W.nsIn K mainGlobals "NoClass" = some (some (.ref c_NoClass)))
    (h_g_InUse : PySem.W.nsIn K mainGlobals "InUse" = some (some (.ref c_InUse)))
    (h_g_TooMany : PySem.W.nsIn K mainGlobals "TooMany" = some (some (.ref c_TooMany)))
    (h_g_NoNumber : PySem.W.nsIn K mainGlobals "NoNumber" = some (some (.ref c_NoNumber)))
    (h_g_NoWord : PySem.W.nsIn K mainGlobals "NoWord" = some (some (.ref c_NoWord)))
    (h_g_BadPrice : PySem.W.nsIn K mainGlobals "BadPrice" = some (some (.ref c_BadPrice)))
    (h_g_NoPlace : PySem.W.nsIn K mainGlobals "NoPlace" = some (some (.ref c_NoPlace)))
    (h_g_BadPattern : PySem.W.nsIn K mainGlobals "BadPattern" = some (some (.ref c_BadPattern)))
    (h_x_BadWord : PySem.W.excIn K c_BadWord [.type "ValueError", .type "Exception", .type "BaseException", .type "object"] "ValueError.__new__" = true)
    (h_k_BadWord : PySem.W.keepIn K (.ref c_BadWord) = true)
    (h_s_BadWord : PySem.W.subIn K (.ref c_BadWord) (.type "BaseException") = some true)
    (h_t_BadWord : PySem.W.typeIn K (.ref c_BadWord) = some (.type "type"))
    (h_ga_BadWord : PySem.W.findIn K (.ref c_BadWord) "__getattribute__" = some (some (.builtin "BaseException.__getattribute__")))
    (h_gg_BadWord : PySem.W.findIn K (.ref c_BadWord) "__getattr__" = some none)
    (h_hd_BadWord : PySem.W.hasDictIn K c_BadWord = true)
    (h_cl_BadWord : PySem.W.findIn K (.ref c_BadWord) "__class__" = some (some (.builtin "object.__class__")))
    (h_hm_BadWord : PySem.W.mroIn K c_BadWord (.type "object") = some true)
    (h_sm_BadWord_MendError : PySem.W.subIn K (.ref c_BadWord) (.ref c_MendError) = some true)
    (h_i_BadWord_MendError : PySem.W.kitOne K (.ref c_BadWord) (.ref c_MendError) = some true)
    (h_i_BadWord_BadWord : PySem.W.kitOne K (.ref c_BadWord) (.ref c_BadWord) = some true)
    (h_i_BadWord_BadRule : PySem.W.kitOne K (.ref c_BadWord) (.ref c_BadRule) = some false)
    (h_i_BadWord_BadText : PySem.W.kitOne K (.ref c_BadWord) (.ref c_BadText) = some false)
    (h_i_BadWord_Twice : PySem.W.kitOne K (.ref c_BadWord) (.ref c_Twice) = some false)
    (h_i_BadWord_NoStem : PySem.W.kitOne K (.ref c_BadWord) (.ref c_NoStem) = some false)
    (h_i_BadWord_NoClass : PySem.W.kitOne K (.ref c_BadWord) (.ref c_NoClass) = some false)
    (h_i_BadWord_InUse : PySem.W.kitOne K (.ref c_BadWord) (.ref c_InUse) = some false)
    (h_i_BadWord_TooMany : PySem.W.kitOne K (.ref c_BadWord) (.ref c_TooMany) = some false)
    (h_i_BadWord_NoNumber : PySem.W.kitOne K (.ref c_BadWord) (.ref c_NoNumber) = some false)
    (h_i_BadWord_NoWord : PySem.W.kitOne K (.ref c_BadWord) (.ref c_NoWord) = some false)
    (h_i_BadWord_BadPrice : PySem.W.kitOne K (.ref c_BadWord) (.ref c_BadPrice) = some false)
    (h_i_BadWord_NoPlace : PySem.W.kitOne K (.ref c_BadWord) (.ref c_NoPlace) = some false)
    (h_i_BadWord_BadPattern : PySem.W.kitOne K (.ref c_BadWord) (.ref c_BadPattern) = some false)
    (h_i_BadWord_ValueError : PySem.W.kitOne K (.ref c_BadWord) (.type "ValueError") = some true)
    (h_x_BadPattern : PySem.W.excIn K c_BadPattern [.type "ValueError", .type "Exception", .type "BaseException", .type "object"] "ValueError.__new__" = true)
    (h_k_BadPattern : PySem.W.keepIn K (.ref c_BadPattern) = true)
    (h_s_BadPattern : PySem.W.subIn K (.ref c_BadPattern) (.type "BaseException") = some true)
    (h_t_BadPattern : PySem.W.typeIn K (.ref c_BadPattern) = some (.type "type"))
    (h_ga_BadPattern : PySem.W.findIn K (.ref c_BadPattern) "__getattribute__" = some (some (.builtin "BaseException.__getattribute__")))
    (h_gg_BadPattern : PySem.W.findIn K (.ref c_BadPattern) "__getattr__" = some none)
    (h_hd_BadPattern : PySem.W.hasDictIn K c_BadPattern = true)
    (h_cl_BadPattern : PySem.W.findIn K (.ref c_BadPattern) "__class__" = some (some (.builtin "object.__class__")))
    (h_hm_BadPattern : PySem.W.mroIn K c_BadPattern (.type "object") = some true)
    (h_sm_BadPattern_MendError : PySem.W.subIn K (.ref c_BadPattern) (.ref c_MendError) = some true)
    (h_i_BadPattern_MendError : PySem.W.kitOne K (.ref c_BadPattern) (.ref c_MendError) = some true)
    (h_i_BadPattern_BadWord : PySem.W.kitOne K (.ref c_BadPattern) (.ref c_BadWord) = some false)
    (h_i_BadPattern_BadRule : PySem.W.kitOne K (.ref c_BadPattern) (.ref c_BadRule) = some false)
    (h_i_BadPattern_BadText : PySem.W.kitOne K (.ref c_BadPattern) (.ref c_BadText) = some false)
    (h_i_BadPattern_Twice : PySem.W.kitOne K (.ref c_BadPattern) (.ref c_Twice) = some false)
    (h_i_BadPattern_NoStem : PySem.W.kitOne K (.ref c_BadPattern) (.ref c_NoStem) = some false)
    (h_i_BadPattern_NoClass : PySem.W.kitOne K (.ref c_BadPattern) (.ref c_NoClass) = some false)
    (h_i_BadPattern_InUse : PySem.W.kitOne K (.ref c_BadPattern) (.ref c_InUse) = some false)
    (h_i_BadPattern_TooMany : PySem.W.kitOne K (.ref c_BadPattern) (.ref c_TooMany) = some false)
    (h_i_BadPattern_NoNumber : PySem.W.kitOne K (.ref c_BadPattern) (.ref c_NoNumber) = some false)
    (h_i_BadPattern_NoWord : PySem.W.kitOne K (.ref c_BadPattern) (.ref c_NoWord) = some false)
    (h_i_BadPattern_BadPrice : PySem.W.kitOne K (.ref c_BadPattern) (.ref c_BadPrice) = some false)
    (h_i_BadPattern_NoPlace : PySem.W.kitOne K (.ref c_BadPattern) (.ref c_NoPlace) = some false)
    (h_i_BadPattern_BadPattern : PySem.W.kitOne K (.ref c_BadPattern) (.ref c_BadPattern) = some true)
    (h_i_BadPattern_ValueError : PySem.W.kitOne K (.ref c_BadPattern) (.type "ValueError") = some true)
    (h_gd : PySem.W.specialIn K (.builtin "object.__class__") "__get__" = some (some (.builtin "getset_descriptor.__get__")))
    (h_tk : PySem.W.takesIn K (.builtin "object.__class__") = some true)
    (h_s2_MendError : PySem.W.subIn K (.ref c_MendError) (.type "BaseException") = some true)
    (h_hd2_MendError : PySem.W.hasDictIn K c_MendError = true)
    (h_t2_MendError : PySem.W.typeIn K (.ref c_MendError) = some (.type "type"))
    (h_g_Pattern : PySem.W.nsIn K mainGlobals "Pattern" = some (some (.ref c_Pattern)))
    (h_pg_Pattern : PySem.W.plainGet K c_Pattern Str.empty = true)
    (h_hd_Pattern : PySem.W.hasDictIn K c_Pattern = true)
    (h_po_Pattern : PySem.W.plainOver K c_Pattern = true)
    (h_sa_Pattern : PySem.W.findIn K (.ref c_Pattern) "__setattr__" = some (some (.builtin "object.__setattr__")))
    (h_mk_Pattern : PySem.W.makesIn K c_Pattern = true)
    (h_kc_Pattern : PySem.W.keepIn K (.ref c_Pattern) = true)
    (h_g_Parter : PySem.W.nsIn K mainGlobals "Parter" = some (some (.ref c_Parter)))
    (h_pg_Parter : PySem.W.plainGet K c_Parter Str.empty = true)
    (h_hd_Parter : PySem.W.hasDictIn K c_Parter = true)
    (h_po_Parter : PySem.W.plainOver K c_Parter = true)
    (h_sa_Parter : PySem.W.findIn K (.ref c_Parter) "__setattr__" = some (some (.builtin "object.__setattr__")))
    (h_mk_Parter : PySem.W.makesIn K c_Parter = true)
    (h_kc_Parter : PySem.W.keepIn K (.ref c_Parter) = true)
    (h_ca2_Parter : PySem.W.findIn K (.ref c_Parter) "__class__" = some (some (.builtin "object.__class__")))
    (h_cm2_Parter : PySem.W.mroIn K c_Parter (.type "object") = some true)
    (h_ki_Parter_str : PySem.W.kitOne K (.ref c_Parter) (.type "str") = some false)
    (h_na_Pattern_signs : PySem.W.findIn K (.ref c_Pattern) "signs" = some none)
    (h_na_Pattern_figures : PySem.W.findIn K (.ref c_Pattern) "figures" = some none)
    (h_na_Parter__patterns : PySem.W.findIn K (.ref c_Parter) "_patterns" = some none)
    (h_na_Parter__told : PySem.W.findIn K (.ref c_Parter) "_told" = some none)
    (h_g_are_letters : PySem.W.nsIn K mainGlobals "are_letters" = some (some (.ref f_are_letters)))
    (h_l_are_letters : K.lookup f_are_letters = some ⟨oc_are_letters, od_are_letters, .func (PySem.W.fnOf "are_letters" "are_letters" (defArgs s_are_letters) (defBody s_are_letters) (defScope s_are_letters) .none kV_are_letters dc_are_letters pm_are_letters an_are_letters cd_are_letters ct_are_letters), sl_are_letters⟩)
    (h_c_are_letters : PySem.W.codeIn K cd_are_letters "are_letters" = true)
    (h_k_are_letters : PySem.W.keepIn K (.ref f_are_letters) = true)
    (h_g_is_word : PySem.W.nsIn K mainGlobals "is_word" = some (some (.ref f_is_word)))
    (h_l_is_word : K.lookup f_is_word = some ⟨oc_is_word, od_is_word, .func (PySem.W.fnOf "is_word" "is_word" (defArgs s_is_word) (defBody s_is_word) (defScope s_is_word) .none kV_is_word dc_is_word pm_is_word an_is_word cd_is_word ct_is_word), sl_is_word⟩)
    (h_c_is_word : PySem.W.codeIn K cd_is_word "is_word" = true)
    (h_k_is_word : PySem.W.keepIn K (.ref f_is_word) = true)
    (h_g_need_word : PySem.W.nsIn K mainGlobals "need_word" = some (some (.ref f_need_word)))
    (h_l_need_word : K.lookup f_need_word = some ⟨oc_need_word, od_need_word, .func (PySem.W.fnOf "need_word" "need_word" (defArgs s_need_word) (defBody s_need_word) (defScope s_need_word) .none kV_need_word dc_need_word pm_need_word an_need_word cd_need_word ct_need_word), sl_need_word⟩)
    (h_c_need_word : PySem.W.codeIn K cd_need_word "need_word" = true)
    (h_k_need_word : PySem.W.keepIn K (.ref f_need_word) = true)
    (h_g_read_figures : PySem.W.nsIn K mainGlobals "read_figures" = some (some (.ref f_read_figures)))
    (h_l_read_figures : K.lookup f_read_figures = some ⟨oc_read_figures, od_read_figures, .func (PySem.W.fnOf "read_figures" "read_figures" (defArgs s_read_figures) (defBody s_read_figures) (defScope s_read_figures) .none kV_read_figures dc_read_figures pm_read_figures an_read_figures cd_read_figures ct_read_figures), sl_read_figures⟩)
    (h_c_read_figures : PySem.W.codeIn K cd_read_figures "read_figures" = true)
    (h_k_read_figures : PySem.W.keepIn K (.ref f_read_figures) = true)
    (h_a_Pattern_init : PySem.W.findIn K (.ref c_Pattern) "__init__" = some (some (.ref f_Pattern_init)))
    (h_i_Pattern_init : PySem.W.isFn K (.ref f_Pattern_init) = true)
    (h_l_Pattern_init : K.lookup f_Pattern_init = some ⟨oc_Pattern_init, od_Pattern_init, .func (PySem.W.fnOf "__init__" "Pattern.__init__" (defArgs s_Pattern_init) (defBody s_Pattern_init) (defScope s_Pattern_init) .none kV_Pattern_init dc_Pattern_init pm_Pattern_init an_Pattern_init cd_Pattern_init ct_Pattern_init), sl_Pattern_init⟩)
    (h_c_Pattern_init : PySem.W.codeIn K cd_Pattern_init "Pattern.__init__" = true)
    (h_k_Pattern_init : PySem.W.keepIn K (.ref f_Pattern_init) = true)
    (h_a_Pattern_count_in : PySem.W.findIn K (.ref c_Pattern) "count_in" = some (some (.ref f_Pattern_count_in)))
    (h_i_Pattern_count_in : PySem.W.isFn K (.ref f_Pattern_count_in) = true)
    (h_l_Pattern_count_in : K.lookup f_Pattern_count_in = some ⟨oc_Pattern_count_in, od_Pattern_count_in, .func (PySem.W.fnOf "count_in" "Pattern.count_in" (defArgs s_Pattern_count_in) (defBody s_Pattern_count_in) (defScope s_Pattern_count_in) .none kV_Pattern_count_in dc_Pattern_count_in pm_Pattern_count_in an_Pattern_count_in cd_Pattern_count_in ct_Pattern_count_in), sl_Pattern_count_in⟩)
    (h_c_Pattern_count_in : PySem.W.codeIn K cd_Pattern_count_in "Pattern.count_in" = true)
    (h_k_Pattern_count_in : PySem.W.keepIn K (.ref f_Pattern_count_in) = true)
    (h_a_Parter_init : PySem.W.findIn K (.ref c_Parter) "__init__" = some (some (.ref f_Parter_init)))
    (h_i_Parter_init : PySem.W.isFn K (.ref f_Parter_init) = true)
    (h_l_Parter_init : K.lookup f_Parter_init = some ⟨oc_Parter_init, od_Parter_init, .func (PySem.W.fnOf "__init__" "Parter.__init__" (defArgs s_Parter_init) (defBody s_Parter_init) (defScope s_Parter_init) .none kV_Parter_init dc_Parter_init pm_Parter_init an_Parter_init cd_Parter_init ct_Parter_init), sl_Parter_init⟩)
    (h_c_Parter_init : PySem.W.codeIn K cd_Parter_init "Parter.__init__" = true)
    (h_k_Parter_init : PySem.W.keepIn K (.ref f_Parter_init) = true)
    (h_a_Parter_put : PySem.W.findIn K (.ref c_Parter) "put" = some (some (.ref f_Parter_put)))
    (h_i_Parter_put : PySem.W.isFn K (.ref f_Parter_put) = true)
    (h_l_Parter_put : K.lookup f_Parter_put = some ⟨oc_Parter_put, od_Parter_put, .func (PySem.W.fnOf "put" "Parter.put" (defArgs s_Parter_put) (defBody s_Parter_put) (defScope s_Parter_put) .none kV_Parter_put dc_Parter_put pm_Parter_put an_Parter_put cd_Parter_put ct_Parter_put), sl_Parter_put⟩)
    (h_c_Parter_put : PySem.W.codeIn K cd_Parter_put "Parter.put" = true)
    (h_k_Parter_put : PySem.W.keepIn K (.ref f_Parter_put) = true)
    (h_a_Parter_counts : PySem.W.findIn K (.ref c_Parter) "counts" = some (some (.ref f_Parter_counts)))
    (h_i_Parter_counts : PySem.W.isFn K (.ref f_Parter_counts) = true)
    (h_l_Parter_counts : K.lookup f_Parter_counts = some ⟨oc_Parter_counts, od_Parter_counts, .func (PySem.W.fnOf "counts" "Parter.counts" (defArgs s_Parter_counts) (defBody s_Parter_counts) (defScope s_Parter_counts) .none kV_Parter_counts dc_Parter_counts pm_Parter_counts an_Parter_counts cd_Parter_counts ct_Parter_counts), sl_Parter_counts⟩)
    (h_c_Parter_counts : PySem.W.codeIn K cd_Parter_counts "Parter.counts" = true)
    (h_k_Parter_counts : PySem.W.keepIn K (.ref f_Parter_counts) = true)
    (h_a_Parter_parts : PySem.W.findIn K (.ref c_Parter) "parts" = some (some (.ref f_Parter_parts)))
    (h_i_Parter_parts : PySem.W.isFn K (.ref f_Parter_parts) = true)
    (h_l_Parter_parts : K.lookup f_Parter_parts = some ⟨oc_Parter_parts, od_Parter_parts, .func (PySem.W.fnOf "parts" "Parter.parts" (defArgs s_Parter_parts) (defBody s_Parter_parts) (defScope s_Parter_parts) .none kV_Parter_parts dc_Parter_parts pm_Parter_parts an_Parter_parts cd_Parter_parts ct_Parter_parts), sl_Parter_parts⟩)
    (h_c_Parter_parts : PySem.W.codeIn K cd_Parter_parts "Parter.parts" = true)
    (h_k_Parter_parts : PySem.W.keepIn K (.ref f_Parter_parts) = true)
    (h_g_l_mixed : PySem.W.nsIn K mainGlobals "_law_mixed" = some (some (.ref f_l_mixed)))
    (h_l_l_mixed : K.lookup f_l_mixed = some ⟨oc_l_mixed, od_l_mixed, .func (PySem.W.fnOf "_law_mixed" "_law_mixed" (defArgs s_l_mixed) (defBody s_l_mixed) (defScope s_l_mixed) .none kV_l_mixed dc_l_mixed pm_l_mixed an_l_mixed cd_l_mixed ct_l_mixed), sl_l_mixed⟩)
    (h_c_l_mixed : PySem.W.codeIn K cd_l_mixed "_law_mixed" = true)
    (h_k_l_mixed : PySem.W.keepIn K (.ref f_l_mixed) = true)
    (h_g_l_at : PySem.W.nsIn K mainGlobals "_law_at" = some (some (.ref f_l_at)))
    (h_l_l_at : K.lookup f_l_at = some ⟨oc_l_at, od_l_at, .func (PySem.W.fnOf "_law_at" "_law_at" (defArgs s_l_at) (defBody s_l_at) (defScope s_l_at) .none kV_l_at dc_l_at pm_l_at an_l_at cd_l_at ct_l_at), sl_l_at⟩)
    (h_c_l_at : PySem.W.codeIn K cd_l_at "_law_at" = true)
    (h_k_l_at : PySem.W.keepIn K (.ref f_l_at) = true)
    (h_g_l_class : PySem.W.nsIn K mainGlobals "_law_class" = some (some (.ref f_l_class)))
    (h_l_l_class : K.lookup f_l_class = some ⟨oc_l_class, od_l_class, .func (PySem.W.fnOf "_law_class" "_law_class" (defArgs s_l_class) (defBody s_l_class) (defScope s_l_class) .none kV_l_class dc_l_class pm_l_class an_l_class cd_l_class ct_l_class), sl_l_class⟩)
    (h_c_l_class : PySem.W.codeIn K cd_l_class "_law_class" = true)
    (h_k_l_class : PySem.W.keepIn K (.ref f_l_class) = true)
    (h_g_l_pattern : PySem.W.nsIn K mainGlobals "_law_pattern" = some (some (.ref f_l_pattern)))
    (h_l_l_pattern : K.lookup f_l_pattern = some ⟨oc_l_pattern, od_l_pattern, .func (PySem.W.fnOf "_law_pattern" "_law_pattern" (defArgs s_l_pattern) (defBody s_l_pattern) (defScope s_l_pattern) .none kV_l_pattern dc_l_pattern pm_l_pattern an_l_pattern cd_l_pattern ct_l_pattern), sl_l_pattern⟩)
    (h_c_l_pattern : PySem.W.codeIn K cd_l_pattern "_law_pattern" = true)
    (h_k_l_pattern : PySem.W.keepIn K (.ref f_l_pattern) = true)
    (h_g_l_text : PySem.W.nsIn K mainGlobals "_law_text" = some (some (.ref f_l_text)))
    (h_l_l_text : K.lookup f_l_text = some ⟨oc_l_text, od_l_text, .func (PySem.W.fnOf "_law_text" "_law_text" (defArgs s_l_text) (defBody s_l_text) (defScope s_l_text) .none kV_l_text dc_l_text pm_l_text an_l_text cd_l_text ct_l_text), sl_l_text⟩)
    (h_c_l_text : PySem.W.codeIn K cd_l_text "_law_text" = true)
    (h_k_l_text : PySem.W.keepIn K (.ref f_l_text) = true)
    (h_g_l_counted : PySem.W.nsIn K mainGlobals "_law_counted" = some (some (.ref f_l_counted)))
    (h_l_l_counted : K.lookup f_l_counted = some ⟨oc_l_counted, od_l_counted, .func (PySem.W.fnOf "_law_counted" "_law_counted" (defArgs s_l_counted) (defBody s_l_counted) (defScope s_l_counted) .none kV_l_counted dc_l_counted pm_l_counted an_l_counted cd_l_counted ct_l_counted), sl_l_counted⟩)
    (h_c_l_counted : PySem.W.codeIn K cd_l_counted "_law_counted" = true)
    (h_k_l_counted : PySem.W.keepIn K (.ref f_l_counted) = true)
    (h_g_l_asked : PySem.W.nsIn K mainGlobals "_law_asked" = some (some (.ref f_l_asked)))
    (h_l_l_asked : K.lookup f_l_asked = some ⟨oc_l_asked, od_l_asked, .func (PySem.W.fnOf "_law_asked" "_law_asked" (defArgs s_l_asked) (defBody s_l_asked) (defScope s_l_asked) .none kV_l_asked dc_l_asked pm_l_asked an_l_asked cd_l_asked ct_l_asked), sl_l_asked⟩)
    (h_c_l_asked : PySem.W.codeIn K cd_l_asked "_law_asked" = true)
    (h_k_l_asked : PySem.W.keepIn K (.ref f_l_asked) = true)
    (h_g_l_read : PySem.W.nsIn K mainGlobals "_law_read" = some (some (.ref f_l_read)))
    (h_l_l_read : K.lookup f_l_read = some ⟨oc_l_read, od_l_read, .func (PySem.W.fnOf "_law_read" "_law_read" (defArgs s_l_read) (defBody s_l_read) (defScope s_l_read) .none kV_l_read dc_l_read pm_l_read an_l_read cd_l_read ct_l_read), sl_l_read⟩)
    (h_c_l_read : PySem.W.codeIn K cd_l_read "_law_read" = true)
    (h_k_l_read : PySem.W.keepIn K (.ref f_l_read) = true)
    (h_g_l_made : PySem.W.nsIn K mainGlobals "_law_made" = some (some (.ref f_l_made)))
    (h_l_l_made : K.lookup f_l_made = some ⟨oc_l_made, od_l_made, .func (PySem.W.fnOf "_law_made" "_law_made" (defArgs s_l_made) (defBody s_l_made) (defScope s_l_made) .none kV_l_made dc_l_made pm_l_made an_l_made cd_l_made ct_l_made), sl_l_made⟩)
    (h_c_l_made : PySem.W.codeIn K cd_l_made "_law_made" = true)
    (h_k_l_made : PySem.W.keepIn K (.ref f_l_made) = true)
    (h_g_l_bent : PySem.W.nsIn K mainGlobals "_law_bent" = some (some (.ref f_l_bent)))
    (h_l_l_bent : K.lookup f_l_bent = some ⟨oc_l_bent, od_l_bent, .func (PySem.W.fnOf "_law_bent" "_law_bent" (defArgs s_l_bent) (defBody s_l_bent) (defScope s_l_bent) .none kV_l_bent dc_l_bent pm_l_bent an_l_bent cd_l_bent ct_l_bent), sl_l_bent⟩)
    (h_c_l_bent : PySem.W.codeIn K cd_l_bent "_law_bent" = true)
    (h_k_l_bent : PySem.W.keepIn K (.ref f_l_bent) = true)
    (h_g_l_odd : PySem.W.nsIn K mainGlobals "_law_odd" = some (some (.ref f_l_odd)))
    (h_l_l_odd : K.lookup f_l_odd = some ⟨oc_l_odd, od_l_odd, .func (PySem.W.fnOf "_law_odd" "_law_odd" (defArgs s_l_odd) (defBody s_l_odd) (defScope s_l_odd) .none kV_l_odd dc_l_odd pm_l_odd an_l_odd cd_l_odd ct_l_odd), sl_l_odd⟩)
    (h_c_l_odd : PySem.W.codeIn K cd_l_odd "_law_odd" = true)
    (h_k_l_odd : PySem.W.keepIn K (.ref f_l_odd) = true)
    (h_g_l_put_refused : PySem.W.nsIn K mainGlobals "_law_put_refused" = some (some (.ref f_l_put_refused)))
    (h_l_l_put_refused : K.lookup f_l_put_refused = some ⟨oc_l_put_refused, od_l_put_refused, .func (PySem.W.fnOf "_law_put_refused" "_law_put_refused" (defArgs s_l_put_refused) (defBody s_l_put_refused) (defScope s_l_put_refused) .none kV_l_put_refused dc_l_put_refused pm_l_put_refused an_l_put_refused (.ref kc) ct_l_put_refused), sl_l_put_refused⟩)
    (h_c_l_put_refused : PySem.W.codeIn K (.ref kc) "_law_put_refused" = true)
    (h_k_l_put_refused : PySem.W.keepIn K (.ref f_l_put_refused) = true)
    (h_kc : PySem.W.codeHdIn K kc kt = true)
    (h_kt : K.lookup kt = none)
    (h_g_l_said : PySem.W.nsIn K mainGlobals "_law_said" = some (some (.ref f_l_said)))
    (h_l_l_said : K.lookup f_l_said = some ⟨oc_l_said, od_l_said, .func (PySem.W.fnOf "_law_said" "_law_said" (defArgs s_l_said) (defBody s_l_said) (defScope s_l_said) .none kV_l_said dc_l_said pm_l_said an_l_said cd_l_said ct_l_said), sl_l_said⟩)
    (h_c_l_said : PySem.W.codeIn K cd_l_said "_law_said" = true)
    (h_k_l_said : PySem.W.keepIn K (.ref f_l_said) = true)
    (h_g_law : PySem.W.nsIn K mainGlobals "law" = some (some (.ref f_law)))
    (h_l_law : K.lookup f_law = some ⟨oc_law, od_law, .func (PySem.W.fnOf "law" "law" (defArgs s_law) (defBody s_law) (defScope s_law) .none kV_law dc_law pm_law an_law cd_law ct_law), sl_law⟩)
    (h_c_law : PySem.W.codeIn K cd_law "law" = true)
    (h_k_law : PySem.W.keepIn K (.ref f_law) = true) :
    LamX.LawAtS l w K CX0 9 63 "_law_script" mg fa h := by
  have e := hfa.symm.trans (PySem.W.mg_of X G h_g_law)
  cases e
  have T : Txt K mg { c_MendError := c_MendError, c_BadWord := c_BadWord, c_BadRule := c_BadRule, c_BadText := c_BadText, c_Twice := c_Twice, c_NoStem := c_NoStem, c_NoClass := c_NoClass, c_InUse := c_InUse, c_TooMany := c_TooMany, c_NoNumber := c_NoNumber, c_NoWord := c_NoWord, c_BadPrice := c_BadPrice, c_NoPlace := c_NoPlace, c_BadPattern := c_BadPattern, c_Pattern := c_Pattern, c_Parter := c_Parter, f_are_letters := f_are_letters, d_are_letters := _, f_is_word := f_is_word, d_is_word := _, f_need_word := f_need_word, d_need_word := _, f_read_figures := f_read_figures, d_read_figures := _, f_Pattern_init := f_Pattern_init, d_Pattern_init := _, f_Pattern_count_in := f_Pattern_count_in, d_Pattern_count_in := _, f_Parter_init := f_Parter_init, d_Parter_init := _, f_Parter_put := f_Parter_put, d_Parter_put := _, f_Parter_counts := f_Parter_counts, d_Parter_counts := _, f_Parter_parts := f_Parter_parts, d_Parter_parts := _, f_l_mixed := f_l_mixed, d_l_mixed := _, f_l_at := f_l_at, d_l_at := _, f_l_class := f_l_class, d_l_class := _, f_l_pattern := f_l_pattern, d_l_pattern := _, f_l_text := f_l_text, d_l_text := _, f_l_counted := f_l_counted, d_l_counted := _, f_l_asked := f_l_asked, d_l_asked := _, f_l_read := f_l_read, d_l_read := _, f_l_made := f_l_made, d_l_made := _, f_l_bent := f_l_bent, d_l_bent := _, f_l_odd := f_l_odd, d_l_odd := _, f_l_put_refused := f_l_put_refused, d_l_put_refused := _, f_l_said := f_l_said, d_l_said := _, f_law := fa, d_law := _, kc := kc, kt := kt } := {
    n_isinstance := PySem.W.mg_none_of X G h_n_isinstance
    n_str := PySem.W.mg_none_of X G h_n_str
    n_len := PySem.W.mg_none_of X G h_n_len
    n_int := PySem.W.mg_none_of X G h_n_int
    n_max := PySem.W.mg_none_of X G h_n_max
    n_range := PySem.W.mg_none_of X G h_n_range
    n_enumerate := PySem.W.mg_none_of X G h_n_enumerate
    n_list := PySem.W.mg_none_of X G h_n_list
    n_all := PySem.W.mg_none_of X G h_n_all
    n_ValueError := PySem.W.mg_none_of X G h_n_ValueError
    g_LETTERS := ⟨_, PySem.W.mg_of X G h_g_LETTERS⟩
    g_MOST_LETTERS := ⟨_, PySem.W.mg_of X G h_g_MOST_LETTERS⟩
    g_FIGURES := ⟨_, PySem.W.mg_of X G h_g_FIGURES⟩
    g_MOST_LETTERS_OF_ONE := ⟨_, PySem.W.mg_of X G h_g_MOST_LETTERS_OF_ONE⟩
    g_MOST_PATTERNS := ⟨_, PySem.W.mg_of X G h_g_MOST_PATTERNS⟩
    g_LEAST_AT_ENDS := ⟨_, PySem.W.mg_of X G h_g_LEAST_AT_ENDS⟩
    g_MendError := PySem.W.mg_of X G h_g_MendError
    g_BadWord := PySem.W.mg_of X G h_g_BadWord
    g_BadRule := PySem.W.mg_of X G h_g_BadRule
    g_BadText := PySem.W.mg_of X G h_g_BadText
    g_Twice := PySem.W.mg_of X G h_g_Twice
    g_NoStem := PySem.W.mg_of X G h_g_NoStem
    g_NoClass := PySem.W.mg_of X G h_g_NoClass
    g_InUse := PySem.W.mg_of X G h_g_InUse
    g_TooMany := PySem.W.mg_of X G h_g_TooMany
    g_NoNumber := PySem.W.mg_of X G h_g_NoNumber
    g_NoWord := PySem.W.mg_of X G h_g_NoWord
    g_BadPrice := PySem.W.mg_of X G h_g_BadPrice
    g_NoPlace := PySem.W.mg_of X G h_g_NoPlace
    g_BadPattern := PySem.W.mg_of X G h_g_BadPattern
    x_BadWord := h_x_BadWord
    k_BadWord := h_k_BadWord
    s_BadWord := h_s_BadWord
    t_BadWord := h_t_BadWord
    e_BadWord := ⟨h_ga_BadWord, h_gg_BadWord, h_s_BadWord, h_hd_BadWord, h_cl_BadWord, h_gd, h_tk, h_hm_BadWord⟩
    m_BadWord_MendError := PySem.W.exm_ref h_s2_MendError h_hd2_MendError h_t2_MendError h_sm_BadWord_MendError
    i_BadWord_MendError := h_i_BadWord_MendError
    i_BadWord_BadWord := h_i_BadWord_BadWord
    i_BadWord_BadRule := h_i_BadWord_BadRule
    i_BadWord_BadText := h_i_BadWord_BadText
    i_BadWord_Twice := h_i_BadWord_Twice
    i_BadWord_NoStem := h_i_BadWord_NoStem
    i_BadWord_NoClass := h_i_BadWord_NoClass
    i_BadWord_InUse := h_i_BadWord_InUse
    i_BadWord_TooMany := h_i_BadWord_TooMany
    i_BadWord_NoNumber := h_i_BadWord_NoNumber
    i_BadWord_NoWord := h_i_BadWord_NoWord
    i_BadWord_BadPrice := h_i_BadWord_BadPrice
    i_BadWord_NoPlace := h_i_BadWord_NoPlace
    i_BadWord_BadPattern := h_i_BadWord_BadPattern
    i_BadWord_ValueError := h_i_BadWord_ValueError
    x_BadPattern := h_x_BadPattern
    k_BadPattern := h_k_BadPattern
    s_BadPattern := h_s_BadPattern
    t_BadPattern := h_t_BadPattern
    e_BadPattern := ⟨h_ga_BadPattern, h_gg_BadPattern, h_s_BadPattern, h_hd_BadPattern, h_cl_BadPattern, h_gd, h_tk, h_hm_BadPattern⟩
    m_BadPattern_MendError := PySem.W.exm_ref h_s2_MendError h_hd2_MendError h_t2_MendError h_sm_BadPattern_MendError
    i_BadPattern_MendError := h_i_BadPattern_MendError
    i_BadPattern_BadWord := h_i_BadPattern_BadWord
    i_BadPattern_BadRule := h_i_BadPattern_BadRule
    i_BadPattern_BadText := h_i_BadPattern_BadText
    i_BadPattern_Twice := h_i_BadPattern_Twice
    i_BadPattern_NoStem := h_i_BadPattern_NoStem
    i_BadPattern_NoClass := h_i_BadPattern_NoClass
    i_BadPattern_InUse := h_i_BadPattern_InUse
    i_BadPattern_TooMany := h_i_BadPattern_TooMany
    i_BadPattern_NoNumber := h_i_BadPattern_NoNumber
    i_BadPattern_NoWord := h_i_BadPattern_NoWord
    i_BadPattern_BadPrice := h_i_BadPattern_BadPrice
    i_BadPattern_NoPlace := h_i_BadPattern_NoPlace
    i_BadPattern_BadPattern := h_i_BadPattern_BadPattern
    i_BadPattern_ValueError := h_i_BadPattern_ValueError
    g_Pattern := PySem.W.mg_of X G h_g_Pattern
    cl_Pattern := ⟨h_pg_Pattern, h_hd_Pattern, h_po_Pattern, h_sa_Pattern⟩
    M_Pattern := ⟨h_mk_Pattern, h_a_Pattern_init, h_i_Pattern_init, h_kc_Pattern⟩
    g_Parter := PySem.W.mg_of X G h_g_Parter
    cl_Parter := ⟨h_pg_Parter, h_hd_Parter, h_po_Parter, h_sa_Parter⟩
    M_Parter := ⟨h_mk_Parter, h_a_Parter_init, h_i_Parter_init, h_kc_Parter⟩
    na_Pattern_signs := h_na_Pattern_signs
    na_Pattern_figures := h_na_Pattern_figures
    na_Parter__patterns := h_na_Parter__patterns
    na_Parter__told := h_na_Parter__told
    ic_Parter := ⟨⟨h_pg_Parter, h_hd_Parter, h_po_Parter, h_sa_Parter⟩, h_ca2_Parter, h_gd, h_tk, h_cm2_Parter⟩
    ki_Parter_str := h_ki_Parter_str
    mt_Pattern_count_in := ⟨h_a_Pattern_count_in, h_i_Pattern_count_in, h_k_Pattern_count_in⟩
    mt_Parter_counts := ⟨h_a_Parter_counts, h_i_Parter_counts, h_k_Parter_counts⟩
    mt_Parter_put := ⟨h_a_Parter_put, h_i_Parter_put, h_k_Parter_put⟩
    mt_Parter_parts := ⟨h_a_Parter_parts, h_i_Parter_parts, h_k_Parter_parts⟩
    g_are_letters := PySem.W.mg_of X G h_g_are_letters
    k_are_letters := h_k_are_letters
    F_are_letters := fun_mk (st := s_are_letters) h_l_are_letters h_c_are_letters h_k_are_letters
    b_are_letters := (fun_mk (st := s_are_letters) h_l_are_letters h_c_are_letters h_k_are_letters).binds (ps := P_are_letters) fun _ _ _ _ _ _ us hl => match us, hl with | [_], _ => rfl
    g_is_word := PySem.W.mg_of X G h_g_is_word
    k_is_word := h_k_is_word
    F_is_word := fun_mk (st := s_is_word) h_l_is_word h_c_is_word h_k_is_word
    b_is_word := (fun_mk (st := s_is_word) h_l_is_word h_c_is_word h_k_is_word).binds (ps := P_is_word) fun _ _ _ _ _ _ us hl => match us, hl with | [_], _ => rfl
    g_need_word := PySem.W.mg_of X G h_g_need_word
    k_need_word := h_k_need_word
    F_need_word := fun_mk (st := s_need_word) h_l_need_word h_c_need_word h_k_need_word
    b_need_word := (fun_mk (st := s_need_word) h_l_need_word h_c_need_word h_k_need_word).binds (ps := P_need_word) fun _ _ _ _ _ _ us hl => match us, hl with | [_], _ => rfl
    g_read_figures := PySem.W.mg_of X G h_g_read_figures
    k_read_figures := h_k_read_figures
    F_read_figures := fun_mk (st := s_read_figures) h_l_read_figures h_c_read_figures h_k_read_figures
    b_read_figures := (fun_mk (st := s_read_figures) h_l_read_figures h_c_read_figures h_k_read_figures).binds (ps := P_read_figures) fun _ _ _ _ _ _ us hl => match us, hl with | [_], _ => rfl
    F_Pattern_init := fun_mk (st := s_Pattern_init) h_l_Pattern_init h_c_Pattern_init h_k_Pattern_init
    b_Pattern_init := (fun_mk (st := s_Pattern_init) h_l_Pattern_init h_c_Pattern_init h_k_Pattern_init).binds (ps := P_Pattern_init) fun _ _ _ _ _ _ us hl => match us, hl with | [_, _], _ => rfl
    F_Pattern_count_in := fun_mk (st := s_Pattern_count_in) h_l_Pattern_count_in h_c_Pattern_count_in h_k_Pattern_count_in
    b_Pattern_count_in := (fun_mk (st := s_Pattern_count_in) h_l_Pattern_count_in h_c_Pattern_count_in h_k_Pattern_count_in).binds (ps := P_Pattern_count_in) fun _ _ _ _ _ _ us hl => match us, hl with | [_, _, _], _ => rfl
    F_Parter_init := fun_mk (st := s_Parter_init) h_l_Parter_init h_c_Parter_init h_k_Parter_init
    b_Parter_init := (fun_mk (st := s_Parter_init) h_l_Parter_init h_c_Parter_init h_k_Parter_init).binds (ps := P_Parter_init) fun _ _ _ _ _ _ us hl => match us, hl with | [_, _], _ => rfl
    F_Parter_put := fun_mk (st := s_Parter_put) h_l_Parter_put h_c_Parter_put h_k_Parter_put
    b_Parter_put := (fun_mk (st := s_Parter_put) h_l_Parter_put h_c_Parter_put h_k_Parter_put).binds (ps := P_Parter_put) fun _ _ _ _ _ _ us hl => match us, hl with | [_, _, _], _ => rfl
    F_Parter_counts := fun_mk (st := s_Parter_counts) h_l_Parter_counts h_c_Parter_counts h_k_Parter_counts
    b_Parter_counts := (fun_mk (st := s_Parter_counts) h_l_Parter_counts h_c_Parter_counts h_k_Parter_counts).binds (ps := P_Parter_counts) fun _ _ _ _ _ _ us hl => match us, hl with | [_, _], _ => rfl
    F_Parter_parts := fun_mk (st := s_Parter_parts) h_l_Parter_parts h_c_Parter_parts h_k_Parter_parts
    b_Parter_parts := (fun_mk (st := s_Parter_parts) h_l_Parter_parts h_c_Parter_parts h_k_Parter_parts).binds (ps := P_Parter_parts) fun _ _ _ _ _ _ us hl => match us, hl with | [_, _], _ => rfl
    g_l_mixed := PySem.W.mg_of X G h_g_l_mixed
    k_l_mixed := h_k_l_mixed
    F_l_mixed := fun_mk (st := s_l_mixed) h_l_l_mixed h_c_l_mixed h_k_l_mixed
    b_l_mixed := (fun_mk (st := s_l_mixed) h_l_l_mixed h_c_l_mixed h_k_l_mixed).binds (ps := P_l_mixed) fun _ _ _ _ _ _ us hl => match us, hl with | [_, _], _ => rfl
    g_l_at := PySem.W.mg_of X G h_g_l_at
    k_l_at := h_k_l_at
    F_l_at := fun_mk (st := s_l_at) h_l_l_at h_c_l_at h_k_l_at
    b_l_at := (fun_mk (st := s_l_at) h_l_l_at h_c_l_at h_k_l_at).binds (ps := P_l_at) fun _ _ _ _ _ _ us hl => match us, hl with | [_, _], _ => rfl
    g_l_class := PySem.W.mg_of X G h_g_l_class
    k_l_class := h_k_l_class
    F_l_class := fun_mk (st := s_l_class) h_l_l_class h_c_l_class h_k_l_class
    b_l_class := (fun_mk (st := s_l_class) h_l_l_class h_c_l_class h_k_l_class).binds (ps := P_l_class) fun _ _ _ _ _ _ us hl => match us, hl with | [_], _ => rfl
    g_l_pattern := PySem.W.mg_of X G h_g_l_pattern
    k_l_pattern := h_k_l_pattern
    F_l_pattern := fun_mk (st := s_l_pattern) h_l_l_pattern h_c_l_pattern h_k_l_pattern
    b_l_pattern := (fun_mk (st := s_l_pattern) h_l_l_pattern h_c_l_pattern h_k_l_pattern).binds (ps := P_l_pattern) fun _ _ _ _ _ _ us hl => match us, hl with | [_], _ => rfl
    g_l_text := PySem.W.mg_of X G h_g_l_text
    k_l_text := h_k_l_text
    F_l_text := fun_mk (st := s_l_text) h_l_l_text h_c_l_text h_k_l_text
    b_l_text := (fun_mk (st := s_l_text) h_l_l_text h_c_l_text h_k_l_text).binds (ps := P_l_text) fun _ _ _ _ _ _ us hl => match us, hl with | [_], _ => rfl
    g_l_counted := PySem.W.mg_of X G h_g_l_counted
    k_l_counted := h_k_l_counted
    F_l_counted := fun_mk (st := s_l_counted) h_l_l_counted h_c_l_counted h_k_l_counted
    b_l_counted := (fun_mk (st := s_l_counted) h_l_l_counted h_c_l_counted h_k_l_counted).binds (ps := P_l_counted) fun _ _ _ _ _ _ us hl => match us, hl with | [_, _], _ => rfl
    g_l_asked := PySem.W.mg_of X G h_g_l_asked
    k_l_asked := h_k_l_asked
    F_l_asked := fun_mk (st := s_l_asked) h_l_l_asked h_c_l_asked h_k_l_asked
    b_l_asked := (fun_mk (st := s_l_asked) h_l_l_asked h_c_l_asked h_k_l_asked).binds (ps := P_l_asked) fun _ _ _ _ _ _ us hl => match us, hl with | [_], _ => rfl
    g_l_read := PySem.W.mg_of X G h_g_l_read
    k_l_read := h_k_l_read
    F_l_read := fun_mk (st := s_l_read) h_l_l_read h_c_l_read h_k_l_read
    b_l_read := (fun_mk (st := s_l_read) h_l_l_read h_c_l_read h_k_l_read).binds (ps := P_l_read) fun _ _ _ _ _ _ us hl => match us, hl with | [_], _ => rfl
    g_l_made := PySem.W.mg_of X G h_g_l_made
    k_l_made := h_k_l_made
    F_l_made := fun_mk (st := s_l_made) h_l_l_made h_c_l_made h_k_l_made
    b_l_made := (fun_mk (st := s_l_made) h_l_l_made h_c_l_made h_k_l_made).binds (ps := P_l_made) fun _ _ _ _ _ _ us hl => match us, hl with | [_], _ => rfl
    g_l_bent := PySem.W.mg_of X G h_g_l_bent
    k_l_bent := h_k_l_bent
    F_l_bent := fun_mk (st := s_l_bent) h_l_l_bent h_c_l_bent h_k_l_bent
    b_l_bent := (fun_mk (st := s_l_bent) h_l_l_bent h_c_l_bent h_k_l_bent).binds (ps := P_l_bent) fun _ _ _ _ _ _ us hl => match us, hl with | [_, _], _ => rfl
    g_l_odd := PySem.W.mg_of X G h_g_l_odd
    k_l_odd := h_k_l_odd
    F_l_odd := fun_mk (st := s_l_odd) h_l_l_odd h_c_l_odd h_k_l_odd
    b_l_odd := (fun_mk (st := s_l_odd) h_l_l_odd h_c_l_odd h_k_l_odd).binds (ps := P_l_odd) fun _ _ _ _ _ _ us hl => match us, hl with | [_], _ => rfl
    g_l_put_refused := PySem.W.mg_of X G h_g_l_put_refused
    k_l_put_refused := h_k_l_put_refused
    F_l_put_refused := ⟨⟨_, _, _, _, _, _, _, _, rfl, h_l_l_put_refused, h_c_l_put_refused⟩⟩
    b_l_put_refused := (fun_mk (st := s_l_put_refused) h_l_l_put_refused h_c_l_put_refused h_k_l_put_refused).binds (ps := P_l_put_refused) fun _ _ _ _ _ _ us hl => match us, hl with | [_, _, _], _ => rfl
    g_l_said := PySem.W.mg_of X G h_g_l_said
    k_l_said := h_k_l_said
    F_l_said := fun_mk (st := s_l_said) h_l_l_said h_c_l_said h_k_l_said
    b_l_said := (fun_mk (st := s_l_said) h_l_l_said h_c_l_said h_k_l_said).binds (ps := P_l_said) fun _ _ _ _ _ _ us hl => match us, hl with | [_], _ => rfl
    g_law := PySem.W.mg_of X G h_g_law
    k_law := h_k_law
    F_law := fun_mk (st := s_law) h_l_law h_c_law h_k_law
    b_law := (fun_mk (st := s_law) h_l_law h_c_law h_k_law).binds (ps := P_law) fun _ _ _ _ _ _ us hl => match us, hl with | [_], _ => rfl
  }
  refine ⟨_, [(kc, kt)], spLaw K kt, fun p hp => by rw [List.mem_singleton.mp hp]; exact hT, fun p hp => by rw [List.mem_singleton.mp hp]; exact h_kt, fun p hp => by rw [List.mem_singleton.mp hp]; exact PySem.W.codeHd_of_K X h_kc, fun s v => .of_eq rfl, fun H a ns hl _ hk hS => ?_, fun base _ _ TB => ok_law T (TB (kc, kt) (List.mem_singleton.mpr rfl))⟩
  exact ⟨a, ns, rfl, hS, hl, fun p hp => by rw [List.mem_singleton.mp hp]; exact LamX.TabS.nil (hk (kc, kt) (List.mem_singleton.mpr rfl)), fun _ => rfl⟩
theorem walk {l : PySem.W.OpenLaw} {q : Program} {loose : List Str} {XP : (Str → Option Value) → Heap → Prop} {YP : World → Heap → Prop} {d : DefRec} {K : Params → PySem.W.Frag} (hn : l.most = some 63) (hdf : d.params.defaults = [])
    (hY : ∀ (w : World) (h : Heap), YP w h → (K w.params).In h)
    (F : ∀ (w : World) (mg : Str → Option Value) (fa : Addr) (h : Heap), YP w h → (K w.params).In h → h.Ns mainGlobals mg → mg d.name = some (.ref fa) → LamX.LawAtS l w (K w.params) CX0 9 63 "_law_script" mg fa h) :
    PySem.W.WalkO q loose XP YP l.row.toRowW d [] (fun f vs => PySem.call f vs) :=
  LamX.walk_ofTs (n := 63) (k := 9) (CX := fun _ => CX0) hn (by decide) hdf ⟨rfl, by decide, by decide⟩ hY F fun _ _ _ _ _ z => z
end My
open PySem PySem.W PyProof.Rows
set_option maxRecDepth 100000 in
set_option maxHeartbeats 0 in
theorem PySem.Challenge.cw_wordmend_k25_patterns_holds : PySem.Challenge.rw_wordmend_k25_patterns.Holds := by
  w_on; o_law; k_head; (case hw => w_witness2)
  k_fill
  refine My.walk (l := PySem.Challenge.rw_wordmend_k25_patterns) rfl rfl (fun w h Y => PySem.W.km_in_of Y) ?F
  case F =>
    intro w mg fa h Y KX G hmg
    have hT8 := PySem.W.km_tabs_of Y _ (List.mem_singleton.mpr rfl)
    refine' My.all_mk KX G hmg hT8 ?h_n_isinstance ?h_n_str ?h_n_len ?h_n_int ?h_n_max ?h_n_range ?h_n_enumerate ?h_n_list ?h_n_all ?h_n_ValueError ?h_g_LETTERS ?h_g_MOST_LETTERS ?h_g_FIGURES ?h_g_MOST_LETTERS_OF_ONE ?h_g_MOST_PATTERNS ?h_g_LEAST_AT_ENDS ?h_g_MendError ?h_g_BadWord ?h_g_BadRule ?h_g_BadText ?h_g_Twice ?h_g_NoStem ?h_g_NoClass ?h_g_InUse ?h_g_TooMany ?h_g_NoNumber ?h_g_NoWord ?h_g_BadPrice ?h_g_NoPlace ?h_g_BadPattern ?h_x_BadWord ?h_k_BadWord ?h_s_BadWord ?h_t_BadWord ?h_ga_BadWord ?h_gg_BadWord ?h_hd_BadWord ?h_cl_BadWord ?h_hm_BadWord ?h_sm_BadWord_MendError ?h_i_BadWord_MendError ?h_i_BadWord_BadWord ?h_i_BadWord_BadRule ?h_i_BadWord_BadText ?h_i_BadWord_Twice ?h_i_BadWord_NoStem ?h_i_BadWord_NoClass ?h_i_BadWord_InUse ?h_i_BadWord_TooMany ?h_i_BadWord_NoNumber ?h_i_BadWord_NoWord ?h_i_BadWord_BadPrice ?h_i_BadWord_NoPlace ?h_i_BadWord_BadPattern ?h_i_BadWord_ValueError ?h_x_BadPattern ?h_k_BadPattern ?h_s_BadPattern ?h_t_BadPattern ?h_ga_BadPattern ?h_gg_BadPattern ?h_hd_BadPattern ?h_cl_BadPattern ?h_hm_BadPattern ?h_sm_BadPattern_MendError ?h_i_BadPattern_MendError ?h_i_BadPattern_BadWord ?h_i_BadPattern_BadRule ?h_i_BadPattern_BadText ?h_i_BadPattern_Twice ?h_i_BadPattern_NoStem ?h_i_BadPattern_NoClass ?h_i_BadPattern_InUse ?h_i_BadPattern_TooMany ?h_i_BadPattern_NoNumber ?h_i_BadPattern_NoWord ?h_i_BadPattern_BadPrice ?h_i_BadPattern_NoPlace ?h_i_BadPattern_BadPattern ?h_i_BadPattern_ValueError ?h_gd ?h_tk ?h_s2_MendError ?h_hd2_MendError ?h_t2_MendError ?h_g_Pattern ?h_pg_Pattern ?h_hd_Pattern ?h_po_Pattern ?h_sa_Pattern ?h_mk_Pattern ?h_kc_Pattern ?h_g_Parter ?h_pg_Parter ?h_hd_Parter ?h_po_Parter ?h_sa_Parter ?h_mk_Parter ?h_kc_Parter ?h_ca2_Parter ?h_cm2_Parter ?h_ki_Parter_str ?h_na_Pattern_signs ?h_na_Pattern_figures ?h_na_Parter__patterns ?h_na_Parter__told ?h_g_are_letters ?h_l_are_letters ?h_c_are_letters ?h_k_are_letters ?h_g_is_word ?h_l_is_word ?h_c_is_word ?h_k_is_word ?h_g_need_word ?h_l_need_word ?h_c_need_word ?h_k_need_word ?h_g_read_figures ?h_l_read_figures ?h_c_read_figures ?h_k_read_figures ?h_a_Pattern_init ?h_i_Pattern_init ?h_l_Pattern_init ?h_c_Pattern_init ?h_k_Pattern_init ?h_a_Pattern_count_in ?h_i_Pattern_count_in ?h_l_Pattern_count_in ?h_c_Pattern_count_in ?h_k_Pattern_count_in ?h_a_Parter_init ?h_i_Parter_init ?h_l_Parter_init ?h_c_Parter_init ?h_k_Parter_init ?h_a_Parter_put ?h_i_Parter_put ?h_l_Parter_put ?h_c_Parter_put ?h_k_Parter_put ?h_a_Parter_counts ?h_i_Parter_counts ?h_l_Parter_counts ?h_c_Parter_counts ?h_k_Parter_counts ?h_a_Parter_parts ?h_i_Parter_parts ?h_l_Parter_parts ?h_c_Parter_parts ?h_k_Parter_parts ?h_g_l_mixed ?h_l_l_mixed ?h_c_l_mixed ?h_k_l_mixed ?h_g_l_at ?h_l_l_at ?h_c_l_at ?h_k_l_at ?h_g_l_class ?h_l_l_class ?h_c_l_class ?h_k_l_class ?h_g_l_pattern ?h_l_l_pattern ?h_c_l_pattern ?h_k_l_pattern ?h_g_l_text ?h_l_l_text ?h_c_l_text ?h_k_l_text ?h_g_l_counted ?h_l_l_counted ?h_c_l_counted ?h_k_l_counted ?h_g_l_asked ?h_l_l_asked ?h_c_l_asked ?h_k_l_asked ?h_g_l_read ?h_l_l_read ?h_c_l_read ?h_k_l_read ?h_g_l_made ?h_l_l_made ?h_c_l_made ?h_k_l_made ?h_g_l_bent ?h_l_l_bent ?h_c_l_bent ?h_k_l_bent ?h_g_l_odd ?h_l_l_odd ?h_c_l_odd ?h_k_l_odd ?h_g_l_put_refused ?h_l_l_put_refused ?h_c_l_put_refused ?h_k_l_put_refused ?h_kc ?h_kt ?h_g_l_said ?h_l_l_said ?h_c_l_said ?h_k_l_said ?h_g_law ?h_l_law ?h_c_law ?h_k_law
    (case h_n_isinstance => k_is)
    (case h_n_str => k_is)
    (case h_n_len => k_is)
    (case h_n_int => k_is)
    (case h_n_max => k_is)
    (case h_n_range => k_is)
    (case h_n_enumerate => k_is)
    (case h_n_list => k_is)
    (case h_n_all => k_is)
    (case h_n_ValueError => k_is)
    (case h_g_LETTERS => k_is)
    (case h_g_MOST_LETTERS => k_is)
    (case h_g_FIGURES => k_is)
    (case h_g_MOST_LETTERS_OF_ONE => k_is)
    (case h_g_MOST_PATTERNS => k_is)
    (case h_g_LEAST_AT_ENDS => k_is)
    (case h_g_MendError => k_is)
    (case h_g_BadWord => k_is)
    (case h_g_BadRule => k_is)
    (case h_g_BadText => k_is)
    (case h_g_Twice => k_is)
    (case h_g_NoStem => k_is)
    (case h_g_NoClass => k_is)
    (case h_g_InUse => k_is)
    (case h_g_TooMany => k_is)
    (case h_g_NoNumber => k_is)
    (case h_g_NoWord => k_is)
    (case h_g_BadPrice => k_is)
    (case h_g_NoPlace => k_is)
    (case h_g_BadPattern => k_is)
    (case h_x_BadWord => first | k_exc | k_is)
    (case h_k_BadWord => k_is)
    (case h_s_BadWord => k_is)
    (case h_t_BadWord => k_is)
    (case h_ga_BadWord => k_is)
    (case h_gg_BadWord => k_is)
    (case h_hd_BadWord => k_is)
    (case h_cl_BadWord => k_is)
    (case h_hm_BadWord => k_is)
    (case h_sm_BadWord_MendError => k_is)
    (case h_i_BadWord_MendError => first | rfl | k_is)
    (case h_i_BadWord_BadWord => first | rfl | k_is)
    (case h_i_BadWord_BadRule => first | rfl | k_is)
    (case h_i_BadWord_BadText => first | rfl | k_is)
    (case h_i_BadWord_Twice => first | rfl | k_is)
    (case h_i_BadWord_NoStem => first | rfl | k_is)
    (case h_i_BadWord_NoClass => first | rfl | k_is)
    (case h_i_BadWord_InUse => first | rfl | k_is)
    (case h_i_BadWord_TooMany => first | rfl | k_is)
    (case h_i_BadWord_NoNumber => first | rfl | k_is)
    (case h_i_BadWord_NoWord => first | rfl | k_is)
    (case h_i_BadWord_BadPrice => first | rfl | k_is)
    (case h_i_BadWord_NoPlace => first | rfl | k_is)
    (case h_i_BadWord_BadPattern => first | rfl | k_is)
    (case h_i_BadWord_ValueError => first | rfl | k_is)
    (case h_x_BadPattern => first | k_exc | k_is)
    (case h_k_BadPattern => k_is)
    (case h_s_BadPattern => k_is)
    (case h_t_BadPattern => k_is)
    (case h_ga_BadPattern => k_is)
    (case h_gg_BadPattern => k_is)
    (case h_hd_BadPattern => k_is)
    (case h_cl_BadPattern => k_is)
    (case h_hm_BadPattern => k_is)
    (case h_sm_BadPattern_MendError => k_is)
    (case h_i_BadPattern_MendError => first | rfl | k_is)
    (case h_i_BadPattern_BadWord => first | rfl | k_is)
    (case h_i_BadPattern_BadRule => first | rfl | k_is)
    (case h_i_BadPattern_BadText => first | rfl | k_is)
    (case h_i_BadPattern_Twice => first | rfl | k_is)
    (case h_i_BadPattern_NoStem => first | rfl | k_is)
    (case h_i_BadPattern_NoClass => first | rfl | k_is)
    (case h_i_BadPattern_InUse => first | rfl | k_is)
    (case h_i_BadPattern_TooMany => first | rfl | k_is)
    (case h_i_BadPattern_NoNumber => first | rfl | k_is)
    (case h_i_BadPattern_NoWord => first | rfl | k_is)
    (case h_i_BadPattern_BadPrice => first | rfl | k_is)
    (case h_i_BadPattern_NoPlace => first | rfl | k_is)
    (case h_i_BadPattern_BadPattern => first | rfl | k_is)
    (case h_i_BadPattern_ValueError => first | rfl | k_is)
    (case h_gd => k_is)
    (case h_tk => k_is)
    (case h_s2_MendError => k_is)
    (case h_hd2_MendError => k_is)
    (case h_t2_MendError => k_is)
    (case h_g_Pattern => k_is)
    (case h_pg_Pattern => k_is)
    (case h_hd_Pattern => k_is)
    (case h_po_Pattern => k_is)
    (case h_sa_Pattern => k_is)
    (case h_mk_Pattern => k_is)
    (case h_kc_Pattern => k_is)
    (case h_g_Parter => k_is)
    (case h_pg_Parter => k_is)
    (case h_hd_Parter => k_is)
    (case h_po_Parter => k_is)
    (case h_sa_Parter => k_is)
    (case h_mk_Parter => k_is)
    (case h_kc_Parter => k_is)
    (case h_ca2_Parter => k_is)
    (case h_cm2_Parter => k_is)
    (case h_ki_Parter_str => first | rfl | k_is)
    (case h_na_Pattern_signs => k_is)
    (case h_na_Pattern_figures => k_is)
    (case h_na_Parter__patterns => k_is)
    (case h_na_Parter__told => k_is)
    (case h_g_are_letters => k_is)
    (case h_l_are_letters => k_is)
    (case h_c_are_letters => k_is)
    (case h_k_are_letters => k_is)
    (case h_g_is_word => k_is)
    (case h_l_is_word => k_is)
    (case h_c_is_word => k_is)
    (case h_k_is_word => k_is)
    (case h_g_need_word => k_is)
    (case h_l_need_word => k_is)
    (case h_c_need_word => k_is)
    (case h_k_need_word => k_is)
    (case h_g_read_figures => k_is)
    (case h_l_read_figures => k_is)
    (case h_c_read_figures => k_is)
    (case h_k_read_figures => k_is)
    (case h_a_Pattern_init => k_is)
    (case h_i_Pattern_init => k_is)
    (case h_l_Pattern_init => k_is)
    (case h_c_Pattern_init => k_is)
    (case h_k_Pattern_init => k_is)
    (case h_a_Pattern_count_in => k_is)
    (case h_i_Pattern_count_in => k_is)
    (case h_l_Pattern_count_in => k_is)
    (case h_c_Pattern_count_in => k_is)
    (case h_k_Pattern_count_in => k_is)
    (case h_a_Parter_init => k_is)
    (case h_i_Parter_init => k_is)
    (case h_l_Parter_init => k_is)
    (case h_c_Parter_init => k_is)
    (case h_k_Parter_init => k_is)
    (case h_a_Parter_put => k_is)
    (case h_i_Parter_put => k_is)
    (case h_l_Parter_put => k_is)
    (case h_c_Parter_put => k_is)
    (case h_k_Parter_put => k_is)
    (case h_a_Parter_counts => k_is)
    (case h_i_Parter_counts => k_is)
    (case h_l_Parter_counts => k_is)
    (case h_c_Parter_counts => k_is)
    (case h_k_Parter_counts => k_is)
    (case h_a_Parter_parts => k_is)
    (case h_i_Parter_parts => k_is)
    (case h_l_Parter_parts => k_is)
    (case h_c_Parter_parts => k_is)
    (case h_k_Parter_parts => k_is)
    (case h_g_l_mixed => k_is)
    (case h_l_l_mixed => k_is)
    (case h_c_l_mixed => k_is)
    (case h_k_l_mixed => k_is)
    (case h_g_l_at => k_is)
    (case h_l_l_at => k_is)
    (case h_c_l_at => k_is)
    (case h_k_l_at => k_is)
    (case h_g_l_class => k_is)
    (case h_l_l_class => k_is)
    (case h_c_l_class => k_is)
    (case h_k_l_class => k_is)
    (case h_g_l_pattern => k_is)
    (case h_l_l_pattern => k_is)
    (case h_c_l_pattern => k_is)
    (case h_k_l_pattern => k_is)
    (case h_g_l_text => k_is)
    (case h_l_l_text => k_is)
    (case h_c_l_text => k_is)
    (case h_k_l_text => k_is)
    (case h_g_l_counted => k_is)
    (case h_l_l_counted => k_is)
    (case h_c_l_counted => k_is)
    (case h_k_l_counted => k_is)
    (case h_g_l_asked => k_is)
    (case h_l_l_asked => k_is)
    (case h_c_l_asked => k_is)
    (case h_k_l_asked => k_is)
    (case h_g_l_read => k_is)
    (case h_l_l_read => k_is)
    (case h_c_l_read => k_is)
    (case h_k_l_read => k_is)
    (case h_g_l_made => k_is)
    (case h_l_l_made => k_is)
    (case h_c_l_made => k_is)
    (case h_k_l_made => k_is)
    (case h_g_l_bent => k_is)
    (case h_l_l_bent => k_is)
    (case h_c_l_bent => k_is)
    (case h_k_l_bent => k_is)
    (case h_g_l_odd => k_is)
    (case h_l_l_odd => k_is)
    (case h_c_l_odd => k_is)
    (case h_k_l_odd => k_is)
    (case h_g_l_put_refused => k_is)
    (case h_l_l_put_refused => k_is)
    (case h_c_l_put_refused => k_is)
    (case h_k_l_put_refused => k_is)
    (case h_kc => first | rfl | k_is | decide +kernel)
    (case h_kt => first | rfl | k_is | decide +kernel)
    (case h_g_l_said => k_is)
    (case h_l_l_said => k_is)
    (case h_c_l_said => k_is)
    (case h_k_l_said => k_is)
    (case h_g_law => k_is)
    (case h_l_law => k_is)
    (case h_c_law => k_is)
    (case h_k_law => k_is)

