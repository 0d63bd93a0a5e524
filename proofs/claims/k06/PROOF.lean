import PyProof.Rows.All
import Wide.All
import OpenK.AllK
import Wide.FinOn
import PyProof.EqAt
import PyProof.EqKinds
import PyProof.TupleCall
import KE.KIsAll
import KE.KTryMore
import HandS.ForMost
import HandS.Exc
import HandS.TryOnly
import HandS.ExcOwn
import HandS.WordsExc
import HandS.IsInst
import HandS.ExcIs
import HandS.StrMore
import HandS.RaiseMore
import HandS.Evl
import HandS.Walk
import PyProof.Rows.SetFrom
import PyProof.StrWalks
import KE.GoesMore
import KE.GoesNew
import HandS.Replace
import HandS.List
import HandS.ClsMeth
import HandS.Defaults
import PyProof.CollectStr
import HandS.More
import HandS.Flow
import PyProof.ReprRoads
import HandS.SortKw
import KE.SortKeyHeap
import HandS.Conv
import HandS.DictComp
import PyProof.Rows.RegFStrParts
import HandS.TupSets
import KE.KeyNested
import HandS.TupLen
import KE.KDictPairs
import KE.KDictCopyH
import HandS.ReplaceList
import HandS.TupAny
import PySem.Challenge.RW_wordmend_k06_whole_makings_tried
set_option Elab.async false
set_option linter.all false
set_option maxRecDepth 100000
set_option maxHeartbeats 2000000
/-! Our own layer: a caught error that is kept behind its suite, as an object that the heap tells of; and some rules of values. -/
namespace L2
open PySem PySem.Spec PyProof.Rows
/-- a kept error at a: its class, its own dict -/
def ErrO (cls : Value) (d : Option Addr) (a : Addr) : HO :=
  .ext fun h => ∃ oe vs, h.get? a = some oe ∧ oe.cls = cls ∧ oe.dict = d ∧ oe.data = .fields vs
section
variable {X : Cx} {pins : List (Addr × Obj)} {σ : St} {H : Hp} {s sI : Shared} {a : Addr} {o : HO}
/-- an object that came since the state sI is told of from now on -/
theorem Inv.track (I : Inv X pins σ H s) (J : Inv X pins σ H sI) (new : sI.heap.get? a = none) (hx : a ∉ X.ex)
    (na : H a = none) (nL : X.env.locals ≠ a) (nC : ∀ x c, X.env.cells.lookup x = some c → c ≠ a)
    (ok : ObjOk X.prog X.w (upd H a o) s.heap a o) : Inv X pins σ (upd H a o) s where
  ok := I.ok
  os := I.os
  bare := I.bare
  base :=
    { keep := I.base.keep
      slot := I.base.slot
      free := fun b ob q n hb => by
        have : b ≠ a := by
          rintro rfl
          obtain ⟨o', e⟩ := J.base.there b ob q hx
          rw [new] at e; cases e
        rw [upd_ne this]; exact I.base.free b ob q n hb
      there := I.base.there
      tups := fun b xs q => by
        have z := I.base.tups b xs q
        rw [upd_ne (ne_of_none z na)]; exact z
      frzs := fun b ob u q => by
        have z := I.base.frzs b ob u q
        rw [upd_ne (ne_of_none z na)]; exact z
      tbls := fun b ps q => by
        obtain ⟨m, z⟩ := I.base.tbls b ps q
        exact ⟨m, by rw [upd_ne (ne_of_none z na)]; exact z⟩ }
  loc := I.loc
  cell := I.cell
  free := by rw [upd_ne nL]; exact I.free
  freeC := fun x c e => by rw [upd_ne (nC x c e)]; exact I.freeC x c e
  pin := fun p hp => by
    obtain ⟨e, n, r⟩ := I.pin p hp
    have z := (J.pin p hp).1
    have : p.1 ≠ a := fun q => by rw [q, new] at z; cases z
    exact ⟨e, by rw [upd_ne this]; exact n, r⟩
  hok := fun b u q => by
    by_cases hb : b = a
    · subst hb; rw [upd_same] at q; cases q; exact ok
    · rw [upd_ne hb] at q
      exact (I.hok b u q).stay (fun _ _ _ r => r) (fun c r => by rw [upd_ne (ne_of_none r na)]; exact r)
        fun c xs r => by rw [upd_ne (ne_of_none r na)]; exact r
  len := I.len
/-- into the suite, the pins as they are -/
theorem Inv.intoSuite (I : Inv X pins σ H s) (a : Addr) : Inv (X.suite a (X.pn ++ pins)) [] σ H s where
  ok := I.ok.suite _ _
  os := I.os
  bare := I.bare
  base := I.base
  loc := I.loc
  cell := I.cell
  free := I.free
  freeC := I.freeC
  pin := fun p hp => I.pin p (by
    rw [List.append_nil] at hp
    exact hp)
  hok := I.hok
  len := I.len
theorem Inv.outSuite {pn' : List (Addr × Obj)} (I : Inv (X.suite a (X.pn ++ pins)) pn' σ H s) (ok : X.Ok) : Inv X pins σ H s where
  ok := ok
  os := I.os
  bare := I.bare
  base := I.base
  loc := I.loc
  cell := I.cell
  free := I.free
  freeC := I.freeC
  pin := fun p hp => I.pin p (List.mem_append_left _ hp)
  hok := I.hok
  len := I.len
end
/-- except x as n, the error told of in the heap from the suite on -/
def wKeep (K : PySem.W.Frag) (c : Value) (i : Nat) (ts : TS) (Wout : WX) (D : Ends) : WX := fun cls d σ H =>
  ∃ b, PySem.W.exmOne K cls c = some b ∧
    (b = true → ∀ a, H a = none →
      ts { nx := fun σ' H' => D.nx (σ'.set i none) H', rt := D.rt, bk := fun σ' H' => D.bk (σ'.set i none) H', ct := fun σ' H' => D.ct (σ'.set i none) H' }
        (σ.set i (some (.ref a))) (upd H a (ErrO cls d a))) ∧
    (b = false → Wout cls d σ H)
section
variable {X : Cx} {x n : Str} {c : Value} {i : Nat} {body suite : List Stmt} {b₀ : Stmt} {np pos pos' : Pos} {tb : WX → TS} {ts : TS} {Wout : WX}
theorem ps_try_keep (hs : X.stack = X.env :: X.outer) (hf : X.env.frame = some X.env.locals) (hN : X.N.Nodup)
    (hi : X.N[i]? = some n) (hln : X.env.kindOf n = some .local) (hc : Names X x c) (tk : Takes X Wout) (hex : X.ex = [])
    (hb : ∀ (W : WX) (pn : List (Addr × Obj)) (xe : Value → Shared → Prop), Takes (X.tr pn xe) W →
      PassesOwn (model X.prog X.w) X.A X.env xe → PSs (X.tr pn xe) body (tb W))
    (hsu : ∀ (a : Addr) (pn : List (Addr × Obj)), PSs (X.suite a pn) (b₀ :: suite) ts) :
    PS X (.Try body [.ExceptHandler (some (.Name x np)) (some n) (b₀ :: suite) pos'] [] [] pos)
      (fun D σ H => tb (wKeep X.K c i ts Wout D) D σ H) := by
  constructor
  intro pins s σ H D I h
  have ok := I.ok
  have frames : X.A.frames = some (X.env :: X.outer) := by
    rw [ok.frames, hs]
  have nloc : Loc X.env.scope n := Or.inl hln
  apply wpAny_Try_except
  have B := hb (wKeep X.K c i ts Wout D) (X.pn ++ pins)
    (fun e s₁ => wpAny (model X.prog X.w) X.A (noteFrame e X.env)
      (fun _ s₂ => wpAny (model X.prog X.w) X.A (setFlight e none)
        (fun _ s₃ => wpAny (model X.prog X.w) X.A
          (handleBy e X.env [.ExceptHandler (some (.Name x np)) (some n) (b₀ :: suite) pos'])
          (SP X pins D) X.xe s₃) X.xe s₂) X.xe s₁)
    (fun u s' air => ?_) PassesOwn.looking
  · refine wpAny_mono (B.run [] s σ H D (I.toTry _) h) (fun f s1 q => ?_) (fun _ _ z => z)
    match f, q with
    | .next, ⟨σ1, H1, J1, z⟩ => exact wpAny_execs_nil ⟨σ1, H1, J1.ofTry ok, z⟩
    | .brk, ⟨σ1, H1, J1, z⟩ => exact ⟨σ1, H1, J1.ofTry ok, z⟩
    | .cont, ⟨σ1, H1, J1, z⟩ => exact ⟨σ1, H1, J1.ofTry ok, z⟩
    | .ret _, ⟨v, σ1, H1, J1, r, z⟩ => exact ⟨v, σ1, H1, J1.ofTry ok, r, z⟩
  · obtain ⟨a, G, sI, pins1, σ1, H1, cls, d, hu, J0, ground, up, sky, na, os, bare, b, hb1, yes, no⟩ := air
    subst hu
    have J : Inv X pins σ1 H1 sI := J0.ofTry ok
    have sky2 : Sky G (X.env :: X.outer) a (Zc cls d) X.env.locals s'.heap := hs ▸ sky
    show wpAny (model X.prog X.w) X.A (noteFrame (.ref a) X.env) _ _ _
    apply Sky.land Zc.steady frames hf sky2
    intro h3 fly up3
    have J3 : Inv X pins σ1 H1 { s' with heap := h3 } := J.landed ground fly.1 (up.trans up3) os bare
    obtain ⟨oe3, vs3, get3, z3, dat3⟩ := fly.there
    have nfr : a ∉ frs (X.env :: X.outer) := fun hm => by
      obtain ⟨_, ob, e, hnf⟩ := fly.2.2.1.mem hm
      rw [get3] at e
      cases e
      exact hnf _ dat3
    have nL : a ≠ X.env.locals := fun z => nfr (List.mem_filterMap.mpr ⟨X.env, List.mem_cons_self, by rw [hf, z]⟩)
    have nF : a ∉ X.fs := fun hm => by
      obtain ⟨e, he, q⟩ := List.mem_filterMap.mp hm
      exact nfr (List.mem_filterMap.mpr ⟨e, List.mem_cons_of_mem _ he, q⟩)
    have fresh : sI.heap.get? a = none := by
      cases e : sI.heap.get? a with
      | none => rfl
      | some ob =>
        have z := ground a ob e (by rw [hs]; exact nfr)
        rw [fly.2.1] at z
        cases z
    have S3 := J3.suite get3 dat3 na nL nF
    refine wpAny_handleBy_cons (codeAny_handlers_test ?_) (fun q => nomatch q)
    have LT : PySem.W.Looks (model X.prog X.w) h3 (typeOf (.ref a)) cls := fun _ _ _ _ k q =>
      wpAny_typeOf_ref (k _ _ get3) (by rw [z3.1]; exact q)
    have LM := PySem.W.exm_one (M := model X.prog X.w) J3.kIn LT hb1
    have named : ∀ {Q E : Value → Shared → Prop}, Q c { s' with heap := h3 } →
        wpAny (model X.prog X.w) (X.A.mark (some (.ref a))) (eval (.Name x np) X.env) Q E { s' with heap := h3 } := fun {Q E} q => by
      obtain ⟨hg, hdbg, hm | ⟨hm, hv, hnn⟩⟩ := hc
      · exact ld_glob (X := X.suite a ((a, oe3) :: (X.pn ++ pins))) S3 hg hm q hdbg
      · exact ld_blt (X := X.suite a ((a, oe3) :: (X.pn ++ pins))) S3 hg hm hv q hnn hdbg
    apply named
    apply LM.here
    cases b with
    | true =>
      apply codeAny_handlers_suite_as
      apply HandSPX.lands_againZ fly
      intro h4 fly4 up4
      have J4 : Inv X pins σ1 H1 { s' with heap := h4 } := J.landed ground fly4.1 ((up.trans up3).trans up4) os bare
      obtain ⟨oe4, vs4, get4, z4, dat4⟩ := fly4.there
      have nC : ∀ y k, X.env.cells.lookup y = some k → k ≠ a := fun y k e z => by
        obtain ⟨v, oc, q1, q2⟩ := J4.cell y k e
        have q3 : h4.get? k = some oc := q1
        rw [z, get4] at q3
        cases q3
        rw [dat4] at q2
        cases q2
      have T4 : Inv X pins σ1 (upd H1 a (ErrO cls d a)) { s' with heap := h4 } :=
        J4.track J fresh (by rw [hex]; exact fun z => nomatch z) na (Ne.symm nL) nC
          ⟨⟨oe4, _, get4, z4.1, z4.2, dat4⟩, ⟨_, get4⟩, fun _ _ ⟨oe, vs, e1, e2⟩ k => ⟨oe, vs, k _ e1, e2⟩⟩
      have S4 := T4.intoSuite a
      refine store_ok (X := X.suite a (X.pn ++ pins)) (v := .ref a) S4 hN hi nloc rfl (fun s5 S5 => ?_) (Or.inr hln)
      refine wpAny_mono ((hsu a (X.pn ++ pins)).run [] s5 _ _ _ S5 (yes rfl a na)) (fun f s6 q => ?_) (fun _ _ z => False.elim z)
      have fin : ∀ {σ6 : St} {H6 : Hp} {Q : Shared → Prop}, Inv (X.suite a (X.pn ++ pins)) [] σ6 H6 s6 →
          (∀ s7, Inv X pins (σ6.set i none) H6 s7 → Q s7) →
          wpAny (model X.prog X.w) X.A (do bindName X.env n .none; unbindBehindTheSuite X.env n pos') (fun _ s7 => Q s7) X.xe s6 :=
        fun S6 hq => gone_ok (S6.outSuite ok) hN hi hln hq
      match f, q with
      | .next, ⟨σ6, H6, S6, z⟩ => exact fin S6 fun s7 J7 => ⟨_, _, J7, z⟩
      | .brk, ⟨σ6, H6, S6, z⟩ => exact fin S6 fun s7 J7 => ⟨_, _, J7, z⟩
      | .cont, ⟨σ6, H6, S6, z⟩ => exact fin S6 fun s7 J7 => ⟨_, _, J7, z⟩
      | .ret _, ⟨v6, σ6, H6, S6, r6, z⟩ => exact fin S6 fun s7 J7 => ⟨_, _, _, J7, r6, z⟩
    | false =>
      show wpAny _ X.A (handleBy (.ref a) X.env []) _ _ _
      apply wpAny_handleBy_nil
      obtain ⟨k1, k2, k3, oe, vs, T, oT, ts1, he, hz, hd, h1, hr⟩ := id fly
      unfold PySem.passOn
      apply wpAny_bind
      apply wpAny_field he hd h1
      rw [if_neg (show ¬ ((Value.ref T == Value.none) = true) from by simp)]
      have out : wpAny (model X.prog X.w) X.A (setFlight (.ref a) X.env.frame)
          (fun _ s4 => wpAny (model X.prog X.w) X.A (throw (.ref a) : Sem Flow) (SP X pins D) X.xe s4) X.xe { s' with heap := h3 } := by
        rw [hf]
        apply HandSPX.setFlight_upZ fly
        intro h4 hh4 up4
        exact wpAny_throw (tk _ _ ⟨a, G, sI, pins, σ1, H1, cls, d, rfl, J, ground, (up.trans up3).trans up4,
          Or.inr (Or.inr (by rw [hs]; exact hh4)), na, os, bare, no rfl⟩)
      first
        | exact wpAny_bind (wpAny_pure (wpAny_bind out))
        | exact wpAny_bind out
end
/-- isinstance(e, c), e a kept error without a dict of its own -/
def rIsErr (K : PySem.W.Frag) : List V → Hp → VK → Prop := fun xs H Q =>
  ∃ (a D : Addr) (c : V) (cv : Value) (b : Bool), xs = [.ref a, c] ∧ ExcC K D ∧ H a = some (ErrO (.ref D) none a) ∧
    ClsV c cv ∧ PySem.W.kitOne K (.ref D) cv = some b ∧ Q (.bl b) H
theorem call_isErr {X : Cx} : CallR X (.builtin "isinstance") (rIsErr X.K) := by
  intro pins s σ H xs us Q I r h
  obtain ⟨a, D, c, cv, b, rfl, C, ha, hcv, e, q⟩ := h
  obtain ⟨u1, u2, rfl, r1, r2⟩ := vals2 r
  cases r1
  have z := hcv.eq r2
  subst z
  obtain ⟨⟨oe, vs, g1, g2, g3, g4⟩, _, _⟩ := I.hok a _ ha
  have J : PySem.W.InstAt s.heap a oe D none := by
    obtain ⟨oc, od, oda, osl⟩ := oe
    dsimp only at g2 g3 g4
    subst g2 g3 g4
    exact ⟨g1, rfl, rfl, trivial⟩
  exact PySem.W.kia_one (PySem.W.handS_kitx_exc C.hg C.hk C.hs C.hd C.ha C.hn C.ht C.hm) I.kIn J e (fun z => nomatch z)
    fun tk => ⟨.bl b, H, I.tok tk, rfl, q⟩
/-- repr of a truth -/
def tBool (b : Bool) : Str := if b = true then "True" else "False"
end L2

set_option Elab.async false
set_option linter.all false
set_option maxRecDepth 100000
set_option maxHeartbeats 3200000
/-! Our own layer: set(text), and its length. -/
namespace SetS
open PySem PyProof.Rows
/-- a sign more, if it is new -/
def more (D : List Str) (x : Str) : List Str := if x ∈ D then D else D ++ [x]
def uniq (l : List Str) : List Str := l.foldl more []
theorem uniq_snoc (l : List Str) (x : Str) : uniq (l ++ [x]) = more (uniq l) x := by
  unfold uniq
  rw [List.foldl_append]
  rfl
theorem uniq_le (l : List Str) : (uniq l).length ≤ l.length := by
  unfold uniq
  suffices h : ∀ (l D : List Str), (l.foldl more D).length ≤ D.length + l.length by
    have := h l []
    simpa using this
  intro l
  induction l with
  | nil => intro D; simp
  | cons x r ih =>
    intro D
    have h1 := ih (more D x)
    have h2 : (more D x).length ≤ D.length + 1 := by
      unfold more
      split <;> simp
    rw [List.foldl_cons, List.length_cons]
    omega
theorem mem_more {D : List Str} {x y : Str} : y ∈ more D x ↔ y ∈ D ∨ y = x := by
  unfold more
  split
  · rename_i h
    constructor
    · exact Or.inl
    · rintro (h' | rfl)
      · exact h'
      · exact h
  · simp
/-- all its signs are unlike just where none fell away -/
theorem uniq_nodup (l : List Str) : (uniq l).length = l.length ↔ l.Nodup := by
  suffices h : ∀ (l D : List Str), D.Nodup → ((l.foldl more D).length = D.length + l.length ↔ (D ++ l).Nodup) by
    have := h l [] List.nodup_nil
    simpa [uniq] using this
  intro l
  induction l with
  | nil => intro D hD; simp [hD]
  | cons x r ih =>
    intro D hD
    rw [List.foldl_cons, List.length_cons]
    by_cases hx : x ∈ D
    · have e : more D x = D := by unfold more; rw [if_pos hx]
      rw [e]
      constructor
      · intro h
        have : (r.foldl more D).length ≤ D.length + r.length := by
          have h3 : ∀ (r D : List Str), (r.foldl more D).length ≤ D.length + r.length := by
            intro r
            induction r with
            | nil => intro D; simp
            | cons y r ih =>
              intro D
              have h1 := ih (more D y)
              have h2 : (more D y).length ≤ D.length + 1 := by
                unfold more
                split <;> simp
              rw [List.foldl_cons, List.length_cons]
              omega
          exact h3 r D
        omega
      · intro h
        rw [List.nodup_append] at h
        exact absurd rfl (h.2.2 x hx x (List.mem_cons_self))
    · have e : more D x = D ++ [x] := by unfold more; rw [if_neg hx]
      rw [e]
      have hD' : (D ++ [x]).Nodup := by
        rw [List.nodup_append]
        refine ⟨hD, by simp, ?_⟩
        intro a ha b hb
        rw [List.mem_singleton] at hb
        rintro rfl
        exact hx (hb ▸ ha)
      have := ih (D ++ [x]) hD'
      rw [List.length_append, List.length_singleton] at this
      rw [show D.length + (r.length + 1) = D.length + 1 + r.length by omega, this, List.append_assoc]
      rfl
/-- the signs of a text, as texts -/
def signsOf (z : Str) : List Str := z.cps.toList.map fun c => ⟨#[c]⟩
theorem signsOf_len (z : Str) : (signsOf z).length = z.cps.size := by
  unfold signsOf
  rw [List.length_map, Array.length_toList]
theorem signsOf_nodup (z : Str) : (signsOf z).Nodup ↔ z.cps.toList.Nodup := by
  unfold signsOf
  constructor
  · intro h
    rw [List.nodup_iff_pairwise_ne, List.pairwise_map] at h
    exact h.imp fun hab e => hab (by rw [e])
  · intro h
    refine List.Pairwise.map _ (fun a b hab e => hab ?_) h
    have e1 : (#[a] : Array Nat) = #[b] := Str.mk.inj e
    simpa using e1
theorem sub_str_set : isSubtype (.type "str") (.type "set") = pure false := by
  rw [isSubtype_type]
  kernel_rfl
theorem sub_str_frozenset : isSubtype (.type "str") (.type "frozenset") = pure false := by
  rw [isSubtype_type]
  kernel_rfl
section
variable {prog : Program} {w : World} {A : Around} {R : Result → Shared → Prop} {I : Addr} {fp wr : List Addr} {G : Array GenState → Array GenState → Prop} {n : Nat} {P : Nat → Value → Prop} {St : Nat → Shared → Prop}
theorem loop (W : WalksS prog w A.in1 I fp wr G n P St) (B : Addr) (hB : B ∉ fp) (xs : List Str) (hl : xs.length = n) (hn : n + 1 < scanBound)
    (val : ∀ i v, P i v → ∃ t x, xs[i]? = some x ∧ v = .str x t) : ∀ (k i : Nat) (s : Shared), n - i = k → i ≤ n → St i s →
      s.heap.SetOf (PySem.strKind prog w) B (fun y => decide (y ∈ uniq (xs.take i))) (uniq (xs.take i)).length →
      (∀ s', Moved (B :: wr) G s s' → s'.heap.SetOf (PySem.strKind prog w) B (fun y => decide (y ∈ uniq xs)) (uniq xs).length → R (.ok (.ret .none)) s') →
      codeAny (model prog w) A (.builtin "set.update.loop" ⟨[.ref B, .ref I], []⟩) R s := by
  have off : B ∉ wr := fun q => hB (W.sub _ q)
  have into : ∀ c ∈ wr, c ∈ B :: wr := fun c q => List.mem_cons_of_mem _ q
  intro k
  induction k with
  | zero =>
    intro i s e1 e2 st set goal
    obtain rfl : i = n := by omega
    refine codeAny_builtin F.entry_set_update_loop ?_
    rw [Around.under_plainId F.plain_set_update_loop _]
    show wpAny _ A.in1 (pyNext (.ref I) >>= _) _ _ s
    refine wpAny_bind (W.done s _ _ st fun s1 mv => ?_)
    show wpAny _ A.in1 (ret Value.none) _ _ s1
    refine wpAny_pure (goal s1 (mv.mono into) ?_)
    rw [List.take_of_length_le (by omega)] at set
    obtain ⟨ob, es, ep, tab, at1, more⟩ := set
    exact ⟨ob, es, ep, tab, mv.heap B _ off at1, more⟩
  | succ k ih =>
    intro i s e1 e2 st set goal
    have lt : i < n := by omega
    refine codeAny_builtin F.entry_set_update_loop ?_
    rw [Around.under_plainId F.plain_set_update_loop _]
    show wpAny _ A.in1 (pyNext (.ref I) >>= _) _ _ s
    refine wpAny_bind (W.item i s _ _ lt st fun v s1 hP st1 mv => ?_)
    obtain ⟨t, x, hx, rfl⟩ := val i v hP
    have set1 : s1.heap.SetOf (PySem.strKind prog w) B (fun y => decide (y ∈ uniq (xs.take i))) (uniq (xs.take i)).length := by
      obtain ⟨ob, es, ep, tab, at1, more⟩ := set
      exact ⟨ob, es, ep, tab, mv.heap B _ off at1, more⟩
    show wpAny _ A.in1 (holding [Value.str x t] (setAdd B (.str x t)) >>= _) _ _ s1
    refine wpAny_bind (wpAny_holding ?_)
    unfold setAdd
    refine wpAny_holding ?_
    refine wpAny_bind ((PySem.strKind prog w).pyHash (k := x) (strKind_is _ _ _ _) ?_)
    have room : (uniq (xs.take i)).length + 1 < scanBound := by
      have h1 := uniq_le (xs.take i)
      rw [List.length_take] at h1
      omega
    refine wpAny_setAddHashed_of (knd := PySem.strKind prog w) (s := { s1 with toks := s1.toks + 1 }) (strKind_is _ _ _ _) rfl set1 room fun h2 only set2 => ?_
    have tk : xs.take (i + 1) = xs.take i ++ [x] := by
      rw [List.take_add_one, hx]
      rfl
    have set3 : h2.SetOf (PySem.strKind prog w) B (fun y => decide (y ∈ uniq (xs.take (i + 1)))) (uniq (xs.take (i + 1))).length := by
      refine SetOf_congr set2 (fun y => ?_) ?_
      · rw [tk, uniq_snoc, Bool.eq_iff_iff]
        simp [mem_more]
      · rw [tk, uniq_snoc]
        unfold more
        by_cases q : x ∈ uniq (xs.take i)
        · simp [q]
        · simp [q]
    refine wpAny_pure ⟨plainId_quiet F.plain_set_update_loop _, ih (i + 1) _ (by omega) lt (W.frame _ s1 _ _ st1 (Nat.le_succ _) fun c hc o e => ?_) set3 fun s4 mv4 set4 => ?_⟩
    · rw [only.2 c (fun q : c = B => hB (q ▸ hc))]
      exact e
    · refine goal s4 (Moved.trans W.gtrans ((mv.mono into).then_heap (Nat.le_succ _) fun c o hc e => ?_) mv4) set4
      rw [only.2 c (fun q : c = B => hc (q ▸ List.mem_cons_self))]
      exact e
end
section
variable {prog : Program} {w : World} {A : Around} {E : Value → Shared → Prop} {s : Shared}
theorem walks (hh : A.handled = none) (I : Addr) (x : Str) (t : Tok) : ∃ St : Nat → Heap → Prop, Walks prog w A I [I] [I] x.cps.size (SignAt x) St ∧
    ∀ h, h.get? I = some { cls := .type (strIterType x), data := .fields #[.str x t, .int 0 0] } → St 0 h := by
  cases ha : x.cps.all (· < 128) with
  | true => exact ⟨_, Walks.strAscii hh I x t, fun h e => ⟨_, e, by simp [strIterType, ha], rfl⟩⟩
  | false => exact ⟨_, Walks.strWide hh I x t, fun h e => ⟨_, e, by simp [strIterType, ha], rfl⟩⟩
abbrev setO (led : Bool) : Obj := { cls := .type "set", dict := none, data := .set #[] 0 (.fresh 0 0 led) }
theorem call_set_text {x : Str} {t : Tok} {Q : Value → Shared → Prop} (hh : A.handled = none) (hb : x.cps.size + 1 < scanBound)
    (h : ∀ (h' : Heap) (tk : Nat), h'.SetOf (PySem.strKind prog w) s.heap.objs.size (fun y => decide (y ∈ uniq (signsOf x))) (uniq (signsOf x)).length →
      (∀ b o, b < s.heap.objs.size → s.heap.get? b = some o → h'.get? b = some o) → Q (.ref s.heap.objs.size) { s with heap := h', toks := tk }) :
    wpAny (model prog w) A (call (.type "set") [.str x t]) Q E s := by
  obtain ⟨c, tl, mro⟩ := PySem.F.called_set.mro
  have q1 := PySem.F.called_set.made
  have q2 := PySem.F.called_set.sub
  refine wpAny_call (codeAny_of_tree ?_)
  show wpAny _ _ (callAny (.type "set") _) _ _ _
  refine wpAny_pure ⟨Code.quiet_builtin _ (by decide +kernel), codeAny_builtin PySem.F.entry_type_call ?_⟩
  rw [Around.under_plain (weight_type_call_type "set" [.str x t] []) rfl]
  have q3 := PySem.F.called_set.notType
  have q4 := PySem.F.called_set.canCreate
  have q5 := PySem.F.typeCall_set_1 (.str x t)
  repeat (any_goals (first | assumption | wp_step))
  refine codeAny_mono (code_set_new_1 (.str x t) (E := E) (Q₁ := fun v s1 => ∃ led : Bool, v = .ref s.heap.objs.size ∧ s1 = { s with heap := s.heap.push (setO led) }) fun led => ⟨led, rfl, rfl⟩) fun r s1 hr => ?_
  match r, hr with
  | .error e, hr => exact hr
  | .ok .next, hr => exact hr.elim
  | .ok .brk, hr => exact hr.elim
  | .ok .cont, hr => exact hr.elim
  | .ok (.ret v), hr =>
    obtain ⟨led, rfl, rfl⟩ := hr
    have at0 : (s.heap.push (setO led)).get? s.heap.objs.size = some (setO led) := Heap.get?_push_size _ rfl
    have ty : Shared.TypeIs { s with heap := s.heap.push (setO led) } (.ref s.heap.objs.size) "set" := ⟨_, at0, rfl⟩
    have q6 := PySem.F.called_set.init.lookup
    have q7 := PySem.F.called_set.init.bind (.ref s.heap.objs.size)
    repeat (any_goals (first | assumption | wp_step))
    refine codeAny_mono (codeAny_call_builtin (R := wants (fun r s2 => r = .none ∧ ∃ h' tk, s2 = { s with heap := h', toks := tk } ∧
        h'.SetOf (PySem.strKind prog w) s.heap.objs.size (fun y => decide (y ∈ uniq (signsOf x))) (uniq (signsOf x)).length ∧
        ∀ b o, b < s.heap.objs.size → s.heap.get? b = some o → h'.get? b = some o) E) PySem.F.called_set.init.plain PySem.F.entry_set_init (check_set_init_1 ty ?_)) fun r2 s2 hr2 => ?_
    · have q8 := sub_str_set
      have q9 := sub_str_frozenset
      have q10 : (Value.type "str" == Value.type "dict") = false := by decide
      unfold Builtin.«set.__init__»
      unfold Builtin.Frozenset.updateFrom noKeywords
      generalize hPI : pyIter = PI
      wp_walk
      subst hPI
      refine wpAny_pyIter_strU ?_
      refine wpAny_bind (wpAny_runValue ?_)
      have hh3 : A.in1.in1.in1.handled = none := by simp [hh]
      obtain ⟨St, W, st0⟩ := walks (prog := prog) (w := w) hh3 (s.heap.push (setO led)).objs.size x t
      have offI : s.heap.objs.size ∉ [(s.heap.push (setO led)).objs.size] := by
        rw [Heap.size_push, List.mem_singleton]
        exact Nat.ne_of_lt (Nat.lt_succ_self _)
      refine loop W.toS s.heap.objs.size offI (signsOf x) (signsOf_len x) hb (fun i v q => ?_) (x.cps.size - 0) 0 _ (by omega) (Nat.zero_le _) (st0 _ (Heap.get?_push_size _ rfl)) ?_ ?_
      · obtain ⟨c, u, e1, e2⟩ := q
        refine ⟨u, ⟨#[c]⟩, ?_, e2⟩
        unfold signsOf
        rw [List.getElem?_map, Array.getElem?_toList, e1]
        rfl
      · have at1 : ((s.heap.push (setO led)).push { cls := .type (strIterType x), data := .fields #[.str x t, .int 0 0] }).get? s.heap.objs.size = some (setO led) := Heap.get?_push_of_some _ at0
        exact SetOf_congr ((setObjOf_fresh (knd := PySem.strKind prog w) led).setOf at1 (by unfold scanBound; omega)) (fun _ => rfl) rfl
      · intro s3 mv set
        obtain ⟨h3, g3, d3, tk3, os3⟩ := s3
        obtain rfl : g3 = s.gens := mv.gens
        obtain rfl : d3 = s.drawn := mv.drawn
        obtain rfl : os3 = s.os := mv.os
        show wpAny _ _ _ _ _ _
        refine wpAny_pure ?_
        show wpAny _ _ (ret Value.none) _ _ _
        refine wpAny_pure ⟨rfl, h3, tk3, rfl, set, fun b o hb e => ?_⟩
        refine mv.heap b o ?_ (Heap.get?_push_of_some _ (Heap.get?_push_of_some _ e))
        rw [List.mem_cons, List.mem_singleton, Heap.size_push]
        rintro (q | q)
        · exact Nat.ne_of_lt hb q
        · exact Nat.ne_of_lt (Nat.lt_succ_of_lt hb) q
    · match r2, hr2 with
      | .error e, hr2 => exact hr2
      | .ok .next, hr2 => exact hr2.elim
      | .ok .brk, hr2 => exact hr2.elim
      | .ok .cont, hr2 => exact hr2.elim
      | .ok (.ret v), hr2 =>
        obtain ⟨rfl, h', tk, rfl, set, keep⟩ := hr2
        repeat (any_goals (first | assumption | wp_step))
        exact h _ _ set keep
end
end SetS

set_option Elab.async false
set_option linter.all false
set_option maxRecDepth 100000
set_option maxHeartbeats 2000000
/-! Our own layer: more of what evaluates to what. -/
namespace L2
open PySem PySem.Spec PyProof.Rows
theorem call_repr_bl {X : Cx} : CallR X (.builtin "repr") (fun xs H Q => ∃ b, xs = [.bl b] ∧ Q (.str (tBool b)) H) := by
  intro pins s σ H xs us Q I r h
  obtain ⟨b, rfl, q⟩ := h
  obtain ⟨u, rfl, r1⟩ := vals1 r
  cases r1
  refine PySem.P.repr_of_bool ⟨.str (tBool b), H, I.tok _, ⟨s.toks, ?_⟩, q⟩
  cases b <;> rfl
theorem tBool_eq (a b : Bool) : decide (V.str (tBool a) = V.str (tBool b)) = decide (a = b) := by
  cases a <;> cases b <;> decide +kernel
end L2
namespace Evl
open PySem L2
section
variable {K : PySem.W.Frag} {σ : L2.St} {H H' : Hp} {ta tb tc te tx : TE} {t u : TT} {x y z v : V} {r : R2}
/-! ### promises that are functions -/
def SpFn (pre : List V → Hp → Prop) (res : List V → V) : Sp := fun vs H Q _ => pre vs H ∧ ∀ H', Ex H H' → Q (res vs) H'
theorem spFn {pre : List V → Hp → Prop} {res : List V → V} {vs : List V} (h : ∀ H1, Ex H H1 → pre vs H1) : SpV (SpFn pre res) vs H (res vs) :=
  fun H1 e _ q _ => ⟨h H1 e, q⟩
/-! ### values -/
theorem ev_chain {r' : R2} {k b : Bool} (ha : Ev ta σ H x) (hb : Ev tb σ H y) (h1 : RV r x y H (.bl k)) (hc : k = true → Ev tc σ H z)
    (h2 : k = true → RV r' y z H (.bl b)) : Ev (tChain r r' ta tb tc) σ H (.bl (k && b)) := fun H1 e Q q =>
  ha H1 e _ fun H2 e2 => hb H2 (e.trans e2) _ fun H3 e3 => h1 H3 ((e.trans e2).trans e3) _ fun H4 e4 => ⟨k, rfl, by
    cases k with
    | true =>
      refine iteT ?_
      exact hc rfl H4 (((e.trans e2).trans e3).trans e4) _ fun H5 e5 => h2 rfl H5 ((((e.trans e2).trans e3).trans e4).trans e5) Q
        fun H6 e6 => q H6 ((((e2.trans e3).trans e4).trans e5).trans e6)
    | false =>
      refine iteF ?_
      exact q H4 ((e2.trans e3).trans e4)⟩
theorem rv_addS {i j : Str} (h : i.length + j.length ≤ 100000) :
    RV (fun x y H Q => ∃ i j, x = .str i ∧ y = .str j ∧ i.length + j.length ≤ sizeLine ∧ Q (.str (i ++ j)) H) (.str i) (.str j) H (.str (i ++ j)) :=
  fun H1 _ _ q => ⟨i, j, rfl, rfl, sz_of h, q H1 (Ex.refl H1)⟩
theorem rv_leS {i j : Str} :
    RV (fun x y H Q => ∃ i j, x = .str i ∧ y = .str j ∧ Q (.bl (!decide (j.cps.toList < i.cps.toList))) H) (.str i) (.str j) H (.bl (!decide (j.cps.toList < i.cps.toList))) :=
  fun H1 _ _ q => ⟨i, j, rfl, rfl, q H1 (Ex.refl H1)⟩
theorem rv_isN : RV (fun x y H Q => y = .non ∧ Q (.bl (decide (x = .non))) H) x .non H (.bl (decide (x = .non))) := fun H1 _ _ q => ⟨rfl, q H1 (Ex.refl H1)⟩
theorem rv_notN : RV (fun x y H Q => y = .non ∧ Q (.bl (!decide (x = .non))) H) x .non H (.bl (!decide (x = .non))) := fun H1 _ _ q => ⟨rfl, q H1 (Ex.refl H1)⟩
theorem ev_slS {tl th : TO} {w : Str} {lo hi : Option Int} (h : Ev te σ H (.str w)) (h1 : EvO tl σ H lo) (h2 : EvO th σ H hi) (hz : w.length ≤ 100000) :
    Ev (tSl rSlS te tl th) σ H (.str (cutS w lo hi)) := fun H1 e _ q =>
  h H1 e _ fun H2 e2 => h1 H2 (e.trans e2) _ fun H3 e3 => h2 H3 ((e.trans e2).trans e3) _ fun H4 e4 => ⟨w, rfl, sz_of hz, q H4 ((e2.trans e3).trans e4)⟩
/-- what join asks -/
abbrev rJoin (K : PySem.W.Frag) : V → List V → Hp → VK → Prop := fun x xs H Q => ∃ a p, ∃ ys : List Str, x = .str a ∧ xs = [.ref p] ∧
  (SqL K H p (ys.map V.str) ∨ SqT K H p (ys.map V.str)) ∧ (ys.map (·.length)).sum + ys.length * a.length ≤ 16777216 ∧ Q (.str (Txt.join a ys)) H
theorem ev_joinL {a : Str} {ys : List Str} {xs : List V} (ha : Ev ta σ H (.str a)) (hb : EvL tb σ H xs) (hy : xs = ys.map V.str)
    (hz : (ys.map (·.length)).sum + ys.length * a.length ≤ 16777216) : Ev (tM1 (rJoin K) ta tb) σ H (.str (Txt.join a ys)) := fun H1 e _ q =>
  ha H1 e _ fun H2 e2 => ⟨⟨a, rfl⟩, hb H2 (e.trans e2) _ fun p H3 _ e3 h3 => ⟨a, p, ys, rfl, rfl, Or.inl (sq_of (hy ▸ h3)), hz, q H3 (e2.trans e3)⟩⟩
theorem ev_joinV {a : Str} {ys : List Str} {p : Addr} (ha : Ev ta σ H (.str a)) (hb : Ev tb σ H (.ref p)) (hp : SqL K H p (ys.map V.str))
    (hz : (ys.map (·.length)).sum + ys.length * a.length ≤ 16777216) : Ev (tM1 (rJoin K) ta tb) σ H (.str (Txt.join a ys)) := fun H1 e _ q =>
  ha H1 e _ fun H2 e2 => ⟨⟨a, rfl⟩, hb H2 (e.trans e2) _ fun H3 e3 => ⟨a, p, ys, rfl, rfl, Or.inl (ex_l ((e.trans e2).trans e3) hp), hz, q H3 (e2.trans e3)⟩⟩
theorem el_rep {xs : List V} {k : Int} (ha : EvL ta σ H xs) (hb : Ev tb σ H (.int k)) (h0 : 0 ≤ k) (hk : k ≤ 1000) (hz : xs.length ≤ 1000) :
    EvL (tOp rRep ta tb) σ H ((List.replicate k.toNat xs).flatten) := fun H1 e _ q =>
  ha H1 e _ fun p H2 hp e2 h2 => hb H2 (e.trans e2) _ fun H3 e3 =>
    ⟨p, k, xs, rfl, rfl, e3 p _ h2, by omega, by omega, by
      refine Nat.le_trans (Nat.mul_le_mul hz (show k.toNat ≤ 1000 by omega)) ?_
      decide, fun l hl => q l _ (fresh_back (e2.trans e3) hl) ((e2.trans e3).trans (Ex.new hl)) upd_same⟩
theorem el_catLL {xs ys : List V} (ha : EvL ta σ H xs) (hb : EvL tb σ H ys) (hz : xs.length + ys.length ≤ 100000) :
    EvL (tOp rCat ta tb) σ H (xs ++ ys) := fun H1 e _ q =>
  ha H1 e _ fun p H2 hp e2 h2 => hb H2 (e.trans e2) _ fun p' H3 hp' e3 h3 =>
    ⟨p, p', xs, ys, rfl, rfl, e3 p _ h2, h3, sz_of hz, fun l hl => q l _ (fresh_back (e2.trans e3) hl) ((e2.trans e3).trans (Ex.new hl)) upd_same⟩
theorem el_catVL {xs ys : List V} {p : Addr} (ha : Ev ta σ H (.ref p)) (hp : H p = some (.lst xs)) (hb : EvL tb σ H ys) (hz : xs.length + ys.length ≤ 100000) :
    EvL (tOp rCat ta tb) σ H (xs ++ ys) := fun H1 e _ q =>
  ha H1 e _ fun H2 e2 => hb H2 (e.trans e2) _ fun p' H3 hp' e3 h3 =>
    ⟨p, p', xs, ys, rfl, rfl, e3 p _ (e2 p _ (e p _ hp)), h3, sz_of hz, fun l hl => q l _ (fresh_back (e2.trans e3) hl) ((e2.trans e3).trans (Ex.new hl)) upd_same⟩
theorem el_is {xs ys : List V} (h : EvL te σ H xs) (e : xs = ys) : EvL te σ H ys := e ▸ h
/-! ### built-ins -/
theorem rc_val {r : List V → Hp → VK → Prop} {vs : List V} (h : ∀ H1, Ex H H1 → ∀ Q : VK, Q z H1 → r vs H1 Q) : RC r vs H z := fun H1 e Q q => h H1 e Q (q H1 (Ex.refl H1))
theorem rc_repr {b : Bool} : RC (fun xs H Q => ∃ b, xs = [.bl b] ∧ Q (.str (tBool b)) H) [.bl b] H (.str (tBool b)) := rc_val fun _ _ _ q => ⟨b, rfl, q⟩
theorem rc_int {b : Bool} : RC (fun xs H Q => (∃ i, xs = [.int i] ∧ Q (.int i) H) ∨ ∃ k, xs = [.bl k] ∧ Q (.int (if k then 1 else 0)) H) [.bl b] H (.int (if b then 1 else 0)) :=
  rc_val fun _ _ _ q => Or.inr ⟨b, rfl, q⟩
theorem rc_lenS {w : Str} (h : w.length ≤ 100000) : RC (fun xs H Q => ∃ z, xs = [.str z] ∧ z.length ≤ sizeLine ∧ Q (.int z.length) H) [.str w] H (.int w.length) :=
  rc_val fun _ _ _ q => ⟨w, rfl, sz_of h, q⟩
theorem rc_lenL {p : Addr} {xs : List V} (h : SqL K H p xs) : RC (fun vs H Q => ∃ p ys, vs = [.ref p] ∧ (SqL K H p ys ∨ SqT K H p ys) ∧ Q (.int ys.length) H) [.ref p] H (.int xs.length) :=
  rc_val fun _ e _ q => ⟨p, xs, rfl, Or.inl (ex_l e h), q⟩
theorem rc_min {i j : Int} : RC (fun xs H Q => ∃ i j, xs = [.int i, .int j] ∧ Q (.int (if j < i then j else i)) H) [.int i, .int j] H (.int (if j < i then j else i)) :=
  rc_val (z := .int (if j < i then j else i)) fun _ _ _ q => ⟨i, j, rfl, q⟩
theorem rc_err {a D : Addr} {c : V} {cv : Value} {b : Bool} (ha : H a = some (ErrO (.ref D) none a)) (C : ExcC K D) (k : ClsV c cv) (e : PySem.W.kitOne K (.ref D) cv = some b) :
    RC (rIsErr K) [.ref a, c] H (.bl b) := rc_val fun H1 ex _ q => ⟨a, D, c, cv, b, rfl, C, ex a _ ha, k, e, q⟩
/-! ### things of any kind -/
def isStr : V → Bool | .str _ => true | _ => false
/-- what is handed in: None, a truth, a whole number, a text of signs, a list, a tuple, a dict -/
def Thing (H : Hp) : V → Prop
  | .non => True | .bl _ => True | .int _ => True
  | .str z => z.length ≤ 1000 ∧ z.cps.toList.all (· < 1114112) = true
  | .ref a => (∃ xs, H a = some (.lst xs)) ∨ (∃ xs, H a = some (.tup xs)) ∨ ∃ kvs, H a = some (.dK kvs)
  | _ => False
theorem Thing.mono (e : Ex H H') (h : Thing H v) : Thing H' v := by
  cases v with
  | ref a =>
    rcases h with ⟨xs, h⟩ | ⟨xs, h⟩ | ⟨kvs, h⟩
    · exact Or.inl ⟨xs, e a _ h⟩
    · exact Or.inr (Or.inl ⟨xs, e a _ h⟩)
    · exact Or.inr (Or.inr ⟨kvs, e a _ h⟩)
  | _ => exact h
theorem Thing.ty (h : Thing H v) : ∃ T : String, TyX K H v (.type T) ∧ kitB T "str" = some (isStr v) := by
  cases v with
  | non => exact ⟨_, .base .non, by decide +kernel⟩
  | bl b => exact ⟨"bool", .base (.bl b), by show kitB "bool" "str" = some false; decide +kernel⟩
  | int i => exact ⟨"int", .base (.int i), by show kitB "int" "str" = some false; decide +kernel⟩
  | str z => exact ⟨"str", .base (.str z), by show kitB "str" "str" = some true; decide +kernel⟩
  | byt b => exact h.elim
  | flt b => exact h.elim
  | ty b => exact h.elim
  | ref a =>
    rcases h with ⟨xs, h⟩ | ⟨xs, h⟩ | ⟨kvs, h⟩
    · exact ⟨"list", .base (.lst h), by show kitB "list" "str" = some false; decide +kernel⟩
    · exact ⟨"tuple", .base (.tup h), by show kitB "tuple" "str" = some false; decide +kernel⟩
    · exact ⟨"dict", .base (.dK h), by show kitB "dict" "str" = some false; decide +kernel⟩
theorem rc_isStr (h : Thing H v) : RC (rIsi K) [v, .ty "str"] H (.bl (isStr v)) := rc_val fun H1 e Q q => by
  obtain ⟨T, ht, hk⟩ := (h.mono e).ty (K := K)
  exact ⟨v, .ty "str", .type T, .type "str", isStr v, rfl, .ty _, ht, kit_ty hk, q⟩
/-- evaluates to some thing -/
def EvTh (te : TE) (σ : L2.St) (H : Hp) : Prop := ∀ H1, Ex H H1 → ∀ Q : VK, (∀ v H2, Ex H1 H2 → Thing H2 v → Q v H2) → te σ H1 Q
def EvThs (ta : TA) (σ : L2.St) (H : Hp) (n : Nat) : Prop := ∀ H1, Ex H H1 → ∀ Q : List V → Hp → Prop, (∀ vs H2, Ex H1 H2 → vs.length = n → (∀ v ∈ vs, Thing H2 v) → Q vs H2) → ta σ H1 Q
theorem eth_v (h : Ev te σ H v) (p : ∀ H1, Ex H H1 → Thing H1 v) : EvTh te σ H := fun H1 e _ q => h H1 e _ fun H2 e2 => q v H2 e2 (p H2 (e.trans e2))
theorem eth_l {xs : List V} (h : EvL te σ H xs) : EvTh te σ H := fun H1 e _ q => h H1 e _ fun p H2 _ e2 h2 => q _ H2 e2 (Or.inl ⟨xs, h2⟩)
theorem eth_u {xs : List V} (h : EvU te σ H xs) : EvTh te σ H := fun H1 e _ q => h H1 e _ fun p H2 _ e2 h2 => q _ H2 e2 (Or.inr (Or.inl ⟨xs, h2⟩))
theorem eth_d : EvTh tDNewK σ H := fun H1 e _ q => fun p hp => q _ _ (Ex.new hp) (Or.inr (Or.inr ⟨[], upd_same⟩))
theorem eths_nil : EvThs tNil σ H 0 := fun H1 _ _ q => q [] H1 (Ex.refl H1) rfl fun _ h => nomatch h
theorem eths_cons {tr : TA} {n : Nat} (h : EvTh te σ H) (hr : EvThs tr σ H n) : EvThs (tCons te tr) σ H (n + 1) := fun H1 e _ q =>
  h H1 e _ fun v H2 e2 hv => hr H2 (e.trans e2) _ fun vs H3 e3 hl hvs => q (v :: vs) H3 (e2.trans e3) (by rw [List.length_cons, hl]) fun w hw => by
    rcases List.mem_cons.mp hw with rfl | hw
    · exact hv.mono e3
    · exact hvs w hw
/-! ### lists against the empty one -/
def dpOf : V → PyData | .non => .none | .bl b => .bool b | .int i => .int i | .str s => .str s | _ => .none
def flatOk : V → Bool | .non => true | .bl _ => true | .int _ => true | .str s => s.cps.all (· < 0x110000) | _ => false
theorem dp_flat (h : flatOk v = true) : Dp K H v (dpOf v) := by
  cases v with
  | non => exact .non
  | bl b => exact .bl b
  | int i => exact .int i
  | str s => exact .str s
  | _ => cases h
theorem dps_flat : ∀ {xs : List V}, xs.all flatOk = true → DpAll K H xs (xs.map dpOf)
  | [], _ => .nil
  | x :: xs, h => by
    rw [List.all_cons, Bool.and_eq_true] at h
    exact .cons (dp_flat h.1) (dps_flat h.2)
theorem depth_dpOf : PyData.depth (dpOf v) = 0 := by cases v <;> rfl
theorem canLay_dpOf (h : flatOk v = true) : PyData.canLay0 (dpOf v) = true := by
  cases v with
  | str s => exact h
  | non => rfl
  | bl b => rfl
  | int i => rfl
  | _ => cases h
theorem depths_flat : ∀ {xs : List V}, PyData.depthAll (xs.map dpOf) = 0
  | [] => rfl
  | x :: xs => by
    show max (PyData.depth (dpOf x)) (PyData.depthAll (xs.map dpOf)) = 0
    rw [depth_dpOf, depths_flat] <;> rfl
theorem canLays_flat : ∀ {xs : List V}, xs.all flatOk = true → PyData.canLayAll0 (xs.map dpOf) = true
  | [], _ => rfl
  | x :: xs, h => by
    rw [List.all_cons, Bool.and_eq_true] at h
    show (PyData.canLay0 (dpOf x) && PyData.canLayAll0 (xs.map dpOf)) = true
    rw [canLay_dpOf h.1, canLays_flat h.2] <;> rfl
theorem shaped_flat {xs : List V} (h : xs.all flatOk = true) : SeqAt.shaped (.list (xs.map dpOf)) = true := by
  unfold SeqAt.shaped
  rw [Bool.and_eq_true]
  constructor
  · show PyData.canLayAll0 (xs.map dpOf) = true
    exact canLays_flat h
  · have : PyData.depth (.list (xs.map dpOf)) = 1 := by
      show PyData.depthAll (xs.map dpOf) + 1 = 1
      rw [depths_flat]
    rw [this]
    rfl
theorem ev_eqNil {xs : List V} (ha : EvL ta σ H xs) (hf : xs.all flatOk = true) : Ev (tOp (rEqD K) ta (tLst tNil)) σ H (.bl xs.isEmpty) := fun H1 e Q q =>
  ha H1 e _ fun p H2 _ e2 h2 => ⟨by show 0 ≤ sizeLine; exact Nat.zero_le _, fun l hl => by
    have e3 : Ex H2 (upd H2 l (.lst [])) := Ex.new hl
    refine ⟨.list (xs.map dpOf), .list [], .lst (sq_of (e3 p _ h2)) (dps_flat hf), .lst (sq_of upd_same) .nil, shaped_flat hf, by decide, ?_⟩
    have z : PyData.eqv (.list (xs.map dpOf)) (.list []) = xs.isEmpty := by
      cases xs <;> rfl
    rw [z]
    exact q _ (e2.trans e3)⟩
/-! ### a comprehension over a text's signs -/
theorem el_lcS {w : Str} {ts : TE} {j : Nat} {vs : List Nat} (f : Nat → Bool) (g : Nat → V) (h : Ev ts σ H (.str w)) (hz : w.cps.size ≤ 40000)
    (hw : ∀ x, wipe ((wipe σ vs).set j (some x)) vs = wipe σ vs)
    (ht : ∀ (i c : Nat) H1, Ex H H1 → w.cps[i]? = some c → EvT t ((wipe σ vs).set j (some (.str ⟨#[c]⟩))) H1 (f i))
    (he : ∀ (i c : Nat) H1, Ex H H1 → w.cps[i]? = some c → f i = true → Ev te ((wipe σ vs).set j (some (.str ⟨#[c]⟩))) H1 (g i)) :
    EvL (tLc (iStr ts) (gName j) t te vs) σ H (given w.cps.size f g) := fun H0 e Q q => h H0 e _ fun H1 e1 => ⟨w, rfl, fun Dl hD =>
  lc_it (walk_str (z := w)) (Cw H1 f g Dl) ⟨hD, Ex.new hD, upd_same⟩ (fun _ _ _ _ => True.intro) (fun i x H2 H3 hi p y => by
    obtain ⟨rfl, c, hc, rfl⟩ := y
    exact ⟨hw _, cw_turn p (by omega) (ht i c H1 (e.trans e1) hc) (fun hf => he i c H1 (e.trans e1) hc hf)⟩)
    (fun H' p => q Dl H' (fresh_back e1 p.1) (e1.trans p.2.1) p.2.2)⟩
theorem et_yes : EvT tYes σ H true := fun H1 _ _ q => q H1 (Ex.refl H1)
theorem given_all (n : Nat) (g : Nat → V) : given n (fun _ => true) g = (List.range n).map g := by
  unfold given
  rw [List.filter_eq_self.mpr (fun _ _ => rfl)]
end
end Evl

set_option Elab.async false
set_option linter.all false
set_option maxRecDepth 100000
set_option maxHeartbeats 2000000
/-! Our own layer: len(set(text)); zip(list, text). -/
namespace L2
open PySem PySem.Spec PyProof.Rows
/-- len(set(s)), s a text -/
def tLenSetS (ta : TE) : TE := fun σ H Q => ta σ H fun x H1 => ∃ z, x = .str z ∧ z.length ≤ 4000 ∧ Q (.int ((SetS.uniq (SetS.signsOf z)).length : Nat)) H1
theorem pe_lenSetS {X : Cx} {a : Expr} {ta : TE} {p p2 q pos : Pos} (hg : Gl X "len") (hm : X.mg "len" = none) (hg2 : Gl X "set") (hm2 : X.mg "set" = none)
    (ha : PE X a ta) (hc : X.calm = true := by rfl) (na : starEach [a] X.env = (false, eval a X.env) :: starEach [] X.env := by rfl) :
    PE X (.Call (.Name "len" p) [.Call (.Name "set" p2) [a] [] q] [] pos) (tLenSetS ta) := by
  constructor
  intro pins s σ H Q I h
  refine Call_ (ld_blt I hg hm PySem.boot_len ?_)
  refine PyProof.Rows.callWith_builtin1 (PyProof.Rows.args_cons ?_ rfl) rfl rfl
  refine Call_ (ld_blt I hg2 hm2 PyProof.Rows.boot_set ?_)
  refine PyProof.Rows.callWith_type1 (PyProof.Rows.args_cons (thn (ha.run pins s σ H _ I h) fun v s1 hv => PyProof.Rows.args_nil ?_) na) na rfl
  obtain ⟨x, H1, I1, r1, z, rfl, hl, q1⟩ := hv
  obtain ⟨t, rfl⟩ := r1
  have hz : z.cps.size ≤ 4000 := hl
  refine SetS.call_set_text (I1.ok.hd hc) (by unfold scanBound; omega) fun h' tk hS hk => ?_
  refine PyProof.Rows.args_nil ?_
  obtain ⟨o, es, ep, tab, ho, hex, hd, _, _, _, hf, hn⟩ := hS
  have hle := SetS.uniq_le (SetS.signsOf z)
  rw [SetS.signsOf_len] at hle
  have I2 : Inv X pins σ H1 { s1 with heap := h', toks := tk } := I1.kept fun b o e => hk b o (Heap.lt_size e) e
  exact call_len_set ho hex hd hf (by rw [hn]; omega) ⟨.int _, H1, I2.tok _, ⟨_, by rw [hn]⟩, q1⟩
/-! ### zip(list, text) -/
/-- the list at a as it stands at each turn, the text's signs beside, in new pairs -/
def Itzs (K : PySem.W.Frag) (a : Addr) (z : Str) : It :=
  ⟨fun i H => ∃ (xs : List V) (x : V) (c : Nat), SqL K H a xs ∧ xs[i]? = some x ∧ z.cps[i]? = some c,
    fun i H v H' => ∃ T x c, v = .ref T ∧ H T = none ∧ H' = upd H T (.tup [x, .str ⟨#[c]⟩]) ∧ (∀ xs, SqL K H a xs → xs[i]? = some x) ∧ z.cps[i]? = some c,
    fun i H => ∃ xs : List V, SqL K H a xs ∧ i = min xs.length z.cps.size⟩
/-- the state ahead of turn i -/
structure ZsAt (zz TI TO i1 i2 a : Addr) (z : Str) (t : Tok) (i : Nat) (h : Heap) : Prop where
  zi : IsZip h zz TI TO .none
  ti : IsTupOf2 h TI (.ref i1) (.ref i2)
  to_ : ∃ a1 a2, IsTupOf2 h TO a1 a2
  l1 : h.IsListIter i1 a i
  l2 : h.IsStrIter i2 (strIterType z) z t i
theorem turn_zs {P : Program} {w : World} {K : PySem.W.Frag} {elts : List Expr} {kk : Nat} {tpos : Pos} {zz TI TO i1 i2 a : Addr} {z : Str} {t : Tok}
    (D : ZipSep2 zz TI TO i1 i2 [i1, a] [i2]) (hz : a ≠ zz) (h1 : a ≠ TI) (h2 : a ≠ TO) (h3 : a ≠ i1) (h4 : a ≠ i2) :
    Turn P w K (.Tuple elts kk tpos) (Itzs K a z) [zz, TI, TO, i1, i2] zz (ZsAt zz TI TO i1 i2 a z t) where
  mem := List.mem_cons_self
  obj := fun i h st c hc => by
    obtain ⟨e1, e2, ⟨a1, a2, e3⟩, ⟨o1, e4, _, d1⟩, ⟨o2, e5, _, d2⟩⟩ := st
    simp only [List.mem_cons, List.not_mem_nil, or_false] at hc
    rcases hc with rfl | rfl | rfl | rfl | rfl
    · exact ⟨_, e1, fun v q => nomatch q⟩
    · exact ⟨_, e2, fun v q => nomatch q⟩
    · exact ⟨_, e3, fun v q => nomatch q⟩
    · exact ⟨o1, e4, fun v q => by rw [d1] at q; cases q⟩
    · exact ⟨o2, e5, fun v q => by rw [d2] at q; cases q⟩
  keep := fun i h h' st k => by
    obtain ⟨e1, e2, ⟨a1, a2, e3⟩, ⟨o1, e4, r1⟩, ⟨o2, e5, r2⟩⟩ := st
    exact ⟨k zz (by simp) _ e1, k TI (by simp) _ e2, ⟨a1, a2, k TO (by simp) _ e3⟩, ⟨o1, k i1 (by simp) _ e4, r1⟩, ⟨o2, k i2 (by simp) _ e5, r2⟩⟩
  item := by
    intro X hP hw hK hc i pins s σ H E I hf st hg
    subst hP hw hK
    obtain ⟨xs, x, c, hq, hx, hcc⟩ := hg
    obtain ⟨its, rv, p, _⟩ := I.list hq
    have hh : X.A.in1.handled = none := by simp [I.ok.hd hc]
    have lx : i < its.toArray.size := by
      rw [List.size_toArray, ← rv.length]
      exact (List.getElem?_eq_some_iff.mp hx).1
    have lc : i < z.cps.size := (Array.getElem?_eq_some_iff.mp hcc).1
    refine (GoesN.zip2 D (Draws.list hh i1 a h3 its.toArray) (Draws.text hh i2 z t)).goes i s _ _ (Nat.lt_min.mpr ⟨lx, lc⟩)
      ⟨st.zi, st.ti, st.to_, ⟨st.l1, p.isList⟩, st.l2⟩ fun v h' tk hY st' hk htk => ?_
    obtain ⟨T, u1, u2, rfl, hT, e1, ⟨c2, tt, e2, rfl⟩, tup⟩ := hY
    rw [hcc] at e2
    cases e2
    obtain ⟨u, hu, ru⟩ := rv.get hx
    have eu : u1 = u := by
      have e1' : its[i]? = some u1 := by simpa using e1
      rw [hu] at e1'
      exact (Option.some.inj e1').symm
    subst eu
    obtain ⟨s1, s2, s3, ⟨s4, _⟩, s5⟩ := st'
    have new : ObjOk X.prog X.w (upd H T (.tup [x, .str ⟨#[c]⟩])) h' T (.tup [x, .str ⟨#[c]⟩]) :=
      ⟨by show 2 ≤ sizeLine; decide, [u1, .str ⟨#[c]⟩ tt], .cons ru (.cons ⟨tt, rfl⟩ .nil), tup⟩
    have sub : ∀ b, b ∉ [zz, TI, TO, i1, i2] → b ∉ [zz, TO, i1, i2] := fun b hb q => hb (by
      simp only [List.mem_cons, List.not_mem_nil, or_false] at q ⊢
      rcases q with q | q | q | q
      · exact Or.inl q
      · exact Or.inr (Or.inr (Or.inl q))
      · exact Or.inr (Or.inr (Or.inr (Or.inl q)))
      · exact Or.inr (Or.inr (Or.inr (Or.inr q))))
    have I1 := I.turnedNew (t' := tk) (ch := [zz, TI, TO, i1, i2]) (fun b o hb e => hk b o (sub b hb) e) hf hT new
    refine ⟨.ref T, _, I1, rfl, ⟨T, x, c, rfl, I.hok.fresh hT, rfl, fun l hl => by rw [I.list_inj hl hq]; exact hx, hcc⟩, ⟨s1, s2, s3, s4, s5⟩, fun b hb => ?_⟩
    have hlt : b < s.heap.objs.size := by
      obtain ⟨e1, e2, ⟨a1, a2, e3⟩, ⟨o1, e4, _⟩, ⟨o2, e5, _⟩⟩ := st
      simp only [List.mem_cons, List.not_mem_nil, or_false] at hb
      rcases hb with rfl | rfl | rfl | rfl | rfl
      · exact Heap.lt_size e1
      · exact Heap.lt_size e2
      · exact Heap.lt_size e3
      · exact Heap.lt_size e4
      · exact Heap.lt_size e5
    rw [upd_ne (Nat.ne_of_lt (Nat.lt_of_lt_of_le hlt hT))]
    exact (hf b hb).1
  done := by
    intro X hP hw hK hc i pins s σ H E I hf st hg
    subst hP hw hK
    obtain ⟨xs, hq, hend⟩ := hg
    obtain ⟨its, rv, p, _⟩ := I.list hq
    have hh : X.A.in1.handled = none := by simp [I.ok.hd hc]
    have en : i = min its.toArray.size z.cps.size := by
      rw [List.size_toArray, ← rv.length]
      exact hend
    subst en
    refine (GoesN.zip2 (elts := elts) (x1 := kk) (pos := tpos) D (Draws.list hh i1 a h3 its.toArray) (Draws.text hh i2 z t)).stops s _ _
      ⟨st.zi, st.ti, st.to_, ⟨st.l1, p.isList⟩, st.l2⟩ fun h' tk hk htk => ?_
    refine I.turnedL (t' := tk) (ch := [zz, TI, TO, i1, i2]) (fun b o hb e => hk b o (fun q => hb ?_) e) hf
    simp only [List.mem_cons, List.not_mem_nil, or_false] at q ⊢
    rcases q with q | q | q | q
    · exact Or.inl q
    · exact Or.inr (Or.inr (Or.inl q))
    · exact Or.inr (Or.inr (Or.inr (Or.inl q)))
    · exact Or.inr (Or.inr (Or.inr (Or.inr q)))
  self := fun A i s Q E st h => wpAny_pyIter_zip st.zi h
def iZipS (K : PySem.W.Frag) (ta : TA) : TI := fun σ H R => ta σ H fun vs H1 => ∃ a z xs, vs = [.ref a, .str z] ∧ SqL K H1 a xs ∧ R (Itzs K a z) H1
theorem pi_zipS {X : Cx} {e e2 : Expr} {ta : TA} {p pos tpos : Pos} {elts : List Expr} {kk : Nat} (hg : Gl X "zip") (hm : X.mg "zip" = none) (ha : PA X [e, e2] ta)
    (hs : starEach [e, e2] X.env = (false, eval e X.env) :: starEach [e2] X.env := by rfl) (hpl : (backTo pos (starEach [e2] X.env)).any (·.1) = false := by rfl) :
    PI X (.Tuple elts kk tpos) (.Call (.Name "zip" p) [e, e2] [] pos) (iZipS X.K ta) := by
  constructor
  intro pins s σ H R I h
  refine Call_ (ld_blt I hg hm PyProof.Rows.boot_zip (PyProof.Rows.callWith_type1 (thn (ha.run pos pins s σ H _ I h) fun us s1 hv => ?_) hs hpl))
  obtain ⟨vs, H1, I1, r1, a, z, xs, rfl, hq, q⟩ := hv
  cases r1 with
  | cons ra rr =>
    cases rr with
    | cons rz rr =>
      cases rr
      cases ra
      obtain ⟨t, rfl⟩ := rz
      obtain ⟨its, rv, pl, _⟩ := I1.list hq
      have la : a < s1.heap.objs.size := pl.lt
      refine zip_begins2 (begins_list a its.toArray) (begins_text z t) pl.isList trivial fun h' hz hTI hTO e1 e2 hsz hk => ?_
      have st : ZsAt (s1.heap.objs.size + 4) (s1.heap.objs.size + 2) (s1.heap.objs.size + 3) s1.heap.objs.size (s1.heap.objs.size + 1) a z t 0 h' :=
        ⟨hz, hTI, ⟨_, _, hTO⟩, ⟨_, e1, rfl, rfl⟩, ⟨_, e2, rfl, rfl⟩⟩
      refine wpAny_pyIter_zip st.zi ?_
      have I2 : Inv X pins σ H1 { s1 with heap := h' } := I1.kept (t' := s1.toks) hk
      have far : ∀ k : Nat, a ≠ s1.heap.objs.size + k := fun k => Nat.ne_of_lt (Nat.lt_of_lt_of_le la (Nat.le_add_right _ _))
      refine ⟨s1.heap.objs.size + 4, [s1.heap.objs.size + 4, s1.heap.objs.size + 2, s1.heap.objs.size + 3, s1.heap.objs.size, s1.heap.objs.size + 1], _, _, H1, rfl, I2,
        turn_zs (zip_sep2 (N := s1.heap.objs.size) (fp1 := [a]) (fp2 := []) (fun b hb => by rw [List.mem_singleton] at hb; exact hb ▸ la) (fun b hb => nomatch hb)) (far 4) (far 2) (far 3) (Nat.ne_of_lt la) (far 1),
        st, fun b hb => ?_, q⟩
      have le : s1.heap.objs.size ≤ b := by
        simp only [List.mem_cons, List.not_mem_nil, or_false] at hb
        rcases hb with rfl | rfl | rfl | rfl | rfl
        · exact Nat.le_add_right _ _
        · exact Nat.le_add_right _ _
        · exact Nat.le_add_right _ _
        · exact Nat.le_refl _
        · exact Nat.le_add_right _ _
      exact I1.fpOk le (I1.hok.fresh le)
theorem walk_zs {K : PySem.W.Frag} {a : Addr} {xs : List V} {z : Str} : Walk (Itzs K a z) (min xs.length z.cps.size) (fun H => SqL K H a xs)
    (YPair (fun i => xs[i]?) (fun i => z.cps[i]?.map fun c => .str ⟨#[c]⟩)) := by
  refine ⟨fun i H hi q => ?_, fun H q => ⟨xs, q, rfl⟩, fun i H v H' hi q y => ?_⟩
  · have h1 : i < xs.length := by omega
    have h2 : i < z.cps.size := by omega
    exact ⟨xs, xs[i], z.cps[i], q, by simp [h1], by simp [h2]⟩
  · obtain ⟨T, x, c, e1, e2, e3, e4, e5⟩ := y
    exact ⟨T, x, .str ⟨#[c]⟩, e1, e2, e3, e4 xs q, by simp [e5]⟩
end L2

set_option Elab.async false
set_option linter.all false
set_option maxRecDepth 100000
set_option maxHeartbeats 2000000
/-! Our own layer: texts by the lists of their signs. -/
namespace TX
open PySem
abbrev L (z : Str) : List Nat := z.cps.toList
abbrev T (l : List Nat) : Str := ⟨l.toArray⟩
theorem L_T (l : List Nat) : L (T l) = l := by simp [L, T]
theorem T_L (z : Str) : T (L z) = z := by cases z; simp [L, T]
theorem len_L (z : Str) : z.length = (L z).length := by simp [L, Str.length]
theorem len_T (l : List Nat) : (T l).length = l.length := by simp [T, Str.length]
theorem eq_L {a b : Str} (h : L a = L b) : a = b := by rw [← T_L a, ← T_L b, h]
theorem L_inj {a b : Str} : L a = L b ↔ a = b := ⟨eq_L, fun h => h ▸ rfl⟩
theorem L_add (a b : Str) : L (a ++ b) = L a ++ L b := by
  show (a ++ b).cps.toList = _
  rw [Str.cps_append, Array.toList_append]
theorem T_inj {a b : List Nat} (h : T a = T b) : a = b := by
  have := congrArg L h
  rwa [L_T, L_T] at this
theorem one_T (c : Nat) : (⟨#[c]⟩ : Str) = T [c] := rfl
/-! ### where a sign is -/
open Builtin Builtin.Str in
theorem full (x y : Str) (hi : Nat) : ∀ (l : List Nat) (st : Array Nat × Nat), 1 ≤ st.fst.size → (forIn l st (StrLaws.occBody x y hi 1)).run = st
  | [], _, _ => rfl
  | a :: l, st, h => by
    rw [List.forIn_cons]
    have e : StrLaws.occBody x y hi 1 a st = pure (ForInStep.yield st) := by
      unfold StrLaws.occBody
      rw [if_neg (by rintro ⟨⟨⟨q, _⟩, _⟩, _⟩; omega)]
    rw [e]
    exact full x y hi l st h
open Builtin Builtin.Str in
theorem run1 (x : Str) (c : Nat) : ∀ (l : List Nat) (free : Nat), (∀ i ∈ l, free ≤ i) →
    (forIn l ((#[] : Array Nat), free) (StrLaws.occBody x ⟨#[c]⟩ x.length 1)).run.fst.toList = (l.find? fun i => decide ((L x)[i]? = some c)).toList
  | [], _, _ => rfl
  | a :: l, free, hf => by
    rw [List.forIn_cons, List.find?_cons]
    by_cases q : (L x)[a]? = some c
    · have e : StrLaws.occBody x ⟨#[c]⟩ x.length 1 a (#[], free) = pure (ForInStep.yield (#[a], a + 1)) := by
        unfold StrLaws.occBody
        have := (StrLaws.subAt_one x c a).mpr q
        rw [if_pos ⟨⟨⟨by show (0 : Nat) < 1; decide, hf a List.mem_cons_self⟩, this.1⟩, this.2⟩]
        rfl
      rw [e, decide_eq_true q]
      show (forIn l (#[a], a + 1) (StrLaws.occBody x ⟨#[c]⟩ x.length 1)).run.fst.toList = _
      rw [full x ⟨#[c]⟩ x.length l (#[a], a + 1) (by show 1 ≤ 1; decide)]
      rfl
    · have e : StrLaws.occBody x ⟨#[c]⟩ x.length 1 a (#[], free) = pure (ForInStep.yield (#[], free)) := by
        unfold StrLaws.occBody
        rw [if_neg (by
          rintro ⟨⟨_, q1⟩, q2⟩
          exact q ((StrLaws.subAt_one x c a).mp ⟨q1, q2⟩))]
      rw [e, decide_eq_false q]
      exact run1 x c l free fun i hi => hf i (List.mem_cons_of_mem _ hi)
theorem occ1 (x : Str) (c lo : Nat) : Builtin.Str.occurrences x ⟨#[c]⟩ lo x.length 1 = ((List.range' lo (x.length + 1 - lo)).find? fun i => decide ((L x)[i]? = some c)).toList := by
  rw [StrLaws.occ_eq]
  exact run1 x c _ lo fun i hi => by
    rw [List.mem_range'] at hi
    obtain ⟨k, _, rfl⟩ := hi
    omega
theorem occ1_some {x : Str} {c lo j : Nat} (h1 : lo ≤ j) (h2 : (L x)[j]? = some c) (h3 : ∀ i, lo ≤ i → i < j → (L x)[i]? ≠ some c) : Builtin.Str.occurrences x ⟨#[c]⟩ lo x.length 1 = [j] := by
  rw [occ1]
  have lj : j < x.length := by
    rw [len_L]
    exact (List.getElem?_eq_some_iff.mp h2).1
  have : (List.range' lo (x.length + 1 - lo)).find? (fun i => decide ((L x)[i]? = some c)) = some j := by
    rw [List.find?_eq_some_iff_append]
    refine ⟨by simpa using h2, List.range' lo (j - lo), List.range' (j + 1) (x.length - j), ?_, ?_⟩
    · have e1 : x.length + 1 - lo = (j - lo) + ((x.length - j) + 1) := by omega
      rw [e1, ← List.range'_append_1, List.range'_succ]
      have e2 : lo + (j - lo) = j := by omega
      rw [e2]
    · intro i hi
      rw [List.mem_range'] at hi
      obtain ⟨k, hk, rfl⟩ := hi
      simpa using h3 (lo + 1 * k) (by omega) (by omega)
  rw [this]
  rfl
theorem occ1_none {x : Str} {c lo : Nat} (h3 : ∀ i, lo ≤ i → (L x)[i]? ≠ some c) : Builtin.Str.occurrences x ⟨#[c]⟩ lo x.length 1 = [] := by
  rw [occ1]
  have : (List.range' lo (x.length + 1 - lo)).find? (fun i => decide ((L x)[i]? = some c)) = none := by
    rw [List.find?_eq_none]
    intro i hi
    rw [List.mem_range'] at hi
    obtain ⟨k, _, rfl⟩ := hi
    simpa using h3 (lo + 1 * k) (by omega)
  rw [this]
  rfl
/-! ### what is ahead of a sign, and behind -/
def ahead (c : Nat) (l : List Nat) : List Nat := l.takeWhile fun x => !decide (x = c)
theorem ahead_at {c : Nat} : ∀ {l : List Nat}, c ∈ l → l[(ahead c l).length]? = some c
  | [], h => by cases h
  | a :: l, h => by
    unfold ahead
    rw [List.takeWhile_cons]
    by_cases e : a = c
    · subst e; simp
    · have h' : c ∈ l := by
        rcases List.mem_cons.mp h with q | q
        · exact absurd q.symm e
        · exact q
      simp only [e, decide_false, Bool.not_false, if_true, List.length_cons, List.getElem?_cons_succ]
      exact ahead_at h'
theorem ahead_no {c : Nat} : ∀ {l : List Nat} {i : Nat}, i < (ahead c l).length → l[i]? ≠ some c
  | [], i, h => by simp [ahead] at h
  | a :: l, i, h => by
    unfold ahead at h
    rw [List.takeWhile_cons] at h
    by_cases e : a = c
    · subst e; simp at h
    · simp only [e, decide_false, Bool.not_false, if_true, List.length_cons] at h
      cases i with
      | zero => simpa using e
      | succ i => rw [List.getElem?_cons_succ]; exact ahead_no (l := l) (by unfold ahead; omega)
theorem ahead_take (c : Nat) (l : List Nat) : ahead c l = l.take (ahead c l).length := by
  unfold ahead
  exact (List.prefix_iff_eq_take.mp (List.takeWhile_prefix _))
theorem ahead_le (c : Nat) (l : List Nat) : (ahead c l).length ≤ l.length := by
  rw [ahead_take, List.length_take]
  omega
theorem ahead_lt {c : Nat} {l : List Nat} (h : c ∈ l) : (ahead c l).length < l.length := (List.getElem?_eq_some_iff.mp (ahead_at h)).1
/-- find from a place on -/
theorem find_some {x : Str} {c b : Nat} (hb : b ≤ x.length) (h : c ∈ (L x).drop b) : Txt.find3 x ⟨#[c]⟩ (b : Int) = ((b + (ahead c ((L x).drop b)).length : Nat) : Int) := by
  unfold Txt.find3
  have e : PySem.fromIndex x.length (b : Int) = b := by unfold PySem.fromIndex; rw [if_neg (by omega)]; omega
  have h1 := ahead_at h
  rw [List.getElem?_drop] at h1
  first
    | rw [e]
    | simp only [e]
  rw [occ1_some (j := b + (ahead c ((L x).drop b)).length) (by omega) h1 (fun i h2 h3 => by
    have := ahead_no (c := c) (l := (L x).drop b) (i := i - b) (by omega)
    rw [List.getElem?_drop, show b + (i - b) = i by omega] at this
    exact this)]
theorem find_none {x : Str} {c b : Nat} (hb : b ≤ x.length) (h : c ∉ (L x).drop b) : Txt.find3 x ⟨#[c]⟩ (b : Int) = -1 := by
  unfold Txt.find3
  have e : PySem.fromIndex x.length (b : Int) = b := by unfold PySem.fromIndex; rw [if_neg (by omega)]; omega
  first
    | rw [e]
    | simp only [e]
  rw [occ1_none (fun i h2 h3 => h (by
    have : ((L x).drop b)[i - b]? = some c := by rw [List.getElem?_drop, show b + (i - b) = i by omega]; exact h3
    exact List.mem_of_getElem? this))]
/-! ### a sign at the beginning -/
theorem starts (x : Str) (c : Nat) : Txt.startswith x ⟨#[c]⟩ = decide ((L x)[0]? = some c) := by
  rw [Bool.eq_iff_iff, decide_eq_true_eq, ← StrLaws.subAt_one x c 0]
  unfold Txt.startswith
  rw [Bool.and_eq_true, decide_eq_true_eq]
theorem noprefix (x : Str) (c : Nat) : Txt.removeprefix x ⟨#[c]⟩ = if (L x)[0]? = some c then T (L x).tail else x := by
  unfold Txt.removeprefix
  by_cases h : (L x)[0]? = some c
  · have h1 := (StrLaws.subAt_one x c 0).mpr h
    rw [if_pos h, if_pos h1.2]
    have h2 : 0 + 1 ≤ x.length := h1.1
    have e1 : (⟨#[c]⟩ : Str).length = 1 := rfl
    rw [e1]
    unfold Txt.affix
    have e2 : (x.length - 1 == x.length) = false := by
      rw [beq_eq_false_iff_ne]
      omega
    show (if (x.length - 1 == x.length) = true then x else Builtin.Str.strSub x 1 x.length) = T (L x).tail
    rw [e2]
    apply eq_L
    rw [L_T]
    show (x.cps.extract 1 x.length).toList = x.cps.toList.tail
    rw [Array.toList_extract]
    have e3 : x.length = x.cps.toList.length := len_L x
    rw [e3]
    cases x.cps.toList with
    | nil => rfl
    | cons a r => simp [List.extract]
  · rw [if_neg h]
    by_cases h1 : Builtin.Str.subAt x ⟨#[c]⟩ 0 = true
    · by_cases h2 : 0 + (⟨#[c]⟩ : Str).length ≤ x.length
      · exact absurd ((StrLaws.subAt_one x c 0).mp ⟨h2, h1⟩) h
      · rw [if_pos h1]
        have e0 : x.length = 0 := by
          have e1 : (⟨#[c]⟩ : Str).length = 1 := rfl
          rw [e1] at h2
          omega
        unfold Txt.affix
        rw [e0]
        rfl
    · rw [if_neg h1]
      rfl
end TX

set_option Elab.async false
set_option linter.all false
set_option maxRecDepth 100000
set_option maxHeartbeats 2000000
/-! What the laws share that speaks of no text of theirs. -/
namespace Com
open PySem L2 Evl
section
variable {K : PySem.W.Frag}
/-! ### the mathematics -/
def small (c : Nat) : Bool := decide (97 ≤ c) && decide (c ≤ 122)
def lets (z : Str) : Bool := z.cps.toList.all small
def vL : V → Bool | .str z => lets z | _ => false
def vW : V → Bool | .str z => lets z && (decide (1 ≤ z.length) && decide (z.length ≤ 16)) | _ => false
theorem isStr_eq {v : V} (h : isStr v = true) : ∃ z, v = .str z := by
  cases v with
  | str z => exact ⟨z, rfl⟩
  | _ => cases h
theorem takeWhile_all {p : Nat → Bool} : ∀ {l : List Nat}, l.all p = true → l.takeWhile p = l
  | [], _ => rfl
  | a :: l, h => by
    rw [List.all_cons, Bool.and_eq_true] at h
    rw [List.takeWhile_cons, if_pos h.1, takeWhile_all h.2]
theorem takeWhile_lt {p : Nat → Bool} : ∀ {l : List Nat}, l.all p = false → (l.takeWhile p).length < l.length
  | [], h => by cases h
  | a :: l, h => by
    rw [List.takeWhile_cons]
    by_cases ha : p a = true
    · rw [if_pos ha]
      rw [List.all_cons, ha, Bool.true_and] at h
      have := takeWhile_lt h
      simp only [List.length_cons]
      omega
    · rw [if_neg ha]
      simp
theorem drop_takeWhile {p : Nat → Bool} : ∀ {l : List Nat}, l.all p = false → (l.drop (l.takeWhile p).length).all p = false
  | [], h => by cases h
  | a :: l, h => by
    rw [List.takeWhile_cons]
    by_cases ha : p a = true
    · rw [if_pos ha]
      rw [List.all_cons, ha, Bool.true_and] at h
      exact drop_takeWhile h
    · rw [if_neg ha]
      exact h
theorem stripBy_size {p : Nat → Bool} (z : Str) : ((Txt.stripBy p true true z).cps.size = 0) ↔ z.cps.toList.all p = true := by
  have hn : z.length = z.cps.toList.length := rfl
  unfold Txt.stripBy stripSame stripped Builtin.Str.strSub stripLo stripHi
  simp only [if_true]
  cases h : z.cps.toList.all p with
  | true =>
    rw [takeWhile_all h]
    have e1 : z.cps.toList.drop z.cps.toList.length = [] := List.drop_length
    rw [e1]
    have e2 : (([] : List Nat).reverse.takeWhile p).length = 0 := rfl
    rw [e2, Nat.sub_zero, hn]
    simp only [true_iff, iff_true]
    split
    · rename_i q
      rw [Bool.and_eq_true, beq_iff_eq] at q
      rw [Array.length_toList] at q
      exact q.1
    · simp
  | false =>
    have h1 := takeWhile_lt h
    have h2 := drop_takeWhile h
    have h3 : ((z.cps.toList.drop (z.cps.toList.takeWhile p).length).reverse.takeWhile p).length < (z.cps.toList.drop (z.cps.toList.takeWhile p).length).length := by
      have h4 : (z.cps.toList.drop (z.cps.toList.takeWhile p).length).reverse.all p = false := by rw [List.all_reverse]; exact h2
      have := takeWhile_lt h4
      rw [List.length_reverse] at this
      exact this
    rw [List.length_drop] at h3
    have h5 : z.cps.toList.length = z.cps.size := Array.length_toList
    simp only [iff_false, Bool.false_eq_true]
    split
    · rw [h5] at h1
      omega
    · show ¬ (Array.extract _ _ _).size = 0
      rw [Array.size_extract, hn]
      omega
theorem letters_cps : ("abcdefghijklmnopqrstuvwxyz" : Str).cps = #[97, 98, 99, 100, 101, 102, 103, 104, 105, 106, 107, 108, 109, 110, 111, 112, 113, 114, 115, 116, 117, 118, 119, 120, 121, 122] := by decide +kernel
theorem letters_in (c : Nat) : ("abcdefghijklmnopqrstuvwxyz" : Str).cps.contains c = small c := by
  rw [letters_cps, Bool.eq_iff_iff]
  simp only [small, Bool.and_eq_true, decide_eq_true_eq, Array.contains_iff_mem]
  simp
  omega
theorem empty_cps : ("" : Str) = ⟨#[]⟩ := by decide +kernel
theorem strip_lets (z : Str) : decide (V.str (Txt.stripChars z "abcdefghijklmnopqrstuvwxyz") = V.str "") = lets z := by
  rw [Bool.eq_iff_iff, decide_eq_true_eq]
  have e : lets z = z.cps.toList.all (("abcdefghijklmnopqrstuvwxyz" : Str).cps.contains) := by
    unfold lets
    congr 1
    funext c
    exact (letters_in c).symm
  rw [e, ← stripBy_size z, empty_cps]
  constructor
  · intro h
    have h' : Txt.stripChars z "abcdefghijklmnopqrstuvwxyz" = ⟨#[]⟩ := V.str.inj h
    show (Txt.stripChars z "abcdefghijklmnopqrstuvwxyz").cps.size = 0
    rw [h']
    rfl
  · intro h
    have h' : (Txt.stripChars z "abcdefghijklmnopqrstuvwxyz").cps.size = 0 := h
    congr 1
    have : (Txt.stripChars z "abcdefghijklmnopqrstuvwxyz").cps = #[] := Array.eq_empty_of_size_eq_zero h'
    show (⟨(Txt.stripChars z "abcdefghijklmnopqrstuvwxyz").cps⟩ : Str) = ⟨#[]⟩
    rw [this]
theorem ev_bmS {t : TA} {to : TE} {σ : L2.St} {H : Hp} {z : Str} {xs : List V} {v : V} {r : V → List V → Hp → VK → Prop} (ho : Ev to σ H (.str z)) (ha : EvA t σ H xs)
    (hr : ∀ H1, Ex H H1 → ∀ Q : VK, Q v H1 → r (.str z) xs H1 Q) : Ev (tBM K "str" r to t) σ H v := fun H1 e Q q =>
  ho H1 e _ fun H2 e2 => ⟨rfl, ha H2 (e.trans e2) _ fun H3 e3 => hr H3 ((e.trans e2).trans e3) Q (q H3 (e2.trans e3))⟩
def pThing (vs : List V) (H : Hp) : Prop := ∃ v, vs = [v] ∧ Thing H v
def rL : List V → V | [v] => .bl (vL v) | _ => .non
def rW : List V → V | [v] => .bl (vW v) | _ => .non
/-! ### the law's numbers -/
def mixN (c k : Int) : Int := (c % 1000000007 + 7919 * k * k + 31 * k + 17) * 48271 % 2147483647
def mix (c k : Int) : Int := mixN c k * (mixN c k % 65521 + 16807) % 2147483629 / 4
theorem mixN_bd (c k : Int) : 0 ≤ mixN c k ∧ mixN c k < 2147483647 := ⟨Int.emod_nonneg _ (by decide), Int.emod_lt_of_pos _ (by decide)⟩
theorem mix_bd (c k : Int) : 0 ≤ mix c k ∧ mix c k < 536870908 := by
  have h1 : 0 ≤ mixN c k * (mixN c k % 65521 + 16807) % 2147483629 := Int.emod_nonneg _ (by decide)
  have h2 : mixN c k * (mixN c k % 65521 + 16807) % 2147483629 < 2147483629 := Int.emod_lt_of_pos _ (by decide)
  unfold mix
  omega
def pMix (vs : List V) (_ : Hp) : Prop := ∃ c k, vs = [.int c, .int k] ∧ 0 ≤ k ∧ k ≤ 1000000
def rMix : List V → V | [.int c, .int k] => .int (mix c k) | _ => .non
def cell (ns : List Int) (k : Int) : Int := if 0 < ns.length then ns.getD (k % ns.length).toNat 0 else 0
def num (ns : List Int) (k : Int) : Int := mix (cell ns k) k
def spNum (K : PySem.W.Frag) : Sp := fun vs H Q _ => ∃ (a : Addr) (ns : List Int) (k : Int), vs = [.ref a, .int k] ∧ SqL K H a (ns.map V.int) ∧ 0 ≤ k ∧ k ≤ 1000000 ∧ ∀ H', Ex H H' → Q (.int (num ns k)) H'
theorem spNum_v {a : Addr} {ns : List Int} {k : Int} {H : Hp} (hS : SqL K H a (ns.map V.int)) (h0 : 0 ≤ k) (h1 : k ≤ 1000000) : SpV (spNum K) [.ref a, .int k] H (.int (num ns k)) :=
  fun _ e _ q _ => ⟨a, ns, k, rfl, ex_l e hS, h0, h1, q⟩
theorem cell_at {ns : List Int} {k : Int} (h : 0 < ns.length) : atI (ns.map V.int) (k % (ns.length : Int)) = some (.int (cell ns k)) := by
  have h1 : 0 ≤ k % (ns.length : Int) := Int.emod_nonneg _ (by omega)
  have h2 : k % (ns.length : Int) < ns.length := Int.emod_lt_of_pos _ (by omega)
  obtain ⟨j, hj⟩ : ∃ j : Nat, k % (ns.length : Int) = (j : Int) := ⟨(k % (ns.length : Int)).toNat, by omega⟩
  have h3 : j < ns.length := by omega
  unfold cell
  rw [if_pos h, hj]
  refine atI_nat ?_
  rw [List.getElem?_map, List.getElem?_eq_getElem h3]
  simp [List.getD, List.getElem?_eq_getElem h3]
theorem el_flag {σ : L2.St} {H : Hp} {x c : V} {tc : TE} {i : Nat} {a D : Addr} {cv : Value} {b : Bool} (hi : σ[i]? = some (some (.ref a))) (ha : H a = some (ErrO (.ref D) none a)) (C : ExcC K D)
    (hc : Ev tc σ H c) (k : ClsV c cv) (e : PySem.W.kitOne K (.ref D) cv = some b) :
    EvL (tOp rRep (tLst (tCons (tC x) tNil)) (tCB (fun xs H Q => (∃ i, xs = [.int i] ∧ Q (.int i) H) ∨ ∃ k, xs = [.bl k] ∧ Q (.int (if k then 1 else 0)) H)
      (tCons (tCB (rIsErr K) (tCons (tVar i) (tCons tc tNil))) tNil))) σ H (if b = true then [x] else []) := by
  refine el_is (el_rep (k := if b = true then 1 else 0) (el_lst (ea_cons ev_c ea_nil) (by show 1 ≤ 100000; decide)) (ev_cb (ea_cons (ev_cb (ea_cons (ev_var hi) (ea_cons hc ea_nil)) (rc_err ha C k e)) ea_nil) rc_int) (by cases b <;> decide) (by cases b <;> decide) (by show 1 ≤ 1000; decide)) ?_
  cases b <;> rfl
theorem el_flagN {σ : L2.St} {H : Hp} {x c : V} {tc : TE} {i : Nat} {a D : Addr} {cv : Value} {b : Bool} (hi : σ[i]? = some (some (.ref a))) (ha : H a = some (ErrO (.ref D) none a)) (C : ExcC K D)
    (hc : Ev tc σ H c) (k : ClsV c cv) (e : PySem.W.kitOne K (.ref D) cv = some b) :
    EvL (tOp rRep (tLst (tCons (tC x) tNil)) (tCB (fun xs H Q => (∃ i, xs = [.int i] ∧ Q (.int i) H) ∨ ∃ k, xs = [.bl k] ∧ Q (.int (if k then 1 else 0)) H)
      (tCons (tNotV (tCB (rIsErr K) (tCons (tVar i) (tCons tc tNil)))) tNil))) σ H (if b = true then [] else [x]) := by
  refine el_is (el_rep (k := if (!b) = true then 1 else 0) (el_lst (ea_cons ev_c ea_nil) (by show 1 ≤ 100000; decide)) (ev_cb (ea_cons (ev_notV (ev_cb (ea_cons (ev_var hi) (ea_cons hc ea_nil)) (rc_err ha C k e))) ea_nil) rc_int) (by cases b <;> decide) (by cases b <;> decide) (by show 1 ≤ 1000; decide)) ?_
  cases b <;> rfl
def signs (z : Str) : Prop := z.cps.toList.all (· < 1114112) = true
theorem join0 : ∀ ys : List Str, (Txt.join "" ys).cps.toList = (ys.map fun y => y.cps.toList).flatten := by
  intro ys
  show (Builtin.Str.glued "" ys).cps.toList = _
  rw [StrLaws.glued_eq_join]
  induction ys with
  | nil => rfl
  | cons x r ih =>
    cases r with
    | nil => show x.cps.toList = x.cps.toList ++ []; rw [List.append_nil]
    | cons y r =>
      show (x ++ "" ++ Str.join "" (y :: r)).cps.toList = x.cps.toList ++ _
      have e : (x ++ ("" : Str)) = x := by rw [empty_cps]; exact Str.append_empty x
      rw [e, ← ih, Str.cps_append, Array.toList_append]
theorem signs_add {a b : Str} (h : signs a) (h' : signs b) : signs (a ++ b) := by
  unfold signs at *
  rw [Str.cps_append, Array.toList_append, List.all_append, h, h'] <;> rfl
theorem signs_cut {a : Str} (h : signs a) (lo hi : Option Int) : signs (cutS a lo hi) := by
  unfold signs cutS at *
  rw [List.all_eq_true] at *
  intro x hx
  exact h x (List.mem_of_mem_drop (List.mem_of_mem_take hx))
theorem cut_len (a : Str) (lo hi : Option Int) : (cutS a lo hi).length ≤ a.length := by
  show (cutS a lo hi).cps.size ≤ a.cps.size
  unfold cutS
  rw [← Array.length_toList, ← Array.length_toList, List.length_take, List.length_drop]
  omega
theorem getD_at {ns : List Int} {i : Int} (h0 : 0 ≤ i) (h1 : i < ns.length) : atI (ns.map V.int) i = some (.int (ns.getD i.toNat 0)) := by
  obtain ⟨j, hj⟩ : ∃ j : Nat, i = (j : Int) := ⟨i.toNat, by omega⟩
  subst hj
  have h3 : j < ns.length := by omega
  refine atI_nat ?_
  rw [List.getElem?_map, List.getElem?_eq_getElem h3]
  simp [List.getD, List.getElem?_eq_getElem h3]
theorem sign_at {ns : List Nat} {i : Int} (h0 : 0 ≤ i) (h1 : i < ns.length) : atI ns i = some (ns.getD i.toNat 0) := by
  obtain ⟨j, hj⟩ : ∃ j : Nat, i = (j : Int) := ⟨i.toNat, by omega⟩
  subst hj
  have h3 : j < ns.length := by omega
  refine atI_nat ?_
  simp [List.getD, List.getElem?_eq_getElem h3]
theorem getD_signs {z : Str} (h : signs z) (i : Nat) : z.cps.toList.getD i 0 < 1114112 := by
  unfold signs at h
  rw [List.all_eq_true] at h
  by_cases hi : i < z.cps.toList.length
  · have e : z.cps.toList.getD i 0 = z.cps.toList[i] := by rw [List.getD_eq_getElem?_getD, List.getElem?_eq_getElem hi]; rfl
    rw [e]
    simpa using h _ (List.getElem_mem hi)
  · have e : z.cps.toList.getD i 0 = 0 := by simp [List.getD, List.getElem?_eq_none (Nat.le_of_not_lt hi)]
    rw [e]
    decide
abbrev alph : Str := "abcdefghijklmnopqrstuvwxyz"
theorem alph_len : alph.length = 26 := by decide +kernel
theorem alph_list : alph.cps.toList.length = 26 := by decide +kernel
theorem alph_signs : signs alph := by unfold signs; decide +kernel
/-- one sign of a text, at a place -/
def sgn (z : Str) (i : Int) : Str := ⟨#[z.cps.toList.getD i.toNat 0]⟩
theorem ev_sgn {σ : L2.St} {H : Hp} {ta tb : TE} {z : Str} {i : Int} (ha : Ev ta σ H (.str z)) (hb : Ev tb σ H (.int i)) (hz : z.length ≤ 100000) (h0 : 0 ≤ i) (h1 : i < z.cps.toList.length) : Ev (tOp rIxS ta tb) σ H (.str (sgn z i)) :=
  ev_op ha hb (rv_ixS hz (sign_at h0 h1))
theorem sgn_signs {z : Str} (h : signs z) (i : Int) : signs (sgn z i) := by
  unfold signs sgn
  simpa using getD_signs h i.toNat
/-- letters at drawn places -/
def drawn (n : Nat) (g : Nat → Int) : Str := Txt.join "" ((List.range n).map fun i => sgn alph (g i))
theorem drawn_list (n : Nat) (g : Nat → Int) : (drawn n g).cps.toList = (List.range n).map fun i => alph.cps.toList.getD (g i).toNat 0 := by
  unfold drawn
  rw [join0, List.map_map]
  induction n with
  | zero => rfl
  | succ n ih =>
    rw [List.range_succ, List.map_append, List.map_append, List.flatten_append, ih]
    rfl
theorem drawn_len (n : Nat) (g : Nat → Int) : (drawn n g).length = n := by
  show (drawn n g).cps.size = n
  rw [← Array.length_toList, drawn_list, List.length_map, List.length_range]
theorem drawn_signs (n : Nat) (g : Nat → Int) : signs (drawn n g) := by
  unfold signs
  rw [drawn_list, List.all_eq_true]
  intro x hx
  obtain ⟨i, _, rfl⟩ := List.mem_map.mp hx
  simpa using getD_signs alph_signs (g i).toNat
theorem sum_ones {n : Nat} {g : Nat → Int} : ((((List.range n).map fun i => sgn alph (g i)).map (·.length)).sum + ((List.range n).map fun i => sgn alph (g i)).length * ("" : Str).length) = n := by
  have e : ("" : Str).length = 0 := by decide +kernel
  rw [e, Nat.mul_zero, Nat.add_zero, List.map_map]
  induction n with
  | zero => rfl
  | succ n ih =>
    rw [List.range_succ, List.map_append, List.sum_append, ih]
    rfl
theorem leS (i j : List Nat) : (!decide (j < i)) = !decide (j < i) := rfl
def offS (c : Nat) : Bool := !((!decide ([c] < ([97] : List Nat))) && (!decide (([122] : List Nat) < [c])))
theorem offS_small (c : Nat) : offS c = !small c := by
  unfold offS small
  have h1 : decide ([c] < ([97] : List Nat)) = decide (c < 97) := by
    rw [decide_eq_decide]
    constructor
    · intro h
      rcases List.cons_lt_cons_iff.mp h with h | ⟨_, h⟩
      · exact h
      · exact absurd h (by simp)
    · intro h
      exact List.cons_lt_cons_iff.mpr (Or.inl h)
  have h2 : decide (([122] : List Nat) < [c]) = decide (122 < c) := by
    rw [decide_eq_decide]
    constructor
    · intro h
      rcases List.cons_lt_cons_iff.mp h with h | ⟨_, h⟩
      · exact h
      · exact absurd h (by simp)
    · intro h
      exact List.cons_lt_cons_iff.mpr (Or.inl h)
  rw [h1, h2]
  congr 1
  rw [Bool.eq_iff_iff]
  simp
theorem a_cps : ("a" : Str).cps.toList = [97] := by decide +kernel
theorem z_cps : ("z" : Str).cps.toList = [122] := by decide +kernel
theorem given_none (z : Str) (g : Nat → V) : (given z.cps.size (fun i => offS (z.cps.toList.getD i 0)) g).isEmpty = lets z := by
  unfold given
  rw [List.isEmpty_map, Bool.eq_iff_iff, List.isEmpty_iff, List.filter_eq_nil_iff]
  unfold lets
  rw [List.all_eq_true]
  constructor
  · intro h x hx
    obtain ⟨i, hi, rfl⟩ := List.mem_iff_getElem.mp hx
    have := h i (List.mem_range.mpr (by rw [Array.length_toList] at hi; exact hi))
    rw [offS_small, List.getD_eq_getElem?_getD, List.getElem?_eq_getElem hi] at this
    simpa using this
  · intro h i hi
    have hi' : i < z.cps.toList.length := by rw [Array.length_toList]; exact List.mem_range.mp hi
    rw [offS_small, List.getD_eq_getElem?_getD, List.getElem?_eq_getElem hi']
    simpa using h _ (List.getElem_mem hi')
theorem q_asgC {σ : L2.St} {H : Hp} {D : Ends} {tz : TS} {sp : Sp} {dvs vs : List V} {E : XK} {ta : TA} {i : Nat} (h : EvA ta σ H vs) (hs : ∀ H1, Ex H H1 → sp (vs ++ dvs) H1 (fun v H2 => tz D (σ.set i (some v)) H2) E) :
    tSeq (tAsg (tCall sp dvs E ta) (gName i)) tz D σ H := h H (Ex.refl H) _ fun H1 e => hs H1 e
theorem q_asgTh {σ : L2.St} {H : Hp} {D : Ends} {tz : TS} {ta : TA} {i n : Nat} (h : EvThs ta σ H n) (hn : n ≤ 1000)
    (k : ∀ p xs H1, Ex H H1 → H1 p = some (.lst xs) → xs.length = n → (∀ v ∈ xs, Thing H1 v) → tz D (σ.set i (some (.ref p))) H1) : tSeq (tAsg (tLst ta) (gName i)) tz D σ H :=
  h H (Ex.refl H) _ fun vs H1 e hl hvs => ⟨by rw [hl]; exact sz_of (by omega), fun p hp => k p vs _ (e.trans (Ex.new hp)) upd_same hl fun v hv => (hvs v hv).mono (Ex.new hp)⟩
theorem at_mem {xs : List V} {i : Int} (h0 : 0 ≤ i) (h1 : i < xs.length) : ∃ v, atI xs i = some v ∧ v ∈ xs := by
  obtain ⟨j, hj⟩ : ∃ j : Nat, i = (j : Int) := ⟨i.toNat, by omega⟩
  subst hj
  have h3 : j < xs.length := by omega
  exact ⟨xs[j], atI_nat (List.getElem?_eq_getElem h3), List.getElem_mem h3⟩
end
end Com

set_option Elab.async false
set_option linter.all false
set_option maxRecDepth 100000
set_option maxHeartbeats 2000000
/-! How a condition is read, over lists of signs. -/
namespace Rd
open PySem L2 Evl Com TX
abbrev alphL : List Nat := L alph
def okBr (l : List Nat) : Bool := l.all small && (decide (1 ≤ l.length) && decide (l.length ≤ 8)) && decide l.Nodup
def others (l : List Nat) : List Nat := alphL.filter fun c => !decide (c ∈ l)
def core (i : List Nat) : List Nat := if i[0]? = some 94 then i.tail else i
def lets' (i : List Nat) : List Nat := if i[0]? = some 94 then others i.tail else i
def brk (r : List Nat) : Option (List Nat × List Nat) :=
  if 93 ∈ r then (if okBr (core (ahead 93 r)) = true then some (lets' (ahead 93 r), r.drop ((ahead 93 r).length + 1)) else none) else none
def place (c : Nat) (r : List Nat) : Option (List Nat × List Nat) :=
  if c = 91 then brk r else if c = 46 then some (alphL, r) else if small c = true then some ([c], r) else none
def rds : Nat → List Nat → Option (List (List Nat))
  | _, [] => some []
  | 0, _ :: _ => none
  | n + 1, c :: r => (place c r).bind fun q => (rds n q.2).map (q.1 :: ·)
def rdAll (l : List Nat) : Option (List (List Nat)) := rds l.length l
def conds (l : List Nat) : Option (List (List Nat)) := (rdAll l).bind fun ps => if ps.length < 4 then some ps else none
theorem brk_le {r p q : List Nat} (h : brk r = some (p, q)) : q.length < r.length ∧ q = r.drop (r.length - q.length) := by
  unfold brk at h
  split at h
  · rename_i h1
    split at h
    · cases h
      have := ahead_lt h1
      rw [List.length_drop]
      refine ⟨by omega, ?_⟩
      congr 1
      omega
    · cases h
  · cases h
theorem place_le {c : Nat} {r p q : List Nat} (h : place c r = some (p, q)) : q.length ≤ r.length ∧ q = r.drop (r.length - q.length) := by
  unfold place at h
  split at h
  · have := brk_le h
    exact ⟨by omega, this.2⟩
  · split at h
    · cases h
      simp
    · split at h
      · cases h
        simp
      · cases h
theorem rds_more : ∀ (n : Nat) (l : List Nat), l.length ≤ n → rds n l = rdAll l := by
  suffices h : ∀ (n : Nat) (l : List Nat) (m : Nat), l.length ≤ n → l.length ≤ m → rds n l = rds m l from fun n l hl => h n l l.length hl (Nat.le_refl _)
  intro n
  induction n with
  | zero =>
    intro l m h1 h2
    cases l with
    | nil => cases m <;> rfl
    | cons a r => simp at h1
  | succ n ih =>
    intro l m h1 h2
    cases l with
    | nil => cases m <;> rfl
    | cons a r =>
      cases m with
      | zero => simp at h2
      | succ m =>
        show (place a r).bind _ = (place a r).bind _
        cases hp : place a r with
        | none => rfl
        | some q =>
          have hq := (place_le (p := q.1) (q := q.2) hp).1
          rw [List.length_cons] at h1 h2
          show (rds n q.2).map _ = (rds m q.2).map _
          rw [ih q.2 m (by omega) (by omega)]
theorem rdAll_nil : rdAll [] = some [] := rfl
theorem rdAll_cons (c : Nat) (r : List Nat) : rdAll (c :: r) = (place c r).bind fun q => (rdAll q.2).map (q.1 :: ·) := by
  show (place c r).bind _ = _
  cases hp : place c r with
  | none => rfl
  | some q =>
    show (rds r.length q.2).map _ = _
    rw [rds_more r.length q.2 (place_le (p := q.1) (q := q.2) hp).1]
    rfl
/-- some of it is read already -/
def Upto (l : List Nat) (ps : List (List Nat)) (rest : List Nat) : Prop := rdAll l = (rdAll rest).map (ps ++ ·)
theorem Upto.start (l : List Nat) : Upto l [] l := by
  unfold Upto
  cases rdAll l <;> rfl
theorem Upto.end_ {l : List Nat} {ps : List (List Nat)} (u : Upto l ps []) : rdAll l = some ps := by
  unfold Upto at u
  rw [u, rdAll_nil]
  show some (ps ++ []) = some ps
  rw [List.append_nil]
theorem Upto.step {l r p q : List Nat} {c : Nat} {ps : List (List Nat)} (u : Upto l ps (c :: r)) (h : place c r = some (p, q)) : Upto l (ps ++ [p]) q := by
  unfold Upto at *
  rw [u, rdAll_cons, h]
  show ((rdAll q).map _).map _ = _
  cases rdAll q with
  | none => rfl
  | some x =>
    show some (ps ++ (p :: x)) = some (ps ++ [p] ++ x)
    rw [List.append_assoc]
    rfl
theorem Upto.bad {l r : List Nat} {c : Nat} {ps : List (List Nat)} (u : Upto l ps (c :: r)) (h : place c r = none) : rdAll l = none := by
  unfold Upto at u
  rw [u, rdAll_cons, h]
  rfl
theorem Upto.many {l r : List Nat} {c : Nat} {ps : List (List Nat)} (u : Upto l ps (c :: r)) (h : 3 ≤ ps.length) : conds l = none := by
  unfold conds
  unfold Upto at u
  rw [u, rdAll_cons]
  cases place c r with
  | none => rfl
  | some q =>
    show (((rdAll q.2).map _).map _).bind _ = none
    cases rdAll q.2 with
    | none => rfl
    | some x =>
      show (if (ps ++ (q.1 :: x)).length < 4 then some (ps ++ (q.1 :: x)) else none) = none
      rw [if_neg]
      rw [List.length_append, List.length_cons]
      omega
theorem conds_of {l : List Nat} {ps : List (List Nat)} (h : rdAll l = some ps) (hl : ps.length < 4) : conds l = some ps := by
  unfold conds
  rw [h]
  show (if ps.length < 4 then some ps else none) = some ps
  rw [if_pos hl]
theorem conds_big {l : List Nat} {ps : List (List Nat)} (h : rdAll l = some ps) (hl : ¬ ps.length < 4) : conds l = none := by
  unfold conds
  rw [h]
  show (if ps.length < 4 then some ps else none) = none
  rw [if_neg hl]
theorem conds_none {l : List Nat} (h : rdAll l = none) : conds l = none := by
  unfold conds
  rw [h]
  rfl
/-- the letters that a place lets are signs -/
theorem others_small (l : List Nat) : ∀ c ∈ others l, c < 128 := by
  intro c hc
  have h1 : c ∈ alphL := (List.mem_filter.mp hc).1
  have h2 : ∀ c ∈ alphL, c < 128 := by
    show ∀ c ∈ alph.cps.toList, c < 128
    rw [letters_cps]
    decide
  exact h2 c h1
/-- letters let, place by place -/
def fits (ps : List (List Nat)) (l : List Nat) : Bool := (List.zipWith (fun p c => decide (c ∈ p)) ps l).all id
def fitE (ps : List (List Nat)) (l : List Nat) : Bool := decide (ps.length ≤ l.length) && fits ps (l.drop (l.length - ps.length))
def fitB (ps : List (List Nat)) (l : List Nat) : Bool := decide (ps.length ≤ l.length) && fits ps (l.take ps.length)
theorem map_getD {α β : Type} (l : List α) (d : α) (f : α → β) : (List.range l.length).map (fun i => f (l.getD i d)) = l.map f := by
  apply List.ext_getElem
  · simp
  · intro i h1 h2
    simp at h1
    simp [List.getD, h1]
theorem given_of (l : List Nat) (p : Nat → Bool) (f : Nat → V) (n : Nat) (hn : n = l.length) : given n (fun i => p (l.getD i 0)) (fun i => f (l.getD i 0)) = (l.filter p).map f := by
  subst hn
  unfold given
  have : l.filter p = ((List.range l.length).filter fun i => p (l.getD i 0)).map fun i => l.getD i 0 := by
    conv => lhs; rw [← List.map_id l, ← map_getD l 0 id]
    rw [List.filter_map]
    rfl
  rw [this, List.map_map]
  rfl
end Rd
namespace Evl
open PySem L2
section
variable {K : PySem.W.Frag} {σ : L2.St} {H H' : Hp} {ta tb tc te tx : TE} {t u : TT} {x y z v : V} {r : R2}
theorem rv_inS {c : Nat} {z : Str} : RV (fun x y H Q => ∃ (c : Nat) (z : Str), x = .str ⟨#[c]⟩ ∧ y = .str z ∧ Q (.bl (decide (c ∈ z.cps.toList))) H) (.str ⟨#[c]⟩) (.str z) H (.bl (decide (c ∈ z.cps.toList))) :=
  fun H1 _ _ q => ⟨c, z, rfl, rfl, q H1 (Ex.refl H1)⟩
theorem rv_ninS {c : Nat} {z : Str} : RV (fun x y H Q => ∃ (c : Nat) (z : Str), x = .str ⟨#[c]⟩ ∧ y = .str z ∧ Q (.bl (!decide (c ∈ z.cps.toList))) H) (.str ⟨#[c]⟩) (.str z) H (.bl (!decide (c ∈ z.cps.toList))) :=
  fun H1 _ _ q => ⟨c, z, rfl, rfl, q H1 (Ex.refl H1)⟩
theorem ev_lenSetS {z : Str} (h : Ev ta σ H (.str z)) (hz : z.length ≤ 4000) : Ev (tLenSetS ta) σ H (.int ((SetS.uniq (SetS.signsOf z)).length : Nat)) := fun H1 e _ q =>
  h H1 e _ fun H2 e2 => ⟨z, rfl, hz, q H2 e2⟩
theorem ev_allL {bs : List Bool} {xs : List V} (h : EvL te σ H xs) (hx : xs = bs.map V.bl) : Ev (tCB (rAll K) (tCons te tNil)) σ H (.bl (bs.all id)) := fun H1 e _ q =>
  h H1 e _ fun p H2 _ e2 h2 => ⟨p, bs, rfl, sq_of (hx ▸ h2), q H2 e2⟩
/-- a comprehension over zip(list, text) -/
theorem el_lcZS {ta : TA} {a : Addr} {w : Str} {xs : List V} {j1 j2 : Nat} {vs : List Nat} (f : Nat → V) (h : EvA ta σ H [.ref a, .str w]) (hx : SqL K H a xs) (hz : xs.length ≤ 40000)
    (hw : ∀ x y, wipe (((wipe σ vs).set j1 (some x)).set j2 (some y)) vs = wipe σ vs)
    (he : ∀ (i c : Nat) (x : V) H1, Ex H H1 → xs[i]? = some x → w.cps[i]? = some c → Ev te (((wipe σ vs).set j1 (some x)).set j2 (some (.str ⟨#[c]⟩))) H1 (f i)) :
    EvL (tLc (iZipS K ta) (gTup K 2 (gCons (gName j1) (gCons (gName j2) gNil))) tYes te vs) σ H ((List.range (min xs.length w.cps.size)).map f) := fun H0 e Q q =>
  h H0 e _ fun H1 e1 => ⟨a, w, xs, rfl, ex_l (e.trans e1) hx, fun Dl hD =>
    lc_it (walk_zs (K := K) (a := a) (xs := xs) (z := w)) (Cw H1 (fun _ => true) f Dl) ⟨hD, Ex.new hD, upd_same⟩ (fun i H' _ p => ex_l ((e.trans e1).trans p.2.1) hx) (fun i x H2 H3 hi p y => by
      obtain ⟨T, a1, a2, rfl, hT, rfl, h1, h2⟩ := y
      have h2 : (w.cps[i]?.map fun c => V.str ⟨#[c]⟩) = some a2 := h2
      have hc : ∃ c, w.cps[i]? = some c ∧ a2 = .str ⟨#[c]⟩ := by
        cases hw : w.cps[i]? with
        | none => rw [hw] at h2; cases h2
        | some c => rw [hw] at h2; exact ⟨c, rfl, (Option.some.inj h2).symm⟩
      obtain ⟨c, hc, rfl⟩ := hc
      have p' : Cw H1 (fun _ => true) f Dl i (upd H2 T (.tup [a1, .str ⟨#[c]⟩])) := ⟨p.1, p.2.1.trans (Ex.new hT), by rw [upd_ne (ne_of_none p.2.2 hT)]; exact p.2.2⟩
      refine ⟨T, _, rfl, st_of upd_same, rfl, a1, _, rfl, .str ⟨#[c]⟩, [], rfl, rfl, hw _ _, ?_⟩
      exact cw_turn p' (by omega) et_yes fun _ => he i c a1 H1 (e.trans e1) h1 hc)
      (fun H' p => q Dl H' (fresh_back e1 p.1) (e1.trans p.2.1) (by rw [p.2.2, given_all]))⟩
end
end Evl
namespace L2
open PySem PySem.Spec PyProof.Rows
section
variable {X : Cx} {K : PySem.W.Frag}
theorem ix_listK (h : X.K = K) : IxR X (rIxL K) := h ▸ ix_list
theorem ix_tupK (h : X.K = K) : IxR X (rIxT K) := h ▸ ix_tup
theorem sl_listK (h : X.K = K) : SlR X (rSlL K) := h ▸ sl_list
theorem op_in_seqK (h : X.K = K) : OpR X (compareOp .In) (rIn K false) := h ▸ op_in_seq
theorem op_notIn_seqK (h : X.K = K) : OpR X (compareOp .NotIn) (rIn K true) := h ▸ op_notIn_seq
theorem call_len_seqK (h : X.K = K) : CallR X (.builtin "len") (fun xs H Q => ∃ p ys, xs = [.ref p] ∧ (SqL K H p ys ∨ SqT K H p ys) ∧ Q (.int ys.length) H) := h ▸ call_len_seq
end
/-- C(e, ..) where what is raised is wished for at the caller's slots -/
def tMakeS (C : Addr) (sp : Sp) (E : St → XK) (t : TA) : TE := fun σ H Q => t σ H fun vs H1 => ∀ x dx, H1 x = none → H1 dx = none → dx ≠ x →
  sp (.ref x :: vs) (upd (upd H1 dx (.own x)) x (.ins C dx [])) (fun v H2 => v = .non ∧ Q (.ref x) H2) (E σ)
section
variable {X : Cx} {CX : CXT} {k : Nat} {f C : Addr} {fd : FuncData} {ps : List Str} {sp : Sp} {E : St → XK} {x : Str} {p pos : Pos} {e : Expr} {es : List Expr} {t : TA}
theorem pe_makeS (M : Mk X.K C f) (F : FnOk X.prog X.w X.K X.mg X.base CX k f fd ps sp) (hr : Room (k + 1) X.A) (hg : Gl X x) (hm : X.mg x = some (.ref C))
    (hb : Binds X.K fd ps []) (hx : ∀ σ, PassesAt CX X σ (E σ)) (ha : PA X (e :: es) t) (hdb : (x == ("__debug__" : Str)) = false := by decide)
    (he : starEach (e :: es) X.env = (false, eval e X.env) :: starEach es X.env := by rfl) (hpl : (backTo pos (starEach es X.env)).any (·.1) = false := by rfl) :
    PE X (.Call (.Name x p) (e :: es) [] pos) (tMakeS C sp E t) := by
  constructor
  intro pins s σ H Q I h
  apply wpAny_Call_Name_kw
  apply ld_glob I hg hm _ hdb
  refine PySem.W.callWith_K (h₀ := X.base) I.ok.mod.kin M.kp (thn (ha.run pos pins s σ H _ I h) fun us s1 q => ?_) he hpl
  obtain ⟨vs, H1, I1, r, q⟩ := q
  refine ⟨I1.kIn, ?_⟩
  have n0 := I1.hok.fresh (Nat.le_refl _)
  have n1 := I1.hok.fresh (Nat.le_succ _)
  have q2 := q _ _ n1 n0 (Nat.ne_of_lt (Nat.lt_succ_self _))
  have I2 := Inv.made (C := C) I1
  have vals : Vals (V.ref (s1.heap.objs.size + 1) :: vs) (Value.ref (s1.heap.objs.size + 1) :: us) := .cons rfl r
  have len : (Value.ref (s1.heap.objs.size + 1) :: us).length = ps.length := by
    rw [← vals.length]
    exact F.len _ _ _ _ q2
  have b := hb _ (Value.ref (s1.heap.objs.size + 1) :: us) I2.kIn (by rw [List.append_nil]; exact len)
  rw [List.append_nil] at b
  have ran := F.run _ X.stack _ _ ⟨Value.ref (s1.heap.objs.size + 1) :: us, []⟩ _ _ _ (E σ) (hr.make C us []) (I2.env0.make C us []) b vals q2
  refine wpAny_call (make_map (f := f) I1.kIn M.makes M.init (beq_iff_eq.mp M.fn) (codeAny_mono ran fun r2 s2 h2 => ?_))
  match r2, h2 with
  | .error e, h2 => exact hx σ pins _ _ e s2 I2 h2
  | .ok (.ret u), h2 =>
    obtain ⟨v, H3, I3, rv, ev, q3⟩ := I2.after h2
    subst ev
    exact ⟨rv, ⟨V.ref (s1.heap.objs.size + 1), H3, I3, rfl, q3⟩⟩
  | .ok .next, h2 => exact h2.elim
  | .ok .brk, h2 => exact h2.elim
  | .ok .cont, h2 => exact h2.elim
end
end L2

set_option Elab.async false
set_option linter.all false
set_option maxRecDepth 100000
set_option maxHeartbeats 2000000
/-! Our own layer: what evaluates to some value of a kind. -/
namespace Evl
open PySem L2 Com TX
/-- a text of at most n signs -/
def Tx (n : Nat) (v : V) : Prop := ∃ z, v = .str z ∧ z.length ≤ n ∧ signs z
theorem Tx.mono {n m : Nat} {v : V} (h : Tx n v) (e : n ≤ m) : Tx m v := by
  obtain ⟨z, rfl, h1, h2⟩ := h
  exact ⟨z, rfl, Nat.le_trans h1 e, h2⟩
section
variable {K : PySem.W.Frag} {σ : L2.St} {H H' : Hp} {ta tb tc te tx : TE} {t u : TT} {x y z v : V} {r : R2} {P P1 P2 : V → Prop} {n m k : Nat}
def EvP (te : TE) (σ : L2.St) (H : Hp) (P : V → Prop) : Prop := ∀ H1, Ex H H1 → ∀ Q : VK, (∀ v H2, Ex H1 H2 → P v → Q v H2) → te σ H1 Q
def EvLP (te : TE) (σ : L2.St) (H : Hp) (n : Nat) (P : V → Prop) : Prop := ∀ H1, Ex H H1 → ∀ Q : VK,
  (∀ p xs H2, H1 p = none → Ex H1 H2 → H2 p = some (.lst xs) → xs.length ≤ n → (∀ x ∈ xs, P x) → Q (.ref p) H2) → te σ H1 Q
def EvAP (ta : TA) (σ : L2.St) (H : Hp) (n : Nat) (P : V → Prop) : Prop := ∀ H1, Ex H H1 → ∀ Q : List V → Hp → Prop,
  (∀ vs H2, Ex H1 H2 → vs.length ≤ n → (∀ x ∈ vs, P x) → Q vs H2) → ta σ H1 Q
theorem EvP.mono (e : Ex H H') (h : EvP te σ H P) : EvP te σ H' P := fun H1 a => h H1 (e.trans a)
theorem EvLP.mono (e : Ex H H') (h : EvLP te σ H n P) : EvLP te σ H' n P := fun H1 a => h H1 (e.trans a)
theorem evp_v (h : Ev te σ H v) (p : P v) : EvP te σ H P := fun H1 e _ q => h H1 e _ fun H2 e2 => q v H2 e2 p
theorem evp_imp (h : EvP te σ H P1) (i : ∀ v, P1 v → P v) : EvP te σ H P := fun H1 e _ q => h H1 e _ fun v H2 e2 p => q v H2 e2 (i v p)
theorem evp_op (ha : EvP ta σ H P1) (hb : EvP tb σ H P2) (hr : ∀ x y H1, Ex H H1 → P1 x → P2 y → ∃ z, RV r x y H1 z ∧ P z) : EvP (tOp r ta tb) σ H P := fun H1 e Q q =>
  ha H1 e _ fun x H2 e2 p1 => hb H2 (e.trans e2) _ fun y H3 e3 p2 => by
    obtain ⟨z, h1, h2⟩ := hr x y H3 ((e.trans e2).trans e3) p1 p2
    exact h1 H3 (Ex.refl H3) Q fun H4 e4 => q z H4 ((e2.trans e3).trans e4) h2
theorem evp_add (ha : EvP ta σ H (Tx n)) (hb : EvP tb σ H (Tx m)) (h : n + m ≤ k) (hk : k ≤ 100000) :
    EvP (tOp (fun x y H Q => ∃ i j, x = .str i ∧ y = .str j ∧ i.length + j.length ≤ sizeLine ∧ Q (.str (i ++ j)) H) ta tb) σ H (Tx k) :=
  evp_op ha hb fun x y H1 _ h1 h2 => by
    obtain ⟨a, rfl, a1, a2⟩ := h1
    obtain ⟨b, rfl, b1, b2⟩ := h2
    exact ⟨.str (a ++ b), rv_addS (by omega), a ++ b, rfl, by rw [Str.length_append]; omega, signs_add a2 b2⟩
theorem evp_sl {tl th : TO} {lo hi : Option Int} (h : EvP te σ H (Tx n)) (h1 : EvO tl σ H lo) (h2 : EvO th σ H hi) (hn : n ≤ 100000) : EvP (tSl rSlS te tl th) σ H (Tx n) := fun H1 e _ q =>
  h H1 e _ fun v H2 e2 p => h1 H2 (e.trans e2) _ fun H3 e3 => h2 H3 ((e.trans e2).trans e3) _ fun H4 e4 => by
    obtain ⟨w, rfl, a1, a2⟩ := p
    exact ⟨w, rfl, sz_of (by omega), q _ H4 ((e2.trans e3).trans e4) ⟨_, rfl, Nat.le_trans (cut_len w lo hi) a1, signs_cut a2 lo hi⟩⟩
theorem eap_nil : EvAP tNil σ H 0 P := fun H1 _ _ q => q [] H1 (Ex.refl H1) (Nat.le_refl _) fun _ h => nomatch h
theorem eap_cons {tr : TA} (h : EvP te σ H P) (hr : EvAP tr σ H n P) : EvAP (tCons te tr) σ H (n + 1) P := fun H1 e _ q =>
  h H1 e _ fun v H2 e2 p => hr H2 (e.trans e2) _ fun vs H3 e3 hl hp => q (v :: vs) H3 (e2.trans e3) (by rw [List.length_cons]; omega) fun x hx => by
    rcases List.mem_cons.mp hx with rfl | hx
    · exact p
    · exact hp x hx
theorem elp_lst {ta : TA} (h : EvAP ta σ H n P) (hn : n ≤ 100000) : EvLP (tLst ta) σ H n P := fun H1 e _ q =>
  h H1 e _ fun vs H2 e2 hl hp => ⟨sz_of (by omega), fun p hpn => q p vs _ (fresh_back e2 hpn) (e2.trans (Ex.new hpn)) upd_same hl hp⟩
theorem elp_of {xs : List V} (h : EvL te σ H xs) (hl : xs.length ≤ n) (hp : ∀ x ∈ xs, P x) : EvLP te σ H n P := fun H1 e _ q =>
  h H1 e _ fun p H2 hpn e2 h2 => q p xs H2 hpn e2 h2 hl hp
theorem elp_cat (ha : EvLP ta σ H n P) (hb : EvLP tb σ H m P) (h : n + m ≤ k) (hk : k ≤ 100000) : EvLP (tOp rCat ta tb) σ H k P := fun H1 e _ q =>
  ha H1 e _ fun p xs H2 hp e2 h2 l1 p1 => hb H2 (e.trans e2) _ fun p' ys H3 hp' e3 h3 l2 p2 =>
    ⟨p, p', xs, ys, rfl, rfl, e3 p _ h2, h3, sz_of (by omega), fun l hl => q l (xs ++ ys) _ (fresh_back (e2.trans e3) hl) ((e2.trans e3).trans (Ex.new hl)) upd_same (by rw [List.length_append]; omega) fun x hx => by
      rcases List.mem_append.mp hx with hx | hx
      · exact p1 x hx
      · exact p2 x hx⟩
theorem strs_of {xs : List V} (h : ∀ x ∈ xs, Tx n x) : ∃ ys : List Str, xs = ys.map V.str ∧ ∀ y ∈ ys, y.length ≤ n ∧ signs y := by
  induction xs with
  | nil => exact ⟨[], rfl, fun _ h => nomatch h⟩
  | cons x r ih =>
    obtain ⟨ys, rfl, hy⟩ := ih fun y hy => h y (List.mem_cons_of_mem _ hy)
    obtain ⟨z, rfl, h1, h2⟩ := h x List.mem_cons_self
    refine ⟨z :: ys, rfl, fun y hy' => ?_⟩
    rcases List.mem_cons.mp hy' with rfl | hy'
    · exact ⟨h1, h2⟩
    · exact hy y hy'
theorem sum_le {ys : List Str} (h : ∀ y ∈ ys, y.length ≤ n) : (ys.map (·.length)).sum ≤ ys.length * n := by
  induction ys with
  | nil => simp
  | cons y r ih =>
    have := ih fun y hy => h y (List.mem_cons_of_mem _ hy)
    have h1 := h y List.mem_cons_self
    rw [List.map_cons, List.sum_cons, List.length_cons, Nat.succ_mul]
    omega
theorem join_signs {ys : List Str} (h : ∀ y ∈ ys, signs y) : signs (Txt.join "" ys) := by
  unfold signs
  rw [join0, List.all_eq_true]
  intro x hx
  obtain ⟨l, hl, hx⟩ := List.mem_flatten.mp hx
  obtain ⟨y, hy, rfl⟩ := List.mem_map.mp hl
  have := h y hy
  unfold signs at this
  rw [List.all_eq_true] at this
  exact this x hx
theorem join_len (ys : List Str) : (Txt.join "" ys).length = (ys.map (·.length)).sum := by
  show (Txt.join "" ys).cps.size = _
  rw [← Array.length_toList, join0, List.length_flatten, List.map_map]
  congr 1
theorem emp_len : ("" : Str).length = 0 := by decide +kernel
theorem evp_join (hb : EvLP tb σ H n (Tx m)) (hm : n * m ≤ k) (hk : k ≤ 100000) : EvP (tM1 (rJoin K) (tC (.str "")) tb) σ H (Tx k) := fun H1 e _ q =>
  ⟨⟨"", rfl⟩, hb H1 e _ fun p xs H2 hp e2 h2 hl hx => by
    obtain ⟨ys, rfl, hy⟩ := strs_of hx
    rw [List.length_map] at hl
    have h1 := sum_le (n := m) fun y hy' => (hy y hy').1
    have h3 : ys.length * m ≤ n * m := Nat.mul_le_mul_right m hl
    exact ⟨"", p, ys, rfl, rfl, Or.inl (sq_of h2), by rw [emp_len, Nat.mul_zero, Nat.add_zero]; omega, q _ H2 e2 ⟨_, rfl, by rw [join_len]; omega, join_signs fun y hy' => (hy y hy').2⟩⟩⟩
/-! ### comprehensions -/
def Cp (H : Hp) (P : V → Prop) (Dl : Addr) (i : Nat) (H' : Hp) : Prop := H Dl = none ∧ Ex H H' ∧ ∃ xs, H' Dl = some (.lst xs) ∧ xs.length ≤ i ∧ ∀ x ∈ xs, P x
theorem cp_turn {Dl : Addr} {i : Nat} {σ2 : L2.St} (p : Cp H P Dl i H') (hi : i < 50000) (he : EvP te σ2 H P) :
    tYes σ2 H' fun b H3 => if b = true then te σ2 H3 fun y H4 => ∃ acc, H4 Dl = some (.lst acc) ∧ acc.length < sizeLine ∧ Cp H P Dl (i + 1) (upd H4 Dl (.lst (acc ++ [y]))) else Cp H P Dl (i + 1) H3 := by
  obtain ⟨p1, p2, xs, p3, p4, p5⟩ := p
  show te σ2 H' fun y H4 => ∃ acc, H4 Dl = some (.lst acc) ∧ acc.length < sizeLine ∧ Cp H P Dl (i + 1) (upd H4 Dl (.lst (acc ++ [y])))
  refine he H' p2 _ fun v H4 e4 pv => ⟨xs, e4 Dl _ p3, sz_lt (by omega), p1, Ex.mut (p2.trans e4) p1, xs ++ [v], upd_same, by rw [List.length_append, List.length_singleton]; omega, fun x hx => ?_⟩
  rcases List.mem_append.mp hx with hx | hx
  · exact p5 x hx
  · rw [List.mem_singleton] at hx
    exact hx ▸ pv
/-- over a list -/
theorem elp_lcL {a : Addr} {xs : List V} {tl : TE} {j : Nat} {vs : List Nat} (h : Ev tl σ H (.ref a)) (hx : SqL K H a xs) (hz : xs.length ≤ n) (hn : n ≤ 40000) (hw : ∀ x, wipe ((wipe σ vs).set j (some x)) vs = wipe σ vs)
    (he : ∀ (i : Nat) (x : V) H1, Ex H H1 → xs[i]? = some x → EvP te ((wipe σ vs).set j (some x)) H1 P) : EvLP (tLc (iList K tl) (gName j) tYes te vs) σ H n P := fun H0 e Q q => h H0 e _ fun H1 e1 => ⟨a, rfl, ⟨xs, ex_l (e.trans e1) hx⟩, fun Dl hD =>
  lc_list (xs := xs) (Cp H1 P Dl) ⟨hD, Ex.new hD, [], upd_same, Nat.le_refl _, fun _ h => nomatch h⟩ (fun i H' _ p => ex_l ((e.trans e1).trans p.2.1) hx) (fun i x H' hi p => ⟨hw x, cp_turn p (by have := (List.getElem?_eq_some_iff.mp hi).1; omega) (he i x H1 (e.trans e1) hi)⟩)
    (fun H' p => by
      obtain ⟨p1, p2, ys, p3, p4, p5⟩ := p
      exact q Dl ys H' (fresh_back e1 p1) (e1.trans p2) p3 (by omega) p5)⟩
/-- over a range -/
theorem elp_lcR {ta : TA} {j : Nat} {vs : List Nat} {i : Int} (h : EvA ta σ H [.int i]) (hi : i ≤ n) (h0 : 0 ≤ i) (hn : n ≤ 40000) (hw : ∀ x, wipe ((wipe σ vs).set j (some x)) vs = wipe σ vs)
    (he : ∀ (c : Nat) H1, Ex H H1 → (c : Int) < i → EvP te ((wipe σ vs).set j (some (.int (c : Int)))) H1 P) : EvLP (tLc (iRng1 ta) (gName j) tYes te vs) σ H n P := fun H0 e Q q => h H0 e _ fun H1 e1 => ⟨i, rfl, by omega, by omega, fun Dl hD =>
  lc_range (lo := 0) (n := i.toNat) (Cp H1 P Dl) ⟨hD, Ex.new hD, [], upd_same, Nat.le_refl _, fun _ h => nomatch h⟩ (fun c H' hc p => by
    have e0 : (0 : Int) + (c : Int) = (c : Int) := Int.zero_add _
    show wipe ((wipe σ vs).set j (some (.int ((0 : Int) + (c : Int))))) vs = wipe σ vs ∧ tYes ((wipe σ vs).set j (some (.int ((0 : Int) + (c : Int))))) H' fun b H3 => if b = true then te ((wipe σ vs).set j (some (.int ((0 : Int) + (c : Int))))) H3 fun y H4 => ∃ acc, H4 Dl = some (.lst acc) ∧ acc.length < sizeLine ∧ Cp H1 P Dl (c + 1) (upd H4 Dl (.lst (acc ++ [y]))) else Cp H1 P Dl (c + 1) H3
    rw [e0]
    exact ⟨hw _, cp_turn p (by omega) (he c H1 (e.trans e1) (by omega))⟩)
    (fun H' p => by
      obtain ⟨p1, p2, ys, p3, p4, p5⟩ := p
      exact q Dl ys H' (fresh_back e1 p1) (e1.trans p2) p3 (by omega) p5)⟩
/-- over enumerate(list): the pair is new -/
theorem elp_lcE {ta : TA} {a : Addr} {xs : List V} {j1 j2 : Nat} {vs : List Nat} (h : EvA ta σ H [.ref a]) (hx : SqL K H a xs) (hz : xs.length ≤ n) (hn : n ≤ 40000)
    (hw : ∀ x y, wipe (((wipe σ vs).set j1 (some x)).set j2 (some y)) vs = wipe σ vs)
    (he : ∀ (i : Nat) (x : V) H1, Ex H H1 → xs[i]? = some x → EvP te (((wipe σ vs).set j1 (some (.int i))).set j2 (some x)) H1 P) :
    EvLP (tLc (iEnum K ta) (gTup K 2 (gCons (gName j1) (gCons (gName j2) gNil))) tYes te vs) σ H n P := fun H0 e Q q =>
  h H0 e _ fun H1 e1 => ⟨a, xs, rfl, ex_l (e.trans e1) hx, fun Dl hD =>
    lc_it (walk_enum (K := K) (a := a) (xs := xs)) (Cp H1 P Dl) ⟨hD, Ex.new hD, [], upd_same, Nat.le_refl _, fun _ h => nomatch h⟩ (fun i H' _ p => ex_l ((e.trans e1).trans p.2.1) hx) (fun i x H2 H3 hi p y => by
      obtain ⟨T, a1, a2, rfl, hT, rfl, h1, h2⟩ := y
      cases h1
      obtain ⟨p1, p2, ys, p3, p4, p5⟩ := p
      have p' : Cp H1 P Dl i (upd H2 T (.tup [.int (i : Nat), a2])) := ⟨p1, p2.trans (Ex.new hT), ys, by rw [upd_ne (ne_of_none p3 hT)]; exact p3, p4, p5⟩
      exact ⟨T, _, rfl, st_of upd_same, rfl, _, _, rfl, _, [], rfl, rfl, hw _ _, cp_turn p' (by omega) (he i a2 H1 (e.trans e1) h2)⟩)
      (fun H' p => by
        obtain ⟨p1, p2, ys, p3, p4, p5⟩ := p
        exact q Dl ys H' (fresh_back e1 p1) (e1.trans p2) p3 (by omega) p5)⟩
/-- the same, some fall away: told -/
theorem el_lcE {ta : TA} {a : Addr} {xs : List V} {j1 j2 : Nat} {vs : List Nat} (f : Nat → Bool) (g : Nat → V) (h : EvA ta σ H [.ref a]) (hx : SqL K H a xs) (hz : xs.length ≤ 40000)
    (hw : ∀ x y, wipe (((wipe σ vs).set j1 (some x)).set j2 (some y)) vs = wipe σ vs)
    (ht : ∀ (i : Nat) (x : V) H1, Ex H H1 → xs[i]? = some x → EvT t (((wipe σ vs).set j1 (some (.int i))).set j2 (some x)) H1 (f i))
    (he : ∀ (i : Nat) (x : V) H1, Ex H H1 → xs[i]? = some x → f i = true → Ev te (((wipe σ vs).set j1 (some (.int i))).set j2 (some x)) H1 (g i)) :
    EvL (tLc (iEnum K ta) (gTup K 2 (gCons (gName j1) (gCons (gName j2) gNil))) t te vs) σ H (given xs.length f g) := fun H0 e Q q =>
  h H0 e _ fun H1 e1 => ⟨a, xs, rfl, ex_l (e.trans e1) hx, fun Dl hD =>
    lc_it (walk_enum (K := K) (a := a) (xs := xs)) (Cw H1 f g Dl) ⟨hD, Ex.new hD, upd_same⟩ (fun i H' _ p => ex_l ((e.trans e1).trans p.2.1) hx) (fun i x H2 H3 hi p y => by
      obtain ⟨T, a1, a2, rfl, hT, rfl, h1, h2⟩ := y
      cases h1
      have p' : Cw H1 f g Dl i (upd H2 T (.tup [.int (i : Nat), a2])) := ⟨p.1, p.2.1.trans (Ex.new hT), by rw [upd_ne (ne_of_none p.2.2 hT)]; exact p.2.2⟩
      exact ⟨T, _, rfl, st_of upd_same, rfl, _, _, rfl, _, [], rfl, rfl, hw _ _, cw_turn p' (by omega) (ht i a2 H1 (e.trans e1) h2) fun hf => he i a2 H1 (e.trans e1) h2 hf⟩)
      (fun H' p => q Dl H' (fresh_back e1 p.1) (e1.trans p.2.1) p.2.2)⟩
/-! ### calls and statements -/
def SpP (pre : List V → Hp → Prop) (P : V → Prop) : Sp := fun vs H Q _ => pre vs H ∧ ∀ v H', Ex H H' → P v → Q v H'
theorem evp_call {pre : List V → Hp → Prop} {dvs vs : List V} {E : XK} {ta : TA} (h : EvA ta σ H vs) (hs : ∀ H1, Ex H H1 → pre (vs ++ dvs) H1) : EvP (tCall (SpP pre P) dvs E ta) σ H P := fun H1 e _ q =>
  h H1 e _ fun H2 e2 => ⟨hs H2 (e.trans e2), fun v H3 e3 p => q v H3 (e2.trans e3) p⟩
variable {D : Ends} {tz : TS}
theorem q_asgP {i : Nat} (h : EvP te σ H P) (k : ∀ v H1, Ex H H1 → P v → tz D (σ.set i (some v)) H1) : tSeq (tAsg te (gName i)) tz D σ H := h H (Ex.refl H) _ fun v H1 e p => k v H1 e p
theorem q_asgLP {i : Nat} (h : EvLP te σ H n P) (k : ∀ p xs H1, H p = none → Ex H H1 → H1 p = some (.lst xs) → xs.length ≤ n → (∀ x ∈ xs, P x) → tz D (σ.set i (some (.ref p))) H1) : tSeq (tAsg te (gName i)) tz D σ H := h H (Ex.refl H) _ k
theorem s_retP (h : EvP te σ H P) (k : ∀ v H1, Ex H H1 → P v → D.rt v H1) : tRet te D σ H := h H (Ex.refl H) _ k
theorem s_retLP (h : EvLP te σ H n P) (k : ∀ p xs H1, H p = none → Ex H H1 → H1 p = some (.lst xs) → xs.length ≤ n → (∀ x ∈ xs, P x) → D.rt (.ref p) H1) : tRet te D σ H := h H (Ex.refl H) _ k
end
section
variable {K : PySem.W.Frag} {σ : L2.St} {H H' : Hp} {ta tb tc te tx : TE} {t u : TT} {x y z v : V} {r : R2} {P P1 P2 : V → Prop} {n m k : Nat} {D : Ends} {tz : TS}
theorem ev_neNil {p : Addr} {xs : List V} (ha : Ev ta σ H (.ref p)) (hp : H p = some (.lst xs)) (hf : xs.all flatOk = true) : Ev (tOp (rNeD K) ta (tLst tNil)) σ H (.bl (!xs.isEmpty)) := fun H1 e Q q =>
  ha H1 e _ fun H2 e2 => ⟨by show 0 ≤ sizeLine; exact Nat.zero_le _, fun l hl => by
    have e3 : Ex H2 (upd H2 l (.lst [])) := Ex.new hl
    refine ⟨.list (xs.map dpOf), .list [], .lst (sq_of (e3 p _ (e2 p _ (e p _ hp)))) (dps_flat hf), .lst (sq_of upd_same) .nil, shaped_flat hf, by decide, ?_⟩
    have z : PyData.eqv (.list (xs.map dpOf)) (.list []) = xs.isEmpty := by
      cases xs <;> rfl
    rw [z]
    exact q _ (e2.trans e3)⟩
/-- xs.append(e), e of a kind -/
theorem q_appP {l : Addr} {xs : List V} (hl : H l = some (.lst xs)) (ha : Ev ta σ H (.ref l)) (h : EvP te σ H P) (hz : xs.length < 100000) (k : ∀ v H1, Ex H H1 → P v → tz D σ (upd H1 l (.lst (xs ++ [v])))) :
    tSeq (tDrop (tBM K "list" rAppend ta (tCons te tNil))) tz D σ H := ha H (Ex.refl H) _ fun H1 e1 =>
  ⟨Or.inl ⟨rfl, xs, sq_of (e1 l _ hl)⟩, h H1 e1 _ fun v H2 e2 p => ⟨l, xs, v, rfl, rfl, e2 l _ (e1 l _ hl), sz_lt hz, k v H2 (e1.trans e2) p⟩⟩
/-! ### displays of things of a kind, by the heap -/
def EvG (R : Hp → V → Prop) (te : TE) (σ : L2.St) (H : Hp) : Prop := ∀ H1, Ex H H1 → ∀ Q : VK, (∀ v H2, Ex H1 H2 → R H2 v → Q v H2) → te σ H1 Q
def EvGs (R : Hp → V → Prop) (ta : TA) (σ : L2.St) (H : Hp) (n : Nat) : Prop := ∀ H1, Ex H H1 → ∀ Q : List V → Hp → Prop, (∀ vs H2, Ex H1 H2 → vs.length = n → (∀ v ∈ vs, R H2 v) → Q vs H2) → ta σ H1 Q
variable {R : Hp → V → Prop}
theorem eg_v (h : Ev te σ H v) (p : ∀ H1, Ex H H1 → R H1 v) : EvG R te σ H := fun H1 e _ q => h H1 e _ fun H2 e2 => q v H2 e2 (p H2 (e.trans e2))
theorem eg_l {xs : List V} (h : EvL te σ H xs) (p : ∀ a H1, H1 a = some (.lst xs) → R H1 (.ref a)) : EvG R te σ H := fun H1 e _ q => h H1 e _ fun a H2 _ e2 h2 => q _ H2 e2 (p a H2 h2)
theorem eg_u {xs : List V} (h : EvU te σ H xs) (p : ∀ a H1, H1 a = some (.tup xs) → R H1 (.ref a)) : EvG R te σ H := fun H1 e _ q => h H1 e _ fun a H2 _ e2 h2 => q _ H2 e2 (p a H2 h2)
theorem eg_d (p : ∀ a H1, H1 a = some (.dK []) → R H1 (.ref a)) : EvG R tDNewK σ H := fun H1 e _ q => fun a ha => q _ _ (Ex.new ha) (p a _ upd_same)
theorem egs_nil : EvGs R tNil σ H 0 := fun H1 _ _ q => q [] H1 (Ex.refl H1) rfl fun _ h => nomatch h
theorem egs_cons (mo : ∀ H H' v, Ex H H' → R H v → R H' v) {tr : TA} (h : EvG R te σ H) (hr : EvGs R tr σ H n) : EvGs R (tCons te tr) σ H (n + 1) := fun H1 e _ q =>
  h H1 e _ fun v H2 e2 hv => hr H2 (e.trans e2) _ fun vs H3 e3 hl hvs => q (v :: vs) H3 (e2.trans e3) (by rw [List.length_cons, hl]) fun w hw => by
    rcases List.mem_cons.mp hw with rfl | hw
    · exact mo _ _ _ e3 hv
    · exact hvs w hw
/-- one of a display -/
theorem q_asgIx (mo : ∀ H H' v, Ex H H' → R H v → R H' v) {ta : TA} {j : Nat} {i : Int} (h : EvGs R ta σ H n) (hb : ∀ H1, Ex H H1 → Ev tb σ H1 (.int i)) (h0 : 0 ≤ i) (h1 : i < n) (hn : n ≤ 1000)
    (k : ∀ v H1, Ex H H1 → R H1 v → tz D (σ.set j (some v)) H1) : tSeq (tAsg (tOp (rIxL K) (tLst ta) tb) (gName j)) tz D σ H :=
  h H (Ex.refl H) _ fun vs H1 e hl hvs => ⟨by rw [hl]; exact sz_of (by omega), fun p hp => by
    have e2 : Ex H1 (upd H1 p (.lst vs)) := Ex.new hp
    refine hb _ (e.trans e2) _ (Ex.refl _) _ fun H3 e3 => ?_
    obtain ⟨v, hv, vm⟩ := at_mem (xs := vs) (i := i) h0 (by rw [hl]; exact h1)
    exact ⟨p, vs, i, v, rfl, rfl, sq_of (e3 _ _ upd_same), hv, k v H3 ((e.trans e2).trans e3) (mo _ _ _ (e2.trans e3) (hvs v vm))⟩⟩
end
/-! ### drawn signs of a text -/
def drawnW (w : Str) (n : Nat) (g : Nat → Int) : Str := Txt.join "" ((List.range n).map fun i => sgn w (g i))
theorem drawnW_len (w : Str) (n : Nat) (g : Nat → Int) : (drawnW w n g).length = n := by
  unfold drawnW
  rw [join_len, List.map_map]
  induction n with
  | zero => rfl
  | succ n ih =>
    rw [List.range_succ, List.map_append, List.sum_append, ih]
    rfl
theorem drawnW_signs {w : Str} (h : signs w) (n : Nat) (g : Nat → Int) : signs (drawnW w n g) := join_signs fun y hy => by
  obtain ⟨i, _, rfl⟩ := List.mem_map.mp hy
  exact sgn_signs h _
theorem sum_onesW {w : Str} {n : Nat} {g : Nat → Int} : ((((List.range n).map fun i => sgn w (g i)).map (·.length)).sum + ((List.range n).map fun i => sgn w (g i)).length * ("" : Str).length) = n := by
  rw [emp_len, Nat.mul_zero, Nat.add_zero, List.map_map]
  induction n with
  | zero => rfl
  | succ n ih =>
    rw [List.range_succ, List.map_append, List.sum_append, ih]
    rfl
end Evl

set_option Elab.async false
set_option linter.all false
set_option maxRecDepth 100000
set_option maxHeartbeats 2000000
/-! Drawn places of a condition, and what their text reads as. -/
namespace Prt
open PySem L2 Evl Com TX Rd
/-- the text of a place, and the letters that it lets -/
def Good (t l : Str) : Prop := ∃ c r, L t = c :: r ∧ ∀ s, place c (r ++ s) = some (L l, s)
theorem rdAll_good {t l : Str} (h : Good t l) (s : List Nat) : rdAll (L t ++ s) = (rdAll s).map (L l :: ·) := by
  obtain ⟨c, r, h1, h2⟩ := h
  rw [h1, List.cons_append, rdAll_cons, h2 s]
  rfl
theorem rdAll_goods : ∀ (ps : List (Str × Str)), (∀ p ∈ ps, Good p.1 p.2) → rdAll ((ps.map fun p => L p.1).flatten) = some (ps.map fun p => L p.2)
  | [], _ => rfl
  | p :: r, h => by
    rw [List.map_cons, List.flatten_cons, rdAll_good (h p List.mem_cons_self), rdAll_goods r fun q hq => h q (List.mem_cons_of_mem _ hq)]
    rfl
theorem conds_goods {ps : List (Str × Str)} (h : ∀ p ∈ ps, Good p.1 p.2) (hl : ps.length ≤ 3) : conds (L (Txt.join "" (ps.map Prod.fst))) = some (ps.map fun p => L p.2) := by
  refine conds_of ?_ (by rw [List.length_map]; omega)
  show rdAll (Txt.join "" (ps.map Prod.fst)).cps.toList = _
  rw [join0, List.map_map]
  exact rdAll_goods ps h
theorem small_bd {c : Nat} (h : small c = true) : 97 ≤ c ∧ c ≤ 122 := by
  unfold small at h
  simpa using h
theorem good_dot : Good "." alph := ⟨46, [], by decide +kernel, fun s => rfl⟩
theorem good_one {c : Nat} (h : small c = true) : Good (T [c]) (T [c]) := by
  have hb := small_bd h
  refine ⟨c, [], L_T [c], fun s => ?_⟩
  unfold place
  rw [if_neg (by omega), if_neg (by omega), if_pos h, L_T]
  rfl
theorem ahead_mid {c : Nat} : ∀ {l : List Nat} (s : List Nat), c ∉ l → ahead c (l ++ c :: s) = l
  | [], s, _ => by
    unfold ahead
    rw [List.nil_append, List.takeWhile_cons, if_neg (by simp)]
  | a :: l, s, h => by
    unfold ahead
    have h1 : a ≠ c := fun e => h (e ▸ List.mem_cons_self)
    rw [List.cons_append, List.takeWhile_cons, if_pos (by simp [h1])]
    have := ahead_mid (l := l) s (fun hc => h (List.mem_cons_of_mem _ hc))
    unfold ahead at this
    rw [this]
theorem no93 {cs : List Nat} (h : ∀ c ∈ cs, small c = true) : 93 ∉ cs := fun hc => by
  have := small_bd (h _ hc)
  omega
theorem okBr_of {cs : List Nat} (h : ∀ c ∈ cs, small c = true) (hn : cs.Nodup) (h1 : 1 ≤ cs.length) (h8 : cs.length ≤ 8) : okBr cs = true := by
  unfold okBr
  rw [List.all_eq_true.mpr h, decide_eq_true hn, decide_eq_true h1, decide_eq_true h8]
  rfl
theorem good_in {cs : List Nat} (h : ∀ c ∈ cs, small c = true) (hn : cs.Nodup) (h1 : 1 ≤ cs.length) (h8 : cs.length ≤ 8) : Good ("[" ++ T cs ++ "]") (T cs) := by
  have o1 : L "[" = [91] := by decide +kernel
  have o2 : L "]" = [93] := by decide +kernel
  refine ⟨91, cs ++ [93], by rw [L_add, L_add, o1, o2, L_T]; rfl, fun s => ?_⟩
  rw [List.append_assoc]
  have ea : ahead 93 (cs ++ 93 :: s) = cs := ahead_mid s (no93 h)
  have h0 : ¬ cs[0]? = some 94 := by
    cases cs with
    | nil => simp at h1
    | cons c r =>
      have := small_bd (h c List.mem_cons_self)
      simp
      omega
  show brk (cs ++ 93 :: s) = _
  unfold brk
  rw [if_pos (by simp), ea]
  have ec : core cs = cs := by unfold core; rw [if_neg h0]
  have el : lets' cs = cs := by unfold lets'; rw [if_neg h0]
  rw [ec, el, if_pos (okBr_of h hn h1 h8), L_T]
  congr 2
  rw [show cs ++ 93 :: s = (cs ++ [93]) ++ s by simp, List.drop_append_of_le_length (by simp), List.drop_of_length_le (by simp)]
  rfl
theorem good_out {cs : List Nat} (h : ∀ c ∈ cs, small c = true) (hn : cs.Nodup) (h1 : 1 ≤ cs.length) (h8 : cs.length ≤ 8) : Good ("[^" ++ T cs ++ "]") (T (others cs)) := by
  have o1 : L "[^" = [91, 94] := by decide +kernel
  have o2 : L "]" = [93] := by decide +kernel
  refine ⟨91, 94 :: (cs ++ [93]), by rw [L_add, L_add, o1, o2, L_T]; rfl, fun s => ?_⟩
  have ea : ahead 93 ((94 :: cs) ++ 93 :: s) = 94 :: cs := ahead_mid s (by
    intro hc
    rcases List.mem_cons.mp hc with hc | hc
    · cases hc
    · exact no93 h hc)
  have e0 : 94 :: (cs ++ [93]) ++ s = (94 :: cs) ++ 93 :: s := by simp
  rw [e0]
  show brk ((94 :: cs) ++ 93 :: s) = _
  unfold brk
  rw [if_pos (by simp), ea]
  have ec : core (94 :: cs) = cs := rfl
  have el : lets' (94 :: cs) = others cs := rfl
  rw [ec, el, if_pos (okBr_of h hn h1 h8), L_T]
  congr 2
  rw [show (94 :: cs) ++ 93 :: s = ((94 :: cs) ++ [93]) ++ s by simp, List.drop_append_of_le_length (by simp), List.drop_of_length_le (by simp)]
  rfl
/-- single letters -/
def One (y : Str) : Prop := ∃ c, y = T [c] ∧ small c = true
theorem ones_of {ys : List Str} (h : ∀ y ∈ ys, One y) : ∃ cs : List Nat, ys = cs.map (fun c => T [c]) ∧ ∀ c ∈ cs, small c = true := by
  induction ys with
  | nil => exact ⟨[], rfl, fun _ h => nomatch h⟩
  | cons y r ih =>
    obtain ⟨cs, e, hc⟩ := ih fun z hz => h z (List.mem_cons_of_mem _ hz)
    obtain ⟨c, rfl, hs⟩ := h y List.mem_cons_self
    refine ⟨c :: cs, by rw [List.map_cons, e], fun d hd => ?_⟩
    rcases List.mem_cons.mp hd with rfl | hd
    · exact hs
    · exact hc d hd
theorem join_ones (cs : List Nat) : Txt.join "" (cs.map fun c => T [c]) = T cs := by
  refine eq_L ?_
  rw [L_T]
  show (Txt.join "" (cs.map fun c => T [c])).cps.toList = cs
  rw [join0, List.map_map]
  induction cs with
  | nil => rfl
  | cons c r ih =>
    rw [List.map_cons, List.flatten_cons, ih]
    rfl
theorem nodup_ones {cs : List Nat} (h : (cs.map fun c => T [c]).Nodup) : cs.Nodup := by
  unfold List.Nodup at *
  rw [List.pairwise_map] at h
  exact h.imp fun {a b} hne (e : a = b) => hne (by rw [e])
theorem lets_signs {z : Str} (h : lets z = true) : signs z := by
  unfold lets at h
  unfold signs
  rw [List.all_eq_true] at h ⊢
  intro x hx
  have := small_bd (h x hx)
  simp only [decide_eq_true_eq]
  omega
theorem lets_T {l : List Nat} : lets (T l) = true ↔ ∀ c ∈ l, small c = true := by
  show (L (T l)).all small = true ↔ _
  rw [L_T, List.all_eq_true]
theorem sgn_small {w : Str} (h : lets w = true) {i : Int} (h0 : 0 ≤ i) (h1 : i < w.cps.toList.length) : One (sgn w i) := by
  obtain ⟨j, rfl⟩ : ∃ j : Nat, i = (j : Int) := ⟨i.toNat, by omega⟩
  have hj : j < w.cps.toList.length := by omega
  refine ⟨w.cps.toList.getD j 0, rfl, ?_⟩
  unfold lets at h
  rw [List.all_eq_true] at h
  refine h _ ?_
  rw [List.getD_eq_getElem?_getD, List.getElem?_eq_getElem hj]
  exact List.getElem_mem hj
theorem drawnW_lets {w : Str} (h : lets w = true) (n : Nat) (g : Nat → Int) (hg : ∀ i, 0 ≤ g i ∧ g i < w.cps.toList.length) : lets (drawnW w n g) = true := by
  obtain ⟨cs, e, hc⟩ := ones_of (ys := (List.range n).map fun i => sgn w (g i)) fun y hy => by
    obtain ⟨i, _, rfl⟩ := List.mem_map.mp hy
    exact sgn_small h (hg i).1 (hg i).2
  unfold drawnW
  rw [e, join_ones, lets_T]
  exact hc
theorem dedup_one {ws : List Str} (h : 1 ≤ ws.length) (hw : ∀ y ∈ ws, One y) :
    ∃ cs : List Nat, given ws.length (fun i => !inV (.str (ws.getD i "")) (cutV (ws.map V.str) none (some (i : Int)))) (fun i => .str (ws.getD i "")) = (cs.map fun c => T [c]).map V.str ∧ 1 ≤ cs.length ∧ cs.length ≤ ws.length ∧ (∀ c ∈ cs, small c = true) ∧ cs.Nodup := by
  have inV_strs : ∀ {x : Str} {ys : List Str}, inV (.str x) (ys.map V.str) = decide (x ∈ ys) := by
    intro x ys
    unfold inV
    rw [List.any_map, Bool.eq_iff_iff, List.any_eq_true, decide_eq_true_eq]
    constructor
    · rintro ⟨y, hy, e⟩
      have : (y == x) = true := e
      exact (eq_of_beq this) ▸ hy
    · intro h
      exact ⟨x, h, by show (x == x) = true; exact beq_self_eq_true x⟩
  have cutm : ∀ i : Nat, cutV (ws.map V.str) none (some (i : Int)) = (ws.take i).map V.str := by
    intro i
    unfold cutV
    rw [HT.sIx_nat]
    have e : HT.sIx (ws.map V.str).length 0 none = 0 := rfl
    rw [e, List.drop_zero, Nat.sub_zero, List.map_take, List.length_map]
    by_cases hi : i ≤ ws.length
    · rw [Nat.min_eq_left hi]
    · rw [Nat.min_eq_right (by omega), List.take_of_length_le (by rw [List.length_map]; exact Nat.le_refl _), List.take_of_length_le (by rw [List.length_map]; omega)]
  generalize hk : (fun i : Nat => !inV (.str (ws.getD i "")) (cutV (ws.map V.str) none (some (i : Int)))) = keep
  have keep_of : ∀ i, keep i = !decide (ws.getD i "" ∈ ws.take i) := by
    intro i
    rw [← hk]
    show (!inV _ _) = _
    rw [cutm, inV_strs]
  have hget : ∀ i, i < ws.length → ws.getD i "" ∈ ws := by
    intro i hi
    rw [List.getD_eq_getElem?_getD, List.getElem?_eq_getElem hi]
    exact List.getElem_mem hi
  obtain ⟨cs, e, hc⟩ := ones_of (ys := ((List.range ws.length).filter keep).map fun i => ws.getD i "") fun y hy => by
    obtain ⟨i, hi, rfl⟩ := List.mem_map.mp hy
    exact hw _ (hget i (List.mem_range.mp (List.mem_filter.mp hi).1))
  have el : cs.length = ((List.range ws.length).filter keep).length := by
    have := congrArg List.length e
    rw [List.length_map, List.length_map] at this
    exact this.symm
  refine ⟨cs, ?_, ?_, ?_, hc, ?_⟩
  · rw [← e, List.map_map]
    rfl
  · rw [el]
    refine List.length_pos_of_mem (a := 0) (List.mem_filter.mpr ⟨List.mem_range.mpr h, ?_⟩)
    rw [keep_of]
    simp
  · rw [el]
    have := List.length_filter_le keep (List.range ws.length)
    rw [List.length_range] at this
    exact this
  · refine nodup_ones ?_
    rw [← e]
    unfold List.Nodup
    rw [List.pairwise_map]
    refine List.Pairwise.imp_of_mem ?_ (List.pairwise_lt_range.filter keep)
    intro i j hi hj hlt he
    have h1 := (List.mem_filter.mp hj).2
    rw [keep_of, ← he] at h1
    have hi' := List.mem_range.mp (List.mem_filter.mp hi).1
    have : ws.getD i "" ∈ ws.take j := by
      rw [List.getD_eq_getElem?_getD, List.getElem?_eq_getElem hi']
      rw [List.mem_take_iff_getElem]
      exact ⟨i, by omega, rfl⟩
    rw [decide_eq_true this] at h1
    cases h1
/-! ### great letters -/
abbrev gre : Str := "ABCDEFGHIJKLMNOPQRSTUVWXYZ"
theorem gre_list : gre.cps.toList.length = 26 := by decide +kernel
theorem gre_len : gre.length = 26 := by decide +kernel
theorem gre_at : ∀ k, k < 26 → gre.cps.toList.getD k 0 = 65 + k := by decide +kernel
def furs (n : Int) : List Nat := (List.range (n % 4).toNat).map fun (j : Nat) => gre.cps.toList.getD ((n / 4 + (j : Int) * (1 + n / 200 % 8)) % 26).toNat 0
theorem furs_at (x : Int) : gre.cps.toList.getD (x % 26).toNat 0 = 65 + (x % 26).toNat := gre_at _ (by omega)
theorem furs_len (n : Int) : (furs n).length ≤ 3 := by
  unfold furs
  rw [List.length_map, List.length_range]
  omega
theorem furs_big (n : Int) : ∀ c ∈ furs n, 65 ≤ c ∧ c ≤ 90 := by
  intro c hc
  obtain ⟨j, _, rfl⟩ := List.mem_map.mp hc
  rw [furs_at]
  omega
theorem furs_nodup (n : Int) (hn : 0 ≤ n) : (furs n).Nodup := by
  unfold furs List.Nodup
  rw [List.pairwise_map]
  refine List.Pairwise.imp_of_mem ?_ List.pairwise_lt_range
  intro i j hi hj hlt he
  have hj' := List.mem_range.mp hj
  rw [furs_at, furs_at] at he
  have hcase : (i = 0 ∧ j = 1) ∨ (i = 0 ∧ j = 2) ∨ (i = 1 ∧ j = 2) := by omega
  rcases hcase with ⟨rfl, rfl⟩ | ⟨rfl, rfl⟩ | ⟨rfl, rfl⟩ <;> omega
theorem rising_ones : ∀ (l : List Nat) (c : Nat), PyProof.Rows.risingS (T [c]) (l.map fun c => T [c]) = true → (c :: l).Pairwise (· ≤ ·)
  | [], c, _ => by simp
  | d :: r, c, h => by
    have h' : (!Spec.ltCps [d] [c] && PyProof.Rows.risingS (T [d]) (r.map fun c => T [c])) = true := h
    rw [Bool.and_eq_true] at h'
    have hr := rising_ones r d h'.2
    have hcd : c ≤ d := by
      have h1 := h'.1
      have e : Spec.ltCps [d] [c] = (decide (d < c) || (d == c && false)) := rfl
      rw [e, Bool.and_false, Bool.or_false] at h1
      simpa using h1
    rw [List.pairwise_cons]
    refine ⟨fun x hx => ?_, hr⟩
    rcases List.mem_cons.mp hx with rfl | hx
    · exact hcd
    · exact Nat.le_trans hcd ((List.pairwise_cons.mp hr).1 x hx)
theorem sorted_ones {l : List Nat} (h : PyProof.Rows.sortedS (l.map fun c => T [c]) = true) : l.Pairwise (· ≤ ·) := by
  cases l with
  | nil => simp
  | cons c r => exact rising_ones r c h
theorem sorted_perm {ys : List Str} {cs : List Nat} (hp : ys.Perm (cs.map fun c => T [c])) (hs : PyProof.Rows.sortedS ys = true) (hn : cs.Nodup) :
    ∃ g : List Nat, ys = g.map (fun c => T [c]) ∧ g.Perm cs ∧ g.Pairwise (· < ·) := by
  have e : ys = (ys.map fun y => (L y).getD 0 0).map fun c => T [c] := by
    rw [List.map_map]
    conv => lhs; rw [← List.map_id ys]
    refine List.map_congr_left fun y hy => ?_
    obtain ⟨c, _, rfl⟩ := List.mem_map.mp (hp.mem_iff.mp hy)
    show T [c] = T [(L (T [c])).getD 0 0]
    rw [L_T]
    rfl
  refine ⟨ys.map fun y => (L y).getD 0 0, e, ?_, ?_⟩
  · have := hp.map fun y => (L y).getD 0 0
    rw [List.map_map] at this
    refine this.trans (List.Perm.of_eq ?_)
    conv => rhs; rw [← List.map_id cs]
    refine List.map_congr_left fun c _ => ?_
    show (L (T [c])).getD 0 0 = c
    rw [L_T]
    rfl
  · have h1 : (ys.map fun y => (L y).getD 0 0).Pairwise (· ≤ ·) := sorted_ones (e ▸ hs)
    have h2 : (ys.map fun y => (L y).getD 0 0).Nodup := by
      refine nodup_ones ?_
      rw [← e]
      refine hp.nodup_iff.mpr ?_
      unfold List.Nodup at *
      rw [List.pairwise_map]
      exact hn.imp fun hne he => hne (by have := T_inj he; simpa using this)
    unfold List.Nodup at h2
    exact h1.imp₂ (fun a b hle hne => Nat.lt_of_le_of_ne hle hne) h2
theorem strip_all (z w : Str) : decide (V.str (Txt.stripChars z w) = V.str "") = z.cps.toList.all (w.cps.contains) := by
  rw [Bool.eq_iff_iff, decide_eq_true_eq]
  rw [← stripBy_size z, empty_cps]
  constructor
  · intro h
    have h' : Txt.stripChars z w = ⟨#[]⟩ := V.str.inj h
    show (Txt.stripChars z w).cps.size = 0
    rw [h']
    rfl
  · intro h
    have h' : (Txt.stripChars z w).cps.size = 0 := h
    congr 1
    have : (Txt.stripChars z w).cps = #[] := Array.eq_empty_of_size_eq_zero h'
    show (⟨(Txt.stripChars z w).cps⟩ : Str) = ⟨#[]⟩
    rw [this]
theorem gre_cps : gre.cps = #[65, 66, 67, 68, 69, 70, 71, 72, 73, 74, 75, 76, 77, 78, 79, 80, 81, 82, 83, 84, 85, 86, 87, 88, 89, 90] := by decide +kernel
theorem gre_in (c : Nat) : gre.cps.contains c = (decide (65 ≤ c) && decide (c ≤ 90)) := by
  rw [gre_cps, Bool.eq_iff_iff]
  simp only [Bool.and_eq_true, decide_eq_true_eq, Array.contains_iff_mem]
  simp
  omega
theorem strip_gre (z : Str) : decide (V.str (Txt.stripChars z gre) = V.str "") = (L z).all fun c => decide (65 ≤ c) && decide (c ≤ 90) := by
  rw [strip_all]
  congr 1
  funext c
  exact gre_in c
/-- further classes: at most three great letters, rising -/
def Fur (g : List Nat) : Prop := g.length ≤ 3 ∧ (∀ c ∈ g, 65 ≤ c ∧ c ≤ 90) ∧ g.Pairwise (· < ·)
theorem fur_of {n : Int} {g : List Nat} (h : g.Perm (furs n)) (hs : g.Pairwise (· < ·)) : Fur g :=
  ⟨by rw [h.length_eq]; exact furs_len n, fun c hc => furs_big n c (h.mem_iff.mp hc), hs⟩
section
variable {K : PySem.W.Frag} {σ : L2.St} {H : Hp} {tb : TE}
theorem evp_joinSorted {p : Addr} {cs : List Nat} (hb : Ev tb σ H (.ref p)) (hp : H p = some (.lst ((cs.map fun c => T [c]).map V.str))) (hl : cs.length < 64) (hn : cs.Nodup) :
    EvP (tM1 (rJoin K) (tC (.str "")) (tCB (rSortedS K) (tCons tb tNil))) σ H (fun v => ∃ g, v = .str (T g) ∧ g.Perm cs ∧ g.Pairwise (· < ·)) := fun H1 e Q q =>
  ⟨⟨"", rfl⟩, hb H1 e _ fun H2 e2 => ⟨p, cs.map fun c => T [c], rfl, sq_of ((e.trans e2) _ _ hp), by rw [List.length_map]; exact hl, fun ys a hy hs ha => by
    obtain ⟨g, rfl, hg, hr⟩ := sorted_perm hy hs hn
    have hgl := hg.length_eq
    have hsum : ((g.map fun c => T [c]).map (·.length)).sum = g.length := by
      clear hg hr hgl hy hs
      induction g with
      | nil => rfl
      | cons c r ih =>
        rw [List.map_cons, List.map_cons, List.sum_cons, ih, List.length_cons, len_T]
        simp only [List.length_cons, List.length_nil]
        omega
    refine ⟨"", a, g.map fun c => T [c], rfl, rfl, Or.inl (sq_of upd_same), by rw [emp_len, Nat.mul_zero, Nat.add_zero, hsum]; omega, ?_⟩
    exact q _ _ (e2.trans (Ex.new ha)) ⟨g, by rw [join_ones], hg, hr⟩⟩⟩
/-! ### rows of values that are not determined -/
def EvAQ (ta : TA) (σ : L2.St) (H : Hp) (R : List V → Prop) : Prop := ∀ H1, Ex H H1 → ∀ Q : List V → Hp → Prop, (∀ vs H2, Ex H1 H2 → R vs → Q vs H2) → ta σ H1 Q
variable {R : List V → Prop} {tr : TA} {te : TE}
theorem eaq_nil (h : R []) : EvAQ tNil σ H R := fun H1 _ _ q => q [] H1 (Ex.refl H1) h
theorem eaq_v {v : V} (h : Ev te σ H v) (hr : EvAQ tr σ H fun vs => R (v :: vs)) : EvAQ (tCons te tr) σ H R := fun H1 e _ q =>
  h H1 e _ fun H2 e2 => hr H2 (e.trans e2) _ fun vs H3 e3 r => q _ H3 (e2.trans e3) r
theorem eaq_p {P : V → Prop} (h : EvP te σ H P) (hr : ∀ v, P v → EvAQ tr σ H fun vs => R (v :: vs)) : EvAQ (tCons te tr) σ H R := fun H1 e _ q =>
  h H1 e _ fun v H2 e2 p => hr v p H2 (e.trans e2) _ fun vs H3 e3 r => q _ H3 (e2.trans e3) r
theorem s_retUQ {D : Ends} {ta : TA} (h : EvAQ ta σ H R) (hl : ∀ vs, R vs → vs.length ≤ 1000) (k : ∀ p vs H1, R vs → H p = none → Ex H H1 → H1 p = some (.tup vs) → D.rt (.ref p) H1) : tRet (tTup ta) D σ H :=
  h H (Ex.refl H) _ fun vs H1 e r => ⟨sz_of (by have := hl vs r; omega), fun p hp => k p vs _ r (fresh_back e hp) (e.trans (Ex.new hp)) upd_same⟩
/-! ### by the heap -/
variable {P2 : Hp → V → Prop} {Rh : List V → Hp → Prop} {n m : Nat}
def SpG (pre : List V → Hp → Prop) (P : Hp → V → Prop) : Sp := fun vs H Q _ => pre vs H ∧ ∀ v H', Ex H H' → P H' v → Q v H'
theorem eg_call {pre : List V → Hp → Prop} {dvs vs : List V} {E : XK} {ta : TA} (h : EvA ta σ H vs) (hs : ∀ H1, Ex H H1 → pre (vs ++ dvs) H1) : EvG P2 (tCall (SpG pre P2) dvs E ta) σ H := fun H1 e _ q =>
  h H1 e _ fun H2 e2 => ⟨hs H2 (e.trans e2), fun v H3 e3 p => q v H3 (e2.trans e3) p⟩
def EvAR (ta : TA) (σ : L2.St) (H : Hp) (R : List V → Hp → Prop) : Prop := ∀ H1, Ex H H1 → ∀ Q : List V → Hp → Prop, (∀ vs H2, Ex H1 H2 → R vs H2 → Q vs H2) → ta σ H1 Q
theorem ear_nil (h : ∀ H1, Ex H H1 → Rh [] H1) : EvAR tNil σ H Rh := fun H1 e _ q => q [] H1 (Ex.refl H1) (h H1 e)
theorem ear_v {v : V} (h : Ev te σ H v) (hr : EvAR tr σ H fun vs => Rh (v :: vs)) : EvAR (tCons te tr) σ H Rh := fun H1 e _ q =>
  h H1 e _ fun H2 e2 => hr H2 (e.trans e2) _ fun vs H3 e3 r => q _ H3 (e2.trans e3) r
theorem ear_g (mo : ∀ H H' v, Ex H H' → P2 H v → P2 H' v) (h : EvG P2 te σ H) (hr : ∀ v, EvAR tr σ H fun vs H2 => P2 H2 v → Rh (v :: vs) H2) : EvAR (tCons te tr) σ H Rh := fun H1 e _ q =>
  h H1 e _ fun v H2 e2 p => hr v H2 (e.trans e2) _ fun vs H3 e3 r => q _ H3 (e2.trans e3) (r (mo _ _ _ e3 p))
theorem s_retUR {D : Ends} {ta : TA} (h : EvAR ta σ H Rh) (hl : ∀ vs H1, Rh vs H1 → vs.length ≤ 1000) (k : ∀ p vs H1, Rh vs H1 → H p = none → H1 p = none → Ex H H1 → D.rt (.ref p) (upd H1 p (.tup vs))) : tRet (tTup ta) D σ H :=
  h H (Ex.refl H) _ fun vs H1 e r => ⟨sz_of (by have := hl vs H1 r; omega), fun p hp => k p vs _ r (fresh_back e hp) hp e⟩
theorem eg_tup {ta : TA} (h : EvAR ta σ H Rh) (hl : ∀ vs H1, Rh vs H1 → vs.length ≤ 1000) (k : ∀ p vs H1, Rh vs H1 → H1 p = none → P2 (upd H1 p (.tup vs)) (.ref p)) : EvG P2 (tTup ta) σ H := fun H0 e0 Q q =>
  h H0 e0 _ fun vs H1 e r => ⟨sz_of (by have := hl vs H1 r; omega), fun p hp => q _ _ (e.trans (Ex.new hp)) (k p vs H1 r hp)⟩
theorem q_asgG {D : Ends} {tz : TS} {ta : TA} {i : Nat} (h : EvGs P2 ta σ H n) (hn : n ≤ 1000)
    (k : ∀ p xs H1, Ex H H1 → H1 p = some (.lst xs) → xs.length = n → (∀ v ∈ xs, P2 H1 v) → tz D (σ.set i (some (.ref p))) H1) (mo : ∀ H H' v, Ex H H' → P2 H v → P2 H' v) : tSeq (tAsg (tLst ta) (gName i)) tz D σ H :=
  h H (Ex.refl H) _ fun vs H1 e hl hvs => ⟨sz_of (by omega), fun p hp => k p vs _ (e.trans (Ex.new hp)) upd_same hl fun v hv => mo _ _ _ (Ex.new hp) (hvs v hv)⟩
/-- a list and a display behind it -/
theorem q_asgGc {D : Ends} {tz : TS} {ta : TA} {i a : Nat} {p0 : Addr} {xs : List V} (hi : σ[a]? = some (some (.ref p0))) (h0 : H p0 = some (.lst xs)) (hx : ∀ v ∈ xs, P2 H v) (h : EvGs P2 ta σ H n) (hn : xs.length + n ≤ 1000)
    (k : ∀ p ys H1, Ex H H1 → H1 p = some (.lst ys) → ys.length = xs.length + n → (∀ v ∈ ys, P2 H1 v) → tz D (σ.set i (some (.ref p))) H1) (mo : ∀ H H' v, Ex H H' → P2 H v → P2 H' v) : tSeq (tAsg (tOp rCat (tVar a) (tLst ta)) (gName i)) tz D σ H :=
  show tOp rCat (tVar a) (tLst ta) σ H _ from (show tVar a σ H _ from ev_var hi H (Ex.refl H) _ fun H1 e1 => h H1 e1 _ fun vs H2 e2 hl hvs => ⟨sz_of (by omega), fun p hp => by
    have e3 : Ex H2 (upd H2 p (.lst vs)) := Ex.new hp
    have hp0 : (upd H2 p (.lst vs)) p0 = some (.lst xs) := ((e1.trans e2).trans e3) _ _ h0
    refine ⟨p0, p, xs, vs, rfl, rfl, hp0, upd_same, sz_of (by omega), fun l hl' => ?_⟩
    have e4 : Ex (upd H2 p (.lst vs)) (upd (upd H2 p (.lst vs)) l (.lst (xs ++ vs))) := Ex.new hl'
    refine k l (xs ++ vs) _ (((e1.trans e2).trans e3).trans e4) upd_same (by rw [List.length_append, hl]) fun v hv => ?_
    rcases List.mem_append.mp hv with hv | hv
    · exact mo _ _ _ (((e1.trans e2).trans e3).trans e4) (hx v hv)
    · exact mo _ _ _ (e3.trans e4) (hvs v hv)⟩)
/-- one of a list -/
theorem eg_ix {ti : TE} {p : Addr} {xs : List V} {i : Int} (mo : ∀ H H' v, Ex H H' → P2 H v → P2 H' v) (h : Ev te σ H (.ref p)) (hp : H p = some (.lst xs)) (hx : ∀ v ∈ xs, P2 H v) (hi : Ev ti σ H (.int i)) (h0 : 0 ≤ i) (h1 : i < xs.length) : EvG P2 (tOp (rIxL K) te ti) σ H := fun H1 e _ q => by
  obtain ⟨v, hv, vm⟩ := at_mem h0 h1
  refine h H1 e _ fun H2 e2 => hi H2 (e.trans e2) _ fun H3 e3 => ⟨p, xs, i, v, rfl, rfl, sq_of (((e.trans e2).trans e3) _ _ hp), hv, q v H3 (e2.trans e3) (mo _ _ _ ((e.trans e2).trans e3) (hx v vm))⟩
/-- one of a display -/
theorem eg_ixD {ti : TE} {ta : TA} {i : Int} (mo : ∀ H H' v, Ex H H' → P2 H v → P2 H' v) (h : EvGs P2 ta σ H n) (hn : n ≤ 1000) (hi : Ev ti σ H (.int i)) (h0 : 0 ≤ i) (h1 : i < n) : EvG P2 (tOp (rIxL K) (tLst ta) ti) σ H := fun H1 e _ q =>
  h H1 e _ fun vs H2 e2 hl hvs => ⟨sz_of (by omega), fun p hp => by
    have e3 : Ex H2 (upd H2 p (.lst vs)) := Ex.new hp
    refine hi _ ((e.trans e2).trans e3) _ fun H4 e4 => ?_
    obtain ⟨v, hv, vm⟩ := at_mem (xs := vs) (i := i) h0 (by rw [hl]; exact h1)
    exact ⟨p, vs, i, v, rfl, rfl, sq_of (e4 _ _ upd_same), hv, q v H4 ((e2.trans e3).trans e4) (mo _ _ _ (e3.trans e4) (hvs v vm))⟩⟩
theorem s_retG {D : Ends} (h : EvG P2 te σ H) (k : ∀ v H1, Ex H H1 → P2 H1 v → D.rt v H1) : tRet te D σ H := h H (Ex.refl H) _ k
end
section
variable {K : PySem.W.Frag} {σ : L2.St} {H : Hp} {ta tb te : TE} {t : TT} {D : Ends} {tz : TS}
theorem eqvs_self {xs : List V} (h : xs.all flatOk = true) : PyData.eqv (.list (xs.map dpOf)) (.list (xs.map dpOf)) = true := SeqAt.eqv_refl _ (canLays_flat h)
theorem q_dropC {sp : Sp} {dvs vs : List V} {E : XK} {ta : TA} (h : EvA ta σ H vs) (k : ∀ H1, Ex H H1 → sp (vs ++ dvs) H1 (fun _ H2 => tz D σ H2) E) : tSeq (tDrop (tCall sp dvs E ta)) tz D σ H := h H (Ex.refl H) _ k
theorem s_dropC {sp : Sp} {dvs vs : List V} {E : XK} {ta : TA} (h : EvA ta σ H vs) (k : ∀ H1, Ex H H1 → sp (vs ++ dvs) H1 (fun _ H2 => D.nx σ H2) E) : tDrop (tCall sp dvs E ta) D σ H := h H (Ex.refl H) _ k
theorem q_tb {ts : TS} (h : ts { D with nx := tz D } σ H) : tSeq ts tz D σ H := h
theorem s_makeS {C : Addr} {sp : Sp} {E : L2.St → XK} {t : TA} {vs : List V} (h : EvA t σ H vs)
    (k : ∀ x dx H1, Ex H H1 → H1 x = none → H1 dx = none → dx ≠ x → sp (.ref x :: vs) (upd (upd H1 dx (.own x)) x (.ins C dx [])) (fun v H2 => v = .non ∧ D.nx σ H2) (E σ)) : tDrop (tMakeS C sp E t) D σ H :=
  h H (Ex.refl H) _ fun H1 e x dx hx hdx hne => k x dx H1 e hx hdx hne
theorem ev_neSame {xs ys : List V} (ha : EvL ta σ H xs) (hb : EvL tb σ H ys) (he : xs = ys) (hf : xs.all flatOk = true) : Ev (tOp (rNeD K) ta tb) σ H (.bl false) := fun H1 e Q q =>
  ha H1 e _ fun p H2 _ e2 h2 => hb H2 (e.trans e2) _ fun l H3 _ e3 h3 => by
    subst he
    refine ⟨.list (xs.map dpOf), .list (xs.map dpOf), .lst (sq_of (e3 p _ h2)) (dps_flat hf), .lst (sq_of h3) (dps_flat hf), shaped_flat hf, shaped_flat hf, ?_⟩
    rw [eqvs_self hf]
    exact q _ (e2.trans e3)
theorem q_ifAsgL {b : Bool} {i : Nat} {xs : List V} (h : EvT t σ H b) (h1 : b = true → EvL te σ H xs) (h2 : b = false → ∃ p, σ.set i (some (.ref p)) = σ ∧ H p = some (.lst xs))
    (k : ∀ p H1, Ex H H1 → H1 p = some (.lst xs) → tz D (σ.set i (some (.ref p))) H1) : tSeq (tIfS t (tAsg te (gName i)) tNext) tz D σ H := by
  refine q_when h (fun hb H1 e1 => ?_) fun hb H1 e1 => ?_
  · exact s_asgL ((h1 hb).mono e1) fun p H2 _ e2 h2 => k p H2 (e1.trans e2) h2
  · obtain ⟨p, hp, hx⟩ := h2 hb
    have := k p H1 e1 (e1 _ _ hx)
    rwa [hp] at this
end
/-- a thing that is no such text -/
def Bad (P : Str → Prop) (H : Hp) (v : V) : Prop := Thing H v ∧ ∀ z, v = .str z → ¬ P z
theorem Bad.mo {P : Str → Prop} : ∀ H H' v, Ex H H' → Bad P H v → Bad P H' v := fun _ _ _ e h => ⟨h.1.mono e, h.2⟩
theorem bad_non {P : Str → Prop} {H : Hp} : Bad P H .non := ⟨True.intro, fun _ h => nomatch h⟩
theorem bad_bl {P : Str → Prop} {H : Hp} {b : Bool} : Bad P H (.bl b) := ⟨True.intro, fun _ h => nomatch h⟩
theorem bad_int {P : Str → Prop} {H : Hp} {i : Int} : Bad P H (.int i) := ⟨True.intro, fun _ h => nomatch h⟩
theorem bad_str {P : Str → Prop} {H : Hp} {z : Str} (h1 : z.length ≤ 1000) (h2 : signs z) (h3 : ¬ P z) : Bad P H (.str z) := ⟨⟨h1, h2⟩, fun y h => by cases h; exact h3⟩
theorem bad_l {P : Str → Prop} {H : Hp} {a : Addr} {xs : List V} (h : H a = some (.lst xs)) : Bad P H (.ref a) := ⟨Or.inl ⟨xs, h⟩, fun _ h => nomatch h⟩
theorem bad_u {P : Str → Prop} {H : Hp} {a : Addr} {xs : List V} (h : H a = some (.tup xs)) : Bad P H (.ref a) := ⟨Or.inr (Or.inl ⟨xs, h⟩), fun _ h => nomatch h⟩
theorem bad_d {P : Str → Prop} {H : Hp} {a : Addr} (h : H a = some (.dK [])) : Bad P H (.ref a) := ⟨Or.inr (Or.inr ⟨[], h⟩), fun _ h => nomatch h⟩
theorem lets_add {a b : Str} : lets (a ++ b) = (lets a && lets b) := by
  show (L (a ++ b)).all small = _
  rw [L_add, List.all_append]
  rfl
/-! ### texts of letters -/
/-- a text of at most n small letters -/
def LT (n : Nat) (v : V) : Prop := ∃ z, v = .str z ∧ z.length ≤ n ∧ lets z = true
theorem LT.mono {n m : Nat} {v : V} (h : LT n v) (e : n ≤ m) : LT m v := by
  obtain ⟨z, rfl, h1, h2⟩ := h
  exact ⟨z, rfl, Nat.le_trans h1 e, h2⟩
theorem lets_cut {a : Str} (h : lets a = true) (lo hi : Option Int) : lets (cutS a lo hi) = true := by
  unfold lets cutS at *
  rw [List.all_eq_true] at *
  intro x hx
  exact h x (List.mem_of_mem_drop (List.mem_of_mem_take hx))
theorem join_lets {ys : List Str} (h : ∀ y ∈ ys, lets y = true) : lets (Txt.join "" ys) = true := by
  unfold lets
  rw [join0, List.all_eq_true]
  intro x hx
  obtain ⟨l, hl, hxl⟩ := List.mem_flatten.mp hx
  obtain ⟨y, hy, rfl⟩ := List.mem_map.mp hl
  exact List.all_eq_true.mp (h y hy) x hxl
theorem strsL_of {n : Nat} {xs : List V} (h : ∀ x ∈ xs, LT n x) : ∃ ys : List Str, xs = ys.map V.str ∧ ∀ y ∈ ys, y.length ≤ n ∧ lets y = true := by
  induction xs with
  | nil => exact ⟨[], rfl, fun _ h => nomatch h⟩
  | cons x r ih =>
    obtain ⟨ys, rfl, hy⟩ := ih fun y hy => h y (List.mem_cons_of_mem _ hy)
    obtain ⟨z, rfl, h1, h2⟩ := h x List.mem_cons_self
    refine ⟨z :: ys, rfl, fun y hy' => ?_⟩
    rcases List.mem_cons.mp hy' with rfl | hy'
    · exact ⟨h1, h2⟩
    · exact hy y hy'
section
variable {K : PySem.W.Frag} {σ : L2.St} {H : Hp} {ta tb te : TE} {n m k : Nat}
theorem evp_joinLT (hb : EvLP tb σ H n (LT m)) (hm : n * m ≤ k) (hk : k ≤ 100000) : EvP (tM1 (rJoin K) (tC (.str "")) tb) σ H (LT k) := fun H1 e _ q =>
  ⟨⟨"", rfl⟩, hb H1 e _ fun p xs H2 hp e2 h2 hl hx => by
    obtain ⟨ys, rfl, hy⟩ := strsL_of hx
    rw [List.length_map] at hl
    have h1 := sum_le (n := m) fun y hy' => (hy y hy').1
    have h3 : ys.length * m ≤ n * m := Nat.mul_le_mul_right m hl
    exact ⟨"", p, ys, rfl, rfl, Or.inl (sq_of h2), by rw [emp_len, Nat.mul_zero, Nat.add_zero]; omega, q _ H2 e2 ⟨_, rfl, by rw [join_len]; omega, join_lets fun y hy' => (hy y hy').2⟩⟩⟩
theorem evp_addL (ha : EvP ta σ H (LT n)) (hb : EvP tb σ H (LT m)) (h : n + m ≤ k) (hk : k ≤ 100000) :
    EvP (tOp (fun x y H Q => ∃ i j, x = .str i ∧ y = .str j ∧ i.length + j.length ≤ sizeLine ∧ Q (.str (i ++ j)) H) ta tb) σ H (LT k) :=
  evp_op ha hb fun x y H1 _ h1 h2 => by
    obtain ⟨a, rfl, a1, a2⟩ := h1
    obtain ⟨b, rfl, b1, b2⟩ := h2
    exact ⟨_, rv_addS (by omega), _, rfl, by rw [Str.length_append]; omega, by rw [lets_add, a2, b2]; rfl⟩
theorem evp_slLT {tl th : TO} {lo hi : Option Int} (h : EvP te σ H (LT n)) (h1 : EvO tl σ H lo) (h2 : EvO th σ H hi) (hn : n ≤ 100000) (hm : ∀ z : Str, z.length ≤ n → (cutS z lo hi).length ≤ m) : EvP (tSl rSlS te tl th) σ H (LT m) := fun H1 e _ q =>
  h H1 e _ fun v H2 e2 hv => by
    obtain ⟨z, rfl, z1, z2⟩ := hv
    exact (ev_slS (H := H2) (te := tC (.str z)) ev_c (fun H5 a => h1 H5 ((e.trans e2).trans a)) (fun H5 a => h2 H5 ((e.trans e2).trans a)) (by omega)) H2 (Ex.refl _) _ fun H3 e3 => q _ H3 (e2.trans e3) ⟨_, rfl, hm z z1, lets_cut z2 _ _⟩
theorem elp_catV {P : V → Prop} {p : Addr} {xs : List V} (ha : Ev ta σ H (.ref p)) (hp : H p = some (.lst xs)) (hl : xs.length ≤ n) (hx : ∀ x ∈ xs, P x) (hb : EvLP tb σ H m P) (h : n + m ≤ k) (hk : k ≤ 100000) : EvLP (tOp rCat ta tb) σ H k P := fun H1 e _ q =>
  ha H1 e _ fun H2 e2 => hb H2 (e.trans e2) _ fun p' ys H3 _ e3 h3 l2 p2 =>
    ⟨p, p', xs, ys, rfl, rfl, ((e.trans e2).trans e3) _ _ hp, h3, sz_of (by omega), fun l hl' => q l (xs ++ ys) _ (fresh_back (e2.trans e3) hl') ((e2.trans e3).trans (Ex.new hl')) upd_same (by rw [List.length_append]; omega) fun x hx' => by
      rcases List.mem_append.mp hx' with hx' | hx'
      · exact hx x hx'
      · exact p2 x hx'⟩
theorem rc_max {i j : Int} : RC (fun xs H Q => ∃ i j, xs = [.int i, .int j] ∧ Q (.int (if j > i then j else i)) H) [.int i, .int j] H (.int (if j > i then j else i)) := rc_val fun _ _ _ q => ⟨i, j, rfl, q⟩
theorem cut_same (n : Nat) (lo hi : Option Int) : ∀ z : Str, z.length ≤ n → (cutS z lo hi).length ≤ n := fun z hz => Nat.le_trans (cut_len z lo hi) hz
theorem cut16 (n : Nat) : ∀ z : Str, z.length ≤ n → (cutS z none (some 16)).length ≤ 16 := fun z _ => by
  have h1 : HT.sIx z.length z.length (some 16) = min 16 z.length := HT.sIx_nat _ _ 16
  have h2 : HT.sIx z.length 0 none = 0 := rfl
  unfold cutS
  rw [h1, h2]
  show (List.toArray _).size ≤ 16
  rw [List.size_toArray, List.length_take]
  omega
theorem cutm16 (n : Nat) : ∀ z : Str, z.length ≤ n → (cutS z (some (-16)) none).length ≤ 16 := fun z _ => by
  have h1 : HT.sIx z.length 0 (some (-16)) = (-16 + (z.length : Int)).toNat := rfl
  have h2 : HT.sIx z.length z.length none = z.length := rfl
  unfold cutS
  rw [h1, h2]
  show (List.toArray _).size ≤ 16
  rw [List.size_toArray, List.length_take]
  omega
end
end Prt

set_option Elab.async false
set_option linter.all false
set_option maxRecDepth 100000
set_option maxHeartbeats 2000000
/-! Our own rules: a def read off its own class and called. -/
namespace L2
open PySem PySem.Spec PyProof.Rows
/-- C.m is the def at f -/
structure Off (K : PySem.W.Frag) (C : Addr) (m : Str) (f : Addr) : Prop where
  rd : ClX.CRead K C (.type "type")
  at_ : PySem.W.findCls K (.ref C) (.type "type") m = some (.val (.ref f))
  kp : PySem.W.keepIn K (.ref f) = true
section
variable {X : Cx} {CX : CXT} {k : Nat} {f C : Addr} {fd : FuncData} {ps : List Str} {sp : Sp} {E : XK} {x m : Str} {p apos pos : Pos} {e : Expr} {es : List Expr} {t : TA} {dvs : List V} {ds : List Value}
/-- B.m(e, ..), B an own class -/
theorem pe_off {pl : Sem Bool} (O : Off X.K C m f) (F : FnOk X.prog X.w X.K X.mg X.base CX k f fd ps sp) (hr : Room k X.A) (hg : Gl X x) (hm : X.mg x = some (.ref C)) (hb : Binds X.K fd ps ds) (hd : Vals dvs ds) (hx : Passes CX X E)
    (ha : PA X (e :: es) t) (hdb : (x == ("__debug__" : Str)) = false := by decide)
    (hst : starEach (e :: es) X.env = (false, eval e X.env) :: starEach es X.env := by rfl) (hpl : (backTo pos (starEach es X.env)).any (·.1) = false := by rfl)
    (ht : eval (.Call (.Attribute (.Name x p) m apos) (e :: es) [] pos) X.env = (do
      let ov ← eval (.Name x p) X.env
      standAt apos.atName
      let (f, first) ← holding [ov] (getMethod ov m pl)
      callWith pos f first (backTo pos (starEach (e :: es) X.env)) (backToKw pos (keywordEach [] X.env))) := by rfl) :
    PE X (.Call (.Attribute (.Name x p) m apos) (e :: es) [] pos) (tCall sp dvs E t) := by
  refine ⟨fun pins s σ H Q I h => ?_⟩
  refine PySem.W.methodCall_KW (pl := pl) (ld_glob I hg hm ?_ hdb) ht
  refine PySem.W.method_cls I.kIn O.rd.ga (PySem.W.cls_value I.kIn O.rd.rd O.at_ rfl ?_)
  refine PySem.W.callWith_K (first := []) (h₀ := X.base) I.ok.mod.kin O.kp (thn (ha.run pos pins _ σ H _ (I.tok _) h) fun us s1 ⟨vs, H1, I1, r, q⟩ => ⟨I1.kIn, ?_⟩) hst hpl
  exact run_fn F hr hb hd hx I1 r q
end
end L2

set_option Elab.async false
set_option linter.all false
set_option maxRecDepth 100000
set_option maxHeartbeats 2000000
/-! Our own rule: the signs of a text, sorted. -/
namespace L2
open PySem PySem.Spec PyProof.Rows
def rSortedTx : List V → Hp → VK → Prop := fun vs H Q => ∃ z : Str, vs = [V.str z] ∧ z.length < 64 ∧
  ∀ (ys : List Str) (p : Addr), ys.Perm (SetS.signsOf z) → sortedS ys = true → H p = none → Q (.ref p) (upd H p (.lst (ys.map V.str)))
theorem cr_sortedTx {X : Cx} (hcalm : X.calm = true) : CallR X (.builtin "sorted") rSortedTx := by
  intro pins s σ H xs us Q I r q
  obtain ⟨z, rfl, h64, q⟩ := q
  obtain ⟨u, eu, rx⟩ := vals1 r
  subst eu
  obtain ⟨t, rfl⟩ := rx
  have h64' : z.cps.size < 64 := h64
  refine Calls.call_function_entry PyProof.Rows.kind_sorted PyProof.Rows.plain_sorted PyProof.Rows.entry_sorted (PyProof.Rows.args_sorted1 _) ?_
  unfold Builtin.«sorted»
  refine wpAny_bind (m := checkCount "sorted" 1 1 _) (wpAny_pure ?_)
  refine wpAny_bind (wpAny_collect_str (A := X.A.in1) (I.ok.hd hcalm) z t (fun s' acc hk g d o hacc => ?_) (by rw [sizeLine_eq]; omega))
  obtain ⟨h', g3, d3, tk, os3⟩ := s'
  obtain rfl : g3 = s.gens := g
  obtain rfl : d3 = s.drawn := d
  obtain rfl : os3 = s.os := o
  have hal : acc.toList.length = (SetS.signsOf z).length := by rw [Array.length_toList, hacc.1, SetS.signsOf_len]
  have hal2 : acc.toList.length = z.cps.size := by rw [Array.length_toList, hacc.1]
  have hS : StrsAre acc.toList (SetS.signsOf z) := L2.strs_at hal fun j v e => by
    obtain ⟨c, u, e1, e2⟩ := hacc.2 j v (by rw [← Array.getElem?_toList]; exact e)
    refine ⟨⟨#[c]⟩, u, ?_, e2⟩
    unfold SetS.signsOf
    rw [List.getElem?_map, Array.getElem?_toList, e1]
    rfl
  have I1 : Inv X pins σ H { s with heap := h', toks := tk } := I.kept hk
  refine wpAny_bind (wpAny_newList ?_ (by rw [hal2, sizeLine_eq]; omega))
  have hoL : (h'.push (seqObj "list" acc.toList.toArray 0)).get? h'.objs.size = some (seqObj "list" acc.toList.toArray 0) := Heap.get?_push_size _ rfl
  show wpAny _ _ _ _ _ { s with heap := h'.push (seqObj "list" acc.toList.toArray 0), toks := tk }
  refine wpAny_bind (wpAny_holding (wpAny_call_entry PyProof.Rows.slot_list_sort ⟨_, hoL, rfl⟩ PyProof.Rows.entry_list_sort
    (list_sort_treeK strKind_oneLt (s := { s with heap := h'.push (seqObj "list" acc.toList.toArray 0), toks := tk }) hoL hS.keysOf (fun v₁ v₂ rest e => keyKind_strs (by rw [← e]; exact hS)) (by rw [hal2]; exact h64') fun st' hp hs => ⟨_, rfl, ?_⟩)
    (PyProof.Rows.args_list_sort _)))
  obtain ⟨ys, g1, g2, g3⟩ := sorted_out_str hS hp hs
  obtain ⟨e', he'⟩ := PyProof.Rows.sortedHeap_at (vs := acc.toList) (out := (arrOf st').map (·.2)) hoL
  have hlen : (ys.map V.str).length ≤ sizeLine := by
    rw [List.length_map, g2.length_eq, SetS.signsOf_len]
    exact Nat.le_trans (Nat.le_of_lt h64') (by decide)
  refine wpAny_pure ⟨_, rfl, .ref h'.objs.size, upd H h'.objs.size (.lst (ys.map V.str)), I1.laid (t' := tk) (fun b u e => ?_) (Nat.le_refl _)
    (show ObjOk X.prog X.w _ _ _ (.lst (ys.map V.str)) from ⟨hlen, ((arrOf st').map (·.2)).toList, e', vals_of_strs g1, by rw [Array.toArray_toList]; exact he'⟩), rfl, q ys _ g2 g3 (I1.hok.fresh (Nat.le_refl _))⟩
  have hb : b < h'.objs.size := Heap.lt_size e
  rw [PyProof.Rows.sortedHeap_old (Nat.ne_of_lt hb) (by rw [size_push']; exact Nat.lt_succ_of_lt hb)]
  exact Heap.get?_push_of_some _ e
end L2
namespace Prt
open PySem L2 Evl Com TX
section
variable {K : PySem.W.Frag} {σ : L2.St} {H : Hp} {tb : TE}
theorem perm_ones {ys : List Str} {cs : List Nat} (hp : ys.Perm (cs.map fun c => T [c])) : ∃ g : List Nat, ys = g.map (fun c => T [c]) ∧ g.Perm cs := by
  refine ⟨ys.map fun y => (L y).getD 0 0, ?_, ?_⟩
  · rw [List.map_map]
    conv => lhs; rw [← List.map_id ys]
    refine List.map_congr_left fun y hy => ?_
    obtain ⟨c, _, rfl⟩ := List.mem_map.mp (hp.mem_iff.mp hy)
    show T [c] = T [(L (T [c])).getD 0 0]
    rw [L_T]
    rfl
  · have := hp.map fun y => (L y).getD 0 0
    rw [List.map_map] at this
    refine this.trans (List.Perm.of_eq ?_)
    conv => rhs; rw [← List.map_id cs]
    refine List.map_congr_left fun c _ => ?_
    show (L (T [c])).getD 0 0 = c
    rw [L_T]
    rfl
theorem sorted_le_eq {a b : List Nat} (hp : a.Perm b) (ha : a.Pairwise (· ≤ ·)) (hb : b.Pairwise (· ≤ ·)) : a = b :=
  List.Perm.eq_of_pairwise (fun x y _ _ h1 h2 => Nat.le_antisymm h1 h2) ha hb hp
/-- "".join(sorted(z)) -/
theorem evp_joinSortedTx {z : Str} (hb : Ev tb σ H (.str z)) (hz : z.length < 64) :
    EvP (tM1 (rJoin K) (tC (.str "")) (tCB rSortedTx (tCons tb tNil))) σ H (fun v => ∃ g, v = .str (T g) ∧ g.Perm (L z) ∧ g.Pairwise (· ≤ ·)) := fun H1 e Q q =>
  ⟨⟨"", rfl⟩, hb H1 e _ fun H2 e2 => ⟨z, rfl, hz, fun ys p hp hs hn => by
    obtain ⟨g, rfl, hg⟩ := perm_ones (cs := L z) hp
    have hl : g.length < 64 := by rw [hg.length_eq, ← len_L]; exact hz
    refine ⟨"", p, g.map (fun c => T [c]), rfl, rfl, Or.inl (sq_of upd_same), ?_, ?_⟩
    · have := sum_le (n := 1) (ys := g.map fun c => T [c]) (fun y hy => by
        obtain ⟨c, _, rfl⟩ := List.mem_map.mp hy
        exact Nat.le_refl _)
      rw [List.length_map] at this ⊢
      rw [emp_len]
      omega
    · rw [join_ones]
      exact q _ _ (e2.trans (Ex.new hn)) ⟨g, rfl, hg, sorted_ones hs⟩⟩⟩
theorem ev_opP {ta : TE} {P : V → Prop} {r : R2} {y z : V} (ha : EvP ta σ H P) (hb : Ev tb σ H y) (hr : ∀ x H1, Ex H H1 → P x → RV r x y H1 z) : Ev (tOp r ta tb) σ H z := fun H1 e Q q =>
  ha H1 e _ fun x H2 e2 p => hb H2 (e.trans e2) _ fun H3 e3 => hr x H3 ((e.trans e2).trans e3) p H3 (Ex.refl _) Q fun H4 e4 => q H4 ((e2.trans e3).trans e4)
end
end Prt

set_option Elab.async false
set_option linter.all false
set_option maxRecDepth 100000
set_option maxHeartbeats 2000000
/-! Our own layer: a def's promise where no repr of a container is under way. -/
namespace L2
open PySem PySem.Spec PyProof.Rows
/-- as FnOk, for callers within no repr -/
structure FnG (P : Program) (w : World) (K : PySem.W.Frag) (mg : Str → Option Value) (base : Heap) (k : Nat) (f : Addr) (fd : FuncData) (ps : List Str) (sp : Sp) : Prop where
  many : ∀ vs H Q E, sp vs H Q E → vs.length = ps.length
  goes : ∀ (A : Around) (outer : List Env) (s : Shared) (H : Hp) (args : Args) (us : List Value) (vs : List V) (Q : VK) (E : XK), A.guards = some [] → Room k A → Env0 P w K mg base A outer s H →
    BindsTo s fd args (ps.zip us) → Vals vs us → sp vs H Q E → codeAny (model P w) A (.call (.ref f) args) (CR CX0 outer P w H s Q E) s
section
variable {P : Program} {w : World} {K : PySem.W.Frag} {mg : Str → Option Value} {base : Heap} {k : Nat} {f : Addr}
theorem Fun.okG {x qual : Str} {st : Stmt} {fd : FuncData} {N ps : List Str} {sp : Sp} (F : Fun K x qual st f fd) (S : FnScope N ps (defScope st)) (many : ∀ vs H Q E, sp vs H Q E → vs.length = ps.length)
    (body : ∀ (cdv : Value) (A : Around) (outer : List Env) (s : Shared) (H : Hp) (vs : List V) (Q : VK) (E : XK), (cxOf CX0 P w K mg base N qual (defScope st) f cdv A outer s H E).A.guards = some [] →
      Room k (A.deeper (envOfC qual (defScope st) s.heap.objs.size f cdv)) → sp vs H Q E →
      ∃ t, PSs (cxOf CX0 P w K mg base N qual (defScope st) f cdv A outer s H E).nox (defBody st) t ∧ t { nx := fun _ H' => Q .non H', rt := Q } (start N vs) H) :
    FnG P w K mg base (k + 1) f fd ps sp := by
  obtain ⟨oc, od, kV, doc, pm, an, cdv, ct, osl, efd, at_, hcode⟩ := F.ex
  subst efd
  refine ⟨many, fun A outer s H args us vs Q E hgu room env bnd rel hsp => ?_⟩
  have up : ∀ b o, base.get? b = some o → s.heap.get? b = some o := fun b o e => (env.bs b o e).1
  have KX : K.In s.heap := env.mod.kin.keeps up
  have cells : ∀ y ∈ ps.zip us, (defScope st).names.lookup y.1 = some .local ∨ ((defScope st).names.lookup y.1 = some .cell ∧ ((cellsFrom (s.heap.objs.size + 1) (defScope st).names []).lookup y.1).isSome = true) := fun y hy => by
    obtain ⟨n, v⟩ := y
    have := S.par n (List.of_mem_zip hy).1
    exact this.imp id fun q => ⟨q, PySem.W.cellsFrom_some _ _ _ (.inl q)⟩
  apply codeAny_call_function room.depth (KX _ _ at_) rfl S.co S.gen rfl (PySem.W.codeRec_of KX hcode)
  apply bnd
  apply wpAny_newFunctionEnv_cells S.kind cells
  intro env' henv s1 x
  subst henv
  refine ⟨(env.mod.nolimit.keeps up).keeps x.toInCall.keep, codeAny_func ?_⟩
  have hgu' : (cxOf CX0 P w K mg base N qual (defScope st) f cdv A outer s H E).A.guards = some [] := hgu
  obtain ⟨t, ht, hq⟩ := body cdv A outer s H vs Q E hgu' (room.deeper _) hsp
  have J := inv_start (CX := CX0) (E := E) S room.hd env (many _ _ _ _ hsp) rel x
  have ran := ht.nox.run [] s1 (start N vs) H _ J hq
  refine wpAny_mono ran (fun fl s' hs => ?_) fun _ _ hs => hs
  match fl, hs with
  | .ret u, ⟨v, σ', H', J', rv, q⟩ => exact ⟨v, H', J'.os, J'.bare, J'.base, J'.hok, rv, q⟩
  | .next, ⟨σ', H', J', q⟩ => exact ⟨.non, H', J'.os, J'.bare, J'.base, J'.hok, rfl, q⟩
  | .brk, ⟨_, _, _, q⟩ => exact q.elim
  | .cont, ⟨_, _, _, q⟩ => exact q.elim
end
section
variable {X : Cx} {k : Nat} {f : Addr} {fd : FuncData} {ps : List Str} {sp : Sp} {dvs : List V} {ds : List Value} {x : Str} {p pos : Pos} {e : Expr} {es : List Expr} {t : TA}
/-- f(e, ..) within no repr -/
theorem pe_callG (F : FnG X.prog X.w X.K X.mg X.base k f fd ps sp) (gu : X.A.guards = some []) (hr : Room k X.A) (hg : Gl X x) (hm : X.mg x = some (.ref f)) (hk : PySem.W.keepIn X.K (.ref f) = true) (hb : Binds X.K fd ps ds) (hd : Vals dvs ds)
    (ha : PA X (e :: es) t) (hdb : (x == ("__debug__" : Str)) = false := by decide) (he : starEach (e :: es) X.env = (false, eval e X.env) :: starEach es X.env := by rfl) (hpl : (backTo pos (starEach es X.env)).any (·.1) = false := by rfl) :
    PE X (.Call (.Name x p) (e :: es) [] pos) (tCall sp dvs E0 t) := by
  constructor
  intro pins s σ H Q I h
  apply wpAny_Call_Name_kw
  apply ld_glob I hg hm _ hdb
  refine PySem.W.callWith_K (h₀ := X.base) I.ok.mod.kin hk (thn (ha.run pos pins s σ H _ I h) fun us s1 got => ?_) he hpl
  obtain ⟨vs, H1, J, r, q⟩ := got
  refine ⟨J.kIn, ?_⟩
  have all := r.append hd
  have lens : (us ++ ds).length = ps.length := all.length.symm.trans (F.many _ _ _ _ q)
  have ran := F.goes X.A X.stack s1 H1 ⟨us, []⟩ (us ++ ds) (vs ++ dvs) Q E0 gu hr J.env0 (hb s1 us J.kIn lens) all q
  refine wpAny_call (codeAny_mono ran fun r2 s2 h2 => ?_)
  match r2, h2 with
  | .error _, h2 => exact h2.elim
  | .ok (.ret _), h2 => exact J.after h2
  | .ok .next, h2 => exact h2.elim
  | .ok .brk, h2 => exact h2.elim
  | .ok .cont, h2 => exact h2.elim
end
section
variable {P : Program} {w : World} {K : PySem.W.Frag} {mg mb : Str → Option Value} {k n : Nat} {fa a : Addr} {fd : FuncData} {x : Str} {sp : Sp} {s₁ : Shared} {vs : List Value} {ns : List Int}
/-- the heap in which just the script is told of, where it is none of the top's own -/
theorem script_heap (KX : K.In s₁.heap) (ha : s₁.heap.get? a = some { cls := .type "list", data := .seq vs.toArray }) (hi : IntsAre vs ns) (hl : ns.length ≤ sizeLine) :
    ∃ H : Hp, Only H ∧ SqL K H a (ns.map V.int) ∧ HOk P w H s₁.heap ∧ ∀ b, H b ≠ none → b = a ∧ K.lookup a = none := by
  have rv := vals_ints hi
  have lenV := hi.length
  cases hk : K.lookup a with
  | some o =>
    have e := (KX a o hk).symm.trans ha
    cases e
    exact ⟨fun _ => none, fun _ => .inl rfl, .inr ⟨_, vs.toArray, _, hk, rfl, rfl, rfl, by rw [List.size_toArray, lenV]; exact hl, by simpa using rv⟩, fun b u z => (by have z' : (none : Option HO) = some u := z; cases z'), fun b z => absurd rfl z⟩
  | none =>
    let o : Obj := { cls := .type "list", data := .seq vs.toArray }
    have at_ : ∀ b u, (if b = a then some (HO.frz o (.lst (ns.map V.int))) else none) = some u → b = a ∧ u = .frz o (.lst (ns.map V.int)) := fun b u z => by
      by_cases hb : b = a
      · rw [if_pos hb] at z
        exact ⟨hb, (Option.some.inj z).symm⟩
      · rw [if_neg hb] at z
        cases z
    refine ⟨fun b => if b = a then some (.frz o (.lst (ns.map V.int))) else none, fun b => ?_, .inl (.inr ⟨o, if_pos rfl⟩), fun b u z => ?_, fun b z => ⟨?_, rfl⟩⟩
    · cases e : (if b = a then some (HO.frz o (.lst (ns.map V.int))) else none) with
      | none => exact .inl e
      | some u => exact .inr ⟨_, _, by rw [show (fun b => if b = a then some (HO.frz o (.lst (ns.map V.int))) else none) b = some u from e, (at_ b u e).2]⟩
    · obtain ⟨rfl, rfl⟩ := at_ b u z
      exact ⟨ha, by rw [List.length_map]; exact hl, vs, _, rv, ha⟩
    · cases e : (if b = a then some (HO.frz o (.lst (ns.map V.int))) else none) with
      | none => exact (z e).elim
      | some u => exact (at_ b u e).1
theorem lawG (KX : K.In s₁.heap) (hns : s₁.heap.Ns mainGlobals mg) (hb : s₁.heap.Ns builtinsNs mb) (hbb : ∀ x : Str, x ≠ "__name__" → mb x = bootBuiltins x) (hlim : s₁.heap.NoLimit) (hg : s₁.gens = #[])
    (ha : s₁.heap.get? a = some { cls := .type "list", data := .seq vs.toArray }) (hi : IntsAre vs ns) (hl : ns.length ≤ sizeLine) (room : Room k callerA)
    (F : ∀ base : Heap, K.In base → base.Ns mainGlobals mg → FnG P w K mg base k fa fd [x] sp) (bnd : ∀ (s : Shared) (u : Value), BindsTo s fd ⟨[u], []⟩ [(x, u)])
    (hsp : ∀ H : Hp, SqL K H a (ns.map V.int) → sp [.ref a] H (fun v _ => v = .bl true) fun _ _ _ => False) :
    codeAny (model P w) callerA (.call (.ref fa) ⟨[.ref a], []⟩) (fun r s' => r = .ok (.ret (.bool true)) ∧ OldK s₁.heap s'.heap ∧ s'.os = s₁.os ∧ AllBare s'.gens) s₁ := by
  obtain ⟨H, only, hS, hok, hA⟩ := script_heap (P := P) (w := w) KX ha hi hl
  -- what no dict is, is not told of
  have offD : ∀ {b : Addr} {o : Obj} {es : Array DictEntry} {ep : Nat}, s₁.heap.get? b = some o → o.data = .dict es ep → H b = none := fun {b o es ep} e d => by
    by_cases q : H b = none
    · exact q
    · obtain ⟨rfl, _⟩ := hA b q
      rw [ha] at e
      obtain rfl := Option.some.inj e
      cases d
  have offK : ∀ {b : Addr} {o : Obj}, K.lookup b = some o → H b = none := fun {b o} e => by
    by_cases q : H b = none
    · exact q
    · obtain ⟨rfl, z⟩ := hA b q
      rw [z] at e
      cases e
  have names : ∀ {b : Addr} {m : Str → Option Value}, s₁.heap.Ns b m → (hidT s₁.heap H).Ns b m := fun {b m} h => by
    obtain ⟨o, es, ep, e, d, r⟩ := h
    exact ⟨o, es, ep, hidT_get e (offD e d), d, r⟩
  have KB : K.In (hidT s₁.heap H) := fun b o e => hidT_get (KX b o e) (offK e)
  have lim : (hidT s₁.heap H).NoLimit := by
    obtain ⟨mc, h1, h2⟩ := hlim
    exact ⟨mc, names h1, h2⟩
  have env : Env0 P w K mg (hidT s₁.heap H) callerA [] s₁ H :=
    { frames := rfl, mod := ⟨KB, names hns, ⟨mb, names hb, hbb⟩, lim⟩, bs := fun b o e => of_hidT e, bsz := Nat.le_of_eq (hidT_size _ _), funs := trivial, frf := fun b z => (nomatch (show b ∈ ([] : List Addr) from z)), hok := hok, bare := .of_eq hg }
  have ran := (F _ KB (names hns)).goes callerA [] s₁ H ⟨[.ref a], []⟩ [.ref a] [.ref a] _ _ rfl room env (bnd s₁ (.ref a)) (.cons rfl .nil) (hsp H hS)
  refine codeAny_mono ran fun r s' h => ?_
  match r, h with
  | .error _, h => exact h.elim
  | .ok .next, h => exact h.elim
  | .ok .brk, h => exact h.elim
  | .ok .cont, h => exact h.elim
  | .ok (.ret u), ⟨v, H', os, bare, un, hok', rel, q⟩ =>
    obtain rfl : v = .bl true := q
    obtain rfl : u = Value.bool true := rel
    refine ⟨rfl, OldK.of_keep fun b o e => ?_, os, bare⟩
    rcases only b with z | ⟨ob, xs, z⟩
    · exact un.keep b o e z (fun m => (nomatch (show b ∈ ([] : List Addr) from m))) (fun m => (nomatch m))
    · have e1 := (hok b _ z).1
      have e2 := (hok' b _ (un.frzs b ob _ z)).1
      rw [e] at e1
      obtain rfl := Option.some.inj e1
      exact e2
end
theorem walkG {l : PySem.W.OpenLaw} {n k : Nat} {q : Program} {loose : List Str} {XP : (Str → Option Value) → Heap → Prop} {YP : World → Heap → Prop} {d : DefRec} {K : Params → PySem.W.Frag} {sp : World → Sp} {x : Str}
    (most : l.most = some n) (small : n ≤ sizeLine) (hdf : d.params.defaults = []) (room : Room k callerA) (hY : ∀ (w : World) (h : Heap), YP w h → (K w.params).In h)
    (F : ∀ (w : World) (mg : Str → Option Value) (fa : Addr) (h : Heap), (K w.params).In h → h.Ns mainGlobals mg → mg d.name = some (.ref fa) →
      ∃ fd : FuncData, (∀ (s : Shared) (u : Value), BindsTo s fd ⟨[u], []⟩ [(x, u)]) ∧ ∀ base : Heap, (K w.params).In base → base.Ns mainGlobals mg → FnG l.prog w (K w.params) mg base k fa fd [x] (sp w))
    (hsp : ∀ (w : World) (H : Hp) (a : Addr) (ns : List Int), ns.length ≤ n → SqL (K w.params) H a (ns.map V.int) → sp w [.ref a] H (fun v _ => v = .bl true) fun _ _ _ => False) :
    PySem.W.WalkO q loose XP YP l.row.toRowW d [] (fun f vs => PySem.call f vs) := by
  apply Att.attach_call most hdf
  intro w s₀ s₁ mg mb fa o pm cd doc a vs ns G Y ho hd hcd hmg hobj hints hlen hg
  have KX := hY w _ Y
  obtain ⟨fd, bnd, hF⟩ := F w mg fa _ KX G.T.g hmg
  exact lawG KX G.T.g G.T.b G.T.builtins G.T.nolimit hg hobj hints (Nat.le_trans hlen small) room hF bnd fun H hS => hsp w H a ns hlen hS
end L2
namespace L2
open PySem PySem.Spec PyProof.Rows
/-! ### repr of what is told wholly -/
def rReprD (K : PySem.W.Frag) : List V → Hp → VK → Prop := fun vs H Q => ∃ v d, vs = [v] ∧ Dp K H v d ∧ d.showable = true ∧ d.hasDict = false ∧ d.depth ≤ 60 ∧ d.shown.length ≤ sizeLine ∧ Q (.str d.shown) H
theorem call_reprD {X : Cx} (gu : X.A.guards = some []) (hu : X.A.units + 64 < cLine) : CallR X (.builtin "repr") (rReprD X.K) := by
  intro pins s σ H xs us Q I r h
  obtain ⟨v, d, rfl, hd, hs, hdi, hde, hz, q⟩ := h
  obtain ⟨u, rfl, ru⟩ := vals1 r
  obtain ⟨as, rd⟩ := Dp.reads I d v u hd ru
  have big : ∀ a, u = .ref a → wpAny (model X.prog X.w) X.A (call (.builtin "repr") [u]) (EP X pins σ Q) X.xe s := fun a e => by
    subst e
    exact repr_of_reads' rd hs (PyData.noDict_hsm hdi) gu (by omega) (fun _ _ e => e) (fun h' u tk hk => ⟨.str d.shown, H, I.kept hk, ⟨_, rfl⟩, q⟩) hz
  cases hd with
  | non =>
    cases ru
    exact PySem.P.repr_of_none ⟨.str "None", H, I.tok _, ⟨_, rfl⟩, by simpa only [PyData.shown] using q⟩
  | bl b =>
    cases ru
    exact PySem.P.repr_of_bool ⟨.str (if b then "True" else "False"), H, I.tok _, ⟨_, rfl⟩, by simpa only [PyData.shown] using q⟩
  | int i =>
    obtain ⟨t, rfl⟩ := ru
    exact PySem.P.repr_of_int (by simpa only [PyData.showable, decide_eq_true_eq] using hs) ⟨.str (toString i), H, I.tok _, ⟨_, rfl⟩, by simpa only [PyData.shown] using q⟩
  | str x =>
    obtain ⟨t, rfl⟩ := ru
    exact PySem.P.repr_of_str ⟨.str (reprText x), H, I.tok _, ⟨_, rfl⟩, by simpa only [PyData.shown] using q⟩ (by simpa only [PyData.shown] using hz)
  | lst _ _ => exact big _ ru
  | tup _ _ => exact big _ ru
theorem pe_orTK {X : Cx} {K : PySem.W.Frag} {a b : Expr} {ta tb : TE} {rest : List Expr} {pos : Pos} (h : X.K = K) (ha : PE X a ta) (hb : PE X (.BoolOp .Or (b :: rest) pos) tb) : PE X (.BoolOp .Or (a :: b :: rest) pos) (tOrT K ta tb) := h ▸ pe_orT ha hb
/-- an own class, of whose objects isinstance tells -/
structure IsC (K : PySem.W.Frag) (C : Addr) : Prop where
  cl : Cls K C
  ca : PySem.W.findIn K (.ref C) "__class__" = some (some (.builtin "object.__class__"))
  cg : PySem.W.specialIn K (.builtin "object.__class__") "__get__" = some (some (.builtin "getset_descriptor.__get__"))
  ct : PySem.W.takesIn K (.builtin "object.__class__") = some true
  cm : PySem.W.mroIn K C (.type "object") = some true
end L2
namespace Evl
open PySem L2 Com TX
section
variable {K : PySem.W.Frag} {σ : L2.St} {H : Hp} {ta tb te : TE}
theorem rc_isC {a C dx : Addr} {fs : List (Str × V)} {cv : V} {u : Value} {b : Bool} (ha : H a = some (.ins C dx fs)) (c : IsC K C) (k : ClsV cv u) (e : PySem.W.kitOne K (.ref C) u = some b) : RC (rIsi K) [.ref a, cv] H (.bl b) :=
  rc_val fun H1 ex _ q => ⟨.ref a, cv, .ref C, u, b, rfl, k, .base (.ins (ex _ _ ha) c.cl c.ca c.cg c.ct c.cm), e, q⟩
theorem ev_isT {a C dx : Addr} {fs : List (Str × V)} {cs : List V} {us : List Value} {b : Bool} (hx : Ev ta σ H (.ref a)) (ht : EvU tb σ H cs) (ha : H a = some (.ins C dx fs)) (c : IsC K C) (k : Paired ClsV cs us) (e : PySem.W.kitAny K (.ref C) us = some b) :
    Ev (tCB (rIsiT K) (tCons ta (tCons tb tNil))) σ H (.bl b) := fun H1 e1 Q q => hx H1 e1 _ fun H2 e2 => ht H2 (e1.trans e2) _ fun p H3 _ e3 h3 =>
  ⟨.ref a, p, cs, .ref C, us, b, rfl, h3, k, .base (.ins (((e1.trans e2).trans e3) _ _ ha) c.cl c.ca c.cg c.ct c.cm), e, q H3 (e2.trans e3)⟩
theorem rc_reprD {v : V} {d : PyData} (h : ∀ H1, Ex H H1 → Dp K H1 v d) (hs : d.showable = true) (hdi : d.hasDict = false) (hde : d.depth ≤ 60) (hz : d.shown.length ≤ sizeLine) : RC (rReprD K) [v] H (.str d.shown) :=
  rc_val fun H1 ex _ q => ⟨v, d, rfl, h H1 ex, hs, hdi, hde, hz, q⟩
/-- repr of a new list of texts -/
theorem ev_reprL {ys : List Str} {xs : List V} {d : PyData} (h : EvL ta σ H xs) (hx : xs = ys.map V.str) (hd : d = .list (ys.map PyData.str)) (hs : d.showable = true) (hdi : d.hasDict = false) (hde : d.depth ≤ 60) (hz : d.shown.length ≤ sizeLine) :
    Ev (tCB (rReprD K) (tCons ta tNil)) σ H (.str d.shown) := fun H1 e1 Q q => h H1 e1 _ fun p H2 _ e2 h2 => by
  subst hx hd
  refine ⟨.ref p, _, rfl, .lst (sq_of h2) ?_, hs, hdi, hde, hz, q H2 e2⟩
  clear h2 hs hdi hde hz q h
  induction ys with
  | nil => exact .nil
  | cons y r ih => exact .cons (.str y) ih
theorem ev_orTx {z d : Str} (ha : Ev ta σ H (.str z)) (hz : z.length ≤ 100000) (hb : Ev tb σ H (.str d)) : Ev (tOrT K ta tb) σ H (.str (if z = "" then d else z)) := fun H1 e Q q =>
  ha H1 e _ fun H2 e2 => ⟨((z.length : Int) != 0), ⟨sz_of hz, rfl⟩, by
    by_cases h : z = ""
    · subst h
      rw [if_pos rfl] at q
      have : ((("" : Str).length : Int) != 0) = false := by decide +kernel
      rw [this, if_neg Bool.false_ne_true]
      exact hb H2 (e.trans e2) _ fun H3 e3 => q H3 (e2.trans e3)
    · rw [if_neg h] at q
      have : ((z.length : Int) != 0) = true := by
        rw [bne_iff_ne]
        intro h0
        apply h
        rw [empty_cps]
        refine eq_L ?_
        have h' : (L z).length = 0 := by rw [← len_L]; omega
        rw [List.length_eq_zero_iff.mp h']
      rw [this, if_pos rfl]
      exact q H2 e2⟩
theorem ev_methV {C a dx : Addr} {m : Str} {sp : Sp} {E : XK} {t : TA} {vs : List V} {v : V} {fs : List (Str × V)} (h : Ev ta σ H (.ref a)) (ho : H a = some (.ins C dx fs)) (hm : fs.lookup m = none) (ht : EvA t σ H vs) (hs : SpV sp (.ref a :: vs) H v) :
    Ev (tMeth C m sp [] E ta t) σ H v := fun H1 e Q q => h H1 e _ fun H2 e2 => ⟨a, dx, fs, rfl, e2 _ _ (e _ _ ho), hm, ht H2 (e.trans e2) _ fun H3 e3 => by
      rw [List.append_nil]
      exact hs H3 ((e.trans e2).trans e3) Q (fun H4 e4 => q H4 ((e2.trans e3).trans e4)) E⟩
end
end Evl
namespace TX
open PySem
theorem ends_eq {x y : Str} (h : y.length ≤ x.length) : Txt.endswith x y = decide ((L x).drop (x.length - y.length) = L y) := by
  unfold Txt.endswith
  rw [StrLaws.subAt_eq, decide_eq_true (show 0 + y.length ≤ x.length by omega), Bool.true_and]
  have : ((x.cps.toList.drop (x.length - y.length)).take y.length) = (L x).drop (x.length - y.length) := by
    rw [List.take_of_length_le]
    rw [List.length_drop]
    have := len_L x
    show (L x).length - _ ≤ _
    omega
  rw [this, Bool.eq_iff_iff, beq_iff_eq, decide_eq_true_eq]
theorem starts_eq {x y : Str} (h : y.length ≤ x.length) : Txt.startswith x y = decide ((L x).take y.length = L y) := by
  unfold Txt.startswith
  rw [StrLaws.subAt_eq, decide_eq_true (show 0 + y.length ≤ x.length by omega), Bool.true_and, Bool.eq_iff_iff, beq_iff_eq, decide_eq_true_eq]
  rfl
end TX

set_option Elab.async false
set_option linter.all false
set_option maxRecDepth 100000
set_option maxHeartbeats 2000000
/-! Our own rules: sorted of data, and by an own def's keys. -/
namespace L2
open PySem PySem.Spec PyProof.Rows Evl
section
variable {X : Cx} {pins : List (Addr × Obj)} {σ : St} {H H0 : Hp} {s sI : Shared} {a : Addr} {o : HO}
/-- an object that came since the state sI is told of from now on -/
theorem Inv.track2 (I : Inv X pins σ H s) (J : Inv X pins σ H0 sI) (new : sI.heap.get? a = none) (hx : a ∉ X.ex)
    (na : H a = none) (nL : X.env.locals ≠ a) (nC : ∀ x c, X.env.cells.lookup x = some c → c ≠ a)
    (ok : ObjOk X.prog X.w (upd H a o) s.heap a o) : Inv X pins σ (upd H a o) s where
  ok := I.ok
  os := I.os
  bare := I.bare
  base :=
    { keep := I.base.keep
      slot := I.base.slot
      free := fun b ob q n hb => by
        have : b ≠ a := by
          rintro rfl
          obtain ⟨o', e⟩ := J.base.there b ob q hx
          rw [new] at e; cases e
        rw [upd_ne this]; exact I.base.free b ob q n hb
      there := I.base.there
      tups := fun b xs q => by
        have z := I.base.tups b xs q
        rw [upd_ne (ne_of_none z na)]; exact z
      frzs := fun b ob u q => by
        have z := I.base.frzs b ob u q
        rw [upd_ne (ne_of_none z na)]; exact z
      tbls := fun b ps q => by
        obtain ⟨m, z⟩ := I.base.tbls b ps q
        exact ⟨m, by rw [upd_ne (ne_of_none z na)]; exact z⟩ }
  loc := I.loc
  cell := I.cell
  free := by rw [upd_ne nL]; exact I.free
  freeC := fun x c e => by rw [upd_ne (nC x c e)]; exact I.freeC x c e
  pin := fun p hp => by
    obtain ⟨e, n, r⟩ := I.pin p hp
    have z := (J.pin p hp).1
    have : p.1 ≠ a := fun q => by rw [q, new] at z; cases z
    exact ⟨e, by rw [upd_ne this]; exact n, r⟩
  hok := fun b u q => by
    by_cases hb : b = a
    · subst hb; rw [upd_same] at q; cases q; exact ok
    · rw [upd_ne hb] at q
      exact (I.hok b u q).stay (fun _ _ _ r => r) (fun c r => by rw [upd_ne (ne_of_none r na)]; exact r)
        fun c xs r => by rw [upd_ne (ne_of_none r na)]; exact r
  len := I.len
end
mutual
theorem Dp.mono {K : PySem.W.Frag} {H H' : Hp} (e : Ex H H') : ∀ (d : PyData) (v : V), Dp K H v d → Dp K H' v d
  | .none, _, h => by cases h; exact .non
  | .bool b, _, h => by cases h; exact .bl b
  | .int i, _, h => by cases h; exact .int i
  | .str x, _, h => by cases h; exact .str x
  | .list ds, _, h => by
    cases h with
    | lst h1 h2 => exact .lst (ex_l e h1) (DpAll.mono e ds _ h2)
  | .tuple ds, _, h => by
    cases h with
    | tup h1 h2 => exact .tup (ex_t e h1) (DpAll.mono e ds _ h2)
  | .dict kvs, _, h => by cases h
theorem DpAll.mono {K : PySem.W.Frag} {H H' : Hp} (e : Ex H H') : ∀ (ds : List PyData) (vs : List V), DpAll K H vs ds → DpAll K H' vs ds
  | [], _, h => by cases h; exact .nil
  | d :: ds, _, h => by
    cases h with
    | cons h1 h2 => exact .cons (Dp.mono e d _ h1) (DpAll.mono e ds _ h2)
end
theorem DpAll.snoc {K : PySem.W.Frag} {H : Hp} {v : V} {d : PyData} : ∀ {vs : List V} {ds : List PyData}, DpAll K H vs ds → Dp K H v d → DpAll K H (vs ++ [v]) (ds ++ [d])
  | _, _, .nil, h => .cons h .nil
  | _, _, .cons h1 h2, h => .cons h1 (DpAll.snoc h2 h)
theorem vals_each : ∀ {zs : List (V × PyData)} {us : List Value}, Vals (zs.map Prod.fst) us → PySem.W.EachIs (fun u (b : V × PyData) => RelV b.1 u) us zs
  | [], _, h => by cases h; exact .nil
  | z :: zs, _, h => by
    cases h with
    | cons h1 h2 => exact .cons h1 (vals_each h2)
theorem each_vals : ∀ {zs : List (V × PyData)} {us : List Value}, PySem.W.EachIs (fun u (b : V × PyData) => RelV b.1 u) us zs → Vals (zs.map Prod.fst) us
  | _, _, .nil => .nil
  | _, _, .cons h1 h2 => .cons h1 (each_vals h2)
section
variable {X : Cx} {pins : List (Addr × Obj)} {σ : St} {H : Hp} {s : Shared}
theorem dp_each (I : Inv X pins σ H s) : ∀ {ds : List PyData} {vs : List V} {us : List Value}, DpAll X.K H vs ds → Vals vs us → PySem.W.EachIs (fun u d => ∃ as, Reads s.heap u d as) us ds
  | [], _, _, h, r => by
    cases h
    cases r
    exact .nil
  | d :: ds, _, _, h, r => by
    cases h with
    | cons h1 h2 =>
      cases r with
      | cons r1 r2 => exact .cons (Dp.reads I d _ _ h1 r1) (dp_each I h2 r2)
theorem dp_pairs {K : PySem.W.Frag} : ∀ {zs : List (V × PyData)}, (∀ z ∈ zs, Dp K H z.1 z.2) → DpAll K H (zs.map Prod.fst) (zs.map Prod.snd)
  | [], _ => .nil
  | z :: zs, h => .cons (h z List.mem_cons_self) (dp_pairs fun y hy => h y (List.mem_cons_of_mem _ hy))
end
/-- sorted(xs) of data -/
def rSortedDt (K : PySem.W.Frag) : List V → Hp → VK → Prop := fun vs H Q => ∃ (a : Addr) (zs : List (V × PyData)), vs = [V.ref a] ∧ SqL K H a (zs.map Prod.fst) ∧ (∀ z ∈ zs, Dp K H z.1 z.2) ∧ PySem.W.AllAlike (zs.map Prod.snd) ∧ PySem.W.Sortable (zs.map Prod.snd) ∧ (∀ z ∈ zs, z.2.depth ≤ 60) ∧ zs.length ≤ 100000 ∧
  ∀ p, H p = none → Q (.ref p) (upd H p (.lst ((zs.mergeSort (PySem.W.dataLe false Prod.snd)).map Prod.fst)))
theorem cr_sortedDt {X : Cx} (hu : X.A.units + 64 < cLine) : CallR X (.builtin "sorted") (rSortedDt X.K) := by
  intro pins s σ H vs us Q I r h
  obtain ⟨a, zs, rfl, hs, hd, hal, hso, hde, hlen, q⟩ := h
  obtain ⟨its, rv, hl, hz⟩ := I.list hs
  rw [Vals.ref1 r]
  have er := dp_each I (dp_pairs hd) rv
  refine PySem.W.sorted_data (β := V × PyData) (enc := Prod.snd) (bs := zs) (R := fun u b => RelV b.1 u) hl.isList (vals_each rv) (PySem.W.each_of_map Prod.snd er) hal hso (sz_of hlen) (fun b hb => by have := hde b hb; omega) fun out ho eo => ?_
  obtain ⟨ep, he'⟩ := PyProof.Rows.sortedAll_at s.heap its out.toArray
  have rel := each_vals eo
  have len : ((zs.mergeSort (PySem.W.dataLe false Prod.snd)).map Prod.fst).length ≤ sizeLine := by
    rw [List.length_map, List.length_mergeSort]
    exact sz_of hlen
  exact ⟨.ref _, upd H (s.heap.objs.size + 1) (.lst _), I.laid (t' := s.toks) (fun _ _ => PyProof.Rows.sortedAll_old) (Nat.le_succ _) ⟨len, out, ep, rel, he'⟩, rfl, q _ (I.hok.fresh (Nat.le_succ _))⟩
end L2

set_option Elab.async false
set_option linter.all false
set_option maxRecDepth 100000
set_option maxHeartbeats 2000000
namespace L2
open PySem PySem.Spec PyProof.Rows Evl
/-- sorted(xs, key=f), f an own def that tells data of each item -/
def rSortedBy (K : PySem.W.Frag) (f : Addr) (sp : Sp) : List V → List V → Hp → VK → Prop := fun vs zs H Q => ∃ (a : Addr) (bs : List (V × PyData)), vs = [V.ref a] ∧ zs = [V.ref f] ∧ SqL K H a (bs.map Prod.fst) ∧ PySem.W.AllAlike (bs.map Prod.snd) ∧ PySem.W.Sortable (bs.map Prod.snd) ∧ (∀ b ∈ bs, b.2.depth ≤ 60) ∧ bs.length ≤ 100000 ∧
  (∀ b ∈ bs, ∀ H1, Ex H H1 → ∀ Q1 : VK, (∀ v H2, Ex H1 H2 → Dp K H2 v b.2 → Q1 v H2) → sp [b.1] H1 Q1 E0) ∧
  ∀ p H', Ex H H' → H p = none → H' p = none → Q (.ref p) (upd H' p (.lst ((bs.mergeSort (PySem.W.dataLe false Prod.snd)).map Prod.fst)))
theorem DpAll.len {K : PySem.W.Frag} {H : Hp} : ∀ {vs : List V} {ds : List PyData}, DpAll K H vs ds → vs.length = ds.length
  | _, _, .nil => rfl
  | _, _, .cons _ h => by rw [List.length_cons, List.length_cons, h.len]
section
variable {X : Cx} {pins : List (Addr × Obj)} {σ : St} {H H' : Hp} {s s' : Shared}
theorem off_stack {b : Addr} (ok : X.Ok) (h : FpOk X pins H b) : b ∉ frs X.stack := fun hm => by
  have h2 := h.2.1
  have h3 := h.2.2.1
  rcases ok.stk with e | ⟨e, hf⟩
  · rw [e] at hm
    exact h3 hm
  · rw [e] at hm
    obtain ⟨env, he, q⟩ := List.mem_filterMap.mp hm
    rcases List.mem_cons.mp he with rfl | he
    · rw [hf] at q
      exact h2 (Option.some.inj q).symm
    · exact h3 (List.mem_filterMap.mpr ⟨env, he, q⟩)
theorem cr_sortedBy {k : Nat} {f : Addr} {fd : FuncData} {ps : List Str} {sp : Sp} (F : FnOk X.prog X.w X.K X.mg X.base CX0 k f fd ps sp) (hr : Room (k + 2) X.A) (hb : Binds X.K fd ps []) (hcalm : X.calm = true) (hex : X.ex = []) :
    CallRK X (.builtin "sorted") [Str.ofString "key"] (rSortedBy X.K f sp) := by
  intro pins s σ H vs zs us ws Q I r rz h
  obtain ⟨a, bs, rfl, rfl, hS, hal, hso, hde, hlen, turn, q⟩ := h
  obtain ⟨its, rv, hl, _⟩ := I.list hS
  obtain rfl := Vals.ref1 r
  obtain ⟨w1, rfl, e1⟩ := vals1 rz
  obtain rfl : w1 = Value.ref f := e1
  have lits : its.length = bs.length := by rw [← rv.length, List.length_map]
  have sits : its.length ≤ sizeLine := by rw [lits]; exact sz_of hlen
  refine PySem.W.sorted_of_sort hl.isList sits (PyProof.Rows.ksk_s1 _ _) (fun _ => PyProof.Rows.ksk_l1 _ _) fun E' => ?_
  show wpAny _ _ (Builtin.«list.sort» ⟨[.ref (s.heap.objs.size + 1)], [(Str.ofString "key", .ref f)]⟩) _ _ _
  rw [PyProof.Rows.ksk_t1]
  have atN := PySem.W.copyHeap_at s.heap its
  unfold ksk_tree
  refine wpAny_bind (listItems_at (n := 0) atN rfl ?_)
  refine wpAny_bind (listUpdate_at (n := 0) atN rfl ?_ (by rw [List.size_toArray]; exact sits) (Nat.zero_le _))
  obtain ⟨eN, atN1⟩ : ∃ e, ((PySem.W.copyHeap s.heap its).update (s.heap.objs.size + 1) (Obj.mapSeq fun _ => (#[] : Array Value))).get? (s.heap.objs.size + 1) = some (seqObj "list" #[] e) := ⟨_, get?_update_seq atN fun _ => #[]⟩
  refine wpAny_bind (seqEpoch_at (n := eN) atN1 rfl ?_)
  refine wpAny_bind (wpAny_newTuple ?_ (by show its.length ≤ _; exact sits))
  refine wpAny_bind (wpAny_newList ?_ (Nat.zero_le _))
  refine wpAny_holding ?_
  have up0 : ∀ b o, s.heap.get? b = some o → (PySem.W.sortingHeap (PySem.W.copyHeap s.heap its) (s.heap.objs.size + 1) its).get? b = some o := fun b o e =>
    PySem.W.sortingHeap_old (Nat.ne_of_lt (Nat.lt_succ_of_lt (Heap.lt_size e))) (PySem.W.copyHeap_old e)
  have sz1 : (PySem.W.copyHeap s.heap its).objs.size = s.heap.objs.size + 2 := by
    unfold PySem.W.copyHeap
    rw [size_push', Heap.size_update, size_push']
  have szS : (((PySem.W.copyHeap s.heap its).update (s.heap.objs.size + 1) (Obj.mapSeq fun _ => (#[] : Array Value))).push (seqObj "tuple" its.toArray 0)).objs.size = s.heap.objs.size + 3 := by
    rw [size_push', Heap.size_update, sz1]
  have atS0 : (PySem.W.sortingHeap (PySem.W.copyHeap s.heap its) (s.heap.objs.size + 1) its).get? (s.heap.objs.size + 3) = some (seqObj "list" #[] 0) := by
    unfold PySem.W.sortingHeap
    rw [← szS]
    exact Heap.get?_push_size _ rfl
  have atN2 : (PySem.W.sortingHeap (PySem.W.copyHeap s.heap its) (s.heap.objs.size + 1) its).get? (s.heap.objs.size + 1) = some (seqObj "list" #[] eN) :=
    Heap.get?_push_of_some _ (Heap.get?_push_of_some _ atN1)
  show wpAny (model X.prog X.w) X.A.in1.in1 (ksk_rest (s.heap.objs.size + 1) (.ref f) false its.toArray eN (.ref (((PySem.W.copyHeap s.heap its).update (s.heap.objs.size + 1) (Obj.mapSeq fun _ => (#[] : Array Value))).push (seqObj "tuple" its.toArray 0)).objs.size)) _ _ { s with heap := PySem.W.sortingHeap (PySem.W.copyHeap s.heap its) (s.heap.objs.size + 1) its }
  rw [szS]
  have hN : H (s.heap.objs.size + 1) = none := I.hok.fresh (Nat.le_succ s.heap.objs.size)
  have hS3 : H (s.heap.objs.size + 3) = none := I.hok.fresh (by omega)
  have fpN : FpOk X pins H (s.heap.objs.size + 1) := I.fpOk (Nat.le_succ _) hN
  have fpS : FpOk X pins H (s.heap.objs.size + 3) := I.fpOk (by omega) hS3
  have offN := off_stack I.ok fpN
  have offS := off_stack I.ok fpS
  have I0 : Inv X pins σ H { s with heap := PySem.W.sortingHeap (PySem.W.copyHeap s.heap its) (s.heap.objs.size + 1) its } := I.kept (t' := s.toks) up0
  have newN : s.heap.get? (s.heap.objs.size + 1) = none := Heap.get?_none_of_le (Nat.le_succ _)
  generalize PySem.W.sortingHeap (PySem.W.copyHeap s.heap its) (s.heap.objs.size + 1) its = h0 at up0 atS0 atN2 I0
  have ne3 : s.heap.objs.size + 3 ≠ s.heap.objs.size + 1 := by omega
  generalize s.heap.objs.size + 1 = N at *
  generalize s.heap.objs.size + 3 = S at *
  unfold ksk_rest
  refine wpAny_bind (wpAny_rule ?_)
  first
    | rw [List.forIn_toArray]
    | (rw [← Array.forIn_toList]; simp only [List.toList_toArray])
  have movedFp : ∀ {b : Addr} {H1 : Hp}, FpOk X pins H b → H1 b = none → FpOk X pins H1 b := fun h n => ⟨n, h.2⟩
  refine wpAny_bind (PyProof.Rows.ksk_fold (fun i s' => ∃ H' ks kA e, Inv X pins σ H' s' ∧ Ex H H' ∧ H' N = none ∧ H' S = none ∧ s'.heap.get? S = some (seqObj "list" kA e) ∧ s'.heap.get? N = some (seqObj "list" #[] eN) ∧ Vals ks kA.toList ∧ DpAll X.K H' ks ((bs.map Prod.snd).take i)) its 0 _
    ⟨H, [], #[], 0, I0, Ex.refl H, hN, hS3, atS0, atN2, .nil, by rw [List.take_zero]; exact .nil⟩ ?turn ?last)
  case turn =>
    rintro j x s' hx ⟨H', ks, kA, e, J, ex, nN, nS, atS, atN', rk, dk⟩
    simp only [Nat.zero_add] at dk ⊢
    have hj : j < its.length := (List.getElem?_eq_some_iff.mp hx).1
    have hb1 : bs[j]? = some (bs[j]'(by omega)) := List.getElem?_eq_getElem (by omega)
    generalize bs[j]'(by omega) = b at hb1
    have mb := List.mem_of_getElem? hb1
    obtain ⟨x', hx', rx⟩ := rv.get (i := j) (x := b.1) (by rw [List.getElem?_map, hb1]; rfl)
    rw [hx] at hx'
    obtain rfl := Option.some.inj hx'
    have one : Vals [b.1] [x] := .cons rx .nil
    have st := turn b mb H' ex (fun v H2 => Ex H' H2 ∧ Dp X.K H2 v b.2) (fun v H2 e d => ⟨e, d⟩)
    have lens : ([x] : List Value).length = ps.length := one.length.symm.trans (F.len _ _ _ _ st)
    have ran := F.run X.A.in1.in1 X.stack s' H' ⟨[x], []⟩ [x] [b.1] _ _ hr.in1.in1 J.env0.in1.in1 (hb s' [x] J.kIn lens) one st
    have kz : kA.size < its.length + 1 := by
      have h1 : ks.length = kA.toList.length := rk.length
      have h2 : ks.length = ((bs.map Prod.snd).take j).length := dk.len
      have h3 : kA.toList.length = kA.size := Array.length_toList
      have h4 : ((bs.map Prod.snd).take j).length ≤ j := by rw [List.length_take]; exact Nat.min_le_left _ _
      omega
    refine wpAny_bind (wpAny_attempt (wpAny_mono (wpAny_call (Q := fun v s2 => ∃ v1 H2, Inv X pins σ H2 s2 ∧ RelV v1 v ∧ Ex H' H2 ∧ Dp X.K H2 v1 b.2 ∧ H2 N = none ∧ H2 S = none ∧ s2.heap.get? S = some (seqObj "list" kA e) ∧ s2.heap.get? N = some (seqObj "list" #[] eN)) (E := fun _ _ => False) (codeAny_mono ran fun r2 s2 h2 => ?_)) (fun v s2 got => ?_) fun _ _ z => z.elim))
    · match r2, h2 with
      | .error _, h2 => exact h2.elim
      | .ok .next, h2 => exact h2.elim
      | .ok .brk, h2 => exact h2.elim
      | .ok .cont, h2 => exact h2.elim
      | .ok (.ret u), ⟨v1, H2, os, bare, un, hok, rel, q1, q2⟩ =>
        obtain ⟨v2, H3, J2, rel2, e1, e2⟩ := J.after (Q := fun v H => v = v1 ∧ H = H2) ⟨v1, H2, os, bare, un, hok, rel, rfl, rfl⟩
        subst e1 e2
        exact ⟨_, _, J2, rel2, q1, q2, un.free _ _ atN' nN (by simp), un.free _ _ atS nS (by simp), un.keep _ _ atS nS offS (by simp), un.keep _ _ atN' nN offN (by simp)⟩
    · obtain ⟨v1, H2, J2, rel, ex2, d2, nN2, nS2, atS2, atN3⟩ := got
      try dsimp only
      have same := Heap.SameBut.update s2.heap S (Obj.mapSeq (·.push v))
      obtain ⟨c2, atS3⟩ : ∃ c2, (s2.heap.update S (Obj.mapSeq (·.push v))).get? S = some (seqObj "list" (kA.push v) c2) := ⟨_, get?_update_seq atS2 (·.push v)⟩
      refine wpAny_bind (listUpdate_at (n := e) atS2 rfl ?_ (by omega) (by rw [Array.size_push]; omega))
      have J3 : Inv X pins σ H2 { s2 with heap := s2.heap.update S (Obj.mapSeq (·.push v)) } := J2.turnedL (t' := s2.toks) (ch := [S]) (fun b o hb e => (same.2 b (fun z => hb (by rw [z]; exact List.mem_singleton.mpr rfl))).trans e) fun b hb => by
        rw [List.mem_singleton] at hb
        subst hb
        exact movedFp fpS nS2
      refine wpAny_pure ⟨rfl, H2, ks ++ [v1], kA.push v, c2, J3, ex.trans ex2, nN2, nS2, atS3, (same.2 N ne3.symm).trans atN3, ?_, ?_⟩
      · rw [Array.toList_push]
        exact rk.append (.cons rel .nil)
      · rw [List.take_add_one, List.getElem?_map, hb1]
        exact DpAll.snoc (DpAll.mono ex2 _ _ dk) d2
  case last =>
    rintro s' ⟨H', ks, kA, e, J, ex, nN, nS, atS, atN', rk, dk⟩
    rw [Nat.zero_add, List.take_of_length_le (by rw [List.length_map]; omega)] at dk
    have hk := dp_each J dk rk
    have lk : kA.size = its.length := by
      have := hk.length
      rw [Array.length_toList, List.length_map] at this
      omega
    try dsimp only
    refine wpAny_bind (listItems_at (n := e) atS rfl ?_)
    let hid : Hp := fun b => if b = S then some (.own 0) else none
    have hidS : (hidT s'.heap hid).get? S = none := by
      cases g : (hidT s'.heap hid).get? S with
      | none => rfl
      | some o =>
        have := (of_hidT g).2
        simp only [hid, if_true] at this
        cases this
    refine PySem.W.keyH_end (κ := PySem.W.dataKind s'.heap (bs.map Prod.snd)) (h₁ := hidT s'.heap hid) (fun b o _ g => (of_hidT g).1) hidS atS atN' ne3 (PySem.W.SortsAt.data (s := s') hk hal hso (fun d hd => by
      obtain ⟨b, hb, rfl⟩ := List.mem_map.mp hd
      have := hde b hb
      have := hr.un
      show X.A.units + 1 + 1 + b.2.depth < cLine
      omega)) lk sits fun h' tk c kp atEnd => ⟨rfl, ?_⟩
    have J4 : Inv X pins σ H' { s' with heap := h', toks := tk } := J.turnedL (ch := [N, S]) (fun b o hb g => by
      simp only [List.mem_cons, List.not_mem_nil, or_false, not_or] at hb
      exact kp b o hb.1 (hidT_get g (by simp only [hid, if_neg hb.2]))) fun b hb => by
        simp only [List.mem_cons, List.not_mem_nil, or_false] at hb
        rcases hb with rfl | rfl
        · exact movedFp fpN nN
        · exact movedFp fpS nS
    have outs := PySem.W.keyedOut_each (rev := false) (R := fun u (b : V × PyData) => RelV b.1 u) Prod.snd ⟨s'.heap, kA.toList, hal, rfl, hk⟩ (vals_each rv)
    have rel := each_vals outs
    have len : ((bs.mergeSort (PySem.W.dataLe false Prod.snd)).map Prod.fst).length ≤ sizeLine := by
      rw [List.length_map, List.length_mergeSort]
      exact sz_of hlen
    have T : Inv X pins σ (upd H' N (.lst ((bs.mergeSort (PySem.W.dataLe false Prod.snd)).map Prod.fst))) { s' with heap := h', toks := tk } :=
      J4.track2 I newN (by rw [hex]; exact fun z => nomatch z) nN (Ne.symm fpN.2.1) (fun x c e z => fpN.2.2.2.2.1 x c e z) ⟨len, _, c, rel, atEnd⟩
    exact ⟨.ref N, _, T, rfl, q N H' ex hN nN⟩
end
end L2

set_option Elab.async false
set_option linter.all false
set_option maxRecDepth 100000
set_option maxHeartbeats 2000000
/-! Our own rules: loops over texts and enumerate, dicts read, either of two readings, data without lists. -/
namespace L2
open PySem PySem.Spec PyProof.Rows Evl
/-- either of two readings -/
def tAlt (t1 t2 : TE) : TE := fun σ H Q => t1 σ H Q ∨ t2 σ H Q
theorem pe_alt {X : Cx} {e : Expr} {t1 t2 : TE} (h1 : PE X e t1) (h2 : PE X e t2) : PE X e (tAlt t1 t2) := ⟨fun pins s σ H Q I h => h.elim (h1.run pins s σ H Q I) (h2.run pins s σ H Q I)⟩
mutual
/-- data without lists and dicts -/
def noL : PyData → Bool | .list _ => false | .dict _ => false | .tuple ds => noLs ds | _ => true
def noLs : List PyData → Bool | [] => true | d :: ds => noL d && noLs ds
end
theorem sqT_upd {K : PySem.W.Frag} {H : Hp} {l a : Addr} {ys xs : List V} {o : HO} (hl : H l = some (.lst ys)) (h : SqT K H a xs) : SqT K (upd H l o) a xs := by
  rcases h with h | h
  · refine Or.inl ?_
    rcases h with h | ⟨u, h⟩
    · exact Or.inl (by rw [upd_ne (ne_of h hl fun z => by cases z)]; exact h)
    · exact Or.inr ⟨u, by rw [upd_ne (ne_of h hl fun z => by cases z)]; exact h⟩
  · exact Or.inr h
mutual
theorem Dp.updL {K : PySem.W.Frag} {H : Hp} {l : Addr} {ys : List V} {o : HO} (hl : H l = some (.lst ys)) : ∀ (d : PyData) (v : V), noL d = true → Dp K H v d → Dp K (upd H l o) v d
  | .none, _, _, h => by cases h; exact .non
  | .bool b, _, _, h => by cases h; exact .bl b
  | .int i, _, _, h => by cases h; exact .int i
  | .str x, _, _, h => by cases h; exact .str x
  | .list ds, _, n, _ => by cases n
  | .tuple ds, _, n, h => by
    cases h with
    | tup h1 h2 => exact .tup (sqT_upd hl h1) (DpAll.updL hl ds _ (by simpa only [noL] using n) h2)
  | .dict kvs, _, n, _ => by cases n
theorem DpAll.updL {K : PySem.W.Frag} {H : Hp} {l : Addr} {ys : List V} {o : HO} (hl : H l = some (.lst ys)) : ∀ (ds : List PyData) (vs : List V), noLs ds = true → DpAll K H vs ds → DpAll K (upd H l o) vs ds
  | [], _, _, h => by cases h; exact .nil
  | d :: ds, _, n, h => by
    rw [noLs, Bool.and_eq_true] at n
    cases h with
    | cons h1 h2 => exact .cons (Dp.updL hl d _ n.1 h1) (DpAll.updL hl ds _ n.2 h2)
end
theorem noLs_of : ∀ {ds : List PyData}, (∀ d ∈ ds, noL d = true) → noLs ds = true
  | [], _ => by simp only [noLs]
  | d :: ds, h => by
    rw [noLs, h d List.mem_cons_self, noLs_of fun e he => h e (List.mem_cons_of_mem _ he)]
    rfl
theorem Dp.tupI {K : PySem.W.Frag} {H : Hp} {v : V} {ds : List PyData} (h : Dp K H v (.tuple ds)) : ∃ a xs, v = .ref a ∧ SqT K H a xs ∧ DpAll K H xs ds := by
  cases h with
  | tup h1 h2 => exact ⟨_, _, rfl, h1, h2⟩
theorem Dp.strI {K : PySem.W.Frag} {H : Hp} {v : V} {x : Str} (h : Dp K H v (.str x)) : v = .str x := by cases h; rfl
theorem Dp.intI {K : PySem.W.Frag} {H : Hp} {v : V} {x : Int} (h : Dp K H v (.int x)) : v = .int x := by cases h; rfl
theorem Dp.nonI {K : PySem.W.Frag} {H : Hp} {v : V} (h : Dp K H v .none) : v = .non := by cases h; rfl
theorem DpAll.consI {K : PySem.W.Frag} {H : Hp} {vs : List V} {d : PyData} {ds : List PyData} (h : DpAll K H vs (d :: ds)) : ∃ v r, vs = v :: r ∧ Dp K H v d ∧ DpAll K H r ds := by
  cases h with
  | cons h1 h2 => exact ⟨_, _, rfl, h1, h2⟩
theorem DpAll.nilI {K : PySem.W.Frag} {H : Hp} {vs : List V} (h : DpAll K H vs []) : vs = [] := by cases h; rfl
theorem DpAll.get {K : PySem.W.Frag} {H : Hp} : ∀ {vs : List V} {ds : List PyData} {i : Nat} {v : V}, DpAll K H vs ds → vs[i]? = some v → ∃ d, ds[i]? = some d ∧ Dp K H v d
  | _, _, _, _, .nil, e => by simp at e
  | _, _, 0, _, .cons h _, e => by simp at e; subst e; exact ⟨_, rfl, h⟩
  | _, _, i + 1, _, .cons _ h, e => by
    obtain ⟨d, a, b⟩ := DpAll.get (i := i) h (by simpa using e)
    exact ⟨d, by simpa using a, b⟩
theorem DpAll.of {K : PySem.W.Frag} {H : Hp} : ∀ {vs : List V} {ds : List PyData}, vs.length = ds.length → (∀ (i : Nat) v d, vs[i]? = some v → ds[i]? = some d → Dp K H v d) → DpAll K H vs ds
  | [], [], _, _ => .nil
  | v :: vs, d :: ds, hl, h => .cons (h 0 v d rfl rfl) (DpAll.of (by simpa using hl) fun i a b e1 e2 => h (i + 1) a b (by simpa using e1) (by simpa using e2))
  | [], _ :: _, hl, _ => by simp at hl
  | _ :: _, [], hl, _ => by simp at hl
end L2
namespace Evl
open PySem L2 Com TX Prt
section
variable {K : PySem.W.Frag} {σ : L2.St} {H H' : Hp} {ta tb tc te td ty : TE} {t u : TT} {x y z v : V} {D : Ends} {tz tu : TS} {g : TG} {P2 : Hp → V → Prop}
theorem ev_alt1 (h : Ev ta σ H v) : Ev (tAlt ta tb) σ H v := fun H1 e Q q => Or.inl (h H1 e Q q)
theorem ev_alt2 (h : Ev tb σ H v) : Ev (tAlt ta tb) σ H v := fun H1 e Q q => Or.inr (h H1 e Q q)
theorem ev_dget {kvs : List (Key × V)} {a : Addr} {k : Str} (h : Ev td σ H (.ref a)) (hk : Ev ty σ H (.str k)) (hd : Rd H a (.dK kvs)) (hv : valV kvs (.inr k) = some v) : Ev (tDGet td ty) σ H v := fun H1 e Q q =>
  h H1 e _ fun H2 e2 => hk H2 (e.trans e2) _ fun H3 e3 => ⟨a, v, rfl, .inl ⟨kvs, .inr k, ex_rd ((e.trans e2).trans e3) hd, rfl, hv.symm⟩, q H3 (e2.trans e3)⟩
theorem el_listOf {p : Addr} {xs : List V} (ha : Ev ta σ H (.ref p)) (h : SqL K H p xs) : EvL (tCB (fun xs H Q => ∃ p ys, xs = [.ref p] ∧ (SqL K H p ys ∨ SqT K H p ys) ∧ ∀ l, H l = none → Q (.ref l) (upd H l (.lst ys))) (tCons ta tNil)) σ H xs := fun H1 e Q q =>
  ha H1 e _ fun H2 e2 => ⟨p, xs, rfl, Or.inl (ex_l (e.trans e2) h), fun l hl => q l _ (fresh_back e2 hl) (e2.trans (Ex.new hl)) upd_same⟩
theorem q_forS {w : Str} {j : Nat} (h : Ev te σ H (.str w)) (Pv : Nat → L2.St → Hp → Prop) (h0 : ∀ H1, Ex H H1 → Pv 0 σ H1)
    (hs : ∀ i c σ' H', (L w)[i]? = some c → Pv i σ' H' → tu { D with nx := Pv (i + 1), ct := Pv (i + 1), bk := tz D } (σ'.set j (some (.str (T [c])))) H') (hd : ∀ σ' H', Pv (L w).length σ' H' → tz D σ' H') :
    tSeq (tFor (iStr te) (gName j) tu) tz D σ H :=
  h H (Ex.refl H) _ fun H1 e => ⟨w, rfl, for_it (D := { D with nx := tz D }) walk_str Pv (h0 H1 e) (fun _ _ _ _ _ => True.intro) (fun i x σ' H2 H3 hi p y => by
    obtain ⟨rfl, c, hc, rfl⟩ := y
    exact hs i c σ' H3 (by show w.cps.toList[i]? = some c; rw [Array.getElem?_toList]; exact hc) p) (fun σ' H' p => hd σ' H' (by
      have e : (L w).length = w.cps.size := Array.length_toList
      rw [e]
      exact p))⟩
/-- for i, x in enumerate(list) -/
theorem s_forE {ta : TA} {a : Addr} {xs : List V} {j1 j2 : Nat} (h : EvA ta σ H [.ref a]) (hx : SqL K H a xs) (Pv : Nat → L2.St → Hp → Prop) (h0 : ∀ H1, Ex H H1 → Pv 0 σ H1) (hl : ∀ i σ' H', i ≤ xs.length → Pv i σ' H' → SqL K H' a xs)
    (hs : ∀ i x σ' H0 H', xs[i]? = some x → Pv i σ' H0 → Ex H0 H' → tu { D with nx := Pv (i + 1), ct := Pv (i + 1), bk := D.nx } ((σ'.set j1 (some (.int (i : Int)))).set j2 (some x)) H') (hd : ∀ σ' H', Pv xs.length σ' H' → D.nx σ' H') :
    tFor (iEnum K ta) (gTup K 2 (gCons (gName j1) (gCons (gName j2) gNil))) tu D σ H :=
  h H (Ex.refl H) _ fun H1 e => ⟨a, xs, rfl, ex_l e hx, for_it (walk_enum (K := K) (a := a) (xs := xs)) Pv (h0 H1 e) hl (fun i x σ' H2 H3 hi p y => by
    obtain ⟨T0, a1, a2, rfl, hT, rfl, h1, h2⟩ := y
    cases h1
    exact ⟨T0, _, rfl, st_of upd_same, rfl, _, _, rfl, _, [], rfl, rfl, hs i a2 σ' H2 _ h2 p (Ex.new hT)⟩) hd⟩
/-- for .. in f(..) -/
theorem q_forC {sp : Sp} {dvs vs : List V} {E : XK} {ta : TA} (h : EvA ta σ H vs) (k : ∀ H1, Ex H H1 → sp (vs ++ dvs) H1 (fun x H2 => tFor (iList K (tC x)) g tu { D with nx := tz D } σ H2) E) :
    tSeq (tFor (iList K (tCall sp dvs E ta)) g tu) tz D σ H := h H (Ex.refl H) _ fun H1 e => k H1 e
theorem s_forC {sp : Sp} {dvs vs : List V} {E : XK} {ta : TA} (h : EvA ta σ H vs) (k : ∀ H1, Ex H H1 → sp (vs ++ dvs) H1 (fun x H2 => tFor (iList K (tC x)) g tu D σ H2) E) :
    tFor (iList K (tCall sp dvs E ta)) g tu D σ H := h H (Ex.refl H) _ fun H1 e => k H1 e
/-- xs.append(e), e told by the heap -/
theorem s_appG {l : Addr} {xs : List V} (hl : H l = some (.lst xs)) (ha : Ev ta σ H (.ref l)) (h : EvG P2 te σ H) (hz : xs.length < 100000) (k : ∀ v H1, Ex H H1 → P2 H1 v → D.nx σ (upd H1 l (.lst (xs ++ [v])))) :
    tDrop (tBM K "list" rAppend ta (tCons te tNil)) D σ H := ha H (Ex.refl H) _ fun H1 e1 =>
  ⟨Or.inl ⟨rfl, xs, sq_of (e1 l _ hl)⟩, h H1 e1 _ fun v H2 e2 p => ⟨l, xs, v, rfl, rfl, e2 l _ (e1 l _ hl), sz_lt hz, k v H2 (e1.trans e2) p⟩⟩
theorem q_appG {l : Addr} {xs : List V} (hl : H l = some (.lst xs)) (ha : Ev ta σ H (.ref l)) (h : EvG P2 te σ H) (hz : xs.length < 100000) (k : ∀ v H1, Ex H H1 → P2 H1 v → tz D σ (upd H1 l (.lst (xs ++ [v])))) :
    tSeq (tDrop (tBM K "list" rAppend ta (tCons te tNil))) tz D σ H := s_appG (D := { D with nx := tz D }) hl ha h hz k
/-- a tuple, as data -/
theorem eg_tupD {ta : TA} {ds : List PyData} (h : EvAR ta σ H fun vs H1 => DpAll K H1 vs ds) (hl : ds.length ≤ 1000) : EvG (fun H1 v => Dp K H1 v (.tuple ds)) (tTup ta) σ H :=
  eg_tup h (fun vs H1 r => by rw [r.len]; exact hl) fun p vs H1 r hp => .tup (st_of upd_same) (DpAll.mono (Ex.new hp) _ _ r)
theorem ear_nilD : EvAR tNil σ H fun vs H1 => DpAll K H1 vs [] := ear_nil fun _ _ => .nil
theorem ear_vD {tr : TA} {d : PyData} {ds : List PyData} (h : Ev te σ H v) (hd : Dp K H v d) (hr : EvAR tr σ H fun vs H1 => DpAll K H1 vs ds) : EvAR (tCons te tr) σ H fun vs H1 => DpAll K H1 vs (d :: ds) := fun H1 e Q q =>
  h H1 e _ fun H2 e2 => hr H2 (e.trans e2) _ fun vs H3 e3 r => q _ H3 (e2.trans e3) (.cons (Dp.mono ((e.trans e2).trans e3) _ _ hd) r)
theorem ear_gD {tr : TA} {d : PyData} {ds : List PyData} (h : EvG (fun H1 v => Dp K H1 v d) te σ H) (hr : EvAR tr σ H fun vs H1 => DpAll K H1 vs ds) : EvAR (tCons te tr) σ H fun vs H1 => DpAll K H1 vs (d :: ds) := fun H1 e Q q =>
  h H1 e _ fun v H2 e2 p => hr H2 (e.trans e2) _ fun vs H3 e3 r => q _ H3 (e2.trans e3) (.cons (Dp.mono e3 _ _ p) r)
/-- x or (), as data -/
theorem eg_orD {d e r : PyData} (ha : Ev ta σ H v) (hd : Dp K H v d) (hb : EvG (fun H1 v => Dp K H1 v e) tb σ H) (hc : (d = .none ∧ r = e) ∨ (∃ x xs, d = .tuple (x :: xs) ∧ r = d)) : EvG (fun H1 v => Dp K H1 v r) (tOrT K ta tb) σ H := fun H1 e1 Q q =>
  ha H1 e1 _ fun H2 e2 => by
    rcases hc with ⟨rfl, rfl⟩ | ⟨x, xs, rfl, rfl⟩
    · obtain rfl := hd.nonI
      exact ⟨false, rfl, by rw [if_neg Bool.false_ne_true]; exact hb H2 (e1.trans e2) _ fun v H3 e3 p => q v H3 (e2.trans e3) p⟩
    · have hd2 := Dp.mono (e1.trans e2) _ _ hd
      obtain ⟨a, ys, rfl, h1, h2⟩ := hd2.tupI
      obtain ⟨y, r, rfl, _, _⟩ := h2.consI
      exact ⟨true, Or.inr (Or.inl ⟨_, h1, rfl⟩), by rw [if_pos rfl]; exact q _ H2 e2 hd2⟩
/-- the slots written out -/
theorem q_sl {σ' : L2.St} (h : σ = σ') (k : tz D σ' H) : tz D σ H := h ▸ k
/-- a display of values told by the heap, its list new -/
theorem q_asgGN {ta : TA} {i n : Nat} (h : EvGs P2 ta σ H n) (hn : n ≤ 1000) (mo : ∀ H H' v, Ex H H' → P2 H v → P2 H' v)
    (k : ∀ p xs H1, H p = none → Ex H H1 → H1 p = some (.lst xs) → xs.length = n → (∀ v ∈ xs, P2 H1 v) → tz D (σ.set i (some (.ref p))) H1) : tSeq (tAsg (tLst ta) (gName i)) tz D σ H :=
  h H (Ex.refl H) _ fun vs H1 e hl hvs => ⟨sz_of (by omega), fun p hp => k p vs _ (fresh_back e hp) (e.trans (Ex.new hp)) upd_same hl fun v hv => mo _ _ _ (Ex.new hp) (hvs v hv)⟩
theorem s_asgG {te : TE} {i : Nat} (h : EvG P2 te σ H) (k : ∀ v H1, Ex H H1 → P2 H1 v → D.nx (σ.set i (some v)) H1) : tAsg te (gName i) D σ H := h H (Ex.refl H) _ fun v H1 e r => k v H1 e r
end
end Evl

set_option Elab.async false
set_option linter.all false
set_option maxRecDepth 100000
set_option maxHeartbeats 2000000
/-! Our own readings: a comprehension whose items are told by the heap. -/
namespace L2
open PySem PySem.Spec PyProof.Rows Evl
theorem Ex.both {H H' : Hp} {D : Addr} {o : HO} (e : Ex H H') : Ex (upd H D o) (upd H' D o) := fun b u hb => by
  by_cases hD : b = D
  · subst hD
    rw [upd_same] at hb ⊢
    exact hb
  · rw [upd_ne hD] at hb ⊢
    exact e _ _ hb
theorem updSelf {H : Hp} {a : Addr} {o : HO} (h : H a = some o) : upd H a o = H := by
  funext b
  by_cases hb : b = a
  · subst hb
    rw [upd_same, h]
  · rw [upd_ne hb]
section
variable {K : PySem.W.Frag} {σ : L2.St} {H : Hp} {te ta tb : TE} {v : V} {D : Ends} {tz : TS}
/-- a list, told but for its place -/
def EvS (K : PySem.W.Frag) (te : TE) (σ : L2.St) (H : Hp) (xs : List V) : Prop := ∀ H1, Ex H H1 → ∀ Q : VK, (∀ a H2, Ex H1 H2 → SqL K H2 a xs → Q (.ref a) H2) → te σ H1 Q
theorem es_v {a : Addr} {xs : List V} (h : Ev te σ H (.ref a)) (hx : SqL K H a xs) : EvS K te σ H xs := fun H1 e Q q => h H1 e _ fun H2 e2 => q a H2 e2 (ex_l (e.trans e2) hx)
theorem es_l {xs : List V} (h : EvL te σ H xs) : EvS K te σ H xs := fun H1 e Q q => h H1 e _ fun a H2 _ e2 h2 => q a H2 e2 (sq_of h2)
/-- a new list of n items, the i-th such as R i tells -/
def EvLG (R : Addr → Nat → Hp → V → Prop) (n : Nat) (te : TE) (σ : L2.St) (H : Hp) : Prop := ∀ H1, Ex H H1 → ∀ Q : VK,
  (∀ p xs H2, H1 p = none → Ex H1 H2 → H2 p = some (.lst xs) → xs.length = n → (∀ i x, xs[i]? = some x → R p i H2 x) → Q (.ref p) H2) → te σ H1 Q
def Cg (R : Addr → Nat → Hp → V → Prop) (H : Hp) (Dl : Addr) (i : Nat) (H' : Hp) : Prop := H Dl = none ∧ Ex H H' ∧ ∃ ys, H' Dl = some (.lst ys) ∧ ys.length = i ∧ ∀ j y, ys[j]? = some y → ∀ zs, R Dl j (upd H' Dl (.lst zs)) y
theorem lcG {R : Addr → Nat → Hp → V → Prop} {tl : TE} {g : TG} {vs : List Nat} {xs : List V} (mo : ∀ p i H H' v, Ex H H' → R p i H v → R p i H' v) (h : EvS K tl σ H xs) (hz : xs.length ≤ 40000)
    (he : ∀ i x H1 Dl ys, Ex H H1 → H Dl = none → H1 Dl = some (.lst ys) → xs[i]? = some x →
      ∃ σ2, (∀ Q : L2.St → Hp → Prop, Q σ2 H1 → g x (wipe σ vs) H1 Q) ∧ wipe σ2 vs = wipe σ vs ∧ EvG (fun H4 v => ∀ zs, R Dl i (upd H4 Dl (.lst zs)) v) te σ2 H1) :
    EvLG R xs.length (tLc (iList K tl) g tYes te vs) σ H := fun H0 e Q q =>
  h H0 e _ fun a H1 e1 hS => ⟨a, rfl, ⟨xs, hS⟩, fun Dl hD =>
    lc_list (xs := xs) (Cg R H1 Dl) ⟨hD, Ex.new hD, [], upd_same, rfl, fun j y h => by simp at h⟩ (fun i H' _ p => ex_l p.2.1 hS) (fun i x H' hi p => by
      obtain ⟨p1, p2, ys, p3, p4, p5⟩ := p
      obtain ⟨σ2, g2, w2, e2⟩ := he i x H' Dl ys ((e.trans e1).trans p2) (fresh_back (e.trans e1) p1) p3 hi
      have il : i < xs.length := (List.getElem?_eq_some_iff.mp hi).1
      refine g2 _ ⟨w2, ?_⟩
      show te σ2 H' fun y H4 => ∃ acc, H4 Dl = some (.lst acc) ∧ acc.length < sizeLine ∧ Cg R H1 Dl (i + 1) (upd H4 Dl (.lst (acc ++ [y])))
      refine e2 H' (Ex.refl _) _ fun v H4 e4 pv => ⟨ys, e4 _ _ p3, sz_lt (by omega), p1, Ex.mut (p2.trans e4) p1, ys ++ [v], upd_same, by rw [List.length_append, p4]; rfl, fun j y hj zs => ?_⟩
      rw [upd_upd]
      rcases Nat.lt_or_ge j ys.length with hlt | hge
      · rw [List.getElem?_append_left hlt] at hj
        exact mo _ _ _ _ _ (Ex.both e4) (p5 j y hj zs)
      · have hj2 : j = ys.length := by
          have := (List.getElem?_eq_some_iff.mp hj).1
          rw [List.length_append] at this
          have h1 : [v].length = 1 := rfl
          omega
        subst hj2
        rw [List.getElem?_append_right (Nat.le_refl _), Nat.sub_self] at hj
        cases hj
        rw [p4]
        exact pv zs)
      (fun H' p => by
        obtain ⟨p1, p2, ys, p3, p4, p5⟩ := p
        refine q Dl ys H' (fresh_back e1 p1) (e1.trans p2) p3 p4 fun j y hj => ?_
        have := p5 j y hj ys
        rw [updSelf p3] at this
        exact this)⟩
theorem s_retLG {R : Addr → Nat → Hp → V → Prop} {n : Nat} (h : EvLG R n te σ H) (k : ∀ p xs H1, H p = none → Ex H H1 → H1 p = some (.lst xs) → xs.length = n → (∀ i x, xs[i]? = some x → R p i H1 x) → D.rt (.ref p) H1) : tRet te D σ H := h H (Ex.refl H) _ k
theorem q_asgLG {R : Addr → Nat → Hp → V → Prop} {n j : Nat} (h : EvLG R n te σ H) (k : ∀ p xs H1, H p = none → Ex H H1 → H1 p = some (.lst xs) → xs.length = n → (∀ i x, xs[i]? = some x → R p i H1 x) → tz D (σ.set j (some (.ref p))) H1) : tSeq (tAsg te (gName j)) tz D σ H := h H (Ex.refl H) _ k
/-- data without lists stays while the list grows -/
theorem eg_dpUpd {d : PyData} {Dl : Addr} {ys : List V} (h : EvG (fun H1 v => Dp K H1 v d) te σ H) (hn : noL d = true) (hl : H Dl = some (.lst ys)) : EvG (fun H4 v => ∀ zs, Dp K (upd H4 Dl (.lst zs)) v d) te σ H := fun H1 e Q q =>
  h H1 e _ fun v H2 e2 dv => q v H2 e2 fun zs => Dp.updL (e2 _ _ (e _ _ hl)) _ _ hn dv
theorem eg_if {R : Hp → V → Prop} {t : TT} {c : Bool} (ht : EvT t σ H c) (ha : c = true → EvG R ta σ H) (hb : c = false → EvG R tb σ H) : EvG R (tIf t ta tb) σ H := fun H1 e Q q =>
  ht H1 e _ fun H2 e2 => by
    cases c with
    | true =>
      rw [if_pos rfl]
      exact ha rfl H2 (e.trans e2) _ fun v H3 e3 p => q v H3 (e2.trans e3) p
    | false =>
      rw [if_neg Bool.false_ne_true]
      exact hb rfl H2 (e.trans e2) _ fun v H3 e3 p => q v H3 (e2.trans e3) p
theorem et_eqD {d e : PyData} (ha : Ev ta σ H v) (hd : Dp K H v d) (hb : EvG (fun H1 v => Dp K H1 v e) tb σ H) (sd : SeqAt.shaped d = true) (se : SeqAt.shaped e = true) : EvT (tTest (tOp (rEqD K) ta tb)) σ H (PyData.eqv d e) := fun H1 e1 Q q =>
  ha H1 e1 _ fun H2 e2 => hb H2 (e1.trans e2) _ fun u H3 e3 du => ⟨d, e, Dp.mono ((e1.trans e2).trans e3) _ _ hd, du, sd, se, _, rfl, q H3 (e2.trans e3)⟩
theorem eg_vD {d : PyData} (h : Ev te σ H v) (hd : Dp K H v d) : EvG (fun H1 v => Dp K H1 v d) te σ H := fun H1 e Q q => h H1 e _ fun H2 e2 => q v H2 e2 (Dp.mono (e.trans e2) _ _ hd)
end
end L2

set_option Elab.async false
set_option linter.all false
set_option maxRecDepth 100000
set_option maxHeartbeats 2000000
/-! Our own rule: a text times nought or one. -/
namespace L2
open PySem PySem.Spec PyProof PyProof.Rows Evl
def rMulS : R2 := fun x y H Q => ∃ (a : Str) (n : Int), x = .str a ∧ y = .int n ∧ 0 ≤ n ∧ n ≤ 1 ∧ a.length ≤ 1000 ∧ Q (.str (if n = 1 then a else "")) H
theorem op_mulS {X : Cx} : OpR X (binaryOp .Mult) rMulS := by
  intro pins s σ H x y v u Q I rx ry h
  obtain ⟨a, n, rfl, rfl, h0, h1, hl, q⟩ := h
  obtain ⟨t, rfl⟩ := rx
  obtain ⟨t2, rfl⟩ := ry
  refine SB.mul (mulOk_of 1000 1 hl (by omega) (by omega) (by omega) (by omega)) fun t' k => ⟨.str (if n = 1 then a else ""), H, I.tok _, ⟨t', ?_⟩, q⟩
  have h2 : n = 0 ∨ n = 1 := by omega
  rcases h2 with rfl | rfl
  · rfl
  · rfl
variable {σ : L2.St} {H : Hp} {te ta tb : TE}
theorem ev_mulS {a : Str} {n : Int} (ha : Ev ta σ H (.str a)) (hb : Ev tb σ H (.int n)) (h0 : 0 ≤ n) (h1 : n ≤ 1) (hl : a.length ≤ 1000) : Ev (tOp rMulS ta tb) σ H (.str (if n = 1 then a else "")) := fun H1 e Q q =>
  ha H1 e _ fun H2 e2 => hb H2 (e.trans e2) _ fun H3 e3 => ⟨a, n, rfl, rfl, h0, h1, hl, q H3 (e2.trans e3)⟩
end L2

set_option Elab.async false
set_option linter.all false
set_option maxRecDepth 100000
set_option maxHeartbeats 2000000
/-! Our own rule: two dicts of the same objects. -/
namespace L2
open PySem PySem.Spec PyProof PyProof.Rows Evl
def isRef : V → Bool | .ref _ => true | _ => false
theorem eqAt_ref {A : Around} {s : Shared} {v : V} {u u' : Value} (r : RelV v u) (r' : RelV v u') (f : isRef v = true) : SeqAt.EqAt A s u u' true := by
  cases v with
  | ref a => cases (show u = Value.ref a from r); cases (show u' = Value.ref a from r'); exact SeqAt.EqAt.same _
  | non => cases f
  | bl b => cases f
  | int i => cases f
  | str x => cases f
  | byt b => cases f
  | flt x => cases f
  | ty n => cases f
theorem hits_ref {κ : Type} [DecidableEq κ] {A : Around} {s : Shared} {kvs : List (κ × V)} {vb : List (κ × Value)} (rb : KV kvs vb) {ks : List (κ × V)} {va : List (κ × Value)} (ra : KV ks va) :
    (∀ p ∈ ks, valV kvs p.1 = some p.2 ∧ isRef p.2 = true) → PySem.W.KeqHits A s vb va true := by
  unfold KV at ra
  induction ra with
  | nil => intro _; exact .nil
  | @cons p q ps qs h t ih =>
    intro hp
    obtain ⟨h1, h2⟩ := h
    obtain ⟨e, f⟩ := hp p List.mem_cons_self
    have rr : RelO (some p.2) (valueAt vb p.1) := by rw [← e]; exact rb.val p.1
    obtain ⟨y, hy, ry⟩ := rr.some_of
    obtain ⟨k, v⟩ := q
    have h1' : p.1 = k := h1
    rw [h1'] at hy
    show PySem.W.KeqHits A s vb ((k, v) :: qs) (true && true)
    exact .hit hy (eqAt_ref h2 ry f) (ih fun p' hm => hp p' (List.mem_cons_of_mem _ hm))
def rNeDO : R2 := fun x y H Q => ∃ a b kvs, x = .ref a ∧ y = .ref b ∧ H a = some (.dK kvs) ∧ H b = some (.dK kvs) ∧ (kvs.map (·.1)).Nodup ∧ (∀ p ∈ kvs, isRef p.2 = true) ∧ Q (.bl false) H
theorem op_neDO {X : Cx} (hu : X.A.units < cLine) : OpR X (compareOp .NotEq) rNeDO := by
  intro pins s σ H x y v u Q I rx ry h
  obtain ⟨a, b, kvs, rfl, rfl, ea, eb, nd, fl, q⟩ := h
  obtain rfl : v = Value.ref a := rx
  obtain rfl : u = Value.ref b := ry
  obtain ⟨_, ya, va, ra, da⟩ := (show ObjOk X.prog X.w H s.heap a (.dK kvs) from I.hok a _ ea)
  obtain ⟨_, yb, vb, rb, db⟩ := (show ObjOk X.prog X.w H s.heap b (.dK kvs) from I.hok b _ eb)
  have hl : va.length = vb.length := ra.length.symm.trans rb.length
  exact PySem.W.keq_ne (knd := mixKind X.prog X.w) (r := true) ya yb da db hu (fun _ => hits_ref rb ra fun p hp => ⟨val_nodup nd p hp, fl p hp⟩) (fin_bl I q (by simp [hl]))
end L2

set_option Elab.async false
set_option linter.all false
set_option maxRecDepth 100000
set_option maxHeartbeats 2000000
/-! Our own layer: len(set(xs)), xs a list of many unlike nested tuples, in every World. -/
namespace NSet
open PySem PySem.Spec PyProof.Rows L2
/-! ### the walk i -> 5 i + 1 goes all round below a power of two -/
def X : Nat → Nat
  | 0 => 0
  | n + 1 => 5 * X n + 1
theorem X_add (a : Nat) : ∀ b, X (a + b) = 5 ^ b * X a + X b
  | 0 => by simp [X]
  | b + 1 => by
    show 5 * X (a + b) + 1 = 5 ^ (b + 1) * X a + (5 * X b + 1)
    rw [X_add a b, Nat.mul_add, Nat.pow_succ, ← Nat.mul_assoc, Nat.mul_comm 5 (5 ^ b)]
    omega
theorem five_odd : ∀ n, 5 ^ n % 4 = 1
  | 0 => rfl
  | n + 1 => by
    rw [Nat.pow_succ, Nat.mul_mod, five_odd n]
/-- X at a power of two is that power, an odd number of times -/
theorem X_two : ∀ k, ∃ q, X (2 ^ k) = 2 ^ k * (2 * q + 1)
  | 0 => ⟨0, rfl⟩
  | k + 1 => by
    obtain ⟨q, e⟩ := X_two k
    have h5 : 5 ^ (2 ^ k) = 4 * (5 ^ (2 ^ k) / 4) + 1 := by
      have := five_odd (2 ^ k)
      omega
    generalize 5 ^ (2 ^ k) / 4 = r at h5
    have e2 : 2 ^ (k + 1) = 2 ^ k + 2 ^ k := by rw [Nat.pow_succ]; omega
    refine ⟨r * (2 * q + 1) + q, ?_⟩
    rw [e2, X_add, h5, e]
    generalize 2 ^ k = p
    have h1 : (4 * r + 1) * (p * (2 * q + 1)) + p * (2 * q + 1) = p * ((4 * r + 2) * (2 * q + 1)) := by
      rw [← Nat.succ_mul, Nat.mul_left_comm]
    have h2 : (p + p) * (2 * (r * (2 * q + 1) + q) + 1) = p * (2 * (2 * (r * (2 * q + 1) + q) + 1)) := by
      rw [← Nat.two_mul, Nat.mul_assoc, Nat.mul_left_comm]
    rw [h1, h2]
    congr 1
    have h3 : (4 * r + 2) * (2 * q + 1) = 4 * (r * (2 * q + 1)) + 2 * (2 * q + 1) := by rw [Nat.add_mul, Nat.mul_assoc]
    rw [h3]
    omega
/-- every rest is met -/
theorem X_onto : ∀ k j, ∃ b, b < 2 ^ k ∧ X b % 2 ^ k = j % 2 ^ k
  | 0, j => ⟨0, by decide, by rw [Nat.pow_zero, Nat.mod_one, Nat.mod_one]⟩
  | k + 1, j => by
    obtain ⟨b, hb, e⟩ := X_onto k j
    obtain ⟨q, eq⟩ := X_two k
    have e2 : 2 ^ (k + 1) = 2 ^ k * 2 := Nat.pow_succ 2 k
    have hp : 0 < 2 ^ k := Nat.pow_pos (by decide)
    have m1 := Nat.mod_mul (a := 2 ^ k) (b := 2) (x := X b)
    have m2 := Nat.mod_mul (a := 2 ^ k) (b := 2) (x := j)
    by_cases hh : X b / 2 ^ k % 2 = j / 2 ^ k % 2
    · refine ⟨b, by omega, ?_⟩
      rw [e2, m1, m2, e, hh]
    · refine ⟨2 ^ k + b, by omega, ?_⟩
      obtain ⟨c, hc⟩ : ∃ c, 5 ^ b = 2 * c + 1 := ⟨5 ^ b / 2, by have := five_odd b; omega⟩
      have e3 : X (2 ^ k + b) = X b + 2 ^ k * (2 * (2 * c * q + c + q) + 1) := by
        rw [X_add, hc, eq, Nat.add_comm]
        congr 1
        rw [Nat.mul_left_comm]
        congr 1
        have h3 : (2 * c + 1) * (2 * q + 1) = 2 * c * (2 * q) + 2 * c + (2 * q + 1) := by rw [Nat.add_mul, Nat.mul_add, Nat.mul_one, Nat.one_mul]
        have h4 : 2 * c * (2 * q) = 2 * (2 * c * q) := Nat.mul_left_comm _ _ _
        rw [h3, h4]
        omega
      generalize 2 * c * q + c + q = r at e3
      have e4 : X (2 ^ k + b) % 2 ^ k = X b % 2 ^ k := by rw [e3, Nat.add_mul_mod_self_left]
      have e5 : X (2 ^ k + b) / 2 ^ k = X b / 2 ^ k + (2 * r + 1) := by rw [e3, Nat.add_mul_div_left _ _ hp]
      have m3 := Nat.mod_mul (a := 2 ^ k) (b := 2) (x := X (2 ^ k + b))
      have e6 : (X b / 2 ^ k + (2 * r + 1)) % 2 = j / 2 ^ k % 2 := by omega
      rw [e2, m3, m2, e4, e, e5, e6]
theorem X_round (k : Nat) : X (2 ^ k) % 2 ^ k = 0 := by
  obtain ⟨q, e⟩ := X_two k
  rw [e, Nat.mul_mod_right]
/-- masks: a power of two less one -/
def Pow2 (m : Nat) : Prop := ∃ k, m + 1 = 2 ^ k
theorem lcgI_X (m i : Nat) (hi : i ≤ m) : ∀ k, lcgI m i k = (5 ^ k * i + X k) % (m + 1)
  | 0 => by
    show i = (5 ^ 0 * i + 0) % (m + 1)
    rw [Nat.pow_zero, Nat.one_mul, Nat.add_zero, Nat.mod_eq_of_lt (Nat.lt_succ_of_le hi)]
  | k + 1 => by
    show (lcgI m i k * 5 + 1) % (m + 1) = (5 ^ (k + 1) * i + (5 * X k + 1)) % (m + 1)
    rw [lcgI_X m i hi k, Nat.add_mod, Nat.mod_mul_mod, ← Nat.add_mod]
    congr 1
    rw [Nat.add_mul, Nat.pow_succ, Nat.mul_comm (X k) 5, Nat.mul_right_comm]
    omega
theorem round_all {m : Nat} (hm : Pow2 m) {i j : Nat} (hi : i ≤ m) (hj : j ≤ m) : ∃ k, k ≤ m ∧ lcgI m i k = j := by
  obtain ⟨e, he⟩ := hm
  obtain ⟨a, ha, ea⟩ := X_onto e i
  obtain ⟨b, hb, eb⟩ := X_onto e j
  rw [← he] at ha ea hb eb
  rw [Nat.mod_eq_of_lt (Nat.lt_succ_of_le hi)] at ea
  rw [Nat.mod_eq_of_lt (Nat.lt_succ_of_le hj)] at eb
  have go : ∀ k, X (a + k) % (m + 1) = j → lcgI m i k = j := fun k h => by
    rw [lcgI_X m i hi k, ← h, X_add, ← ea, Nat.add_mod, Nat.mul_mod_mod, ← Nat.add_mod]
  by_cases c : a ≤ b
  · refine ⟨b - a, by omega, go _ ?_⟩
    rw [show a + (b - a) = b by omega]
    exact eb
  · refine ⟨b + (m + 1) - a, by omega, go _ ?_⟩
    have e1 : X (m + 1) % (m + 1) = 0 := by rw [he]; exact X_round e
    rw [show a + (b + (m + 1) - a) = (m + 1) + b by omega, X_add, Nat.add_mod, Nat.mul_mod, e1, Nat.mul_zero, Nat.zero_mod, Nat.zero_add, Nat.mod_mod, eb]
/-- each slot begins a run, in time -/
theorem run_all {m : Nat} (hm : Pow2 m) (h : Int) {j : Nat} (hj : j ≤ m) : ∃ n, n ≤ m + 12 ∧ runI m (SetTable.bits h) n = j := by
  obtain ⟨k, hk, e⟩ := round_all hm (runI_le m (SetTable.bits h) 12) hj
  refine ⟨k + 12, by omega, ?_⟩
  rw [Nat.add_comm, runI_tail (bits_lt h)]
  exact e
theorem way_all {m : Nat} (hm : Pow2 m) (h : Int) {j : Nat} (hj : j ≤ m) : ∃ k, k < 10 * SetTable.turns m ∧ way m h k = j := by
  obtain ⟨n, hn, e⟩ := run_all hm h hj
  obtain ⟨k, hk, e2⟩ := run_nth m (SetTable.bits h) n
  refine ⟨k, ?_, by show (nth m _ k).j = j; rw [e2]; exact e⟩
  unfold SetTable.turns
  omega
theorem way_in (m : Nat) (h : Int) (k : Nat) : way m h k ≤ m := by
  have hi : SetTable.bits h % (m + 1) ≤ m := Nat.le_of_lt_succ (Nat.mod_lt _ (Nat.succ_pos _))
  have r := runEnd_bd hi
  have q := nth_in (m := m) k (runAt m (SetTable.bits h % (m + 1)) (SetTable.bits h)) (by simp only [runAt]; omega)
  exact Nat.le_trans (Nat.le_add_right _ _) q
end NSet
namespace NSet
open PySem PySem.Spec PyProof.Rows L2
/-! ### tables without a gap of memory -/
def Msk (m : Nat) : Prop := m = 7 ∨ m = 31 ∨ m = 127 ∨ m = 511 ∨ m = 2047 ∨ m = 8191
theorem Msk.two {m : Nat} (h : Msk m) : Pow2 m := by
  rcases h with e | e | e | e | e | e
  · exact ⟨3, by rw [e]⟩
  · exact ⟨5, by rw [e]⟩
  · exact ⟨7, by rw [e]⟩
  · exact ⟨9, by rw [e]⟩
  · exact ⟨11, by rw [e]⟩
  · exact ⟨13, by rw [e]⟩
theorem Msk.odd {m : Nat} (h : Msk m) : m % 2 = 1 := by
  rcases h with e | e | e | e | e | e <;> rw [e]
theorem Msk.top {m : Nat} (h : Msk m) : m ≤ 8191 := by
  rcases h with e | e | e | e | e | e <;> omega
structure TO (t : SetTable) (n : Nat) : Prop where
  ri : Ris t.place.toList
  nd : t.dummies = #[]
  many : t.place.size = n
  msk : Msk t.mask
  low : ∀ x ∈ t.place.toList, x ≤ t.mask
theorem TO.fit {t : SetTable} {n : Nat} (T : TO t n) (h : n ≤ t.mask) : t.fits n = true := by
  have h0 : t.fill = n := by
    unfold SetTable.fill
    rw [T.nd, T.many]
    rfl
  simp [SetTable.fits, h0, h, T.many]
/-- the first free place of a way -/
theorem TO.free {t : SetTable} {n : Nat} (T : TO t n) (hn : n ≤ t.mask) (h : Int) : ∃ D, D < 10 * SetTable.turns t.mask ∧ way t.mask h D ∉ t.place.toList ∧ ∀ q, q < D → way t.mask h q ∈ t.place.toList := by
  have l : t.place.toList.length = n := by rw [Array.length_toList]; exact T.many
  obtain ⟨j, hj, off⟩ := st_missing t.place.toList (t.mask + 1) (by omega)
  obtain ⟨k, hk, e⟩ := way_all T.msk.two h (Nat.le_of_lt_succ hj)
  obtain ⟨D, d1, d2, d3⟩ := st_least (p := fun q => way t.mask h q ∉ t.place.toList) k (fun hm => off (e ▸ hm))
  exact ⟨D, by omega, d2, fun q hq => Classical.byContradiction (d3 q hq)⟩
theorem TO.put {t : SetTable} {n : Nat} (T : TO t n) {j : Nat} (hj : j ≤ t.mask) (off : j ∉ t.place.toList) : TO (t.put j).1 (n + 1) := by
  have pp := put_place t j
  have below := (below_cut T.ri j).1
  have size : (t.put j).1.place.toList.length = n + 1 := by
    rw [pp, len_ins _ (by rw [Array.length_toList]; exact below), Array.length_toList, T.many]
  refine ⟨ris_insert T.ri fun e => off (List.mem_of_getElem? (by rw [Array.getElem?_toList]; exact e)), put_dm T.nd j, by rw [← Array.length_toList]; exact size, T.msk, fun x hx => ?_⟩
  rw [pp] at hx
  rcases mem_ins.1 hx with rfl | hx
  · exact hj
  · exact T.low x hx
/-! ### a table laid anew -/
structure Sat (m n : Nat) (owner : Array (Option Nat)) : Prop where
  size : owner.size = m + 1
  vals : ∀ j k, j ≤ m → oAt owner j = some k → k < n
  seats : ∃ ps : List Nat, ps.Nodup ∧ ps.length = n ∧ (∀ x ∈ ps, x ≤ m) ∧ ∀ j, j ≤ m → (oAt owner j ≠ none ↔ j ∈ ps)
theorem Sat.start (m : Nat) : Sat m 0 (Array.replicate (m + 1) none) := by
  refine ⟨Array.size_replicate, fun j k hj e => ?_, [], List.nodup_nil, rfl, (fun x h => by simp at h), fun j hj => ?_⟩
  · rw [oAt_init hj] at e
    cases e
  · rw [oAt_init hj]
    simp
theorem seat {m : Nat} (hm : Pow2 m) (owner : Array (Option Nat)) (h : Int) {j : Nat} (hj : j ≤ m) (e0 : oAt owner j = none) :
    ∃ i, i ≤ m ∧ oAt owner i = none ∧ SetTable.layClean.free m owner (SetTable.turns m) (SetTable.bits h % (m + 1)) (SetTable.bits h) = some i := by
  obtain ⟨n, hn, e⟩ := run_all hm h hj
  have at_ : way m h (off m (SetTable.bits h % (m + 1)) (SetTable.bits h) n) = j := by
    show SetTable.Probe.j (nth m _ _) = j
    rw [nth_off, itL_run]
    exact e
  obtain ⟨D, d1, d2, d3⟩ := st_least (p := fun q => oAt owner (way m h q) = none) _ (show oAt owner (way m h (off m (SetTable.bits h % (m + 1)) (SetTable.bits h) n)) = none by rw [at_]; exact e0)
  refine ⟨way m h D, way_in m h D, d2, free_spec m owner (SetTable.turns m) n _ _ D (by unfold SetTable.turns; omega) d1 (fun q hq => ?_) ?_⟩
  · have := d3 q hq
    cases c : oAt owner (way m h q) with
    | none => exact absurd c this
    | some v => rfl
  · rw [show oAt owner (nth m _ D).j = none from d2]
    rfl
theorem Sat.more {m n : Nat} (hm : Pow2 m) {owner : Array (Option Nat)} (S : Sat m n owner) (hn : n ≤ m) (h : Int) :
    ∃ i, SetTable.layClean.free m owner (SetTable.turns m) (SetTable.bits h % (m + 1)) (SetTable.bits h) = some i ∧ Sat m (n + 1) (owner.setIfInBounds i (some n)) := by
  obtain ⟨ps, p1, p2, p3, p4⟩ := S.seats
  obtain ⟨j, hj, off⟩ := st_missing ps (m + 1) (by omega)
  obtain ⟨i, hi, free, e⟩ := seat hm owner h (j := j) (by omega) (Classical.byContradiction fun c => off ((p4 j (by omega)).1 c))
  have ilt : i < owner.size := by rw [S.size]; omega
  refine ⟨i, e, by rw [Array.size_setIfInBounds]; exact S.size, fun x k hx ek => ?_, i :: ps, List.nodup_cons.2 ⟨fun z => ((p4 i hi).2 z) free, p1⟩, by rw [List.length_cons, p2], fun x hx => ?_, fun x hx => ?_⟩
  · by_cases c : x = i
    · rw [c, oAt_set_self _ ilt] at ek
      cases ek
      omega
    · rw [oAt_set_ne _ c] at ek
      have := S.vals x k hx ek
      omega
  · rcases List.mem_cons.1 hx with rfl | hx
    · exact hi
    · exact p3 x hx
  · by_cases c : x = i
    · rw [c, oAt_set_self _ ilt]
      simp
    · rw [oAt_set_ne _ c, p4 x hx]
      simp [c]
theorem Sat.fold {m : Nat} (hm : Pow2 m) : ∀ (hs : List Int) (n : Nat) (owner : Array (Option Nat)), Sat m n owner → n + hs.length ≤ m →
    ∃ ow, hs.foldl (stepF m) (some (owner, n)) = some (ow, n + hs.length) ∧ Sat m (n + hs.length) ow
  | [], n, owner, S, _ => ⟨owner, rfl, S⟩
  | h :: hs, n, owner, S, b => by
    rw [List.length_cons] at b
    obtain ⟨i, e, S2⟩ := S.more hm (by omega) h
    obtain ⟨ow, f, S3⟩ := Sat.fold hm hs (n + 1) _ S2 (by omega)
    refine ⟨ow, ?_, ?_⟩
    · rw [List.foldl_cons, stepF_some e, f, List.length_cons, Nat.add_right_comm, Nat.add_assoc]
    · rw [List.length_cons, show n + (hs.length + 1) = n + 1 + hs.length by omega]
      exact S3
theorem relaid_TO (t : SetTable) {hs : Array Int} {wanted M : Nat} (hw : SetTable.sizeAbove wanted - 1 = M) (hM : Msk M) (hn : hs.size ≤ M) :
    ∃ t2 order, t.relaid hs wanted = some (t2, order) ∧ order.size = hs.size ∧ (∀ i ∈ order.toList, i < hs.size) ∧ TO t2 hs.size ∧ t2.mask = M := by
  have hl : hs.toList.length = hs.size := Array.length_toList
  obtain ⟨ow, f, S⟩ := Sat.fold hM.two hs.toList 0 _ (Sat.start M) (by omega)
  have e : SetTable.layClean M hs = some ow := by
    rw [layClean_eq, f]
    rfl
  rw [Nat.zero_add, hl] at S
  obtain ⟨ps, p1, p2, p3, p4⟩ := S.seats
  have ris := ris_live (fun j => ow.getD j none) (List.range (M + 1)) List.pairwise_lt_range
  have r1 : Ris ((liveOf M ow).map Prod.fst) := ris.1
  have nd : ((liveOf M ow).map Prod.fst).Nodup := r1.imp fun h => Nat.ne_of_lt h
  have same : ∀ x, x ∈ (liveOf M ow).map Prod.fst ↔ x ∈ ps := fun x => by
    constructor
    · intro hx
      obtain ⟨⟨y, k⟩, hq, rfl⟩ := List.mem_map.1 hx
      obtain ⟨a, b⟩ := (mem_live S.size).1 hq
      exact (p4 y a).1 (by rw [b]; simp)
    · intro hx
      have hx2 := p3 x hx
      cases c : oAt ow x with
      | none => exact absurd c ((p4 x hx2).2 hx)
      | some k => exact List.mem_map.2 ⟨(x, k), (mem_live S.size).2 ⟨hx2, c⟩, rfl⟩
  have many : (liveOf M ow).length = hs.size := by
    have := ((List.perm_ext_iff_of_nodup nd p1).2 same).length_eq
    rw [List.length_map] at this
    omega
  refine ⟨tabOf t M ow, ((liveOf M ow).map Prod.snd).toArray, ?_, by rw [List.size_toArray, List.length_map, many], fun i hi => ?_, ⟨r1, rfl, ?_, hM, fun x hx => p3 x ((same x).1 hx)⟩, rfl⟩
  · rw [relaid_eq, hw, e]
    rfl
  · obtain ⟨⟨y, k⟩, hq, rfl⟩ := List.mem_map.1 hi
    obtain ⟨a, b⟩ := (mem_live S.size).1 hq
    exact S.vals y k a b
  · show ((liveOf M ow).map Prod.fst).toArray.size = hs.size
    rw [List.size_toArray, List.length_map, many]
end NSet
namespace NSet
open PySem PySem.Spec PyProof.Rows L2
section
variable {P : Program} {w : World} {A : Around} {E : Value → Shared → Prop}
/-! ### what is asked of a nested key -/
mutual
/-- whether a hash is by value: some answer -/
theorem byVal_key : ∀ (k : NestedKey) (v : Value) (n : Nat) (s : Shared) (Q : Bool → Shared → Prop), NestedIs s.heap k v → k.depth ≤ n → (∀ b, Q b s) → wpAny (model P w) A (hashByValue n v) Q E s
  | .none, _, n, s, Q, x, _, q => by
    cases x
    cases n <;> exact wpAny_pure (q _)
  | .num i, _, n, s, Q, x, _, q => by
    cases x <;> cases n <;> exact wpAny_pure (q _)
  | .text y, _, n, s, Q, x, _, q => by
    cases x
    cases n <;> exact wpAny_pure (q _)
  | .tup ks, _, n, s, Q, x, d, q => by
    cases x with
    | @tup a o vs m _ hg hc hd hk =>
      cases n with
      | zero => simp [NestedKey.depth] at d
      | succ n =>
        have d' : NestedKey.depthAll ks ≤ n := by simp only [NestedKey.depth] at d; omega
        have ty : s.TypeIs (.ref a) "tuple" := ⟨o, hg, hc⟩
        unfold hashByValue
        refine wpAny_bind (wpAny_specialOf ty F.slot_tuple_hash.lookup ?_)
        show wpAny _ _ (seqItems? (.ref a) >>= _) _ _ s
        refine wpAny_bind (wpAny_seqItems hg hd ?_)
        dsimp only
        refine wpAny_bind ?_
        show wpAny _ _ (forIn vs _ _) _ _ s
        rw [← Array.forIn_toList]
        refine wpAny_forIn_list _ (fun rest r z => r.1 = none ∧ z = s ∧ ∃ k2, NestedAll s.heap k2 rest ∧ NestedKey.depthAll k2 ≤ n) _ ?_ ?_ _ _ ⟨rfl, rfl, ks, hk, d'⟩
        · rintro v rest r z ⟨r1, rfl, k2, al, dp⟩
          cases al with
          | @cons k v2 k3 vs3 h1 h2 =>
            simp only [NestedKey.depthAll] at dp
            refine wpAny_bind (byVal_all k v n z _ h1 (by omega) fun b => ?_)
            cases b with
            | true =>
              simp only [Bool.not_true, Bool.false_eq_true, if_false]
              exact wpAny_pure ⟨rfl, rfl, k3, h2, by omega⟩
            | false =>
              simp only [Bool.not_false, if_true]
              exact wpAny_pure (wpAny_pure (q _))
        · rintro ⟨r1, r2⟩ z ⟨e, rfl, _⟩
          simp only at e
          subst e
          exact wpAny_pure (q _)
theorem byVal_all : ∀ (k : NestedKey) (v : Value) (n : Nat) (s : Shared) (Q : Bool → Shared → Prop), NestedIs s.heap k v → k.depth ≤ n → (∀ b, Q b s) → wpAny (model P w) A (hashByValue n v) Q E s
  | k, v, n, s, Q, x, d, q => byVal_key k v n s Q x d q
end
end
end NSet
namespace NSet
open PySem PySem.Spec PyProof.Rows L2
section
variable {P : Program} {w : World} {A : Around} {E : Value → Shared → Prop}
/-- no instance of a class statement stands in a nested key -/
theorem plain_key : ∀ (n : Nat) (k : NestedKey) (v : Value) (s : Shared) (Q : Bool → Shared → Prop), NestedIs s.heap k v → k.depth ≤ n → Q false s → wpAny (model P w) A (ofAClassStatement n v) Q E s
  | n, .none, _, s, Q, x, _, q => by
    cases x
    cases n <;> exact wpAny_pure q
  | n, .num i, _, s, Q, x, _, q => by
    cases x <;> cases n <;> exact wpAny_pure q
  | n, .text y, _, s, Q, x, _, q => by
    cases x
    cases n <;> exact wpAny_pure q
  | 0, .tup ks, _, s, Q, x, d, q => by simp [NestedKey.depth] at d
  | n + 1, .tup ks, _, s, Q, x, d, q => by
    cases x with
    | @tup a o vs m _ hg hc hd hk =>
      have d' : NestedKey.depthAll ks ≤ n := by simp only [NestedKey.depth] at d; omega
      have ty : s.TypeIs (.ref a) "tuple" := ⟨o, hg, hc⟩
      unfold ofAClassStatement
      refine wpAny_bind (wpAny_typeOf ty ?_)
      dsimp only
      have t0 : (("tuple" : String) == "tuple") = true := by decide
      simp only [t0, if_true, Bool.not_true, Bool.false_eq_true, if_false]
      try refine wpAny_bind (wpAny_pure ?_)
      try simp only [Bool.not_true, Bool.false_eq_true, if_false]
      show wpAny _ _ (seqItems? (.ref a) >>= _) _ _ s
      refine wpAny_bind (wpAny_seqItems hg hd ?_)
      dsimp only
      refine wpAny_bind ?_
      show wpAny _ _ (forIn vs _ _) _ _ s
      rw [← Array.forIn_toList]
      refine wpAny_forIn_list _ (fun rest r z => r.1 = none ∧ z = s ∧ ∃ k2, NestedAll s.heap k2 rest ∧ NestedKey.depthAll k2 ≤ n) _ ?_ ?_ _ _ ⟨rfl, rfl, ks, hk, d'⟩
      · rintro v rest r z ⟨r1, rfl, k2, al, dp⟩
        cases al with
        | @cons k v2 k3 vs3 h1 h2 =>
          simp only [NestedKey.depthAll] at dp
          refine wpAny_bind (plain_key n k v z _ h1 (by omega) ?_)
          simp only [Bool.false_eq_true, if_false]
          exact wpAny_pure ⟨rfl, rfl, k3, h2, by omega⟩
      · rintro ⟨r1, r2⟩ z ⟨e, rfl, _⟩
        simp only at e
        subst e
        exact wpAny_pure q
variable {s : Shared}
/-- the place b holds the nested key k -/
def KeyAt (h : Heap) (k : NestedKey) (b : Addr) : Prop := NestedIs h k (.ref b) ∧ k.depth ≤ 8
theorem KeyAt.keep {h h2 : Heap} {k : NestedKey} {b : Addr} (x : KeyAt h k b) (hk : ∀ a o vs n, h.get? a = some o → o.data = .seq vs n → h2.get? a = some o) : KeyAt h2 k b := ⟨NestedIs.at hk _ _ x.1, x.2⟩
/-- a search among nested keys shows nothing -/
theorem seen_keys {k : NestedKey} {b : Addr} {Q : Bool → Shared → Prop} (x : KeyAt s.heap k b) {ys : List Value} (hy : ∀ y ∈ ys, ∃ k2 c, y = Value.ref c ∧ KeyAt s.heap k2 c) (q : Q false s) :
    wpAny (model P w) A (searchCouldBeSeen (.ref b) ys) Q E s := by
  unfold searchCouldBeSeen
  refine wpAny_bind ?_
  refine wpAny_forIn_list _ (fun rest r z => r.1 = none ∧ z = s ∧ ∀ y ∈ rest, ∃ k2 c, y = Value.ref c ∧ KeyAt s.heap k2 c) _ ?_ ?_ _ _ ⟨rfl, rfl, hy⟩
  · rintro y rest r z ⟨r1, rfl, al⟩
    obtain ⟨k2, c, rfl, y1⟩ := al y List.mem_cons_self
    have on := fun u hu => al u (List.mem_cons_of_mem _ hu)
    dsimp only
    by_cases very : (b == c || (carriedByValue (.ref b) && carriedByValue (.ref c))) = true
    · exact wp_if_pos very (wpAny_pure ⟨rfl, rfl, on⟩)
    · refine wp_if_neg very (wpAny_bind (quiet_key k _ 8 z x.1 x.2 A E _ ?_))
      simp only [Bool.not_true, Bool.false_eq_true, if_false]
      refine wpAny_bind (quiet_key k2 _ 8 z y1.1 y1.2 A E _ ?_)
      simp only [Bool.not_true, Bool.false_eq_true, if_false]
      refine wpAny_bind (plain_key 8 k _ z _ x.1 x.2 ?_)
      simp only [Bool.false_eq_true, if_false]
      refine wpAny_bind (plain_key 8 k2 _ z _ y1.1 y1.2 ?_)
      simp only [Bool.false_eq_true, if_false]
      exact wpAny_pure ⟨rfl, rfl, on⟩
  · rintro ⟨r1, r2⟩ z ⟨e, rfl, _⟩
    simp only at e
    subst e
    exact wpAny_pure q
/-! ### the set's object -/
structure SN (h : Heap) (a : Addr) (es : Array (Int × Value)) (ep : Nat) (t : SetTable) : Prop where
  ob : ∃ o, h.get? a = some o ∧ o.ExactSet ∧ o.data = .set es ep t
  tab : TO t es.size
  gap : es.size * 5 < t.mask * 3
/-- what stands in it: nested keys out of these -/
def From (es : Array (Int × Value)) (ks : List (NestedKey × Addr)) : Prop := ∀ e ∈ es, ∃ p ∈ ks, e.2 = .ref p.2
theorem SN.fits {h : Heap} {a : Addr} {es : Array (Int × Value)} {ep : Nat} {t : SetTable} (R : SN h a es ep t) : t.fits es.size = true := R.tab.fit (by have := R.gap; omega)
theorem nth_dm (m : Nat) : ∀ (q : Nat) (p : SetTable.Probe), p.dummy = none → (nth m p q).dummy = none
  | 0, p, h => h
  | q + 1, p, h => nth_dm m q (adv m p) (by unfold adv; split <;> exact h)
variable {a : Addr} {es : Array (Int × Value)} {ep : Nat} {t : SetTable} {ks : List (NestedKey × Addr)}
/-- a search for what isn't there, D steps ahead of the first free place -/
theorem hunt (R : SN s.heap a es ep t) (F : From es ks) (hks : ∀ p ∈ ks, KeyAt s.heap p.1 p.2) {x : Addr} {k : NestedKey} (hx : KeyAt s.heap k x) (fresh : ∀ p ∈ ks, p.1 ≠ k) (room : A.units + 8 < cLine) (h : Int) {Q : SetFound → Shared → Prop} {j : Nat} (q : Q (.free j false) s) :
    ∀ (f D : Nat) (stand : Option SetTable.Probe) (p : SetTable.Probe), stand.getD (t.probeStart h) = p → p.dummy = none → D < f → D < 10 * SetTable.turns t.mask → (∀ c, c < D → (nth t.mask p c).j ∈ t.place.toList) → (nth t.mask p D).j = j → j ∉ t.place.toList →
      wpAny (model P w) A (setSearchFrom a (.ref x) h true f stand) Q E s
  | 0, _, _, _, _, _, hf, _, _, _, _ => absurd hf (Nat.not_lt_zero _)
  | f + 1, D, stand, p, hst, dm, hf, hD, occ, hj, off => by
    obtain ⟨o, oh, ox, od⟩ := R.ob
    rw [setSearchFrom_succ]
    refine wpAny_bind (wpAny_setState_of oh od R.fits ?_)
    dsimp only
    have gw : ¬ t.gaveWay = true := by
      unfold SetTable.gaveWay
      rw [R.tab.msk.odd]
      decide
    refine wp_if_neg gw ?_
    try refine wpAny_bind (wpAny_pure ?_)
    have many : t.place.toList.length = es.size := by rw [Array.length_toList]; exact R.tab.many
    rcases go_spec t R.tab.ri R.tab.nd (fun i => (es[i]?.map (·.1)).getD 0) h (10 * SetTable.turns t.mask) D p dm hD occ (by rw [hj]; exact off) with ⟨c, i, hc, hi, _, _, met⟩ | ⟨_, met⟩
    · have met2 : t.probe (fun i => (es[i]?.map (·.1)).getD 0) h (stand.getD (t.probeStart h)) = some (.candidate (nth t.mask p c).j i (nth t.mask p (c + 1))) := by rw [hst]; exact met
      rw [met2]
      dsimp only
      have il : i < es.size := by rw [← many]; exact (List.getElem?_eq_some_iff.1 hi).1
      obtain ⟨g, v, hv⟩ : ∃ g v, es[i]? = some (g, v) := ⟨_, _, Array.getElem?_eq_getElem il⟩
      obtain ⟨p2, m2, ev⟩ := F (g, v) (Array.mem_of_getElem? hv)
      have ev : v = .ref p2.2 := ev
      subst ev
      have go : wpAny (model P w) A (searchRest a (.ref x) h true f es t (nth t.mask p c).j i (nth t.mask p (c + 1))) Q E s := by
        unfold searchRest
        rw [hv]
        dsimp only
        refine wpAny_bind (wpAny_holding (eqAt_key p2.1 k A s _ _ (hks p2 m2).1 hx.1 (by have := hx.2; omega) _ _ _ _ ?_))
        rw [← NestedKey.decide_eq, decide_eq_false (fresh p2 m2)]
        refine wpAny_bind (wpAny_setState_of oh od R.fits ?_)
        dsimp only
        refine wp_if_neg (by simp) ?_
        try refine wpAny_bind (wpAny_pure ?_)
        rw [sameMem]
        dsimp only
        simp only [if_true, slot_live R.tab.ri hi, hv]
        refine wpAny_bind (wpAny_isSame_ref_self (wpAny_bind (wpAny_pure ?_)))
        simp only [if_true]
        refine wp_if_neg (by simp) ?_
        have sh : ∀ z, nth t.mask (nth t.mask p (c + 1)) z = nth t.mask p (c + 1 + z) := fun z => (nth_add t.mask (c + 1) p z).symm
        refine hunt R F hks hx fresh room h q f (D - (c + 1)) _ (nth t.mask p (c + 1)) rfl (nth_dm _ _ _ dm) (by omega) (by omega) (fun z hz => ?_) ?_ off
        · rw [sh]
          exact occ _ (by omega)
        · rw [sh, show c + 1 + (D - (c + 1)) = D by omega]
          exact hj
      by_cases hl : t.led = true
      · refine wp_if_neg (by simp [hl]) ?_
        try refine wpAny_bind (wpAny_pure ?_)
        exact go
      · refine wp_if_pos (by simp [hl]) (wpAny_bind (seen_keys hx (fun y hy => ?_) ?_))
        · obtain ⟨e, he, rfl⟩ := List.mem_map.1 hy
          have he1 : e ∈ es := by
            have : e ∈ es ∧ e.1 = h := by simpa using he
            exact this.1
          obtain ⟨p3, m3, e3⟩ := F e he1
          exact ⟨p3.1, p3.2, e3, hks p3 m3⟩
        · refine wp_if_neg (by decide) ?_
          try refine wpAny_bind (wpAny_pure ?_)
          exact go
    · have met2 : t.probe (fun i => (es[i]?.map (·.1)).getD 0) h (stand.getD (t.probeStart h)) = some (.empty j none) := by rw [hst, ← hj]; exact met
      rw [met2]
      exact wpAny_pure q
end
end NSet
namespace NSet
open PySem PySem.Spec PyProof.Rows L2
section
variable {P : Program} {w : World} {A : Around} {E : Value → Shared → Prop} {s : Shared}
variable {a : Addr} {es : Array (Int × Value)} {ep : Nat} {t : SetTable} {ks : List (NestedKey × Addr)}
theorem TO.led {t : SetTable} {n : Nat} (T : TO t n) (b c : Bool) : TO { t with led := b, plain := c } n := ⟨T.ri, T.nd, T.many, T.msk, T.low⟩
theorem sizes (n M m : Nat) (hm : Msk m) (lo : n * 5 < m * 3) (hi : (n + 1) * 5 ≥ m * 3) (few : n ≤ 4000) :
    ∃ M, SetTable.sizeAbove (SetTable.grown (n + 1)) - 1 = M ∧ Msk M ∧ SetTable.sizeAbove (SetTable.grown (n + 1)) ≤ 8192 ∧ (n + 1) * 5 < M * 3 := by
  rcases hm with e | e | e | e | e | e
  · obtain rfl : n = 4 := by omega
    exact ⟨31, by decide +kernel, by unfold Msk; omega, by decide +kernel, by omega⟩
  · obtain rfl : n = 18 := by omega
    exact ⟨127, by decide +kernel, by unfold Msk; omega, by decide +kernel, by omega⟩
  · obtain rfl : n = 76 := by omega
    exact ⟨511, by decide +kernel, by unfold Msk; omega, by decide +kernel, by omega⟩
  · obtain rfl : n = 306 := by omega
    exact ⟨2047, by decide +kernel, by unfold Msk; omega, by decide +kernel, by omega⟩
  · obtain rfl : n = 1228 := by omega
    exact ⟨8191, by decide +kernel, by unfold Msk; omega, by decide +kernel, by omega⟩
  · omega
theorem mem_insertAt {α : Type} {xs : Array α} {p : Nat} {x y : α} (h : y ∈ SetTable.insertAt xs p x) : y = x ∨ y ∈ xs := by
  rw [← Array.mem_toList_iff, SetTable.toList_insertAt] at h
  rcases mem_ins.1 h with h | h
  · exact .inl h
  · exact .inr (Array.mem_toList_iff.1 h)
theorem size_insertAt {α : Type} (xs : Array α) {p : Nat} (x : α) (hp : p ≤ xs.size) : (SetTable.insertAt xs p x).size = xs.size + 1 := by
  rw [← Array.length_toList, SetTable.toList_insertAt, len_ins _ (by rw [Array.length_toList]; exact hp), Array.length_toList]
theorem picked {es : Array (Int × Value)} {order : Array Nat} (h1 : order.size = es.size) (h2 : ∀ i ∈ order.toList, i < es.size) :
    (order.filterMap (es[·]?)).size = es.size ∧ ∀ e ∈ order.filterMap (es[·]?), e ∈ es := by
  have l : (order.filterMap (es[·]?)).toList = order.toList.filterMap fun i => es[i]? := by simp
  have key : ∀ l : List Nat, (∀ i ∈ l, i < es.size) → (l.filterMap fun i => es[i]?).length = l.length := by
    intro l
    induction l with
    | nil => intro _; rfl
    | cons i l ih =>
      intro h
      rw [List.filterMap_cons_some (Array.getElem?_eq_getElem (h i List.mem_cons_self)), List.length_cons, List.length_cons, ih fun j hj => h j (List.mem_cons_of_mem _ hj)]
  constructor
  · rw [← Array.length_toList, l, key _ h2, Array.length_toList, h1]
  · intro e he
    rw [← Array.mem_toList_iff, l] at he
    obtain ⟨i, _, hi⟩ := List.mem_filterMap.1 he
    exact Array.mem_of_getElem? hi
/-- a set isn't a tuple -/
theorem KeyAt.same {h h2 : Heap} {k : NestedKey} {b : Addr} {o : Obj} (x : KeyAt h k b) (oh : h.get? a = some o) (od : o.data = .set es ep t) (sb : Heap.SameBut a h h2) : KeyAt h2 k b :=
  x.keep fun c o2 vs n hc hd => (sb.2 c fun e => by rw [e, oh] at hc; cases hc; rw [od] at hd; cases hd).trans hc
theorem relay (o : Obj) (oh : s.heap.get? a = some o) (ox : o.ExactSet) (od : o.data = .set es ep t) (T : TO t es.size) (fit : es.size ≤ t.mask) {wanted M : Nat}
    (hw : SetTable.sizeAbove wanted - 1 = M) (hM : Msk M) (hw2 : SetTable.sizeAbove wanted ≤ 8192) (gap : es.size * 5 < M * 3) {Q : Unit → Shared → Prop}
    (q : ∀ h2 es2 ep2 t2, Heap.SameBut a s.heap h2 → SN h2 a es2 ep2 t2 → es2.size = es.size → (∀ e ∈ es2, e ∈ es) → Q () { s with heap := h2 }) : wpAny (model P w) A (setRelay a wanted) Q E s := by
  obtain ⟨t2, order, e, o1, o2, T2, m2⟩ := relaid_TO t (hs := es.map (·.1)) hw hM (by rw [Array.size_map]; omega)
  rw [Array.size_map] at o1 o2 T2
  obtain ⟨z1, z2⟩ := picked o1 o2
  rw [setRelay_eq]
  refine wpAny_bind (wpAny_setState_of oh od (T.fit fit) ?_)
  dsimp only
  refine wp_if_neg (by rw [sizeLine_eq]; omega) ?_
  try refine wpAny_bind (wpAny_pure ?_)
  rw [e]
  dsimp only
  refine wpAny_bind ?_
  refine wp_if_neg (by rw [z1]; simp) ?_
  try refine wpAny_bind (wpAny_pure ?_)
  refine wpAny_pure ?_
  dsimp only
  have eM : es.size ≤ sizeLine := by
    have := hM.top
    rw [sizeLine_eq]
    omega
  refine wpAny_storeSet_of oh od ?_ (by rw [z1]; exact eM)
  exact q _ _ (ep + 1) t2 (Heap.SameBut.update ..) ⟨⟨_, store_at oh od, ⟨ox.1, ox.2.1, ox.2.2⟩, rfl⟩, by rw [z1]; exact T2, by rw [z1, m2]; exact gap⟩ z1 z2
/-- a key that isn't there is put in -/
theorem add (R : SN s.heap a es ep t) (F : From es ks) (hks : ∀ p ∈ ks, KeyAt s.heap p.1 p.2) {x : Addr} {k : NestedKey} (hx : KeyAt s.heap k x) (fresh : ∀ p ∈ ks, p.1 ≠ k) (room : A.units + 8 < cLine) (few : es.size ≤ 4000) (h : Int) {Q : Bool → Shared → Prop}
    (q : ∀ h2 es2 ep2 t2, Heap.SameBut a s.heap h2 → SN h2 a es2 ep2 t2 → es2.size = es.size + 1 → From es2 (ks ++ [(k, x)]) → Q true { s with heap := h2 }) : wpAny (model P w) A (setAddHashed a (.ref x) h) Q E s := by
  obtain ⟨o, oh, ox, od⟩ := R.ob
  have gap := R.gap
  unfold setAddHashed
  refine wpAny_holding ?_
  rw [show (100000 : Nat) = 99999 + 1 from rfl, setAddHashedIn_succ]
  refine wpAny_bind (wpAny_setState_of oh od R.fits ?_)
  dsimp only
  refine wp_if_neg (by simp [byScan, Value.scannable]) ?_
  try refine wpAny_bind (wpAny_pure ?_)
  obtain ⟨D, d1, d2, d3⟩ := R.tab.free (by omega) h
  have tops := R.tab.msk.top
  refine wpAny_bind (hunt R F hks hx fresh room h (j := way t.mask h D) ?_ 100000 D none (t.probeStart h) rfl rfl (by unfold SetTable.turns at d1; omega) d1 d3 rfl d2)
  dsimp only
  refine wpAny_bind (wpAny_setState_of oh od R.fits ?_)
  dsimp only
  have pt : (t.put (way t.mask h D)).2 = SetTable.below t.place (way t.mask h D) := rfl
  have T1 := R.tab.put (way_in t.mask h D) d2
  have k1 : (t.put (way t.mask h D)).1.mask = t.mask := rfl
  have pl : SetTable.below t.place (way t.mask h D) ≤ es.size := by
    have := (below_cut R.tab.ri (way t.mask h D)).1
    have m := R.tab.many
    omega
  have fl : (t.put (way t.mask h D)).1.fill = es.size + 1 := by
    unfold SetTable.fill
    rw [T1.many, T1.nd]
    rfl
  generalize t.put (way t.mask h D) = pp at pt T1 k1 fl ⊢
  obtain ⟨t1, p⟩ := pp
  dsimp only at pt T1 k1 fl ⊢
  subst pt
  -- the rest, whatever the hash is made of
  have rest : ∀ (t2 : SetTable), TO t2 (es.size + 1) → t2.mask = t.mask → t2.fill = es.size + 1 → wpAny (model P w) A (do
      storeSet a (SetTable.insertAt es (SetTable.below t.place (way t.mask h D)) (h, Value.ref x)) t2
      if (!false && t2.tooFull) = true then setRelay a (SetTable.grown (es.size + 1))
      return true) Q E s := by
    intro t2 T2 m2 f2
    have z := size_insertAt es (h, Value.ref x) pl
    have F2 : From (SetTable.insertAt es (SetTable.below t.place (way t.mask h D)) (h, Value.ref x)) (ks ++ [(k, x)]) := fun e he => by
      rcases mem_insertAt he with rfl | he
      · exact ⟨(k, x), List.mem_append_right _ List.mem_cons_self, rfl⟩
      · obtain ⟨p, hp, e2⟩ := F e he
        exact ⟨p, List.mem_append_left _ hp, e2⟩
    generalize SetTable.insertAt es (SetTable.below t.place (way t.mask h D)) (h, Value.ref x) = es1 at z F2 ⊢
    refine wpAny_bind (wpAny_storeSet_of oh od ?_ (by rw [z, sizeLine_eq]; omega))
    have sb := Heap.SameBut.update s.heap a (Obj.putSet es1 t2)
    have oh1 := store_at (es' := es1) (t' := t2) oh od
    generalize s.heap.update a (Obj.putSet es1 t2) = h1 at sb oh1 ⊢
    by_cases full : t2.tooFull = true
    · have hi : (es.size + 1) * 5 ≥ t.mask * 3 := by
        unfold SetTable.tooFull at full
        rw [decide_eq_true_eq, f2, m2] at full
        exact full
      obtain ⟨M, s1, s2, s3, s4⟩ := sizes es.size 0 t.mask R.tab.msk gap hi few
      first
        | (refine wpAny_bind ?_; refine wp_if_pos (by simp [full]) ?_)
        | (refine wp_if_pos (by simp [full]) ?_; refine wpAny_bind ?_)
      refine relay (s := { s with heap := h1 }) _ oh1 ⟨ox.1, ox.2.1, ox.2.2⟩ rfl (by rw [z]; exact T2) (by rw [z, m2]; rcases R.tab.msk with e | e | e | e | e | e <;> omega) s1 s2 s3 (by rw [z]; exact s4) fun h2 es2 ep2 t3 sb2 R2 z2 mem2 => ?_
      exact wpAny_pure (q h2 es2 ep2 t3 (sb.trans sb2) R2 (z2.trans z) fun e he => F2 e (mem2 e he))
    · have lo : (es.size + 1) * 5 < t.mask * 3 := by
        unfold SetTable.tooFull at full
        rw [decide_eq_true_eq, f2, m2] at full
        omega
      first
        | refine wp_if_neg (by simp [full]) ?_
        | (refine wpAny_bind ?_; refine wp_if_neg (by simp [full]) ?_; refine wpAny_pure ?_)
      exact wpAny_pure (q h1 es1 (ep + 1) t2 sb ⟨⟨_, oh1, ⟨ox.1, ox.2.1, ox.2.2⟩, rfl⟩, by rw [z]; exact T2, by rw [z, m2]; exact lo⟩ z F2)
  have lay : ∀ b : Bool, TO (if b = true then t1 else { t1 with plain := false }) (es.size + 1) ∧ (if b = true then t1 else { t1 with plain := false }).mask = t.mask ∧ (if b = true then t1 else { t1 with plain := false }).fill = es.size + 1 := fun b => by
    cases b
    · exact ⟨T1.led t1.led false, k1, fl⟩
    · exact ⟨T1, k1, fl⟩
  by_cases hp : t1.plain = true
  · first
      | (refine wpAny_bind ?_; refine wp_if_pos hp ?_; refine byVal_key k _ 8 s _ hx.1 hx.2 fun b => ?_)
      | refine wp_if_pos hp (wpAny_bind (byVal_key k _ 8 s _ hx.1 hx.2 fun b => ?_))
    exact rest _ (lay b).1 (lay b).2.1 (lay b).2.2
  · first
      | (refine wpAny_bind ?_; refine wp_if_neg hp ?_; refine wpAny_pure ?_)
      | refine wp_if_neg hp (wpAny_bind (wpAny_pure ?_))
      | refine wp_if_neg hp ?_
    exact rest _ (lay true).1 (lay true).2.1 (lay true).2.2
end
end NSet
namespace NSet
open PySem PySem.Spec PyProof.Rows L2
section
variable {prog : Program} {w : World} {A : Around} {R : Result → Shared → Prop} {I : Addr} {fp wr : List Addr} {G : Array GenState → Array GenState → Prop} {n : Nat} {P : Nat → Value → Prop} {St : Nat → Shared → Prop}
theorem SN.at {h h2 : Heap} {a : Addr} {es : Array (Int × Value)} {ep : Nat} {t : SetTable} (S : SN h a es ep t) (k : ∀ o, h.get? a = some o → h2.get? a = some o) : SN h2 a es ep t := by
  obtain ⟨o, oh, r⟩ := S.ob
  exact ⟨⟨o, k o oh, r⟩, S.tab, S.gap⟩
theorem pour (W : WalksS prog w A.in1 I fp wr G n P St) (B : Addr) (hB : B ∉ fp) (ks : List (NestedKey × Addr)) (hl : ks.length = n) (few : n ≤ 4000) (nd : (ks.map (·.1)).Nodup) (val : ∀ i v, P i v → ∃ p, ks[i]? = some p ∧ v = .ref p.2)
    (h0 : Heap) (at0 : ∀ p ∈ ks, KeyAt h0 p.1 p.2) (B0 : h0.get? B = none) (w0 : ∀ b ∈ wr, h0.get? b = none) (room : A.in1.units + 8 < cLine) :
    ∀ (k i : Nat) (s : Shared), n - i = k → i ≤ n → St i s → (∀ b o, h0.get? b = some o → s.heap.get? b = some o) → (∃ es ep t, SN s.heap B es ep t ∧ es.size = i ∧ From es (ks.take i)) →
      (∀ s2, Moved (B :: wr) G s s2 → (∃ es ep t, SN s2.heap B es ep t ∧ es.size = n) → (∀ b o, h0.get? b = some o → s2.heap.get? b = some o) → R (.ok (.ret .none)) s2) →
      codeAny (model prog w) A (.builtin "set.update.loop" ⟨[.ref B, .ref I], []⟩) R s := by
  have off : B ∉ wr := fun q => hB (W.sub _ q)
  have into : ∀ c ∈ wr, c ∈ B :: wr := fun c q => List.mem_cons_of_mem _ q
  have kept : ∀ {s s2 : Shared}, Moved wr G s s2 → (∀ b o, h0.get? b = some o → s.heap.get? b = some o) → ∀ b o, h0.get? b = some o → s2.heap.get? b = some o := fun mv old b o e =>
    mv.heap b o (fun hb => by rw [w0 b hb] at e; cases e) (old b o e)
  intro k
  induction k with
  | zero =>
    intro i s e1 e2 st old set goal
    obtain rfl : i = n := by omega
    refine codeAny_builtin F.entry_set_update_loop ?_
    rw [Around.under_plainId F.plain_set_update_loop _]
    show wpAny _ A.in1 (pyNext (.ref I) >>= _) _ _ s
    refine wpAny_bind (W.done s _ _ st fun s1 mv => ?_)
    show wpAny _ A.in1 (ret Value.none) _ _ s1
    obtain ⟨es, ep, t, S, z, _⟩ := set
    exact wpAny_pure (goal s1 (mv.mono into) ⟨es, ep, t, S.at fun o e => mv.heap B o off e, z⟩ (kept mv old))
  | succ k ih =>
    intro i s e1 e2 st old set goal
    have lt : i < n := by omega
    refine codeAny_builtin F.entry_set_update_loop ?_
    rw [Around.under_plainId F.plain_set_update_loop _]
    show wpAny _ A.in1 (pyNext (.ref I) >>= _) _ _ s
    refine wpAny_bind (W.item i s _ _ lt st fun v s1 hP st1 mv => ?_)
    obtain ⟨p, hp, rfl⟩ := val i v hP
    have old1 := kept mv old
    obtain ⟨es, ep, t, S, z, Fr⟩ := set
    have S1 : SN s1.heap B es ep t := S.at fun o e => mv.heap B o off e
    have keyed : ∀ h2 : Heap, (∀ b o, h0.get? b = some o → h2.get? b = some o) → ∀ q ∈ ks, KeyAt h2 q.1 q.2 := fun h2 k2 q hq => (at0 q hq).keep fun c o _ _ e _ => k2 c o e
    have hx := keyed _ old1 p (List.mem_of_getElem? hp)
    have tk : ks.take (i + 1) = ks.take i ++ [p] := by
      rw [List.take_add_one, hp]
      rfl
    have fresh : ∀ q ∈ ks.take i, q.1 ≠ p.1 := fun q hq e => by
      have d := nd
      rw [← List.take_append_drop i ks, List.map_append] at d
      have m2 : p ∈ ks.drop i := List.mem_of_getElem? (i := 0) (by rw [List.getElem?_drop]; exact hp)
      exact (List.nodup_append.mp d).2.2 q.1 (List.mem_map.2 ⟨q, hq, rfl⟩) p.1 (List.mem_map.2 ⟨p, m2, rfl⟩) e
    show wpAny _ A.in1 (holding [Value.ref p.2] (setAdd B (.ref p.2)) >>= _) _ _ s1
    refine wpAny_bind (wpAny_holding ?_)
    unfold setAdd
    refine wpAny_holding ?_
    refine wpAny_bind (pyHash_key p.1 _ A.in1 s1 _ hx.1 (by have := hx.2; omega) ?_)
    refine add (s := { s1 with toks := s1.toks + p.1.draws }) S1 Fr (fun q hq => keyed _ old1 q (List.mem_of_mem_take hq)) hx fresh room (by omega) _ fun h2 es2 ep2 t2 only S2 z2 F2 => ?_
    have old2 : ∀ b o, h0.get? b = some o → h2.get? b = some o := fun b o e => (only.2 b fun q => by rw [q, B0] at e; cases e).trans (old1 b o e)
    refine wpAny_pure ⟨plainId_quiet F.plain_set_update_loop _, ih (i + 1) _ (by omega) lt (W.frame _ s1 _ _ st1 (Nat.le_add_right _ _) fun c hc o e => ?_) old2 ⟨es2, ep2, t2, S2, by rw [z2, z], by rw [tk]; exact F2⟩ fun s4 mv4 set4 old4 => ?_⟩
    · rw [only.2 c (fun q : c = B => hB (q ▸ hc))]
      exact e
    · refine goal s4 (Moved.trans W.gtrans ((mv.mono into).then_heap (Nat.le_add_right _ _) fun c o hc e => ?_) mv4) set4 old4
      rw [only.2 c (fun q : c = B => hc (q ▸ List.mem_cons_self))]
      exact e
end
section
variable {prog : Program} {w : World} {A : Around} {E : Value → Shared → Prop} {s : Shared}
abbrev setE (led : Bool) : Obj := { cls := .type "set", dict := none, data := .set #[] 0 (.fresh 0 0 led) }
theorem SN.fresh {h : Heap} {a : Addr} {led : Bool} (e : h.get? a = some (setE led)) : SN h a #[] 0 (.fresh 0 0 led) :=
  ⟨⟨_, e, ⟨rfl, rfl, rfl⟩, rfl⟩, ⟨List.Pairwise.nil, rfl, rfl, .inl rfl, fun x h => by cases h⟩, by show 0 * 5 < 7 * 3; decide⟩
theorem call_set_keys {l : Addr} {items : Array Value} (ks : List (NestedKey × Addr)) {Q : Value → Shared → Prop} (hh : A.handled = none) (hl : s.heap.IsList l items) (hit : items.toList = ks.map fun p => Value.ref p.2)
    (hk : ∀ p ∈ ks, KeyAt s.heap p.1 p.2) (few : ks.length ≤ 4000) (nd : (ks.map (·.1)).Nodup) (room : A.units + 12 < cLine)
    (h : ∀ (h' : Heap) (tk : Nat) es ep t, SN h' s.heap.objs.size es ep t → es.size = ks.length → (∀ b o, s.heap.get? b = some o → h'.get? b = some o) → Q (.ref s.heap.objs.size) { s with heap := h', toks := tk }) :
    wpAny (model prog w) A (call (.type "set") [.ref l]) Q E s := by
  have many : items.size = ks.length := by
    rw [← Array.length_toList, hit, List.length_map]
  obtain ⟨c, tl, mro⟩ := PySem.F.called_set.mro
  have q1 := PySem.F.called_set.made
  have q2 := PySem.F.called_set.sub
  refine wpAny_call (codeAny_of_tree ?_)
  show wpAny _ _ (callAny (.type "set") _) _ _ _
  refine wpAny_pure ⟨Code.quiet_builtin _ (by decide +kernel), codeAny_builtin PySem.F.entry_type_call ?_⟩
  rw [Around.under_plain (weight_type_call_type "set" [.ref l] []) rfl]
  have q3 := PySem.F.called_set.notType
  have q4 := PySem.F.called_set.canCreate
  have q5 := PySem.F.typeCall_set_1 (.ref l)
  repeat (any_goals (first | assumption | wp_step))
  refine codeAny_mono (code_set_new_1 (.ref l) (E := E) (Q₁ := fun v s1 => ∃ led : Bool, v = .ref s.heap.objs.size ∧ s1 = { s with heap := s.heap.push (setE led) }) fun led => ⟨led, rfl, rfl⟩) fun r s1 hr => ?_
  match r, hr with
  | .error e, hr => exact hr
  | .ok .next, hr => exact hr.elim
  | .ok .brk, hr => exact hr.elim
  | .ok .cont, hr => exact hr.elim
  | .ok (.ret v), hr =>
    obtain ⟨led, rfl, rfl⟩ := hr
    have at0 : (s.heap.push (setE led)).get? s.heap.objs.size = some (setE led) := Heap.get?_push_size _ rfl
    have ty : Shared.TypeIs { s with heap := s.heap.push (setE led) } (.ref s.heap.objs.size) "set" := ⟨_, at0, rfl⟩
    have q6 := PySem.F.called_set.init.lookup
    have q7 := PySem.F.called_set.init.bind (.ref s.heap.objs.size)
    repeat (any_goals (first | assumption | wp_step))
    refine codeAny_mono (codeAny_call_builtin (R := wants (fun r s2 => r = .none ∧ ∃ h' tk es ep t, s2 = { s with heap := h', toks := tk } ∧ SN h' s.heap.objs.size es ep t ∧ es.size = ks.length ∧
        ∀ b o, s.heap.get? b = some o → h'.get? b = some o) E) PySem.F.called_set.init.plain PySem.F.entry_set_init (check_set_init_1 ty ?_)) fun r2 s2 hr2 => ?_
    · obtain ⟨ol, hol, cl, nl, dl⟩ := hl
      obtain ⟨ocls, odict, odata, oslots⟩ := ol
      simp only at cl dl
      subst cl
      subst dl
      have hol1 : (s.heap.push (setE led)).get? l = some { cls := .type "list", dict := odict, data := .seq items nl, slots := oslots } := Heap.get?_push_of_some _ hol
      have hl1 : (s.heap.push (setE led)).IsList l items := ⟨_, hol1, rfl, nl, rfl⟩
      have q8 := F.sub_list_set
      have q9 := F.sub_list_frozenset
      have q10 : (Value.type "list" == Value.type "dict") = false := by decide
      unfold Builtin.«set.__init__»
      unfold Builtin.Frozenset.updateFrom noKeywords
      generalize hPI : pyIter = PI
      wp_walk
      subst hPI
      refine wpAny_pyIter_list hl1 ?_
      refine wpAny_bind (wpAny_runValue ?_)
      have hh3 : A.in1.in1.in1.handled = none := by simp [hh]
      have lS : l < s.heap.objs.size := Heap.lt_size hol
      have zS : (s.heap.push (setE led)).objs.size = s.heap.objs.size + 1 := Heap.size_push ..
      have lI : l ≠ (s.heap.push (setE led)).objs.size := by rw [zS]; exact Nat.ne_of_lt (Nat.lt_succ_of_lt lS)
      have offF : s.heap.objs.size ∉ [(s.heap.push (setE led)).objs.size, l] := by
        rw [zS]
        simp only [List.mem_cons, List.not_mem_nil, or_false, not_or]
        exact ⟨Nat.ne_of_lt (Nat.lt_succ_self _), Nat.ne_of_gt lS⟩
      have none0 : ∀ b, s.heap.objs.size ≤ b → s.heap.get? b = none := fun b hb => Heap.get?_none_of_le hb
      refine pour (Walks.list hh3 _ l lI items).toS s.heap.objs.size offF ks many.symm (by omega) nd (fun i v hv => ?_) s.heap hk (none0 _ (Nat.le_refl _)) (fun b hb => none0 b (by rw [List.mem_singleton.1 hb, zS]; exact Nat.le_succ _)) (by simp only [Around.in1_units]; omega) (items.size - 0) 0 _ (by omega) (Nat.zero_le _)
        ⟨⟨_, Heap.get?_push_size _ rfl, rfl, rfl⟩, hl1.push _⟩ (fun b o e => Heap.get?_push_of_some _ (Heap.get?_push_of_some _ e)) ⟨#[], 0, _, SN.fresh (Heap.get?_push_of_some _ at0), rfl, fun e he => by simp at he⟩ fun s3 mv set old => ?_
      · have v2 : items.toList[i]? = some v := by rw [Array.getElem?_toList]; exact hv
        rw [hit, List.getElem?_map] at v2
        obtain ⟨p, hp, e⟩ := Option.map_eq_some_iff.1 v2
        exact ⟨p, hp, e.symm⟩
      · obtain ⟨h3, g3, d3, tk3, os3⟩ := s3
        obtain rfl : g3 = s.gens := mv.gens
        obtain rfl : d3 = s.drawn := mv.drawn
        obtain rfl : os3 = s.os := mv.os
        obtain ⟨es, ep, t, S, z⟩ := set
        show wpAny _ _ _ _ _ _
        refine wpAny_pure ?_
        show wpAny _ _ (ret Value.none) _ _ _
        exact wpAny_pure ⟨rfl, h3, tk3, es, ep, t, rfl, S, z.trans many, old⟩
    · match r2, hr2 with
      | .error e, hr2 => exact hr2
      | .ok .next, hr2 => exact hr2.elim
      | .ok .brk, hr2 => exact hr2.elim
      | .ok .cont, hr2 => exact hr2.elim
      | .ok (.ret v), hr2 =>
        obtain ⟨rfl, h', tk, es, ep, t, rfl, S, z, old⟩ := hr2
        repeat (any_goals (first | assumption | wp_step))
        exact h _ _ _ _ _ S z old
end
end NSet

set_option Elab.async false
set_option linter.all false
set_option maxRecDepth 100000
set_option maxHeartbeats 2000000
/-! Our own rules: dicts and sets whose keys are nested tuples. -/
namespace L2
open PySem PySem.Spec PyProof.Rows Evl
/-! ### keys told as data -/
section
variable {X : Cx} {pins : List (Addr × Obj)} {σ : St} {H : Hp} {s : Shared}
mutual
theorem nk_of (I : Inv X pins σ H s) : ∀ (k : NestedKey) (v : V) (u : Value), Dp X.K H v k.data → RelV v u → NestedIs s.heap k u
  | .none, _, _, d, r => by
    cases d
    cases (show _ = Value.none from r)
    exact .none
  | .num i, _, _, d, r => by
    cases d
    obtain ⟨t, rfl⟩ := (show ∃ t, _ = Value.int i t from r)
    exact .int i t
  | .text x, _, _, d, r => by
    cases d
    obtain ⟨t, rfl⟩ := (show ∃ t, _ = Value.str x t from r)
    exact .text x t
  | .tup ks, _, _, d, r => by
    cases d with
    | tup h1 h2 =>
      obtain ⟨its, rv, ⟨o, e1, e2, n, e3⟩, _⟩ := I.tuple h1
      cases (show _ = Value.ref _ from r)
      exact .tup e1 e2 e3 (by simpa using nks_of I ks _ _ h2 rv)
theorem nks_of (I : Inv X pins σ H s) : ∀ (ks : List NestedKey) (vs : List V) (us : List Value), DpAll X.K H vs (NestedKey.datas ks) → Vals vs us → NestedAll s.heap ks us
  | [], _, _, d, r => by
    cases d
    cases r
    exact .nil
  | k :: ks, _, _, d, r => by
    cases d with
    | cons d1 d2 =>
      cases r with
      | cons r1 r2 => exact .cons (nk_of I k _ _ d1 r1) (nks_of I ks _ _ d2 r2)
end
/-- at b stands the key k -/
def NKey (K : PySem.W.Frag) (H : Hp) (k : NestedKey) (b : Addr) : Prop := Dp K H (.ref b) k.data ∧ k.depth ≤ 8
theorem NKey.mono {K : PySem.W.Frag} {H H' : Hp} {k : NestedKey} {b : Addr} (h : NKey K H k b) (e : Ex H H') : NKey K H' k b := ⟨Dp.mono e _ _ h.1, h.2⟩
theorem NKey.is (I : Inv X pins σ H s) {k : NestedKey} {b : Addr} (h : NKey X.K H k b) : (nestedKind X.prog X.w).is s.heap k b := ⟨nk_of I k _ _ h.1 rfl, h.2⟩
mutual
theorem noL_key2 : ∀ k : NestedKey, noL k.data = true
  | .none => rfl
  | .num _ => rfl
  | .text _ => rfl
  | .tup ks => by
    show noLs (NestedKey.datas ks) = true
    exact noL_keys2 ks
theorem noL_keys2 : ∀ ks : List NestedKey, noLs (NestedKey.datas ks) = true
  | [] => rfl
  | k :: ks => by
    show (noL k.data && noLs (NestedKey.datas ks)) = true
    rw [noL_key2 k, noL_keys2 ks]
    rfl
end
/-! ### len(set(xs)) -/
def tLenSetN (K : PySem.W.Frag) (ta : TE) : TE := fun σ H Q => ta σ H fun x H1 => ∃ (l : Addr) (ks : List (NestedKey × Addr)), x = V.ref l ∧ SqL K H1 l (ks.map fun p => V.ref p.2) ∧ (∀ p ∈ ks, NKey K H1 p.1 p.2) ∧ ks.length ≤ 4000 ∧ (ks.map (·.1)).Nodup ∧ Q (.int ks.length) H1
theorem pe_lenSetN {a : Expr} {ta : TE} {p p2 q pos : Pos} (hc : X.calm = true) (room : X.A.units + 64 < cLine) (hg : Gl X "len") (hm : X.mg "len" = none) (hg2 : Gl X "set") (hm2 : X.mg "set" = none) (ha : PE X a ta)
    (na : starEach [a] X.env = (false, eval a X.env) :: starEach [] X.env := by rfl) : PE X (.Call (.Name "len" p) [.Call (.Name "set" p2) [a] [] q] [] pos) (tLenSetN X.K ta) := by
  refine ⟨fun pins s σ H Q I h => ?_⟩
  refine Call_ (ld_blt I hg hm PySem.boot_len ?_)
  refine callWith_builtin1 (args_cons ?_ rfl) rfl rfl
  refine Call_ (ld_blt I hg2 hm2 boot_set ?_)
  refine callWith_type1 (args_cons (thn (ha.run pins s σ H _ I h) fun v s1 ⟨x, H1, I1, r1, q1⟩ => args_nil ?_) na) na rfl
  obtain ⟨l, ks, rfl, sq, keys, few, nd, q1⟩ := q1
  cases r1
  obtain ⟨its, rv, pl, _⟩ := I1.list sq
  have ei : its = ks.map fun p => Value.ref p.2 := by
    have : ks.map (fun p => V.ref p.2) = (ks.map Prod.snd).map V.ref := by rw [List.map_map]; rfl
    rw [this] at rv
    rw [refs_at rv, List.map_map]
    rfl
  refine NSet.call_set_keys ks (I1.ok.hd hc) pl.isList (by simpa using ei) (fun p hp => (keys p hp).is I1) few nd (by omega) fun h' tk es ep t S z old => ?_
  refine args_nil ?_
  have I2 : Inv X pins σ H1 { s1 with heap := h', toks := tk } := I1.kept fun b o e => old b o e
  have fits := S.fits
  obtain ⟨o, oh, ox, od⟩ := S.ob
  refine call_len_set oh ox od fits (by rw [z]; omega) ⟨.int ks.length, H1, I2.tok _, ⟨_, by rw [z]⟩, q1⟩
/-! ### a dict keyed so -/
abbrev NRow := NestedKey × Addr × V
def NRows : List NRow → List (NestedKey × Addr × Value) → Prop := Paired fun p q => p.1 = q.1 ∧ p.2.1 = q.2.1 ∧ RelV p.2.2 q.2.2
theorem NRows.keys {xs : List NRow} {vs : List (NestedKey × Addr × Value)} (r : NRows xs vs) : xs.map (fun x => (x.1, x.2.1)) = vs.map fun x => (x.1, x.2.1) := by
  unfold NRows at r
  induction r with
  | nil => rfl
  | cons h t ih => rw [List.map_cons, List.map_cons, ih, h.1, h.2.1]
theorem NRows.get {xs : List NRow} {vs : List (NestedKey × Addr × Value)} (r : NRows xs vs) {y : NestedKey × Addr × Value} (h : y ∈ vs) : ∃ x ∈ xs, x.1 = y.1 ∧ x.2.1 = y.2.1 ∧ RelV x.2.2 y.2.2 := by
  unfold NRows at r
  induction r with
  | nil => cases h
  | @cons a b as bs h1 t ih =>
    rcases List.mem_cons.1 h with rfl | h
    · exact ⟨a, List.mem_cons_self, h1⟩
    · obtain ⟨x, hx, q⟩ := ih h
      exact ⟨x, List.mem_cons_of_mem _ hx, q⟩
theorem NRows.back {xs : List NRow} {vs : List (NestedKey × Addr × Value)} (r : NRows xs vs) {x : NRow} (h : x ∈ xs) : ∃ y ∈ vs, x.1 = y.1 ∧ x.2.1 = y.2.1 ∧ RelV x.2.2 y.2.2 := by
  unfold NRows at r
  induction r with
  | nil => cases h
  | @cons a b as bs h1 t ih =>
    rcases List.mem_cons.1 h with rfl | h
    · exact ⟨b, List.mem_cons_self, h1⟩
    · obtain ⟨x, hx, q⟩ := ih h
      exact ⟨x, List.mem_cons_of_mem _ hx, q⟩
structure ND0 (P : Program) (w : World) (d : Addr) (xs : List NRow) (h : Heap) : Prop where
  sys : (d == sysModules) = false
  len : xs.length ≤ sizeLine
  ex : ∃ vs, NRows xs vs ∧ ∃ o es ep, h.get? d = some o ∧ o.ExactDict ∧ o.data = .dict es ep ∧ es.toList = vs.map (entryOfKey (nestedKind P w)) ∧ (vs.map (·.1)).Nodup
/-- the dict at d: keys, their places, values -/
def NDo (P : Program) (w : World) (d : Addr) (xs : List NRow) : HO := .ext (ND0 P w d xs)
structure NDAt (P : Program) (w : World) (K : PySem.W.Frag) (H : Hp) (d : Addr) (xs : List NRow) : Prop where
  at_ : H d = some (NDo P w d xs)
  keys : ∀ x ∈ xs, NKey K H x.1 x.2.1
theorem NDAt.mono {P : Program} {w : World} {K : PySem.W.Frag} {H H' : Hp} {d : Addr} {xs : List NRow} (h : NDAt P w K H d xs) (e : Ex H H') : NDAt P w K H' d xs := ⟨e _ _ h.at_, fun x hx => (h.keys x hx).mono e⟩
theorem ND0.at {P : Program} {w : World} {d : Addr} {xs : List NRow} {h h' : Heap} (x : ND0 P w d xs h) (k : ∀ o, h.get? d = some o → h'.get? d = some o) : ND0 P w d xs h' := by
  obtain ⟨vs, r, o, es, ep, e, q⟩ := x.ex
  exact ⟨x.sys, x.len, vs, r, o, es, ep, k o e, q⟩
theorem nd_ok {P : Program} {w : World} {H : Hp} {h : Heap} {d : Addr} {xs : List NRow} (x : ND0 P w d xs h) : ObjOk P w H h d (NDo P w d xs) := by
  have y := x
  obtain ⟨vs, r, o, es, ep, e, q⟩ := y.ex
  exact ⟨x, ⟨o, e⟩, fun h1 h2 x1 k => x1.at k⟩
theorem ND0.of {P : Program} {w : World} {h : Heap} {d : Addr} {xs : List NRow} {vs : List (NestedKey × Addr × Value)} (sys : (d == sysModules) = false) (len : xs.length ≤ sizeLine) (r : NRows xs vs) (D : h.DictOfH (nestedKind P w) d vs) : ND0 P w d xs h := by
  obtain ⟨o, es, ep, a, b, c, e, _, n⟩ := D
  exact ⟨sys, len, vs, r, o, es, ep, a, b, c, e, n⟩
theorem NDAt.open (I : Inv X pins σ H s) {d : Addr} {xs : List NRow} (h : NDAt X.prog X.w X.K H d xs) : (d == sysModules) = false ∧ xs.length ≤ sizeLine ∧ ∃ vs, NRows xs vs ∧ s.heap.DictOfH (nestedKind X.prog X.w) d vs := by
  have y : ND0 X.prog X.w d xs s.heap := (I.hok d _ h.at_).1
  obtain ⟨vs, r, o, es, ep, a, b, c, e, n⟩ := y.ex
  refine ⟨y.sys, y.len, vs, r, o, es, ep, a, b, c, e, fun z hz => ?_, n⟩
  obtain ⟨x, hx, e1, e2, _⟩ := r.get hz
  rw [← e1, ← e2]
  exact (h.keys x hx).is I
end
/-- a value that is there -/
def valN (xs : List NRow) (k : NestedKey) : Option V := (xs.find? fun x => decide (x.1 = k)).map (·.2.2)
theorem NRows.val {xs : List NRow} {vs : List (NestedKey × Addr × Value)} (r : NRows xs vs) (k : NestedKey) : RelO (valN xs k) ((atKey vs k).map (·.2)) := by
  unfold NRows at r
  induction r with
  | nil => exact True.intro
  | @cons a b as bs h1 t ih =>
    obtain ⟨e1, _, e3⟩ := h1
    by_cases c : a.1 = k
    · have c' : b.1 = k := e1 ▸ c
      have x1 : valN (a :: as) k = some a.2.2 := by simp [valN, List.find?_cons, c]
      have x2 : (atKey (b :: bs) k).map (·.2) = some b.2.2 := by simp [atKey, List.find?_cons, c']
      rw [x1, x2]
      exact e3
    · have c' : ¬ b.1 = k := fun z => c (e1.trans z)
      have x1 : valN (a :: as) k = valN as k := by simp [valN, List.find?_cons, c]
      have x2 : (atKey (b :: bs) k).map (·.2) = (atKey bs k).map (·.2) := by simp [atKey, List.find?_cons, c']
      rw [x1, x2]
      exact ih
theorem atKey_fresh {vs : List (NestedKey × Addr × Value)} {k : NestedKey} (h : k ∉ vs.map (·.1)) : atKey vs k = none := by
  unfold atKey
  have : (vs.find? fun x => decide (x.1 = k)) = none := by
    rw [List.find?_eq_none]
    intro x hx c
    exact h (List.mem_map.2 ⟨x, hx, of_decide_eq_true c⟩)
  rw [this]
  rfl
theorem NRows.keys1 {xs : List NRow} {vs : List (NestedKey × Addr × Value)} (r : NRows xs vs) : xs.map (·.1) = vs.map (·.1) := by
  have := congrArg (List.map Prod.fst) r.keys
  rw [List.map_map, List.map_map] at this
  exact this
end L2
namespace L2
open PySem PySem.Spec PyProof.Rows Evl
/-! ### readings and rules of such a dict -/
/-- {}, to be keyed so -/
def tDNewN (P : Program) (w : World) : TE := fun _ H Q => ∀ p, H p = none → Q (.ref p) (upd H p (NDo P w p []))
/-- d[y] = v, a new key -/
def sNPut (P : Program) (w : World) (K : PySem.W.Frag) (td ty tv : TE) : TS := fun D σ H => tv σ H fun v H1 => td σ H1 fun x H2 => ty σ H2 fun y H3 => ∃ d xs k b, x = .ref d ∧ y = .ref b ∧ NDAt P w K H3 d xs ∧ NKey K H3 k b ∧ k ∉ xs.map (·.1) ∧ xs.length < 100000 ∧
  D.nx σ (upd H3 d (NDo P w d (xs ++ [(k, b, v)])))
/-- d.get(y) -/
def tNGet1 (P : Program) (w : World) (K : PySem.W.Frag) (td ty : TE) : TE := fun σ H Q => td σ H fun x H1 => ∃ d xs, x = .ref d ∧ NDAt P w K H1 d xs ∧ ty σ H1 fun y H2 => ∃ k b, y = .ref b ∧ NDAt P w K H2 d xs ∧ NKey K H2 k b ∧ Q ((valN xs k).getD .non) H2
def rLenN (P : Program) (w : World) (K : PySem.W.Frag) : List V → Hp → VK → Prop := fun vs H Q => ∃ d xs, vs = [V.ref d] ∧ NDAt P w K H d xs ∧ Q (.int xs.length) H
/-- dict(xs) of a list of pairs, unlike keys -/
def rDictN (P : Program) (w : World) (K : PySem.W.Frag) : List V → Hp → VK → Prop := fun vs H Q => ∃ (a : Addr) (ps : List Addr) (xs : List NRow), vs = [V.ref a] ∧ SqL K H a (ps.map V.ref) ∧ Paired (fun p (x : NRow) => SqT K H p [.ref x.2.1, x.2.2]) ps xs ∧ (∀ x ∈ xs, NKey K H x.1 x.2.1) ∧ (xs.map (·.1)).Nodup ∧ xs.length ≤ 100000 ∧
  ∀ p, H p = none → Q (.ref p) (upd H p (NDo P w p xs))
/-- d != e, alike -/
def rNeN (P : Program) (w : World) (K : PySem.W.Frag) : R2 := fun x y H Q => ∃ a b xs ys, x = .ref a ∧ y = .ref b ∧ NDAt P w K H a xs ∧ NDAt P w K H b ys ∧ xs.length = ys.length ∧ (∀ x ∈ xs, ∃ z, x.2.2 = .str z ∧ valN ys x.1 = some (.str z)) ∧ Q (.bl false) H
section
variable {X : Cx} {pins : List (Addr × Obj)} {σ : St} {H : Hp} {s : Shared}
theorem pe_dnewN {pos : Pos} : PE X (.Dict [] [] pos) (tDNewN X.prog X.w) := ⟨fun pins s σ H Q I h =>
  wpAny_Dict_empty ⟨.ref s.heap.objs.size, _, I.laid (a := s.heap.objs.size) (o := NDo X.prog X.w s.heap.objs.size []) (t' := s.toks) (fun _ _ q => Heap.get?_push_of_some _ q) (Nat.le_refl _)
    (nd_ok (ND0.of (vs := []) (beq_eq_false_iff_ne.mpr (Ne.symm (Nat.ne_of_lt I.big))) (Nat.zero_le _) .nil (Heap.DictOfH.new s.heap))), rfl, h _ (I.hok.fresh (Nat.le_refl _))⟩⟩
theorem ps_nput {o i value : Expr} {pos pos' : Pos} {td ty tv : TE} (room : X.A.units + 64 < cLine) (ho : PE X o td) (hi : PE X i ty) (hv : PE X value tv) (hs : swapsWith value (some (.Subscript o i pos')) pos.line X.env = pure false) :
    PS X (.Assign [.Subscript o i pos'] value pos) (sNPut X.prog X.w X.K td ty tv) := by
  refine ⟨fun pins s σ H D I h => ?_⟩
  refine wpAny_Assign_Subscript (thn (hv.run pins s σ H _ I h) fun r s1 ⟨v, H1, I1, rv, q1⟩ => thn (ho.run pins s1 σ H1 _ I1 q1) fun u s2 ⟨x, H2, I2, rx, q2⟩ => thn (hi.run pins s2 σ H2 _ I2 q2) fun iv s3 ⟨y, H3, I3, ry, d, xs, k, b, ex, ey, nd, nk, new, lz, q3⟩ => ?_) hs
  subst ex ey
  cases (show u = Value.ref d from rx)
  cases (show iv = Value.ref b from ry)
  obtain ⟨sys, len, vs, rel, D⟩ := nd.open I3
  have new2 : k ∉ vs.map (·.1) := by rw [← rel.keys1]; exact new
  refine wpAny_setItem_heap (hsz := by rw [← Paired.length rel]; exact len) (show X.A.in1.units + 8 < cLine by rw [Around.in1_units]; omega) (nk.is I3) D fun h' D' sb => ?_
  rw [storedH_new (atKey_fresh new2)] at D'
  have len2 : (xs ++ [(k, b, v)]).length ≤ sizeLine := by
    rw [List.length_append, sizeLine_eq]
    show xs.length + 1 ≤ _
    omega
  have he : ∃ q, h'.get? d = some q := let ⟨q, _, _, hq, _⟩ := D'; ⟨q, hq⟩
  exact ⟨σ, _, d_write I3 (by rw [nd.at_]; exact True.intro) sb he (nd_ok (ND0.of sys len2 (Paired.snoc rel ⟨rfl, rfl, rv⟩) D')), q3⟩
theorem nd_type {d : Addr} {xs : List NRow} (I : Inv X pins σ H s) (h : NDAt X.prog X.w X.K H d xs) : s.TypeIs (.ref d) "dict" ∧ ∀ b, Value.ref d = .ref b → ∃ ob, s.heap.get? b = some ob ∧ ob.dict = none := by
  obtain ⟨_, _, vs, _, D⟩ := h.open I
  refine ⟨D.typeIs, fun b e => ?_⟩
  cases e
  obtain ⟨o, _, _, a, ex, _⟩ := D
  exact ⟨o, a, ex.2.1⟩
theorem pe_nget1 {o e : Expr} {apos cpos : Pos} {td ty : TE} (room : X.A.units + 64 < cLine) (ho : PE X o td) (he : PE X e ty) (m : M1 X o "get" apos e cpos) : PE X (.Call (.Attribute o "get" apos) [e] [] cpos) (tNGet1 X.prog X.w X.K td ty) := by
  refine ⟨fun pins s σ H Q I h => ?_⟩
  refine wpAny_Call_method m.base m.few m.line PySem.F.plainAttrs_dict PySem.F.slot_dict_get PySem.F.type_dict_get (thn (ho.run pins s σ H _ I h) fun u s1 ⟨x, H1, I1, rx, d, xs, ex, nd, q1⟩ => ?_)
  subst ex
  cases (show u = Value.ref d from rx)
  obtain ⟨t1, t2⟩ := nd_type I1 nd
  refine ⟨t1, t2, ?_⟩
  rw [m.trees]
  refine Calls.callWith_builtin rfl (Calls.evalArgs_plain (Calls.spliced_cons (thn (he.run pins s1 σ H1 _ I1 q1) fun iv s2 ⟨y, H2, I2, ry, k, b, ey, nd2, nk, q2⟩ => Calls.spliced_nil ?_)))
  subst ey
  cases (show iv = Value.ref b from ry)
  obtain ⟨sys, len, vs, rel, D⟩ := nd2.open I2
  refine call_meetsIn PySem.F.slot_dict_get D.typeIs PySem.F.entry_dict_get (PySem.F.args_dict_get_2 _ _) (meetsH_dict_get (nestedKind X.prog X.w) d b sys) ⟨show X.A.in1.units + 8 < cLine by rw [Around.in1_units]; omega, k, vs, nk.is I2, D, ?_⟩
  exact ⟨_, H2, I2.tok _, (rel.val k).getD (show RelV .non Value.none from rfl), q2⟩
theorem call_lenN : CallR X (.builtin "len") (rLenN X.prog X.w X.K) := by
  intro pins s σ H xs us Q I r h
  obtain ⟨d, rows, rfl, nd, q⟩ := h
  rw [Vals.ref1 r]
  obtain ⟨sys, len, vs, rel, D⟩ := nd.open I
  have hl : rows.length = vs.length := Paired.length rel
  refine call_len_dictH sys D (by rw [← hl]; rw [sizeLine_eq] at len; omega) ?_
  rw [← hl]
  exact ⟨.int rows.length, H, I.tok _, ⟨_, rfl⟩, q⟩
theorem npairs_of (I : Inv X pins σ H s) : ∀ {ps : List Addr} {xs : List NRow}, Paired (fun p (x : NRow) => SqT X.K H p [.ref x.2.1, x.2.2]) ps xs →
    ∃ vs : List (NestedKey × Addr × Value), NRows xs vs ∧ vs.length = ps.length ∧ ∀ (j : Nat) y, vs[j]? = some y → ∃ b, ps[j]? = some b ∧ s.heap.IsTuple b #[.ref y.2.1, y.2.2]
  | _, _, .nil => ⟨[], .nil, rfl, fun j q e => by simp at e⟩
  | _, _, .cons (a := p) (b := x) h t => by
    obtain ⟨vs, r, hl, hp⟩ := npairs_of I t
    obtain ⟨its, rv, ht, _⟩ := I.tuple h
    obtain ⟨u, y, ei, ru, ry⟩ := vals2 rv
    subst ei
    cases (show u = Value.ref x.2.1 from ru)
    refine ⟨(x.1, x.2.1, y) :: vs, .cons ⟨rfl, rfl, ry⟩ r, by rw [List.length_cons, List.length_cons, hl], fun j q e => ?_⟩
    cases j with
    | zero =>
      cases (show (x.1, x.2.1, y) = q from Option.some.inj e)
      exact ⟨p, rfl, ht⟩
    | succ j =>
      obtain ⟨b, e1, e2⟩ := hp j q (by simpa using e)
      exact ⟨b, by simpa using e1, e2⟩
theorem call_dictN (hc : X.calm = true) (room : X.A.units + 64 < cLine) : CallR X (.type "dict") (rDictN X.prog X.w X.K) := by
  intro pins s σ H vs0 us Q I r h
  obtain ⟨a, ps, xs, rfl, sq, pr, keys, nd, few, q⟩ := h
  rw [Vals.ref1 r]
  obtain ⟨its, rv, pl, hz⟩ := I.list sq
  have ei := refs_at rv
  subst ei
  rw [List.length_map] at hz
  obtain ⟨vs, rel, hl, hp⟩ := npairs_of I pr
  obtain ⟨o, n, ho, hcl, hd, hdat⟩ := pl
  have nd2 : (vs.map (·.1)).Nodup := by rw [← rel.keys1]; exact nd
  have lv : vs.length = xs.length := (Paired.length rel).symm
  have keyed : ∀ h' : Heap, (∀ b u, b ∉ ([s.heap.objs.size] : List Addr) → s.heap.get? b = some u → h'.get? b = some u) → ∀ y ∈ vs, (nestedKind X.prog X.w).is h' y.1 y.2.1 := fun h' k y hy => by
    obtain ⟨x, hx, e1, e2, _⟩ := rel.get hy
    have := (keys x hx).is I
    rw [e1, e2] at this
    exact ⟨NestedIs.at (fun b u us m hb hd => k b u (by rw [List.mem_singleton]; exact Nat.ne_of_lt (Heap.lt_size hb)) hb) _ _ this.1, this.2⟩
  have pi : PairItems s.heap (ps.map Value.ref).toArray (fun j => ps.getD j 0) (vs.map fun y => (Value.ref y.2.1, y.2.2)) := by
    refine ⟨by simp [hl], fun j k v hj => ?_⟩
    rw [List.getElem?_map] at hj
    obtain ⟨y, hy, e⟩ := Option.map_eq_some_iff.1 hj
    cases e
    obtain ⟨b, hb, t⟩ := hp j y hy
    have eb : ps.getD j 0 = b := by rw [List.getD_eq_getElem?_getD, hb]; rfl
    show (List.map Value.ref ps).toArray[j]? = some (Value.ref (ps.getD j 0)) ∧ PairAt s.heap (ps.getD j 0) _ _
    rw [eb]
    exact ⟨by simp [hb], .inl t⟩
  have PA := PairArg.list (prog := X.prog) (w := X.w) a (ps.map Value.ref).toArray (fun j => ps.getD j 0) (vs.map fun y => (Value.ref y.2.1, y.2.2))
  refine call_dict_pairsH (knd := nestedKind X.prog X.w) (ps := vs) PA (I.ok.hd hc) (show X.A.in1.in1.units + 8 < cLine by simp only [Around.in1_units]; omega) ⟨⟨o, n, ho, hcl, hd, hdat⟩, pi⟩ ⟨by simp, fun i k v hr => ?_⟩ (fun h' k y hy => keyed h' (fun b u hb e => k b u (by simpa using hb) (by simp) e) y hy) (by rw [List.length_map, lv, sizeLine_eq]; omega) fun h' tk D k => ?_
  · have hr : (vs.map fun y => (Value.ref y.2.1, y.2.2))[i]? = some (k, v) := hr
    rw [List.getElem?_map] at hr
    obtain ⟨y, hy, e⟩ := Option.map_eq_some_iff.1 hr
    cases e
    exact ⟨y.1, y.2.1, hy, rfl⟩
  · rw [storedAllH_nil_of_nodup _ nd2] at D
    have len : xs.length ≤ sizeLine := by rw [sizeLine_eq]; omega
    have k2 : ∀ b u, s.heap.get? b = some u → h'.get? b = some u := fun b u e => k b u (by simp) e
    exact ⟨.ref s.heap.objs.size, upd H s.heap.objs.size (NDo X.prog X.w s.heap.objs.size xs), I.laid (t' := tk) k2 (Nat.le_refl _) (nd_ok (ND0.of (beq_eq_false_iff_ne.mpr (Nat.ne_of_gt I.big)) len rel D)), rfl, q _ (I.hok.fresh (Nat.le_refl _))⟩
end
end L2
namespace NSet
open PySem PySem.Spec PyProof.Rows
section
variable {prog : Program} {w : World} {A : Around} {E : Value → Shared → Prop} {s : Shared}
/-- two dicts of the same keys, with values that are alike -/
theorem same_dicts {nm : String} {a b : Addr} {ka kb : List (NestedKey × Addr × Value)} {Q : Bool → Shared → Prop} (sa : (a == sysModules) = false) (sb : (b == sysModules) = false)
    (da : s.heap.DictOfH (nestedKind prog w) a ka) (db : s.heap.DictOfH (nestedKind prog w) b kb) (room : A.units + 8 < cLine) (len : ka.length = kb.length) (hits : ∀ x ∈ ka, ∃ p, atKey kb x.1 = some p ∧ SeqAt.EqAt A s x.2.2 p.2 true) (q : Q true s) :
    wpAny (model prog w) A (Builtin.Dict.samePairs nm a b) Q E s := by
  obtain ⟨oa, es, ep, ha, _, dta, hea, isa, _⟩ := da
  obtain ⟨ob, fs, fp, hb, _, dtb, heb, isb, ndb⟩ := db
  have la := size_of_entries hea
  have lb := size_of_entries heb
  unfold Builtin.Dict.samePairs Builtin.Dict.showsAll
  rw [if_neg (show ¬ (a == sysModules) = true by rw [sa]; decide), if_neg (show ¬ (b == sysModules) = true by rw [sb]; decide)]
  refine wpAny_bind (wpAny_pure (wpAny_bind (wpAny_pure ?_)))
  refine wpAny_bind (wpAny_dictEntries ha dta ?_)
  dsimp only
  refine wpAny_bind (wpAny_dictEntries hb dtb ?_)
  rw [if_neg (by rw [la, lb, len]; simp)]
  refine wpAny_bind (wpAny_dictEpoch ha dta ?_)
  refine wpAny_bind ?_
  rw [Std.Legacy.Range.forIn_eq_forIn_range']
  simp only [Std.Legacy.Range.size, Nat.sub_zero, Nat.add_sub_cancel, Nat.div_one]
  refine wpAny_forIn_list _ (fun rest r z => z = s ∧ r = (none, ()) ∧ ∃ i, rest = List.range' i (es.size - i) ∧ i ≤ es.size) _ ?_ ?_ _ _ ⟨rfl, rfl, 0, by simp, Nat.zero_le _⟩
  · rintro j rest r z ⟨rfl, rfl, i, e, hi⟩
    have lt : i < es.size := by
      rcases Nat.lt_or_ge i es.size with h | h
      · exact h
      · rw [Nat.sub_eq_zero_of_le h] at e
        simp at e
    rw [show es.size - i = (es.size - (i + 1)) + 1 by omega, List.range'_succ] at e
    injection e with e1 e2
    subst e1
    have at_ : ka[j]? = some (ka[j]'(by omega)) := List.getElem?_eq_getElem _
    generalize ka[j]'(by omega) = x at at_
    have mx := List.mem_of_getElem? at_
    have ee : es[j]? = some (entryOfKey (nestedKind prog w) x) := by rw [entry_at hea j, at_]; rfl
    refine wpAny_bind (wpAny_dictEntries ha dta ?_)
    rw [ee]
    obtain ⟨p, hp, eq⟩ := hits x mx
    refine wpAny_bind (wpAny_holding (wpAny_bind (wpAny_dictFind_heap (knd := nestedKind prog w) (k := x.1) room (isa x mx) hb dtb heb isb ndb (fun none => ?_) fun i2 p2 h2 => ?_)))
    · rw [atKey_none_of_get none] at hp
      cases hp
    · rw [atKey_of_get ndb h2] at hp
      cases hp
      have fe : fs[i2]? = some (entryOfKey (nestedKind prog w) (x.1, p)) := by rw [entry_at heb i2, h2]; rfl
      refine wpAny_bind (wpAny_dictEntries hb dtb ?_)
      rw [fe]
      refine wpAny_holding (eq prog w _ _ ?_)
      show wpAny _ _ (if (!true) = true then _ else _) _ _ _
      rw [if_neg (by decide)]
      refine wpAny_bind (wpAny_dictEpoch ha dta ?_)
      rw [if_neg (by simp)]
      exact wpAny_pure ⟨rfl, rfl, j + 1, e2, lt⟩
  · rintro r z ⟨rfl, rfl, _⟩
    exact wpAny_pure q
theorem ne_dicts {a b : Addr} {ka kb : List (NestedKey × Addr × Value)} {Q : Value → Shared → Prop} (sa : (a == sysModules) = false) (sb : (b == sysModules) = false)
    (da : s.heap.DictOfH (nestedKind prog w) a ka) (db : s.heap.DictOfH (nestedKind prog w) b kb) (room : A.units + 9 < cLine) (len : ka.length = kb.length) (hits : ∀ x ∈ ka, ∃ p, atKey kb x.1 = some p ∧ SeqAt.EqAt A.in1 s x.2.2 p.2 true) (q : Q (.bool false) s) :
    wpAny (model prog w) A (compareOp .NotEq (.ref a) (.ref b)) Q E s := by
  refine wpAny_richCompare_same_room (op := .NotEq) da.typeIs db.typeIs PySem.F.slot_dict_ne (wpAny_call_entry PySem.F.slot_dict_ne da.typeIs PySem.F.entry_dict_ne ?_ (PySem.F.args_dict_ne_2 _ _)) (by omega)
  show wpAny _ _ (Builtin.Dict.dictSlotArgs "__ne__" ⟨[.ref a, .ref b], []⟩ >>= _) _ _ s
  refine wpAny_bind ?_
  unfold Builtin.Dict.dictSlotArgs
  refine wpAny_bind (wpAny_notOrdered_dict da.typeIs ?_)
  show wpAny _ _ (pure (Value.ref a, Value.ref b)) _ _ s
  refine wpAny_pure (wpAny_bind (wpAny_isInstance (T := "dict") db.typeIs PySem.F.sub_dict_dict ?_))
  simp only [Bool.not_true, Bool.false_eq_true, if_false]
  refine wpAny_bind (wpAny_pure (wpAny_bind (wpAny_pure ?_)))
  refine wpAny_bind (same_dicts sa sb da db (by simp only [Around.in1_units]; omega) len hits ?_)
  exact wpAny_pure ⟨_, rfl, (fun x => nomatch x), q⟩
end
end NSet
namespace L2
open PySem PySem.Spec PyProof.Rows Evl
theorem op_neN {X : Cx} (room : X.A.units + 64 < cLine) : OpR X (compareOp .NotEq) (rNeN X.prog X.w X.K) := by
  intro pins s σ H x y v u Q I rx ry h
  obtain ⟨a, b, xs, ys, rfl, rfl, na, nb, len, hits, q⟩ := h
  cases (show v = Value.ref a from rx)
  cases (show u = Value.ref b from ry)
  obtain ⟨s1, _, va, ra, da⟩ := na.open I
  obtain ⟨s2, _, vb, rb, db⟩ := nb.open I
  refine NSet.ne_dicts s1 s2 da db (by omega) (by rw [← Paired.length ra, ← Paired.length rb]; exact len) (fun z hz => ?_) ⟨.bl false, H, I, rfl, q⟩
  obtain ⟨x, hx, e1, _, e3⟩ := ra.get hz
  obtain ⟨t, et, ev⟩ := hits x hx
  rw [et] at e3
  obtain ⟨t1, e4⟩ := (show ∃ k, z.2.2 = Value.str t k from e3)
  have rv := rb.val x.1
  rw [ev, e1] at rv
  obtain ⟨y, hy, ey⟩ := RelO.some_of rv
  obtain ⟨t2, e5⟩ := (show ∃ k, y = Value.str t k from ey)
  obtain ⟨p, hp, ep⟩ := Option.map_eq_some_iff.1 hy
  refine ⟨p, hp, ?_⟩
  rw [e4, ep, e5]
  have := SeqAt.EqAt.str_str (A := X.A.in1) (s := s) t t1 t t2
  rw [beq_self_eq_true] at this
  exact this
end L2

set_option Elab.async false
set_option linter.all false
set_option maxRecDepth 100000
set_option maxHeartbeats 2000000
/-! Our own rules: a text the other way about; a loop over a text's signs that replaces each. -/
namespace L2
open PySem PySem.Spec PyProof.Rows Evl TX
/-! ### z[::-1] of a short text -/
theorem back_sl : ∀ cs : List Nat, cs.length ≤ 4 → (Builtin.Str.strSliceIndices none none (-1) (T cs).length).filterMap ((T cs).cps[·]?) = cs.reverse
  | [], _ => rfl
  | [_], _ => by
    have e : Builtin.Str.strSliceIndices none none (-1) 1 = [0] := by decide +kernel
    show List.filterMap _ (Builtin.Str.strSliceIndices none none (-1) 1) = _
    rw [e]
    rfl
  | [_, _], _ => by
    have e : Builtin.Str.strSliceIndices none none (-1) 2 = [1, 0] := by decide +kernel
    show List.filterMap _ (Builtin.Str.strSliceIndices none none (-1) 2) = _
    rw [e]
    rfl
  | [_, _, _], _ => by
    have e : Builtin.Str.strSliceIndices none none (-1) 3 = [2, 1, 0] := by decide +kernel
    show List.filterMap _ (Builtin.Str.strSliceIndices none none (-1) 3) = _
    rw [e]
    rfl
  | [_, _, _, _], _ => by
    have e : Builtin.Str.strSliceIndices none none (-1) 4 = [3, 2, 1, 0] := by decide +kernel
    show List.filterMap _ (Builtin.Str.strSliceIndices none none (-1) 4) = _
    rw [e]
    rfl
  | _ :: _ :: _ :: _ :: _ :: _, h => by simp at h
def tRevS (te : TE) : TE := fun σ H Q => te σ H fun x H1 => ∃ cs, x = .str (T cs) ∧ cs.length ≤ 4 ∧ Q (.str (T cs.reverse)) H1
theorem pe_revS {X : Cx} {e : Expr} {te : TE} {k : Nat} {p1 p2 p3 pos : Pos} (he : PE X e te) : PE X (.Subscript e (.Slice none none (some (.UnaryOp .USub (.Constant (.int 1) k p1) p2)) p3) pos) (tRevS te) := by
  refine ⟨fun pins s σ H Q I h => ?_⟩
  refine Subscript_ (thn (he.run pins s σ H _ I h) fun v s1 ⟨x, H1, I1, r1, cs, ex, few, q⟩ => ?_)
  subst ex
  obtain ⟨t, rfl⟩ := r1
  have step : PO X (some (.UnaryOp .USub (.Constant (.int 1) k p1) p2)) (tPart (tUn (rU fun i => .int (-i)) (tC (.int 1)))) := po_some (pe_un un_neg pe_int)
  refine wpAny_Slice (thn (po_none.run pins s1 σ H1 (fun o G => o = none ∧ G = H1) I1 ⟨rfl, rfl⟩) fun vl s2 ⟨l, G2, I2, pl, el, e2⟩ => ?_)
  subst el e2
  refine thn (po_none.run pins s2 σ _ (fun o G => o = none ∧ G = _) I2 ⟨rfl, rfl⟩) fun vu s3 ⟨u, G3, I3, pu, eu, e3⟩ => ?_
  subst eu e3
  refine thn (step.run pins s3 σ _ (fun o G => o = some (-1) ∧ G = _) I3 ⟨1, rfl, -1, rfl, rfl, rfl⟩) fun vs s4 ⟨o, G4, I4, ps, eo, e4⟩ => ?_
  subst eo e4
  obtain ⟨l2, rfl, el⟩ := IsPart.raw pl
  obtain ⟨u2, rfl, eu⟩ := IsPart.raw pu
  obtain ⟨k2, rfl, ek⟩ := IsPart.raw ps
  cases l2 with
  | some _ => cases el
  | none =>
    cases u2 with
    | some _ => cases eu
    | none =>
      cases k2 with
      | none => cases ek
      | some kk =>
        have one : kk.1 = -1 := Option.some.inj ek
        have I5 := I4.kept (h' := s4.heap.push { cls := .type "slice", data := .fields #[partValue none, partValue none, partValue (some kk)] }) (t' := s4.toks) fun b ob z => Heap.get?_push_of_some _ z
        refine tail_any (ops := [.str (T cs) t, .ref s4.heap.objs.size]) (typeIs_str _ _ _) PySem.F.slot_str_getitem.lookup ?_ (by with_unfolding_all rfl)
        refine wpAny_getItem_str_slice (l := none) (u := none) (st := some kk) ⟨_, Heap.get?_push_size _ rfl, rfl, rfl⟩ (by show (kk.1 == 0) = false; rw [one]; decide) ?_
        have made : sliceMade (T cs) t none none (some kk) = .str (T cs.reverse) := by
          unfold sliceMade slicePicked
          show (if (kk.1 == 1 && _) = true then Made.val _ else Made.str ⟨((Builtin.Str.strSliceIndices none none kk.1 (T cs).length).filterMap ((T cs).cps[·]?)).toArray⟩) = _
          rw [one, back_sl cs few]
          rfl
        rw [made]
        refine ⟨?_, .str (T cs.reverse), _, I5.tok _, ⟨_, rfl⟩, q⟩
        rw [TX.len_T, List.length_reverse, sizeLine_eq]
        omega
/-! ### a token is out -/
structure PI1 (X : Cx) (tg iter : Expr) (wi : TI) : Prop where
  run : ∀ (pins : List (Addr × Obj)) (s : Shared) (σ : St) (H : Hp) (R : It → Hp → Prop), Inv X pins σ H s → wi σ H R →
    wpAny (model X.prog X.w) X.A (eval iter X.env) (fun v s1 => wpAny (model X.prog X.w) X.A (pyIter v) (fun itv s2 => 1 ≤ s2.toks ∧ PIE X pins σ tg R itv s2) X.xe s1) X.xe s
theorem pi1_range {X : Cx} {tg : Expr} {j : Int} {k : Nat} {cp p pos : Pos} (hg : Gl X "range") (hm : X.mg "range" = none) (lo : -(2 ^ 62) ≤ j) (hi : j < 2 ^ 62)
    (na : starEach [.Constant (.int j) k cp] X.env = (false, eval (.Constant (.int j) k cp) X.env) :: starEach [] X.env := by rfl) : PI1 X tg (.Call (.Name "range" p) [.Constant (.int j) k cp] [] pos) (iRng1 (tCons (tC (.int j)) tNil)) := by
  refine ⟨fun pins s σ H R I h => ?_⟩
  obtain ⟨_, e, _, _, q⟩ := h
  cases e
  refine Call_ (ld_blt I hg hm boot_range (callWith_type1 (args_cons (wpAny_Constant_int (args_nil ?_)) na) na rfl))
  have out : 1 ≤ ({ s with toks := s.toks + 1 } : Shared).toks := by show 1 ≤ s.toks + 1; omega
  have I1 : Inv X pins σ H { s with toks := s.toks + 1 } := I.tok _
  have go : wpAny (model X.prog X.w) X.A (call (.type "range") [.int j s.toks]) (fun v s1 => wpAny (model X.prog X.w) X.A (pyIter v) (PIE X pins σ tg R) X.xe s1) X.xe { s with toks := s.toks + 1 } :=
    call_range_1 (range_it (lo := 0) (hi := j) I1 (by omega) (by omega) lo hi (by simpa using q))
  refine wpAny_mono (wpAny_toks_of out go) (fun v s1 h1 => ?_) fun _ _ z => z.2
  exact wpAny_mono (wpAny_toks_of h1.1 h1.2) (fun _ _ z => z) fun _ _ z => z.2
theorem ps_for1 {X : Cx} {tg iter : Expr} {body : List Stmt} {wi : TI} {g : TG} {tb : TS} {pos : Pos} (hp : PassesOwn (model X.prog X.w) X.A X.env X.xe) (hc : X.calm = true) (hi : PI1 X tg iter wi) (hg : PG X tg g) (hb : PSsT X body tb)
    (hs : ∀ x, foldedSetIterable iter X.env x = pure x := by intro _; rfl) : PS X (.For tg iter body [] pos) (tFor wi g tb) := by
  refine ⟨fun pins s σ H D I h => ?_⟩
  refine wpAny_For (thn (hi.run pins s σ H _ I h) fun v s1 h1 => thn h1 fun itv s2 h2 => ?_) hs
  obtain ⟨out, it, fp, tn, J, G, rfl, IG, T, st0, okG, W, ⟨m0, w0⟩, turn⟩ := h2
  have fps : ∀ {F : Hp}, (∀ b ∈ fp, F b = none) → ∀ b ∈ fp, FpOk X pins F b := fun no b hb => ⟨no b hb, (okG b hb).2⟩
  refine codeAny_forLoop_any (fun n z => 1 ≤ z.toks ∧ ∃ i τ F, Inv X pins τ F z ∧ tn i z.heap ∧ (∀ b ∈ fp, F b = none) ∧ W i n τ F) ?_ m0 ⟨out, 0, σ, G, IG, st0, fun b hb => (okG b hb).1, w0⟩
  rintro n z ⟨o1, i, τ, F, IF, stF, noF, wF⟩
  rcases turn i n τ F wF with ⟨stop, fin⟩ | ⟨go, N, less, step⟩
  · refine wpAny_passesOwn hp (thn (T.done X rfl rfl rfl hc i pins z τ F X.xe IF (fps noF) stF stop) fun r z2 ⟨er, I2⟩ => ?_)
    subst er
    exact wpAny_execs_nil ⟨τ, F, I2, fin⟩
  · refine wpAny_passesOwn hp (wpAny_mono (wpAny_toks_of o1 (T.item X rfl rfl rfl hc i pins z τ F X.xe IF (fps noF) stF go)) (fun r z2 ⟨o2, u, er, more⟩ => ?_) fun _ _ y => y.2)
    subst er
    refine wpAny_passesOwn hp (wpAny_mono (wpAny_toks_of o2 more) (fun _ z3 ⟨o3, x, F3, I3, r3, y3, st3, no3⟩ => ?_) fun _ _ y => y.2)
    have P3 := I3.pinned (fps no3) (T.obj _ _ st3)
    refine wpAny_passesOwn hp (wpAny_mono (wpAny_toks_of o3 (hg.run _ z3 τ F3 x u _ P3 r3 (step x F3 y3))) (fun _ z4 ⟨o4, τ4, F4, I4, q4⟩ => ?_) fun _ _ y => y.2)
    refine wpAny_passesOwn hp (wpAny_mono (wpAny_toks_of o4 (hb _ z4 τ4 F4 _ o4 I4 q4)) (fun f z5 ⟨o5, q5⟩ => ?_) fun _ _ y => y.2)
    have on : ∀ {τ5 : St} {F5 : Hp}, Inv X (pins ++ pinsAt fp z3.heap) τ5 F5 z5 → N τ5 F5 → ∃ m, m < n ∧ 1 ≤ z5.toks ∧ ∃ i τ F, Inv X pins τ F z5 ∧ tn i z5.heap ∧ (∀ b ∈ fp, F b = none) ∧ W i m τ F := fun {τ5 F5} I5 n5 => by
      obtain ⟨m, lt, w5⟩ := less τ5 F5 n5
      have stays : ∀ b ∈ fp, ∀ o, z3.heap.get? b = some o → z5.heap.get? b = some o ∧ F5 b = none := fun b hb o e => by
        have := I5.pin (b, o) (List.mem_append_right _ (List.mem_append_right _ (mem_pinsAt hb e)))
        exact ⟨this.1, this.2.1⟩
      refine ⟨m, lt, o5, i + 1, τ5, F5, I5.unpinned, T.keep _ _ _ st3 fun b hb o e => (stays b hb o e).1, fun b hb => ?_, w5⟩
      obtain ⟨o, e, _⟩ := T.obj _ _ st3 b hb
      exact (stays b hb o e).2
    cases f with
    | next => obtain ⟨τ5, F5, I5, n5⟩ := q5; exact on I5 n5
    | cont => obtain ⟨τ5, F5, I5, n5⟩ := q5; exact on I5 n5
    | brk => obtain ⟨τ5, F5, I5, n5⟩ := q5; exact ⟨τ5, F5, I5.unpinned, n5⟩
    | ret v => obtain ⟨x5, τ5, F5, I5, r5, n5⟩ := q5; exact ⟨x5, τ5, F5, I5.unpinned, r5, n5⟩
/-! ### for x in z: y = z.replace(x, ""); .. -/
section
variable {X : Cx} {pins : List (Addr × Obj)} {σ : St} {H : Hp} {s : Shared}
/-- a name of a cell is stored: the cell holds just that -/
theorem store_cell {M : Model} {A : Around} {E : Value → Shared → Prop} {i : Nat} {x : Str} {v : V} {u : Value} {Q : Unit → Shared → Prop} (I : Inv X pins σ H s) (hN : X.N.Nodup) (hi : X.N[i]? = some x) (hk : X.env.kindOf x = some .cell) (hf : X.fn x = true) (r : RelV v u)
    (q : ∀ h' c, X.env.cells.lookup x = some c → h'.IsCell c (some u) → Inv X pins (σ.set i (some v)) H { s with heap := h' } → Q () { s with heap := h' }) : wpAny M A (storeName X.env x u) Q E s := by
  obtain ⟨m, ns, look⟩ := id I.loc
  obtain ⟨c, hc⟩ := I.ok.has x (.inl hk)
  obtain ⟨w0, cell0⟩ := I.cell x c hc
  have ne := I.cne
  have iσ : i < σ.length := by rw [I.len]; exact (List.getElem?_eq_some_iff.mp hi).1
  refine wpAny_storeName_cell I.ok.kind hk hc cell0 fun h' cell1 same => q h' c hc cell1 ?_
  obtain ⟨oc, eoc, doc⟩ := id cell0
  have above : ∀ b (o : Obj), X.s_0.heap.get? b = some o → b ≠ c := fun b o e => Nat.ne_of_lt (Nat.lt_of_lt_of_le (Heap.lt_size e) (I.ok.cab x c hf hc))
  have un : Un X.fs X.ex X.H_0 H X.s_0.heap h' := by
    refine ⟨fun b o e n h1 h2 => (same.2 b (above b o e)).trans (I.base.keep b o e n h1 h2), fun b o e n h1 h2 => ?_, I.base.free, fun b o e h2 => ?_, I.base.tups, I.base.frzs, I.base.tbls⟩
    · obtain ⟨sl, e2⟩ := I.base.slot b o e n h1 h2
      exact ⟨sl, (same.2 b (above b o e)).trans e2⟩
    · obtain ⟨o2, e2⟩ := I.base.there b o e h2
      exact ⟨o2, (same.2 b (above b o e)).trans e2⟩
  have free := I.freeC x c hc
  refine ⟨I.ok, I.os, I.bare, un, ⟨m, ns.sameBut same (Ne.symm (ne x c hc)), fun j y v2 e1 e2 e3 => ?_⟩, fun y d e => ?_, I.free, I.freeC, fun p hp => ?_, fun b o e => ?_, by simpa using I.len⟩
  · by_cases hj : j = i
    · subst hj
      rw [hi] at e1
      cases e1
      rw [List.getElem?_set_self iσ] at e2
      cases e2
      exact ⟨u, r, .inr ⟨.inl hk, c, hc, cell1⟩⟩
    · rw [List.getElem?_set_ne (Ne.symm hj)] at e2
      obtain ⟨u2, r2, l2⟩ := look j y v2 e1 e2 e3
      refine ⟨u2, r2, l2.imp id fun ⟨k2, d, ed, z⟩ => ⟨k2, d, ed, z.sameBut same fun e => ?_⟩⟩
      subst e
      exact hj (nodup_ix hN e1 (I.ok.inj _ _ _ ed hc ▸ hi))
  · by_cases hd : d = c
    · subst hd
      exact ⟨_, cell1⟩
    · obtain ⟨w2, z⟩ := I.cell y d e
      exact ⟨w2, z.sameBut same hd⟩
  · obtain ⟨e, n, n2, nf, nc⟩ := I.pin p hp
    refine ⟨(same.2 p.1 fun z => ?_).trans e, n, n2, nf, nc⟩
    rw [z, eoc] at e
    cases e
    exact nc w0 doc
  · refine (I.hok b o e).stay (fun d o2 hd e2 => (same.2 d fun z => ?_).trans e2) (fun _ z => z) fun _ _ z => z
    subst z
    rcases hd with rfl | hd
    · rw [free] at e
      cases e
    · rw [free] at hd
      cases hd
/-- y = z.replace(x, "") -/
def sRepl (kz kx ky : Nat) : TS := fun D σ H => ∃ z x, σ[kz]? = some (some (.str z)) ∧ σ[kx]? = some (some (.str x)) ∧ z.length ≤ 1000 ∧ x ≠ "" ∧ D.nx (σ.set ky (some (.str (Txt.replace z x "")))) H
theorem pst_forRepl {kz kx ky j0 : Nat} {nz nx ny : Str} {body : List Stmt} {tb : TS} {p0 p1 p2 p3 p4 p5 c0 apos cpos pos : Pos} (hp : PassesOwn (model X.prog X.w) X.A X.env X.xe) (hc : X.calm = true)
    (N : X.N.Nodup) (hz : X.N[kz]? = some nz) (vz : Vis X.env.scope nz) (hx : X.N[kx]? = some nx) (cx : X.env.kindOf nx = some .cell) (fx : X.fn nx = true) (hy : X.N[ky]? = some ny) (ly : Loc X.env.scope ny)
    (dz : (nz == ("__debug__" : Str)) = false) (ez : (nz == ("__classdict__" : Str)) = false) (dx : (nx == ("__debug__" : Str)) = false) (ne : kx ≠ kz)
    (st : starEach [.Name nx p5, .Constant (.str "") j0 c0] X.env = [(false, eval (.Name nx p5) X.env), (false, eval (.Constant (.str "") j0 c0) X.env)])
    (base : attributeBase (.Name nz p4) "replace" X.env (eval (.Name nz p4) X.env) = eval (.Name nz p4) X.env) (line : (apos.endLine == cpos.line) = true)
    (sw : swapsWith (.Call (.Attribute (.Name nz p4) "replace" apos) [.Name nx p5, .Constant (.str "") j0 c0] [] cpos) (some (.Name ny p2)) p3.line X.env = pure false) (fy : X.fn ny = true ∨ X.env.scope.names.lookup ny = some .local)
    (hs : ∀ x, foldedSetIterable (.Name nz p1) X.env x = pure x) (hb : PSs X body tb) :
    PST X (.For (.Name nx p0) (.Name nz p1) (.Assign [.Name ny p2] (.Call (.Attribute (.Name nz p4) "replace" apos) [.Name nx p5, .Constant (.str "") j0 c0] [] cpos) p3 :: body) [] pos) (tFor (iStr (tVar kz)) (gName kx) (tSeq (sRepl kz kx ky) tb)) := by
  intro pins s σ H D out I h
  refine wpAny_For ?_ hs
  obtain ⟨_, ez0, z, rfl, W, ⟨m0, w0⟩, turn⟩ := h
  refine raw_name hz vz I ez0 (fun u ru => ?_) dz ez
  obtain ⟨t, rfl⟩ := ru
  -- the iterator, of either sort
  have go : ∀ ty, ty = "str_ascii_iterator" ∨ ty = "str_iterator" → codeAny (model X.prog X.w) X.A (.forLoop (.Name nx p0) (.ref s.heap.objs.size) (.Assign [.Name ny p2] (.Call (.Attribute (.Name nz p4) "replace" apos) [.Name nx p5, .Constant (.str "") j0 c0] [] cpos) p3 :: body) [] X.env)
      (fun r s' => match r with | .ok f => SP X pins D f s' | .error e => cameBackBy (model X.prog X.w) X.A X.env X.xe e s') { s with heap := s.heap.push { cls := .type ty, data := .fields #[.str z t, .int 0 0] } } := by
    intro ty hty
    have T := turn_str (P := X.prog) (w := X.w) (K := X.K) (tg := .Name nx p0) s.heap.objs.size z t ty hty
    have IG : Inv X pins σ H { s with heap := s.heap.push { cls := .type ty, data := .fields #[.str z t, .int 0 0] } } := I.kept (t' := s.toks) fun b o e => Heap.get?_push_of_some _ e
    have fp0 : FpOk X pins H s.heap.objs.size := I.fpOk (Nat.le_refl _) (I.hok.fresh (Nat.le_refl _))
    have fps : ∀ {F : Hp}, F s.heap.objs.size = none → FpOk X pins F s.heap.objs.size := fun no => ⟨no, fp0.2⟩
    have st0 : (s.heap.push { cls := .type ty, data := .fields #[.str z t, .int 0 0] }).IsStrIter s.heap.objs.size ty z t 0 := ⟨_, Heap.get?_push_size _ rfl, rfl, rfl⟩
    generalize s.heap.objs.size = it at *
    refine codeAny_forLoop_any (fun n y => 1 ≤ y.toks ∧ ∃ i τ F, Inv X pins τ F y ∧ y.heap.IsStrIter it ty z t i ∧ F it = none ∧ W i n τ F) ?_ m0 ⟨out, 0, σ, H, IG, st0, fp0.1, w0⟩
    rintro n y ⟨o1, i, τ, F, IF, stF, noF, wF⟩
    rcases turn i n τ F wF with ⟨stop, fin⟩ | ⟨on, NN, less, step⟩
    · refine wpAny_passesOwn hp (thn (T.done X rfl rfl rfl hc i pins y τ F X.xe IF (fun b hb => by rw [List.mem_singleton.1 hb]; exact fps noF) stF stop) fun r y2 ⟨er, I2⟩ => ?_)
      subst er
      exact wpAny_execs_nil ⟨τ, F, I2, fin⟩
    · have lt : i < z.cps.size := on
      obtain ⟨c, ec⟩ : ∃ c, z.cps[i]? = some c := ⟨_, Array.getElem?_eq_getElem lt⟩
      obtain ⟨f0, f1, f2, f3, f4, f5⟩ := fps noF
      have next : ∀ {Q : Option Value → Shared → Prop} {E : Value → Shared → Prop}, (∀ h', h'.IsStrIter it ty z t (i + 1) → Heap.SameBut it y.heap h' → Q (some (.str ⟨#[c]⟩ y.toks)) { y with heap := h', toks := y.toks + 1 }) → wpAny (model X.prog X.w) X.A (pyNext (.ref it)) Q E y := fun q => by
        rcases hty with e | e
        · rw [e] at stF q; exact wpAny_pyNext_ascii_item stF ec q
        · rw [e] at stF q; exact wpAny_pyNext_wide_item stF ec q
      refine wpAny_passesOwn hp (next fun h3 st3 same3 => ?_)
      have I3 : Inv X pins τ F { y with heap := h3, toks := y.toks + 1 } := IF.turned (fun b o hb e => (same3.2 b hb).trans e) f0 f1 f3 f4 f5
      obtain ⟨oi, ei, ci, di⟩ := id st3
      have none_ : ["enumerate", "zip", "dict_itemiterator", "dict_reverseitemiterator", "odict_iterator", "itertools.zip_longest", "itertools.pairwise"].contains ty = false := by rcases hty with e | e <;> rw [e] <;> decide
      refine wpAny_passesOwn hp (go_of (s := { y with heap := h3, toks := y.toks + 1 }) ei ci di none_ ?_)
      have P3 : Inv X (pins ++ pinsAt [it] h3) τ F { y with heap := h3, toks := y.toks + 1 } := I3.pinned (fun b hb => by rw [List.mem_singleton.1 hb]; exact fps noF) fun b hb => by
        rw [List.mem_singleton.1 hb]
        exact ⟨oi, ei, fun v e => by rw [di] at e; cases e⟩
      have q3 := step (.str ⟨#[c]⟩) F ⟨rfl, c, ec, rfl⟩
      refine wpAny_passesOwn hp (wpAny_assign_Name (store_cell (v := .str ⟨#[c]⟩) P3 N hx cx fx ⟨_, rfl⟩ fun h4 cc ecc cell4 I4 => ?_))
      obtain ⟨z2, x2, g1, g2, few, nemp, q4⟩ := q3
      have kl : kx < τ.length := by rw [IF.len]; exact (List.getElem?_eq_some_iff.mp hx).1
      rw [List.getElem?_set_self kl] at g2
      obtain rfl : (⟨#[c]⟩ : Str) = x2 := by cases g2; rfl
      refine wpAny_passesOwn hp (PySem.wpAny_with_toks (n := 1) (show 1 ≤ y.toks + 1 by omega) (wpAny_execs_cons (wpAny_Assign_Name (PySem.Call_method2 base st line (raw_name hz vz I4 g1 (fun u ru => ?_) dz ez)) sw)))
      obtain ⟨tz, rfl⟩ := ru
      refine ⟨"str", _, PySem.F.plainAttrs_str, PySem.F.slot_str_replace, PySem.F.type_str_replace, typeIs_str _ _ _, (fun _ e => nomatch e), Calls.callWith_builtin rfl (Calls.evalArgs_plain (Calls.spliced_cons ?_))⟩
      refine wpAny_Name (wpAny_loadName_cell I4.ok.kind cx ecc cell4 ?_) dx
      refine Calls.spliced_cons (Calls.Constant_str (Calls.spliced_nil ?_))
      have neq : ((⟨#[c]⟩ : Str) == "") = false := beq_eq_false_iff_ne.2 nemp
      have len0 : ("" : Str).length = 0 := by decide +kernel
      refine PySem.SC.replace (show y.toks ≠ 0 by omega) (show y.toks + 1 ≠ 0 by omega) (show y.toks ≠ y.toks + 1 by omega) neq (by rw [len0]; omega) fun t5 k5 => ?_
      have I5 := I4.tok (t := k5)
      refine store_ok (v := .str (Txt.replace z2 ⟨#[c]⟩ "")) I5 N hy ly ⟨t5, rfl⟩ (fun y6 I6 => ?_) fy
      refine wpAny_mono (hb.run _ y6 _ F _ I6 q4) (fun f y7 q7 o7 => ?_) fun _ _ e _ => e
      have again : ∀ {τ7 : St} {F7 : Hp}, Inv X (pins ++ pinsAt [it] h3) τ7 F7 y7 → NN τ7 F7 → ∃ m, m < n ∧ 1 ≤ y7.toks ∧ ∃ i τ F, Inv X pins τ F y7 ∧ y7.heap.IsStrIter it ty z t i ∧ F it = none ∧ W i m τ F := fun {τ7 F7} I7 n7 => by
        obtain ⟨m, lt7, w7⟩ := less τ7 F7 n7
        have stays := I7.pin (it, oi) (List.mem_append_right _ (List.mem_append_right _ (mem_pinsAt List.mem_cons_self ei)))
        exact ⟨m, lt7, o7, i + 1, τ7, F7, I7.unpinned, ⟨oi, stays.1, ci, di⟩, stays.2.1, w7⟩
      cases f with
      | next => obtain ⟨τ7, F7, I7, n7⟩ := q7; exact again I7 n7
      | cont => obtain ⟨τ7, F7, I7, n7⟩ := q7; exact again I7 n7
      | brk => obtain ⟨τ7, F7, I7, n7⟩ := q7; exact ⟨τ7, F7, I7.unpinned, n7⟩
      | ret v => obtain ⟨x7, τ7, F7, I7, r7, n7⟩ := q7; exact ⟨x7, τ7, F7, I7.unpinned, r7, n7⟩
  cases asc : z.cps.all (· < 128)
  · exact wpAny_pyIter_wide asc (go _ (.inr rfl))
  · exact wpAny_pyIter_ascii asc (go _ (.inl rfl))
end
end L2
namespace L2
open PySem PySem.Spec PyProof.Rows
theorem psst_nl {X : Cx} : PSsT X [] tNext := PSsT.of pss_nil
end L2

set_option Elab.async false
set_option linter.all false
set_option maxRecDepth 100000
set_option maxHeartbeats 2000000
namespace My
open PySem L2 Evl Com TX Rd Prt
def top (i : Nat) : Stmt := PySem.Challenge.pw_wordmend_k06_whole_makings_tried.main.body.getD i (.Pass ⟨0, 0, 0, 0⟩)
abbrev s_are_letters : Stmt := top 6
abbrev N_are_letters : List Str := ["thing"]
abbrev P_are_letters : List Str := ["thing"]
theorem sc_are_letters : FnScope N_are_letters P_are_letters (defScope s_are_letters) := ⟨rfl, rfl, rfl, by decide +kernel, rfl, by decide +kernel, by decide +kernel⟩
abbrev s_all_but : Stmt := top 10
abbrev N_all_but : List Str := ["letters", "letter"]
abbrev P_all_but : List Str := ["letters"]
theorem sc_all_but : FnScope N_all_but P_all_but (defScope s_all_but) := ⟨rfl, rfl, rfl, by decide +kernel, rfl, by decide +kernel, by decide +kernel⟩
abbrev s_is_bracketed : Stmt := top 11
abbrev N_is_bracketed : List Str := ["letters"]
abbrev P_is_bracketed : List Str := ["letters"]
theorem sc_is_bracketed : FnScope N_is_bracketed P_is_bracketed (defScope s_is_bracketed) := ⟨rfl, rfl, rfl, by decide +kernel, rfl, by decide +kernel, by decide +kernel⟩
abbrev s_read_brackets : Stmt := top 12
abbrev N_read_brackets : List Str := ["told", "begin", "close", "inner", "letters"]
abbrev P_read_brackets : List Str := ["told", "begin"]
theorem sc_read_brackets : FnScope N_read_brackets P_read_brackets (defScope s_read_brackets) := ⟨rfl, rfl, rfl, by decide +kernel, rfl, by decide +kernel, by decide +kernel⟩
abbrev s_read_place : Stmt := top 13
abbrev N_read_place : List Str := ["told", "begin", "sign"]
abbrev P_read_place : List Str := ["told", "begin"]
theorem sc_read_place : FnScope N_read_place P_read_place (defScope s_read_place) := ⟨rfl, rfl, rfl, by decide +kernel, rfl, by decide +kernel, by decide +kernel⟩
abbrev s_read_places : Stmt := top 14
abbrev N_read_places : List Str := ["told", "places", "begin", "letters"]
abbrev P_read_places : List Str := ["told"]
theorem sc_read_places : FnScope N_read_places P_read_places (defScope s_read_places) := ⟨rfl, rfl, rfl, by decide +kernel, rfl, by decide +kernel, by decide +kernel⟩
abbrev s_are_let : Stmt := top 15
abbrev N_are_let : List Str := ["places", "letters", "let", "letter"]
abbrev P_are_let : List Str := ["places", "letters"]
theorem sc_are_let : FnScope N_are_let P_are_let (defScope s_are_let) := ⟨rfl, rfl, rfl, by decide +kernel, rfl, by decide +kernel, by decide +kernel⟩
abbrev s_Condition_init : Stmt := inClass (top 16) 0
abbrev N_Condition_init : List Str := ["self", "told"]
abbrev P_Condition_init : List Str := ["self", "told"]
theorem sc_Condition_init : FnScope N_Condition_init P_Condition_init (defScope s_Condition_init) := ⟨rfl, rfl, rfl, by decide +kernel, rfl, by decide +kernel, by decide +kernel⟩
abbrev s_Condition_ends : Stmt := inClass (top 16) 1
abbrev N_Condition_ends : List Str := ["self", "word", "begin"]
abbrev P_Condition_ends : List Str := ["self", "word"]
theorem sc_Condition_ends : FnScope N_Condition_ends P_Condition_ends (defScope s_Condition_ends) := ⟨rfl, rfl, rfl, by decide +kernel, rfl, by decide +kernel, by decide +kernel⟩
abbrev s_Condition_begins : Stmt := inClass (top 16) 2
abbrev N_Condition_begins : List Str := ["self", "word", "many"]
abbrev P_Condition_begins : List Str := ["self", "word"]
theorem sc_Condition_begins : FnScope N_Condition_begins P_Condition_begins (defScope s_Condition_begins) := ⟨rfl, rfl, rfl, by decide +kernel, rfl, by decide +kernel, by decide +kernel⟩
abbrev s_are_names : Stmt := top 19
abbrev N_are_names : List Str := ["thing", "most"]
abbrev P_are_names : List Str := ["thing", "most"]
theorem sc_are_names : FnScope N_are_names P_are_names (defScope s_are_names) := ⟨rfl, rfl, rfl, by decide +kernel, rfl, by decide +kernel, by decide +kernel⟩
abbrev s_need_letters : Stmt := top 26
abbrev N_need_letters : List Str := ["thing", "most"]
abbrev P_need_letters : List Str := ["thing", "most"]
theorem sc_need_letters : FnScope N_need_letters P_need_letters (defScope s_need_letters) := ⟨rfl, rfl, rfl, by decide +kernel, rfl, by decide +kernel, by decide +kernel⟩
abbrev s_need_further_names : Stmt := top 27
abbrev N_need_further_names : List Str := ["thing"]
abbrev P_need_further_names : List Str := ["thing"]
theorem sc_need_further_names : FnScope N_need_further_names P_need_further_names (defScope s_need_further_names) := ⟨rfl, rfl, rfl, by decide +kernel, rfl, by decide +kernel, by decide +kernel⟩
abbrev s_Rule_init : Stmt := inClass (top 30) 0
abbrev N_Rule_init : List Str := ["self", "cut", "added", "condition"]
abbrev P_Rule_init : List Str := ["self", "cut", "added", "condition"]
theorem sc_Rule_init : FnScope N_Rule_init P_Rule_init (defScope s_Rule_init) := ⟨rfl, rfl, rfl, by decide +kernel, rfl, by decide +kernel, by decide +kernel⟩
abbrev s_Ending_init : Stmt := inClass (top 31) 0
abbrev N_Ending_init : List Str := ["self", "cut", "added", "condition", "further"]
abbrev P_Ending_init : List Str := ["self", "cut", "added", "condition", "further"]
theorem sc_Ending_init : FnScope N_Ending_init P_Ending_init (defScope s_Ending_init) := ⟨rfl, rfl, rfl, by decide +kernel, rfl, by decide +kernel, by decide +kernel⟩
abbrev s_Beginning_init : Stmt := inClass (top 32) 0
abbrev N_Beginning_init : List Str := ["self", "cut", "added", "condition"]
abbrev P_Beginning_init : List Str := ["self", "cut", "added", "condition"]
theorem sc_Beginning_init : FnScope N_Beginning_init P_Beginning_init (defScope s_Beginning_init) := ⟨rfl, rfl, rfl, by decide +kernel, rfl, by decide +kernel, by decide +kernel⟩
abbrev s_short_enough : Stmt := top 28
abbrev N_short_enough : List Str := ["letters"]
abbrev P_short_enough : List Str := ["letters"]
theorem sc_short_enough : FnScope N_short_enough P_short_enough (defScope s_short_enough) := ⟨rfl, rfl, rfl, by decide +kernel, rfl, by decide +kernel, by decide +kernel⟩
abbrev s_written : Stmt := top 29
abbrev N_written : List Str := ["parts", "part"]
abbrev P_written : List Str := ["parts"]
theorem sc_written : FnScope N_written P_written (defScope s_written) := ⟨rfl, rfl, rfl, by decide +kernel, rfl, by decide +kernel, by decide +kernel⟩
abbrev s_Rule_use : Stmt := inClass (top 30) 1
abbrev N_Rule_use : List Str := ["self", "word"]
abbrev P_Rule_use : List Str := ["self", "word"]
theorem sc_Rule_use : FnScope N_Rule_use P_Rule_use (defScope s_Rule_use) := ⟨rfl, rfl, rfl, by decide +kernel, rfl, by decide +kernel, by decide +kernel⟩
abbrev s_Rule_text : Stmt := inClass (top 30) 2
abbrev N_Rule_text : List Str := ["self"]
abbrev P_Rule_text : List Str := ["self"]
theorem sc_Rule_text : FnScope N_Rule_text P_Rule_text (defScope s_Rule_text) := ⟨rfl, rfl, rfl, by decide +kernel, rfl, by decide +kernel, by decide +kernel⟩
abbrev s_Ending_use : Stmt := inClass (top 31) 1
abbrev N_Ending_use : List Str := ["self", "word", "stays"]
abbrev P_Ending_use : List Str := ["self", "word"]
theorem sc_Ending_use : FnScope N_Ending_use P_Ending_use (defScope s_Ending_use) := ⟨rfl, rfl, rfl, by decide +kernel, rfl, by decide +kernel, by decide +kernel⟩
abbrev s_Ending_text : Stmt := inClass (top 31) 2
abbrev N_Ending_text : List Str := ["self"]
abbrev P_Ending_text : List Str := ["self"]
theorem sc_Ending_text : FnScope N_Ending_text P_Ending_text (defScope s_Ending_text) := ⟨rfl, rfl, rfl, by decide +kernel, rfl, by decide +kernel, by decide +kernel⟩
abbrev s_Beginning_use : Stmt := inClass (top 32) 1
abbrev N_Beginning_use : List Str := ["self", "word", "falls"]
abbrev P_Beginning_use : List Str := ["self", "word"]
theorem sc_Beginning_use : FnScope N_Beginning_use P_Beginning_use (defScope s_Beginning_use) := ⟨rfl, rfl, rfl, by decide +kernel, rfl, by decide +kernel, by decide +kernel⟩
abbrev s_Beginning_text : Stmt := inClass (top 32) 2
abbrev N_Beginning_text : List Str := ["self"]
abbrev P_Beginning_text : List Str := ["self"]
theorem sc_Beginning_text : FnScope N_Beginning_text P_Beginning_text (defScope s_Beginning_text) := ⟨rfl, rfl, rfl, by decide +kernel, rfl, by decide +kernel, by decide +kernel⟩
abbrev s_Band_init : Stmt := inClass (top 34) 0
abbrev N_Band_init : List Str := ["self", "kind", "rules"]
abbrev P_Band_init : List Str := ["self", "kind", "rules"]
theorem sc_Band_init : FnScope N_Band_init P_Band_init (defScope s_Band_init) := ⟨rfl, rfl, rfl, by decide +kernel, rfl, by decide +kernel, by decide +kernel⟩
abbrev s_used : Stmt := top 35
abbrev N_used : List Str := ["bands", "names", "kind", "word", "found", "name", "number", "rule", "come"]
abbrev P_used : List Str := ["bands", "names", "kind", "word"]
theorem sc_used : FnScope N_used P_used (defScope s_used) := ⟨rfl, rfl, rfl, by decide +kernel, rfl, by decide +kernel, by decide +kernel⟩
abbrev s_ended : Stmt := top 36
abbrev N_ended : List Str := ["bands", "stem", "names", "found", "word", "first", "name", "number", "further", "longer", "second"]
abbrev P_ended : List Str := ["bands", "stem", "names"]
theorem sc_ended : FnScope N_ended P_ended (defScope s_ended) := ⟨rfl, rfl, rfl, by decide +kernel, rfl, by decide +kernel, by decide +kernel⟩
abbrev s_order : Stmt := top 37
abbrev N_order : List Str := ["row", "word", "_", "beginning", "endings"]
abbrev P_order : List Str := ["row"]
theorem sc_order : FnScope N_order P_order (defScope s_order) := ⟨rfl, rfl, rfl, by decide +kernel, rfl, by decide +kernel, by decide +kernel⟩
abbrev s_made : Stmt := top 38
abbrev N_made : List Str := ["bands", "stem", "names", "found", "word", "endings", "longer", "beginning"]
abbrev P_made : List Str := ["bands", "stem", "names"]
theorem sc_made : FnScope N_made P_made (defScope s_made) := ⟨rfl, rfl, rfl, by decide +kernel, rfl, by decide +kernel, by decide +kernel⟩
abbrev s_l_mixed : Stmt := top 40
abbrev N_l_mixed : List Str := ["_law_cell", "_law_k", "_law_number_here"]
abbrev P_l_mixed : List Str := ["_law_cell", "_law_k"]
theorem sc_l_mixed : FnScope N_l_mixed P_l_mixed (defScope s_l_mixed) := ⟨rfl, rfl, rfl, by decide +kernel, rfl, by decide +kernel, by decide +kernel⟩
abbrev s_l_number : Stmt := top 41
abbrev N_l_number : List Str := ["_law_script", "_law_k", "_law_cell"]
abbrev P_l_number : List Str := ["_law_script", "_law_k"]
theorem sc_l_number : FnScope N_l_number P_l_number (defScope s_l_number) := ⟨rfl, rfl, rfl, by decide +kernel, rfl, by decide +kernel, by decide +kernel⟩
abbrev s_l_letters : Stmt := top 42
abbrev N_l_letters : List Str := ["_law_script", "_law_at", "_law_size", "_law_few", "_law_k"]
abbrev P_l_letters : List Str := ["_law_script", "_law_at", "_law_size"]
theorem sc_l_letters : FnScope N_l_letters P_l_letters (defScope s_l_letters) := ⟨rfl, rfl, rfl, by decide +kernel, rfl, by decide +kernel, by decide +kernel⟩
abbrev s_l_condition : Stmt := top 43
abbrev N_l_condition : List Str := ["_law_script", "_law_at", "_law_letters_here", "_law_found", "_law_k", "_law_cell", "_law_first", "_law_some", "_law_word", "_law_j", "_law_sign"]
abbrev P_l_condition : List Str := ["_law_script", "_law_at"]
theorem sc_l_condition : FnScope N_l_condition P_l_condition (defScope s_l_condition) := ⟨rfl, rfl, rfl, by decide +kernel, rfl, by decide +kernel, by decide +kernel⟩
abbrev s_l_written : Stmt := top 44
abbrev N_l_written : List Str := ["_law_places", "_law_place"]
abbrev P_l_written : List Str := ["_law_places"]
theorem sc_l_written : FnScope N_l_written P_l_written (defScope s_l_written) := ⟨rfl, rfl, rfl, by decide +kernel, rfl, by decide +kernel, by decide +kernel⟩
abbrev s_l_light : Stmt := top 47
abbrev N_l_light : List Str := ["_law_script", "_law_at", "_law_further", "_law_cell", "_law_cut", "_law_added", "_law_places"]
abbrev P_l_light : List Str := ["_law_script", "_law_at", "_law_further"]
theorem sc_l_light : FnScope N_l_light P_l_light (defScope s_l_light) := ⟨rfl, rfl, rfl, by decide +kernel, rfl, by decide +kernel, by decide +kernel⟩
abbrev s_l_bands : Stmt := top 48
abbrev N_l_bands : List Str := ["_law_script", "_law_letters_here", "_law_number_here", "_law_names", "_law_plain", "_law_found", "_law_k", "_law_name", "_law_cell", "_law_kind", "_law_rules_here", "_law_j", "_law_some", "_law_further", "_law_other", "_law_rule"]
abbrev P_l_bands : List Str := ["_law_script"]
theorem sc_l_bands : FnScope N_l_bands P_l_bands (defScope s_l_bands) := ⟨rfl, rfl, rfl, by decide +kernel, rfl, by decide +kernel, by decide +kernel⟩
abbrev s_l_rules : Stmt := top 49
abbrev N_l_rules : List Str := ["_law_own", "_law_cut", "_law_added", "_law_places", "_law_further"]
abbrev P_l_rules : List Str := ["_law_own"]
theorem sc_l_rules : FnScope N_l_rules P_l_rules (defScope s_l_rules) := ⟨rfl, rfl, rfl, by decide +kernel, rfl, by decide +kernel, by decide +kernel⟩
abbrev s_l_stem : Stmt := top 50
abbrev N_l_stem : List Str := ["_law_script", "_law_at", "_law_number_here"]
abbrev P_l_stem : List Str := ["_law_script", "_law_at"]
theorem sc_l_stem : FnScope N_l_stem P_l_stem (defScope s_l_stem) := ⟨rfl, rfl, rfl, by decide +kernel, rfl, by decide +kernel, by decide +kernel⟩
abbrev s_l_named : Stmt := top 51
abbrev N_l_named : List Str := ["_law_script", "_law_at", "_law_own", "_law_left", "_law_found", "_law_k", "_law_number_here", "_law_name"]
abbrev P_l_named : List Str := ["_law_script", "_law_at", "_law_own"]
theorem sc_l_named : FnScope N_l_named P_l_named (defScope s_l_named) := ⟨rfl, rfl, rfl, by decide +kernel, rfl, by decide +kernel, by decide +kernel⟩
abbrev s_l_fits : Stmt := top 45
abbrev N_l_fits : List Str := ["_law_places", "_law_letters_here", "_law_k"]
abbrev P_l_fits : List Str := ["_law_places", "_law_letters_here"]
theorem sc_l_fits : FnScope N_l_fits P_l_fits (defScope s_l_fits) := ⟨rfl, rfl, rfl, by decide +kernel, rfl, by decide +kernel, by decide +kernel⟩
abbrev s_l_used : Stmt := top 46
abbrev N_l_used : List Str := ["_law_parts", "_law_word", "_law_is_ending", "_law_cut", "_law_added", "_law_places", "_law_further", "_law_many", "_law_tail", "_law_found"]
abbrev P_l_used : List Str := ["_law_parts", "_law_word", "_law_is_ending"]
theorem sc_l_used : FnScope N_l_used P_l_used (defScope s_l_used) := ⟨rfl, rfl, rfl, by decide +kernel, rfl, by decide +kernel, by decide +kernel⟩
abbrev s_l_pairs : Stmt := top 52
abbrev N_l_pairs : List Str := ["_law_own", "_law_names", "_law_kind", "_law_found", "_law_name", "_law_number_here"]
abbrev P_l_pairs : List Str := ["_law_own", "_law_names", "_law_kind"]
theorem sc_l_pairs : FnScope N_l_pairs P_l_pairs (defScope s_l_pairs) := ⟨rfl, rfl, rfl, by decide +kernel, rfl, by decide +kernel, by decide +kernel⟩
abbrev s_l_all : Stmt := top 53
abbrev N_l_all : List Str := ["_law_own", "_law_stem_here", "_law_names", "_law_some", "_law_pair", "_law_further", "_law_found", "_law_endings", "_law_behind", "_law_beginning"]
abbrev P_l_all : List Str := ["_law_own", "_law_stem_here", "_law_names"]
theorem sc_l_all : FnScope N_l_all P_l_all (defScope s_l_all) := ⟨rfl, rfl, rfl, by decide +kernel, rfl, by decide +kernel, by decide +kernel⟩
abbrev s_l_walked : Stmt := top 54
abbrev N_l_walked : List Str := ["_law_own", "_law_making", "_law_word", "_law_name", "_law_number_here"]
abbrev P_l_walked : List Str := ["_law_own", "_law_making"]
theorem sc_l_walked : FnScope N_l_walked P_l_walked (defScope s_l_walked) := ⟨rfl, rfl, rfl, by decide +kernel, rfl, by decide +kernel, by decide +kernel⟩
abbrev s_l_told : Stmt := top 55
abbrev N_l_told : List Str := ["_law_bands_here", "_law_own", "_law_stem_here", "_law_names", "_law_found", "_law_told_here", "_law_due", "_law_making", "_law_word"]
abbrev P_l_told : List Str := ["_law_bands_here", "_law_own", "_law_stem_here", "_law_names"]
theorem sc_l_told : FnScope N_l_told P_l_told (defScope s_l_told) := ⟨rfl, rfl, rfl, by decide +kernel, rfl, by decide +kernel, by decide +kernel⟩
abbrev s_l_names_not : Stmt := top 56
abbrev N_l_names_not : List Str := ["_law_making", "_law_name", "_law_firsts", "_law_pair"]
abbrev P_l_names_not : List Str := ["_law_making", "_law_name"]
theorem sc_l_names_not : FnScope N_l_names_not P_l_names_not (defScope s_l_names_not) := ⟨rfl, rfl, rfl, by decide +kernel, rfl, by decide +kernel, by decide +kernel⟩
abbrev s_l_many_right : Stmt := top 57
abbrev N_l_many_right : List Str := ["_law_signs", "_law_bands_here", "_law_name", "_law_found", "_law_sign", "_law_word", "_law_making"]
abbrev P_l_many_right : List Str := []
theorem sc_l_many_right : FnScope N_l_many_right P_l_many_right (defScope s_l_many_right) := ⟨rfl, rfl, rfl, by decide +kernel, rfl, by decide +kernel, by decide +kernel⟩
abbrev s_law : Stmt := top 58
abbrev N_law : List Str := ["_law_script", "_law_own", "_law_bands_here", "_law_k", "_law_stem_here", "_law_names", "_law_found", "_law_name", "_law_others", "_law_row"]
abbrev P_law : List Str := ["_law_script"]
theorem sc_law : FnScope N_law P_law (defScope s_law) := ⟨rfl, rfl, rfl, by decide +kernel, rfl, by decide +kernel, by decide +kernel⟩
/-- where the top left its classes and defs -/
structure Ad where
  c_BadRule : Addr
  c_Condition : Addr
  c_Rule : Addr
  c_Ending : Addr
  c_Beginning : Addr
  c_Band : Addr
  f_are_letters : Addr
  d_are_letters : FuncData
  f_all_but : Addr
  d_all_but : FuncData
  f_is_bracketed : Addr
  d_is_bracketed : FuncData
  f_read_brackets : Addr
  d_read_brackets : FuncData
  f_read_place : Addr
  d_read_place : FuncData
  f_read_places : Addr
  d_read_places : FuncData
  f_are_let : Addr
  d_are_let : FuncData
  f_Condition_init : Addr
  d_Condition_init : FuncData
  f_Condition_ends : Addr
  d_Condition_ends : FuncData
  f_Condition_begins : Addr
  d_Condition_begins : FuncData
  f_are_names : Addr
  d_are_names : FuncData
  f_need_letters : Addr
  d_need_letters : FuncData
  f_need_further_names : Addr
  d_need_further_names : FuncData
  f_short_enough : Addr
  d_short_enough : FuncData
  f_written : Addr
  d_written : FuncData
  f_Rule_init : Addr
  d_Rule_init : FuncData
  f_Rule_use : Addr
  d_Rule_use : FuncData
  f_Rule_text : Addr
  d_Rule_text : FuncData
  f_Ending_init : Addr
  d_Ending_init : FuncData
  f_Ending_use : Addr
  d_Ending_use : FuncData
  f_Ending_text : Addr
  d_Ending_text : FuncData
  f_Beginning_init : Addr
  d_Beginning_init : FuncData
  f_Beginning_use : Addr
  d_Beginning_use : FuncData
  f_Beginning_text : Addr
  d_Beginning_text : FuncData
  f_Band_init : Addr
  d_Band_init : FuncData
  f_used : Addr
  d_used : FuncData
  f_ended : Addr
  d_ended : FuncData
  f_order : Addr
  d_order : FuncData
  f_made : Addr
  d_made : FuncData
  f_l_mixed : Addr
  d_l_mixed : FuncData
  f_l_number : Addr
  d_l_number : FuncData
  f_l_letters : Addr
  d_l_letters : FuncData
  f_l_condition : Addr
  d_l_condition : FuncData
  f_l_written : Addr
  d_l_written : FuncData
  f_l_fits : Addr
  d_l_fits : FuncData
  f_l_used : Addr
  d_l_used : FuncData
  f_l_light : Addr
  d_l_light : FuncData
  f_l_bands : Addr
  d_l_bands : FuncData
  f_l_rules : Addr
  d_l_rules : FuncData
  f_l_stem : Addr
  d_l_stem : FuncData
  f_l_named : Addr
  d_l_named : FuncData
  f_l_pairs : Addr
  d_l_pairs : FuncData
  f_l_all : Addr
  d_l_all : FuncData
  f_l_walked : Addr
  d_l_walked : FuncData
  f_l_told : Addr
  d_l_told : FuncData
  f_l_names_not : Addr
  d_l_names_not : FuncData
  f_l_many_right : Addr
  d_l_many_right : FuncData
  f_law : Addr
  d_law : FuncData
/-- what the top has written -/
structure Txt (K : PySem.W.Frag) (mg : Str → Option Value) (A : Ad) : Prop where
  n_isinstance : mg "isinstance" = none
  n_str : mg "str" = none
  n_len : mg "len" = none
  n_set : mg "set" = none
  n_all : mg "all" = none
  n_zip : mg "zip" = none
  n_range : mg "range" = none
  n_enumerate : mg "enumerate" = none
  n_sorted : mg "sorted" = none
  n_list : mg "list" = none
  n_min : mg "min" = none
  n_int : mg "int" = none
  n_dict : mg "dict" = none
  g_LETTERS : ∃ t, mg "LETTERS" = some (.str "abcdefghijklmnopqrstuvwxyz" t)
  g_MOST_IN_BRACKETS : ∃ t, mg "MOST_IN_BRACKETS" = some (.int 8 t)
  g_MOST_PLACES : ∃ t, mg "MOST_PLACES" = some (.int 3 t)
  g_GREAT_LETTERS : ∃ t, mg "GREAT_LETTERS" = some (.str "ABCDEFGHIJKLMNOPQRSTUVWXYZ" t)
  g_MOST_CUT : ∃ t, mg "MOST_CUT" = some (.int 4 t)
  g_MOST_ADDED : ∃ t, mg "MOST_ADDED" = some (.int 6 t)
  g_MOST_FURTHER : ∃ t, mg "MOST_FURTHER" = some (.int 3 t)
  g_MOST_LETTERS : ∃ t, mg "MOST_LETTERS" = some (.int 16 t)
  g_ENDING : ∃ t, mg "ENDING" = some (.str "ending" t)
  g_BEGINNING : ∃ t, mg "BEGINNING" = some (.str "beginning" t)
  g_BadRule : mg "BadRule" = some (.ref A.c_BadRule)
  x_BadRule : PySem.W.excIn K A.c_BadRule [.type "ValueError", .type "Exception", .type "BaseException", .type "object"] "ValueError.__new__" = true
  k_BadRule : PySem.W.keepIn K (.ref A.c_BadRule) = true
  s_BadRule : PySem.W.subIn K (.ref A.c_BadRule) (.type "BaseException") = some true
  t_BadRule : PySem.W.typeIn K (.ref A.c_BadRule) = some (.type "type")
  e_BadRule : ExcC K A.c_BadRule
  i_BadRule_BadRule : PySem.W.kitOne K (.ref A.c_BadRule) (.ref A.c_BadRule) = some true
  i_BadRule_ValueError : PySem.W.kitOne K (.ref A.c_BadRule) (.type "ValueError") = some true
  g_Condition : mg "Condition" = some (.ref A.c_Condition)
  cl_Condition : Cls K A.c_Condition
  M_Condition : Mk K A.c_Condition A.f_Condition_init
  g_Rule : mg "Rule" = some (.ref A.c_Rule)
  cl_Rule : Cls K A.c_Rule
  M_Rule : Mk K A.c_Rule A.f_Rule_init
  g_Ending : mg "Ending" = some (.ref A.c_Ending)
  cl_Ending : Cls K A.c_Ending
  M_Ending : Mk K A.c_Ending A.f_Ending_init
  g_Beginning : mg "Beginning" = some (.ref A.c_Beginning)
  cl_Beginning : Cls K A.c_Beginning
  M_Beginning : Mk K A.c_Beginning A.f_Beginning_init
  g_Band : mg "Band" = some (.ref A.c_Band)
  cl_Band : Cls K A.c_Band
  M_Band : Mk K A.c_Band A.f_Band_init
  na_Beginning_condition : NoAttr K A.c_Beginning "condition"
  na_Beginning_cut : NoAttr K A.c_Beginning "cut"
  na_Beginning_added : NoAttr K A.c_Beginning "added"
  na_Ending_condition : NoAttr K A.c_Ending "condition"
  na_Ending_cut : NoAttr K A.c_Ending "cut"
  na_Ending_added : NoAttr K A.c_Ending "added"
  na_Rule_condition : NoAttr K A.c_Rule "condition"
  na_Rule_cut : NoAttr K A.c_Rule "cut"
  na_Rule_added : NoAttr K A.c_Rule "added"
  na_Ending_further : NoAttr K A.c_Ending "further"
  na_Band_kind : NoAttr K A.c_Band "kind"
  na_Band_rules : NoAttr K A.c_Band "rules"
  na_Condition_places : NoAttr K A.c_Condition "places"
  na_Condition_told : NoAttr K A.c_Condition "told"
  mt_Condition_ends : Meth K A.c_Condition "ends" A.f_Condition_ends
  mt_Condition_begins : Meth K A.c_Condition "begins" A.f_Condition_begins
  mt_Ending_use : Meth K A.c_Ending "use" A.f_Ending_use
  mt_Beginning_use : Meth K A.c_Beginning "use" A.f_Beginning_use
  of_Rule_init : Off K A.c_Rule "__init__" A.f_Rule_init
  g_are_letters : mg "are_letters" = some (.ref A.f_are_letters)
  k_are_letters : PySem.W.keepIn K (.ref A.f_are_letters) = true
  F_are_letters : Fun K "are_letters" "are_letters" s_are_letters A.f_are_letters A.d_are_letters
  b_are_letters : Binds K A.d_are_letters P_are_letters []
  g_all_but : mg "all_but" = some (.ref A.f_all_but)
  k_all_but : PySem.W.keepIn K (.ref A.f_all_but) = true
  F_all_but : Fun K "all_but" "all_but" s_all_but A.f_all_but A.d_all_but
  b_all_but : Binds K A.d_all_but P_all_but []
  g_is_bracketed : mg "is_bracketed" = some (.ref A.f_is_bracketed)
  k_is_bracketed : PySem.W.keepIn K (.ref A.f_is_bracketed) = true
  F_is_bracketed : Fun K "is_bracketed" "is_bracketed" s_is_bracketed A.f_is_bracketed A.d_is_bracketed
  b_is_bracketed : Binds K A.d_is_bracketed P_is_bracketed []
  g_read_brackets : mg "read_brackets" = some (.ref A.f_read_brackets)
  k_read_brackets : PySem.W.keepIn K (.ref A.f_read_brackets) = true
  F_read_brackets : Fun K "read_brackets" "read_brackets" s_read_brackets A.f_read_brackets A.d_read_brackets
  b_read_brackets : Binds K A.d_read_brackets P_read_brackets []
  g_read_place : mg "read_place" = some (.ref A.f_read_place)
  k_read_place : PySem.W.keepIn K (.ref A.f_read_place) = true
  F_read_place : Fun K "read_place" "read_place" s_read_place A.f_read_place A.d_read_place
  b_read_place : Binds K A.d_read_place P_read_place []
  g_read_places : mg "read_places" = some (.ref A.f_read_places)
  k_read_places : PySem.W.keepIn K (.ref A.f_read_places) = true
  F_read_places : Fun K "read_places" "read_places" s_read_places A.f_read_places A.d_read_places
  b_read_places : Binds K A.d_read_places P_read_places []
  g_are_let : mg "are_let" = some (.ref A.f_are_let)
  k_are_let : PySem.W.keepIn K (.ref A.f_are_let) = true
  F_are_let : Fun K "are_let" "are_let" s_are_let A.f_are_let A.d_are_let
  b_are_let : Binds K A.d_are_let P_are_let []
  F_Condition_init : Fun K "__init__" "Condition.__init__" s_Condition_init A.f_Condition_init A.d_Condition_init
  b_Condition_init : Binds K A.d_Condition_init P_Condition_init []
  F_Condition_ends : Fun K "ends" "Condition.ends" s_Condition_ends A.f_Condition_ends A.d_Condition_ends
  b_Condition_ends : Binds K A.d_Condition_ends P_Condition_ends []
  F_Condition_begins : Fun K "begins" "Condition.begins" s_Condition_begins A.f_Condition_begins A.d_Condition_begins
  b_Condition_begins : Binds K A.d_Condition_begins P_Condition_begins []
  g_are_names : mg "are_names" = some (.ref A.f_are_names)
  k_are_names : PySem.W.keepIn K (.ref A.f_are_names) = true
  F_are_names : Fun K "are_names" "are_names" s_are_names A.f_are_names A.d_are_names
  b_are_names : Binds K A.d_are_names P_are_names []
  g_need_letters : mg "need_letters" = some (.ref A.f_need_letters)
  k_need_letters : PySem.W.keepIn K (.ref A.f_need_letters) = true
  F_need_letters : Fun K "need_letters" "need_letters" s_need_letters A.f_need_letters A.d_need_letters
  b_need_letters : Binds K A.d_need_letters P_need_letters []
  g_need_further_names : mg "need_further_names" = some (.ref A.f_need_further_names)
  k_need_further_names : PySem.W.keepIn K (.ref A.f_need_further_names) = true
  F_need_further_names : Fun K "need_further_names" "need_further_names" s_need_further_names A.f_need_further_names A.d_need_further_names
  b_need_further_names : Binds K A.d_need_further_names P_need_further_names []
  g_short_enough : mg "short_enough" = some (.ref A.f_short_enough)
  k_short_enough : PySem.W.keepIn K (.ref A.f_short_enough) = true
  F_short_enough : Fun K "short_enough" "short_enough" s_short_enough A.f_short_enough A.d_short_enough
  b_short_enough : Binds K A.d_short_enough P_short_enough []
  g_written : mg "written" = some (.ref A.f_written)
  k_written : PySem.W.keepIn K (.ref A.f_written) = true
  F_written : Fun K "written" "written" s_written A.f_written A.d_written
  b_written : Binds K A.d_written P_written []
  F_Rule_init : Fun K "__init__" "Rule.__init__" s_Rule_init A.f_Rule_init A.d_Rule_init
  b_Rule_init : Binds K A.d_Rule_init P_Rule_init []
  F_Rule_use : Fun K "use" "Rule.use" s_Rule_use A.f_Rule_use A.d_Rule_use
  b_Rule_use : Binds K A.d_Rule_use P_Rule_use []
  F_Rule_text : Fun K "text" "Rule.text" s_Rule_text A.f_Rule_text A.d_Rule_text
  b_Rule_text : Binds K A.d_Rule_text P_Rule_text []
  F_Ending_init : FunD K "__init__" "Ending.__init__" (defArgs s_Ending_init) (defBody s_Ending_init) (defScope s_Ending_init) [.str ""] [] A.f_Ending_init A.d_Ending_init
  b_Ending_init : Binds K A.d_Ending_init P_Ending_init []
  bd_Ending_init : ∃ ds, Vals [.str ""] ds ∧ Binds K A.d_Ending_init P_Ending_init ds
  F_Ending_use : Fun K "use" "Ending.use" s_Ending_use A.f_Ending_use A.d_Ending_use
  b_Ending_use : Binds K A.d_Ending_use P_Ending_use []
  F_Ending_text : Fun K "text" "Ending.text" s_Ending_text A.f_Ending_text A.d_Ending_text
  b_Ending_text : Binds K A.d_Ending_text P_Ending_text []
  F_Beginning_init : Fun K "__init__" "Beginning.__init__" s_Beginning_init A.f_Beginning_init A.d_Beginning_init
  b_Beginning_init : Binds K A.d_Beginning_init P_Beginning_init []
  F_Beginning_use : Fun K "use" "Beginning.use" s_Beginning_use A.f_Beginning_use A.d_Beginning_use
  b_Beginning_use : Binds K A.d_Beginning_use P_Beginning_use []
  F_Beginning_text : Fun K "text" "Beginning.text" s_Beginning_text A.f_Beginning_text A.d_Beginning_text
  b_Beginning_text : Binds K A.d_Beginning_text P_Beginning_text []
  F_Band_init : Fun K "__init__" "Band.__init__" s_Band_init A.f_Band_init A.d_Band_init
  b_Band_init : Binds K A.d_Band_init P_Band_init []
  g_used : mg "used" = some (.ref A.f_used)
  k_used : PySem.W.keepIn K (.ref A.f_used) = true
  F_used : Fun K "used" "used" s_used A.f_used A.d_used
  b_used : Binds K A.d_used P_used []
  g_ended : mg "ended" = some (.ref A.f_ended)
  k_ended : PySem.W.keepIn K (.ref A.f_ended) = true
  F_ended : Fun K "ended" "ended" s_ended A.f_ended A.d_ended
  b_ended : Binds K A.d_ended P_ended []
  g_order : mg "order" = some (.ref A.f_order)
  k_order : PySem.W.keepIn K (.ref A.f_order) = true
  F_order : Fun K "order" "order" s_order A.f_order A.d_order
  b_order : Binds K A.d_order P_order []
  g_made : mg "made" = some (.ref A.f_made)
  k_made : PySem.W.keepIn K (.ref A.f_made) = true
  F_made : Fun K "made" "made" s_made A.f_made A.d_made
  b_made : Binds K A.d_made P_made []
  g_l_mixed : mg "_law_mixed" = some (.ref A.f_l_mixed)
  k_l_mixed : PySem.W.keepIn K (.ref A.f_l_mixed) = true
  F_l_mixed : Fun K "_law_mixed" "_law_mixed" s_l_mixed A.f_l_mixed A.d_l_mixed
  b_l_mixed : Binds K A.d_l_mixed P_l_mixed []
  g_l_number : mg "_law_number" = some (.ref A.f_l_number)
  k_l_number : PySem.W.keepIn K (.ref A.f_l_number) = true
  F_l_number : Fun K "_law_number" "_law_number" s_l_number A.f_l_number A.d_l_number
  b_l_number : Binds K A.d_l_number P_l_number []
  g_l_letters : mg "_law_letters" = some (.ref A.f_l_letters)
  k_l_letters : PySem.W.keepIn K (.ref A.f_l_letters) = true
  F_l_letters : Fun K "_law_letters" "_law_letters" s_l_letters A.f_l_letters A.d_l_letters
  b_l_letters : Binds K A.d_l_letters P_l_letters []
  g_l_condition : mg "_law_condition" = some (.ref A.f_l_condition)
  k_l_condition : PySem.W.keepIn K (.ref A.f_l_condition) = true
  F_l_condition : Fun K "_law_condition" "_law_condition" s_l_condition A.f_l_condition A.d_l_condition
  b_l_condition : Binds K A.d_l_condition P_l_condition []
  g_l_written : mg "_law_written" = some (.ref A.f_l_written)
  k_l_written : PySem.W.keepIn K (.ref A.f_l_written) = true
  F_l_written : Fun K "_law_written" "_law_written" s_l_written A.f_l_written A.d_l_written
  b_l_written : Binds K A.d_l_written P_l_written []
  g_l_fits : mg "_law_fits" = some (.ref A.f_l_fits)
  k_l_fits : PySem.W.keepIn K (.ref A.f_l_fits) = true
  F_l_fits : Fun K "_law_fits" "_law_fits" s_l_fits A.f_l_fits A.d_l_fits
  b_l_fits : Binds K A.d_l_fits P_l_fits []
  g_l_used : mg "_law_used" = some (.ref A.f_l_used)
  k_l_used : PySem.W.keepIn K (.ref A.f_l_used) = true
  F_l_used : Fun K "_law_used" "_law_used" s_l_used A.f_l_used A.d_l_used
  b_l_used : Binds K A.d_l_used P_l_used []
  g_l_light : mg "_law_light" = some (.ref A.f_l_light)
  k_l_light : PySem.W.keepIn K (.ref A.f_l_light) = true
  F_l_light : Fun K "_law_light" "_law_light" s_l_light A.f_l_light A.d_l_light
  b_l_light : Binds K A.d_l_light P_l_light []
  g_l_bands : mg "_law_bands" = some (.ref A.f_l_bands)
  k_l_bands : PySem.W.keepIn K (.ref A.f_l_bands) = true
  F_l_bands : Fun K "_law_bands" "_law_bands" s_l_bands A.f_l_bands A.d_l_bands
  b_l_bands : Binds K A.d_l_bands P_l_bands []
  g_l_rules : mg "_law_rules" = some (.ref A.f_l_rules)
  k_l_rules : PySem.W.keepIn K (.ref A.f_l_rules) = true
  F_l_rules : Fun K "_law_rules" "_law_rules" s_l_rules A.f_l_rules A.d_l_rules
  b_l_rules : Binds K A.d_l_rules P_l_rules []
  g_l_stem : mg "_law_stem" = some (.ref A.f_l_stem)
  k_l_stem : PySem.W.keepIn K (.ref A.f_l_stem) = true
  F_l_stem : Fun K "_law_stem" "_law_stem" s_l_stem A.f_l_stem A.d_l_stem
  b_l_stem : Binds K A.d_l_stem P_l_stem []
  g_l_named : mg "_law_named" = some (.ref A.f_l_named)
  k_l_named : PySem.W.keepIn K (.ref A.f_l_named) = true
  F_l_named : Fun K "_law_named" "_law_named" s_l_named A.f_l_named A.d_l_named
  b_l_named : Binds K A.d_l_named P_l_named []
  g_l_pairs : mg "_law_pairs" = some (.ref A.f_l_pairs)
  k_l_pairs : PySem.W.keepIn K (.ref A.f_l_pairs) = true
  F_l_pairs : Fun K "_law_pairs" "_law_pairs" s_l_pairs A.f_l_pairs A.d_l_pairs
  b_l_pairs : Binds K A.d_l_pairs P_l_pairs []
  g_l_all : mg "_law_all" = some (.ref A.f_l_all)
  k_l_all : PySem.W.keepIn K (.ref A.f_l_all) = true
  F_l_all : Fun K "_law_all" "_law_all" s_l_all A.f_l_all A.d_l_all
  b_l_all : Binds K A.d_l_all P_l_all []
  g_l_walked : mg "_law_walked" = some (.ref A.f_l_walked)
  k_l_walked : PySem.W.keepIn K (.ref A.f_l_walked) = true
  F_l_walked : Fun K "_law_walked" "_law_walked" s_l_walked A.f_l_walked A.d_l_walked
  b_l_walked : Binds K A.d_l_walked P_l_walked []
  g_l_told : mg "_law_told" = some (.ref A.f_l_told)
  k_l_told : PySem.W.keepIn K (.ref A.f_l_told) = true
  F_l_told : Fun K "_law_told" "_law_told" s_l_told A.f_l_told A.d_l_told
  b_l_told : Binds K A.d_l_told P_l_told []
  g_l_names_not : mg "_law_names_not" = some (.ref A.f_l_names_not)
  k_l_names_not : PySem.W.keepIn K (.ref A.f_l_names_not) = true
  F_l_names_not : Fun K "_law_names_not" "_law_names_not" s_l_names_not A.f_l_names_not A.d_l_names_not
  b_l_names_not : Binds K A.d_l_names_not P_l_names_not []
  g_l_many_right : mg "_law_many_right" = some (.ref A.f_l_many_right)
  k_l_many_right : PySem.W.keepIn K (.ref A.f_l_many_right) = true
  F_l_many_right : Fun K "_law_many_right" "_law_many_right" s_l_many_right A.f_l_many_right A.d_l_many_right
  b_l_many_right : Binds K A.d_l_many_right P_l_many_right []
  g_law : mg "law" = some (.ref A.f_law)
  k_law : PySem.W.keepIn K (.ref A.f_law) = true
  F_law : Fun K "law" "law" s_law A.f_law A.d_law
  b_law : Binds K A.d_law P_law []
section
variable {P : Program} {w : World} {K : PySem.W.Frag} {mg : Str → Option Value} {base : Heap} {A : Ad}
theorem ok_are_letters (T : Txt K mg A) : FnOk P w K mg base CX0 1 A.f_are_letters A.d_are_letters P_are_letters (SpFn pThing rL) := by
  refine T.F_are_letters.ok sc_are_letters (fun vs H Q E h => ?_) (fun cdv A' outer s H vs Q E hr h => ?_)
  · obtain ⟨⟨v, rfl, _⟩, _⟩ := h
    rfl
  · obtain ⟨⟨v, rfl, hv⟩, k⟩ := h
    refine ⟨_, (pss_one (ps_ret (pe_and (pe_callB call_isi (by rfl) T.n_isinstance (by decide +kernel) (pa_cons (pv 0) (pa_cons (pe_bltn (v := .ty "str") (by rfl) T.n_str (by decide +kernel) rfl) pa_nil))) (pe_one (pe_cmpR op_eq (pe_bm PySem.F.plainAttrs_str PySem.F.slot_str_strip PySem.F.type_str_strip mt_stripChars (pv 0) (pa_cons (pe_glob (v := .str "abcdefghijklmnopqrstuvwxyz") rfl (T.g_LETTERS).choose_spec ⟨_, rfl⟩) pa_nil)) pe_str (nomark _)))))), ?_⟩
    refine s_ret (v := .bl (vL v)) (ev_is (ev_andV (a := isStr v) (b := vL v) (ev_cb (ea_cons (ev_var rfl) (ea_cons ev_c ea_nil)) (rc_isStr hv)) fun hs => ?_) ?_) k
    · obtain ⟨z, rfl⟩ := isStr_eq hs
      refine ev_is (ev_op (ev_bmS (v := .str (Txt.stripChars z "abcdefghijklmnopqrstuvwxyz")) (ev_var rfl) (ea_cons ev_c ea_nil) fun _ _ _ q => ⟨z, _, rfl, rfl, sz_of (Nat.le_trans hv.1 (by decide)), q⟩) ev_c (rv_eq rfl)) ?_
      exact congrArg V.bl (strip_lets z)
    · cases v <;> rfl

theorem ok_l_mixed (T : Txt K mg A) : FnOk P w K mg base CX0 1 A.f_l_mixed A.d_l_mixed P_l_mixed (SpFn pMix rMix) := by
  refine T.F_l_mixed.ok sc_l_mixed (fun vs H Q E h => ?_) (fun cdv A' outer s H vs Q E hr h => ?_)
  · obtain ⟨⟨c, k, rfl, _⟩, _⟩ := h
    rfl
  · obtain ⟨⟨c, k, rfl, h0, h1⟩, q⟩ := h
    refine ⟨_, (pss_cons (ps_set (i := 2) sc_l_mixed.nd rfl (Or.inl rfl) (pe_op op_mod (pe_op op_mul (pe_op op_add (pe_op op_add (pe_op op_add (pe_op op_mod (pv 0) pe_int) (pe_op op_mul (pe_op op_mul pe_int (pv 1)) (pv 1))) (pe_op op_mul pe_int (pv 1))) pe_int) pe_int) pe_int))
      (pss_one (ps_ret (pe_op op_fdiv (pe_op op_mod (pe_op op_mul (pv 2) (pe_op op_add (pe_op op_mod (pv 2) pe_int) pe_int)) pe_int) pe_int)))), ?_⟩
    have hb := mixN_bd c k
    refine q_asg (v := .int (mixN c k)) ?_ fun H1 e1 => s_ret (v := .int (mix c k)) ?_ fun H2 e2 => q H2 (e1.trans e2)
    · exact ev_op (ev_op (ev_op (ev_op (ev_op (ev_op (ev_var rfl) ev_c (rv_I (by show (0 : Int) < _; decide)))
        (ev_op (ev_op ev_c (ev_var rfl) (rv_I (.inl ⟨by decide, by decide⟩))) (ev_var rfl) (rv_I (.inr ⟨by omega, by omega⟩))) rv_I0)
        (ev_op ev_c (ev_var rfl) (rv_I (.inl ⟨by decide, by decide⟩))) rv_I0) ev_c rv_I0) ev_c (rv_I (.inr ⟨by decide, by decide⟩))) ev_c (rv_I (by show (0 : Int) < _; decide))
    · exact ev_op (ev_op (ev_op (ev_var rfl) (ev_op (ev_op (ev_var rfl) ev_c (rv_I (by show (0 : Int) < _; decide))) ev_c rv_I0) (rv_I (.inl ⟨by omega, by omega⟩))) ev_c
        (rv_I (by show (0 : Int) < _; decide))) ev_c (rv_I ⟨by decide, by decide⟩)

theorem ok_l_number (T : Txt K mg A) : FnOk P w K mg base CX0 2 A.f_l_number A.d_l_number P_l_number (spNum K) := by
  refine T.F_l_number.ok sc_l_number (fun vs H Q E h => ?_) (fun cdv A' outer s H vs Q E hr h => ?_)
  · obtain ⟨a, ns, k, rfl, _⟩ := h
    rfl
  · obtain ⟨a, ns, k, rfl, hS, h0, h1, q⟩ := h
    refine ⟨_, (pss_cons (ps_set (i := 2) sc_l_number.nd rfl (Or.inl rfl) pe_int)
      (pss_cons (ps_if (pt_cmpR op_gt (pe_callB call_len_seq (by rfl) T.n_len PySem.boot_len (pa_cons (pv 0) pa_nil)) pe_int (nomark _)) (pss_one (ps_set (i := 2) sc_l_number.nd rfl (Or.inl rfl) (pe_ix ix_list (pv 0) (pe_op op_mod (pv 1) (pe_callB call_len_seq (by rfl) T.n_len PySem.boot_len (pa_cons (pv 0) pa_nil))) (fun _ _ => rfl)))) pss_nil)
      (pss_one (ps_ret (pe_call (ok_l_mixed T) hr rfl T.g_l_mixed T.k_l_mixed T.b_l_mixed .nil pass0 (pa_cons (pv 2) (pa_cons (pv 1) pa_nil))))))), ?_⟩
    refine q_asg ev_c fun H1 e1 => ?_
    have hS1 := ex_l e1 hS
    have hl : Ev (tCB _ (tCons (tVar 0) tNil)) (([some (.ref a), some (.int k), none] : L2.St).set 2 (some (.int 0))) H1 (.int (ns.map V.int).length) := ev_cb (ea_cons (ev_var rfl) ea_nil) (rc_lenL hS1)
    rw [List.length_map] at hl
    refine q_ifAsg (b := decide ((0 : Int) < ns.length)) (v := .int (cell ns k)) (et_test (ev_is (ev_op hl ev_c rv_I0) rfl)) (fun hb => ?_) (fun hb => ?_) fun H2 e2 => ?_
    · have hb' : 0 < ns.length := by simpa using hb
      exact ev_op (ev_var rfl) (ev_op (ev_var rfl) hl (rv_I (by show (0 : Int) < _; omega))) (rv_ixL hS1 (cell_at hb'))
    · have hb' : ns.length = 0 := by simpa using hb
      have : cell ns k = 0 := by unfold cell; rw [if_neg (by omega)]
      rw [this]
      rfl
    · refine s_ret (v := .int (num ns k)) (ev_call (ea_cons (ev_var rfl) (ea_cons (ev_var rfl) ea_nil)) (spFn fun H3 e3 => ⟨_, _, rfl, h0, h1⟩)) fun H3 e3 => q H3 ((e1.trans e2).trans e3)

/-! ### all_but, is_bracketed -/
def pStr (vs : List V) (_ : Hp) : Prop := ∃ z, vs = [.str z] ∧ z.length ≤ 1000 ∧ signs z
def rOthers : List V → V | [.str z] => .str (T (others (L z))) | _ => .non
theorem ok_all_but (T : Txt K mg A) : FnOk P w K mg base CX0 1 A.f_all_but A.d_all_but P_all_but (SpFn pStr rOthers) := by
  refine T.F_all_but.ok sc_all_but (fun vs H Q E h => ?_) (fun cdv A' outer s H vs Q E hr h => ?_)
  · obtain ⟨⟨v, rfl, _⟩, _⟩ := h
    rfl
  · obtain ⟨⟨z, rfl, hz, hs⟩, k⟩ := h
    refine ⟨_, (pss_one (ps_ret (pe_join pe_str (pe_lc (own := [("letter", 1)]) (by rfl) sc_all_but.nd (pi_str (pe_glob (v := .str "abcdefghijklmnopqrstuvwxyz") rfl (T.g_LETTERS).choose_spec ⟨_, rfl⟩)) (blkOk_by (own := [("letter", 1)]) (N := N_all_but) (sc := defScope s_all_but) (by decide +kernel)) (fun _ _ _ _ _ => (pg_name (i := 1) sc_all_but.nd rfl (Or.inl rfl))) (fun _ _ _ _ _ => pts_one (pt_cmpR op_notIn_sign (pv 1) (pv 0) (by rfl))) (fun _ _ _ _ _ => (pv 1)))))), ?_⟩
    refine s_ret (v := .str (TX.T (others (L z)))) (ev_is (ev_joinL (ys := (others (L z)).map fun c => TX.T [c]) ev_c (el_lcS (w := alph) (fun i => !decide (alphL.getD i 0 ∈ L z)) (fun i => .str (TX.T [alphL.getD i 0])) ev_c (by decide +kernel) (fun _ => rfl)
      (fun i c H2 e2 hc => ?_) (fun i c H2 e2 hc _ => ?_)) ?_ ?_) ?_) k
    · have hd : alphL.getD i 0 = c := by
        show alph.cps.toList.getD i 0 = c
        rw [List.getD_eq_getElem?_getD, Array.getElem?_toList, hc]
        rfl
      rw [hd]
      exact et_test (ev_op (ev_var rfl) (ev_var rfl) rv_ninS)
    · have hd : alphL.getD i 0 = c := by
        show alph.cps.toList.getD i 0 = c
        rw [List.getD_eq_getElem?_getD, Array.getElem?_toList, hc]
        rfl
      rw [hd]
      exact ev_var rfl
    · rw [given_of alphL (fun c => !decide (c ∈ L z)) (fun c => V.str (TX.T [c])) _ (by show alph.cps.size = alph.cps.toList.length; rw [Array.length_toList]), List.map_map]
      rfl
    · have h1 : (others (L z)).length ≤ 26 := by
        have h2 : alphL.length = 26 := alph_list
        unfold others
        have := List.length_filter_le (fun c => !decide (c ∈ L z)) alphL
        omega
      have h2 : (((others (L z)).map fun c => TX.T [c]).map (·.length)).sum = (others (L z)).length := by
        rw [List.map_map]
        generalize others (L z) = l
        induction l with
        | nil => rfl
        | cons a r ih => rw [List.map_cons, List.sum_cons, ih, List.length_cons]; show 1 + r.length = r.length + 1; omega
      have h3 : ("" : Str).length = 0 := by decide +kernel
      rw [h2, h3]
      omega
    · apply congrArg V.str
      apply eq_L
      show (Txt.join "" _).cps.toList = _
      rw [join0, L_T, List.map_map]
      generalize others (L z) = l
      induction l with
      | nil => rfl
      | cons a r ih => rw [List.map_cons, List.flatten_cons, ih]; rfl
def rBr : List V → V | [.str z] => .bl (okBr (L z)) | _ => .non
theorem ok_is_bracketed (T : Txt K mg A) : FnOk P w K mg base CX0 2 A.f_is_bracketed A.d_is_bracketed P_is_bracketed (SpFn pStr rBr) := by
  refine T.F_is_bracketed.ok sc_is_bracketed (fun vs H Q E h => ?_) (fun cdv A' outer s H vs Q E hr h => ?_)
  · obtain ⟨⟨v, rfl, _⟩, _⟩ := h
    rfl
  · obtain ⟨⟨z, rfl, hz, hs⟩, k⟩ := h
    refine ⟨_, (pss_cons (ps_if (PW.pt (pw_or (pt_not (pt_val (pe_call (ok_are_letters T) hr rfl T.g_are_letters T.k_are_letters T.b_are_letters .nil pass0 (pa_cons (pv 0) pa_nil)))) (pw_or1 (pt_not (pt_chain op_le op_le pe_int (pe_callB call_len_str (by rfl) T.n_len PySem.boot_len (pa_cons (pv 0) pa_nil)) (pe_glob (v := .int 8) rfl (T.g_MOST_IN_BRACKETS).choose_spec ⟨_, rfl⟩)))))) (pss_one (ps_ret pe_bl)) pss_nil)
      (pss_one (ps_ret (pe_cmpR op_eq (pe_lenSetS (by rfl) T.n_len (by rfl) T.n_set (pv 0)) (pe_callB call_len_str (by rfl) T.n_len PySem.boot_len (pa_cons (pv 0) pa_nil)) (nomark _))))), ?_⟩
    have hl : z.length = (L z).length := len_L z
    refine q_when (b := !((L z).all small && (decide (1 ≤ (L z).length) && decide ((L z).length ≤ 8)))) (et_is (et_or (a := !(lets z)) (b := !(decide (1 ≤ (L z).length) && decide ((L z).length ≤ 8))) (et_not (et_B (ev_call (ea_cons (ev_var rfl) ea_nil) (spFn fun H1 e => ⟨.str z, rfl, hz, hs⟩))))
      fun _ => et_not (et_test (ev_is (ev_chain (x := .int 1) (y := .int z.length) (z := .int 8) ev_c (ev_cb (ea_cons (ev_var rfl) ea_nil) (rc_lenS (Nat.le_trans hz (by decide)))) rv_I0 (fun _ => ev_c) (fun _ => rv_I0)) ?_))) ?_) (fun hb H1 e1 => ?_) fun hb H1 e1 => ?_
    · rw [hl]
      congr 2 <;> (rw [decide_eq_decide]; omega)
    · show (!(L z).all small || _) = _
      cases (L z).all small <;> rfl
    · have : rBr [.str z] = .bl false := by
        show V.bl (okBr (L z)) = _
        unfold okBr
        simp only [Bool.not_eq_true'] at hb
        rw [hb]
        rfl
      exact s_ret ev_c fun H2 e2 => this ▸ k H2 (e1.trans e2)
    · refine s_ret (v := .bl (okBr (L z))) (ev_is (ev_op (ev_lenSetS (ev_var rfl) (Nat.le_trans hz (by decide))) (ev_cb (ea_cons (ev_var rfl) ea_nil) (rc_lenS (Nat.le_trans hz (by decide)))) (rv_eq rfl)) ?_) fun H2 e2 => k H2 (e1.trans e2)
      apply congrArg V.bl
      unfold okBr
      simp only [Bool.not_eq_false'] at hb
      rw [hb, Bool.true_and, dec_int, Bool.eq_iff_iff, beq_iff_eq, decide_eq_true_eq]
      have h1 := SetS.uniq_nodup (SetS.signsOf z)
      rw [SetS.signsOf_len, SetS.signsOf_nodup] at h1
      have h2 : z.cps.size = z.length := rfl
      rw [h2] at h1
      rw [← h1]
      omega
/-! ### a place is read -/
theorem s91 : ("[" : Str) = ⟨#[91]⟩ := by decide +kernel
theorem s93 : ("]" : Str) = ⟨#[93]⟩ := by decide +kernel
theorem s94 : ("^" : Str) = ⟨#[94]⟩ := by decide +kernel
theorem s46 : ("." : Str) = ⟨#[46]⟩ := by decide +kernel
/-- what a reading of a place tells: nothing, or a pair of the letters that it lets and the next place -/
def Told (A : Ad) (z : Str) (o : Option (List Nat × List Nat)) (H : Hp) (Q : VK) (E : XK) : Prop :=
  (o = none → ∀ H', Ex H H' → E (.ref A.c_BadRule) none H') ∧
  (∀ p rest, o = some (p, rest) → ∀ T0 H', H T0 = none → Ex H H' → H' T0 = some (.tup [.str (T p), .int (((L z).length - rest.length : Nat) : Int)]) → Q (.ref T0) H')
def spBrk (A : Ad) : Sp := fun vs H Q E => ∃ (z : Str) (b : Nat), vs = [.str z, .int b] ∧ z.length ≤ 1000 ∧ signs z ∧ (L z)[b]? = some 91 ∧ Told A z (brk ((L z).drop (b + 1))) H Q E
theorem cut_from (z : Str) (a b : Nat) (h : a ≤ b) (hb : b ≤ (L z).length) : cutS z (some (a : Int)) (some (b : Int)) = T (((L z).drop a).take (b - a)) := by
  unfold cutS
  have h1 : HT.sIx z.length 0 (some (a : Int)) = a := by rw [HT.sIx_nat, len_L]; omega
  have h2 : HT.sIx z.length z.length (some (b : Int)) = b := by rw [HT.sIx_nat, len_L]; omega
  rw [h1, h2]
theorem at_L {z : Str} {b c : Nat} (h : (L z)[b]? = some c) : atI z.cps.toList (b : Int) = some c := atI_nat h
theorem ok_read_brackets (T : Txt K mg A) : FnOk P w K mg base (L2.CX P w) 3 A.f_read_brackets A.d_read_brackets P_read_brackets (spBrk A) := by
  refine T.F_read_brackets.okX sc_read_brackets (fun vs H Q E h => ?_) (fun cdv A' outer s H vs Q E hr h => ?_)
  · obtain ⟨z, b, rfl, _⟩ := h
    rfl
  · obtain ⟨z, b, rfl, hz, hs, h91, kN, kS⟩ := h
    refine ⟨_, (pss_cons (ps_set (i := 2) sc_read_brackets.nd rfl (Or.inl rfl) (pe_bm PySem.F.plainAttrs_str PySem.F.slot_str_find PySem.F.type_str_find mt_find3 (pv 0) (pa_cons pe_str (pa_cons (pv 1) pa_nil))))
      (pss_cons (ps_if (pt_cmpR op_lt (pv 2) pe_int (nomark _)) (pss_one (ps_raise rfl (takes_of rfl rfl rfl rfl) (pmk_own PySem.F.excBase_ValueError T.x_BadRule T.g_BadRule T.k_BadRule (raises_own T.s_BadRule T.t_BadRule) rfl))) pss_nil)
      (pss_cons (ps_set (i := 3) sc_read_brackets.nd rfl (Or.inl rfl) (pe_slice sl_str (pv 0) (po_some (pe_op op_add (pv 1) pe_int)) (po_some (pv 2))))
      (pss_cons (ps_set (i := 4) sc_read_brackets.nd rfl (Or.inl rfl) (pe_bm PySem.F.plainAttrs_str PySem.F.slot_str_removeprefix PySem.F.type_str_removeprefix mt_removeprefix (pv 3) (pa_cons pe_str pa_nil)))
      (pss_cons (ps_if (pt_not (pt_val (pe_call (ok_is_bracketed T) hr rfl T.g_is_bracketed T.k_is_bracketed T.b_is_bracketed .nil pass0 (pa_cons (pv 4) pa_nil)))) (pss_one (ps_raise rfl (takes_of rfl rfl rfl rfl) (pmk_own PySem.F.excBase_ValueError T.x_BadRule T.g_BadRule T.k_BadRule (raises_own T.s_BadRule T.t_BadRule) rfl))) pss_nil)
      (pss_cons (ps_if (pt_val (pe_bm PySem.F.plainAttrs_str PySem.F.slot_str_startswith PySem.F.type_str_startswith mt_startswith (pv 3) (pa_cons pe_str pa_nil))) (pss_one (ps_ret (pe_tup (pa_cons (pe_call (ok_all_but T) (hr.mono (by decide)) rfl T.g_all_but T.k_all_but T.b_all_but .nil pass0 (pa_cons (pv 4) pa_nil)) (pa_cons (pe_op op_add (pv 2) pe_int) pa_nil))))) pss_nil)
      (pss_one (ps_ret (pe_tup (pa_cons (pv 4) (pa_cons (pe_op op_add (pv 2) pe_int) pa_nil))))))))))), ?_⟩
    have bl : b < (L z).length := (List.getElem?_eq_some_iff.mp h91).1
    have hzl := len_L z
    have hd : (L z).drop b = 91 :: (L z).drop (b + 1) := by
      rw [← List.getElem_cons_drop bl]
      congr 1
      have := List.getElem?_eq_getElem bl
      rw [h91] at this
      exact (Option.some.inj this).symm
    by_cases h93 : 93 ∈ (L z).drop (b + 1)
    · have h93' : 93 ∈ (L z).drop b := by rw [hd]; exact List.mem_cons_of_mem _ h93
      have ha : ahead 93 ((L z).drop b) = 91 :: ahead 93 ((L z).drop (b + 1)) := by rw [hd]; rfl
      have hal := ahead_lt h93
      rw [List.length_drop] at hal
      generalize hi : ahead 93 ((L z).drop (b + 1)) = i at ha hal
      have hf : Txt.find3 z ⟨#[93]⟩ (b : Int) = ((b + 1 + i.length : Nat) : Int) := by
        rw [find_some (by omega) h93', ha, List.length_cons]
        congr 1
        omega
      have hcut : cutS z (some ((b : Int) + 1)) (some ((b + 1 + i.length : Nat) : Int)) = TX.T i := by
        have e1 : (b : Int) + 1 = ((b + 1 : Nat) : Int) := by omega
        rw [e1, cut_from z (b + 1) (b + 1 + i.length) (by omega) (by omega)]
        congr 1
        rw [← hi, ahead_take 93 ((L z).drop (b + 1))]
        rw [List.length_take, List.length_drop]
        congr 1
        rw [hi]
        omega
      have hbr : brk ((L z).drop (b + 1)) = if okBr (core i) = true then some (lets' i, (L z).drop (b + 1 + i.length + 1)) else none := by
        unfold brk
        rw [if_pos h93, hi, List.drop_drop]
        congr 3
      have hpre : Txt.removeprefix (TX.T i) ⟨#[94]⟩ = TX.T (core i) := by
        rw [noprefix, L_T]
        unfold core
        split <;> rfl
      have hil : i.length ≤ 1000 := by omega
      have his : signs (TX.T i) := hcut ▸ signs_cut hs _ _
      have hcs : signs (TX.T (core i)) := by
        unfold signs at his ⊢
        rw [List.all_eq_true] at his ⊢
        intro x hx
        refine his x ?_
        show x ∈ L (TX.T i)
        rw [L_T]
        have hx' : x ∈ core i := by
          have : x ∈ L (TX.T (core i)) := hx
          rwa [L_T] at this
        unfold core at hx'
        split at hx'
        · exact List.mem_of_mem_tail hx'
        · exact hx'
      have hcl : (TX.T (core i)).length ≤ 1000 := by
        rw [len_T]
        unfold core
        split
        · rw [List.length_tail]; omega
        · exact hil
      refine q_asg (v := .int ((b + 1 + i.length : Nat) : Int)) (ev_is (ev_bmS (ev_var rfl) (ea_cons ev_c (ea_cons (ev_var rfl) ea_nil)) fun _ _ _ q => ⟨z, _, _, rfl, rfl, q⟩) (by rw [s93, hf])) fun H1 e1 => ?_
      refine q_when (et_test (ev_op (ev_var rfl) ev_c rv_I0)) (fun hb => absurd hb (by simp; omega)) fun _ H2 e2 => ?_
      refine q_asg (v := .str (TX.T i)) (ev_is (ev_slS (ev_var rfl) (eo_some (ev_op (ev_var rfl) ev_c rv_I0)) (eo_some (ev_var rfl)) (by omega)) (by rw [hcut])) fun H3 e3 => ?_
      refine q_asg (v := .str (TX.T (core i))) (ev_is (ev_bmS (ev_var rfl) (ea_cons ev_c ea_nil) fun _ _ _ q => ⟨TX.T i, _, rfl, rfl, by rw [len_T]; exact sz_of (by omega), q⟩) (by rw [s94, hpre])) fun H4 e4 => ?_
      have e04 := ((e1.trans e2).trans e3).trans e4
      refine q_when (b := !(okBr (core i))) (et_is (et_not (et_B (ev_call (ea_cons (ev_var rfl) ea_nil) (spFn fun H1 e => ⟨TX.T (core i), rfl, hcl, hcs⟩)))) (by rw [L_T])) (fun hb H5 e5 => ?_) fun hb H5 e5 => ?_
      · refine kN ?_ H5 (e04.trans e5)
        rw [hbr, if_neg (by simpa using hb)]
      · have hk := kS (lets' i) ((L z).drop (b + 1 + i.length + 1)) (by rw [hbr, if_pos (by simpa using hb)])
        have hn : (((L z).length - ((L z).drop (b + 1 + i.length + 1)).length : Nat) : Int) = ((b + 1 + i.length : Nat) : Int) + 1 := by
          rw [List.length_drop]
          omega
        rw [hn] at hk
        refine q_when (b := decide (i[0]? = some 94)) (et_B (ev_is (ev_bmS (ev_var rfl) (ea_cons ev_c ea_nil) fun _ _ _ q => ⟨TX.T i, _, rfl, rfl, q⟩) (by rw [s94, starts, L_T]))) (fun hc H6 e6 => ?_) fun hc H6 e6 => ?_
        · have hc' : i[0]? = some 94 := by simpa using hc
          have hl : lets' i = others (core i) := by unfold lets' core; rw [if_pos hc', if_pos hc']
          rw [hl] at hk
          refine s_retU (eu_tup (ea_cons (ev_is (ev_call (ea_cons (ev_var rfl) ea_nil) (spFn fun H1 e => ⟨TX.T (core i), rfl, hcl, hcs⟩)) (by show V.str (TX.T (others (L (TX.T (core i))))) = _; rw [L_T])) (ea_cons (ev_op (ev_var rfl) ev_c rv_I0) ea_nil)) (by show 2 ≤ 100000; decide)) fun p H7 hp e7 h7 => ?_
          exact hk p H7 (fresh_back ((e04.trans e5).trans e6) hp) (((e04.trans e5).trans e6).trans e7) h7
        · have hc' : ¬ i[0]? = some 94 := by simpa using hc
          have hl : lets' i = core i := by unfold lets' core; rw [if_neg hc', if_neg hc']
          rw [hl] at hk
          refine s_retU (eu_tup (ea_cons (ev_var rfl) (ea_cons (ev_op (ev_var rfl) ev_c rv_I0) ea_nil)) (by show 2 ≤ 100000; decide)) fun p H7 hp e7 h7 => ?_
          exact hk p H7 (fresh_back ((e04.trans e5).trans e6) hp) (((e04.trans e5).trans e6).trans e7) h7
    · have h93' : 93 ∉ (L z).drop b := by
        rw [hd]
        intro h
        rcases List.mem_cons.mp h with q | q
        · cases q
        · exact h93 q
      refine q_asg (v := .int (-1)) (ev_is (ev_bmS (ev_var rfl) (ea_cons ev_c (ea_cons (ev_var rfl) ea_nil)) fun _ _ _ q => ⟨z, _, _, rfl, rfl, q⟩) (by rw [s93, find_none (by omega) h93'])) fun H1 e1 => ?_
      refine q_when (et_test (ev_op (ev_var rfl) ev_c rv_I0)) (fun _ H2 e2 => ?_) fun hb => absurd hb (by decide)
      refine kN ?_ H2 (e1.trans e2)
      unfold brk
      rw [if_neg h93]
def spPlace (A : Ad) : Sp := fun vs H Q E => ∃ (z : Str) (b c : Nat), vs = [.str z, .int b] ∧ z.length ≤ 1000 ∧ signs z ∧ (L z)[b]? = some c ∧ Told A z (place c ((L z).drop (b + 1))) H Q E
theorem eq_one (c d : Nat) : decide (V.str (⟨#[c]⟩ : Str) = V.str ⟨#[d]⟩) = decide (c = d) := by
  rw [decide_eq_decide]
  constructor
  · intro h
    have h1 : (#[c] : Array Nat) = #[d] := Str.mk.inj (V.str.inj h)
    simpa using h1
  · rintro rfl
    rfl
theorem ok_read_place (T : Txt K mg A) : FnOk P w K mg base (L2.CX P w) 4 A.f_read_place A.d_read_place P_read_place (spPlace A) := by
  refine T.F_read_place.okX sc_read_place (fun vs H Q E h => ?_) (fun cdv A' outer s H vs Q E hr h => ?_)
  · obtain ⟨z, b, c, rfl, _⟩ := h
    rfl
  · obtain ⟨z, b, c, rfl, hz, hs, hc, kN, kS⟩ := h
    refine ⟨_, (pss_cons (ps_set (i := 2) sc_read_place.nd rfl (Or.inl rfl) (pe_ix ix_str (pv 0) (pv 1) (fun _ _ => rfl)))
      (pss_cons (ps_if (pt_cmpR op_eq (pv 2) pe_str (nomark _)) (pss_one (ps_ret (pe_call (E := E) (ok_read_brackets T) hr rfl T.g_read_brackets T.k_read_brackets T.b_read_brackets .nil (passes_call (takes_of rfl rfl rfl rfl) fun _ _ _ _ z => z) (pa_cons (pv 0) (pa_cons (pv 1) pa_nil))))) pss_nil)
      (pss_cons (ps_if (pt_cmpR op_eq (pv 2) pe_str (nomark _)) (pss_one (ps_ret (pe_tup (pa_cons (pe_glob (v := .str "abcdefghijklmnopqrstuvwxyz") rfl (T.g_LETTERS).choose_spec ⟨_, rfl⟩) (pa_cons (pe_op op_add (pv 1) pe_int) pa_nil))))) pss_nil)
      (pss_cons (ps_if (pt_not (pt_val (pe_call (ok_are_letters T) (hr.mono (by decide)) rfl T.g_are_letters T.k_are_letters T.b_are_letters .nil pass0 (pa_cons (pv 2) pa_nil)))) (pss_one (ps_raise rfl (takes_of rfl rfl rfl rfl) (pmk_own PySem.F.excBase_ValueError T.x_BadRule T.g_BadRule T.k_BadRule (raises_own T.s_BadRule T.t_BadRule) rfl))) pss_nil)
      (pss_one (ps_ret (pe_tup (pa_cons (pv 2) (pa_cons (pe_op op_add (pv 1) pe_int) pa_nil))))))))), ?_⟩
    have bl : b < (L z).length := (List.getElem?_eq_some_iff.mp hc).1
    have hzl := len_L z
    refine q_asg (v := .str ⟨#[c]⟩) (ev_op (ev_var rfl) (ev_var rfl) (rv_ixS (by omega) (at_L hc))) fun H1 e1 => ?_
    refine q_when (b := decide (c = 91)) (et_test (ev_is (ev_op (ev_var rfl) ev_c (rv_eq rfl)) (by rw [s91, eq_one]))) (fun hb H2 e2 => ?_) fun hb H2 e2 => ?_
    · have hb' : c = 91 := by simpa using hb
      subst hb'
      have hp : place 91 ((L z).drop (b + 1)) = brk ((L z).drop (b + 1)) := rfl
      rw [hp] at kN kS
      have e12 := e1.trans e2
      refine ⟨_, rfl, _, rfl, z, b, rfl, hz, hs, hc, fun h H' e => kN h H' (e12.trans e), fun p rest h T0 H' h0 e ht => kS p rest h T0 H' (fresh_back e12 h0) (e12.trans e) ht⟩
    · have hb1 : ¬ c = 91 := by simpa using hb
      refine q_when (b := decide (c = 46)) (et_test (ev_is (ev_op (ev_var rfl) ev_c (rv_eq rfl)) (by rw [s46, eq_one]))) (fun hb H3 e3 => ?_) fun hb H3 e3 => ?_
      · have hb' : c = 46 := by simpa using hb
        have hp : place c ((L z).drop (b + 1)) = some (alphL, (L z).drop (b + 1)) := by
          unfold place
          rw [if_neg hb1, if_pos hb']
        have hk := kS _ _ hp
        have hn : (((L z).length - ((L z).drop (b + 1)).length : Nat) : Int) = (b : Int) + 1 := by
          rw [List.length_drop]
          omega
        rw [hn, show TX.T alphL = alph from T_L alph] at hk
        refine s_retU (eu_tup (ea_cons ev_c (ea_cons (ev_op (ev_var rfl) ev_c rv_I0) ea_nil)) (by show 2 ≤ 100000; decide)) fun p H7 hp e7 h7 => ?_
        exact hk p H7 (fresh_back ((e1.trans e2).trans e3) hp) (((e1.trans e2).trans e3).trans e7) h7
      · have hb2 : ¬ c = 46 := by simpa using hb
        have hsg : c < 1114112 := by
          have := getD_signs hs b
          rw [List.getD_eq_getElem?_getD, hc] at this
          exact this
        have hth : ∀ {H : Hp}, Thing H (.str ⟨#[c]⟩) := ⟨by show 1 ≤ 1000; decide, by simpa using hsg⟩
        have hlt : vL (.str ⟨#[c]⟩) = small c := by
          show ([c] : List Nat).all small = small c
          simp
        refine q_when (b := !(small c)) (et_is (et_not (et_B (ev_call (ea_cons (ev_var rfl) ea_nil) (spFn fun H1 e => ⟨_, rfl, hth⟩)))) (by rw [← hlt])) (fun hb H4 e4 => ?_) fun hb H4 e4 => ?_
        · refine kN ?_ H4 (((e1.trans e2).trans e3).trans e4)
          unfold place
          rw [if_neg hb1, if_neg hb2, if_neg (by simpa using hb)]
        · have hp : place c ((L z).drop (b + 1)) = some ([c], (L z).drop (b + 1)) := by
            unfold place
            rw [if_neg hb1, if_neg hb2, if_pos (by simpa using hb)]
          have hk := kS _ _ hp
          have hn : (((L z).length - ((L z).drop (b + 1)).length : Nat) : Int) = (b : Int) + 1 := by
            rw [List.length_drop]
            omega
          rw [hn] at hk
          refine s_retU (eu_tup (ea_cons (ev_var rfl) (ea_cons (ev_op (ev_var rfl) ev_c rv_I0) ea_nil)) (by show 2 ≤ 100000; decide)) fun p H7 hp e7 h7 => ?_
          exact hk p H7 (fresh_back (((e1.trans e2).trans e3).trans e4) hp) ((((e1.trans e2).trans e3).trans e4).trans e7) h7
def spPlaces (A : Ad) : Sp := fun vs H Q E => ∃ v, vs = [v] ∧ Thing H v ∧
  (∀ z ps, v = .str z → conds (L z) = some ps → ∀ p H', H p = none → H' p = some (.lst (ps.map fun l => V.str (T l))) → Ex H H' → Q (.ref p) H') ∧
  ((∀ z, v = .str z → conds (L z) = none) → ∀ H', Ex H H' → E (.ref A.c_BadRule) none H')
theorem rv_eqI {i j : Int} {H : Hp} : RV rEq (.int i) (.int j) H (.bl (decide (i = j))) := fun H1 _ _ q => ⟨rfl, by
  have e : decide (V.int i = V.int j) = decide (i = j) := by rw [decide_eq_decide]; exact ⟨fun h => V.int.inj h, fun h => h ▸ rfl⟩
  rw [e]
  exact q H1 (Ex.refl H1)⟩
theorem ok_read_places (T : Txt K mg A) : FnOk P w K mg base (L2.CX P w) 5 A.f_read_places A.d_read_places P_read_places (spPlaces A) := by
  refine T.F_read_places.okX sc_read_places (fun vs H Q E h => ?_) (fun cdv A' outer s H vs Q E hr h => ?_)
  · obtain ⟨v, rfl, _⟩ := h
    rfl
  · obtain ⟨v, rfl, hv, kS, kN⟩ := h
    refine ⟨_, (pss_cons (ps_if (pt_not (pt_val (pe_callB call_isi (by rfl) T.n_isinstance (by decide +kernel) (pa_cons (pv 0) (pa_cons (pe_bltn (v := .ty "str") (by rfl) T.n_str (by decide +kernel) rfl) pa_nil))))) (pss_one (ps_raise rfl (takes_of rfl rfl rfl rfl) (pmk_own PySem.F.excBase_ValueError T.x_BadRule T.g_BadRule T.k_BadRule (raises_own T.s_BadRule T.t_BadRule) rfl))) pss_nil)
      (pss_cons (ps_set (i := 1) sc_read_places.nd rfl (Or.inl rfl) (pe_lst pa_nil))
      (pss_cons (ps_set (i := 2) sc_read_places.nd rfl (Or.inl rfl) pe_int)
      (pss_cons (ps_while (passes_of rfl) (pt_cmpR op_lt (pv 2) (pe_callB call_len_str (by rfl) T.n_len PySem.boot_len (pa_cons (pv 0) pa_nil)) (nomark _))
      (pss_cons (ps_if (pt_cmpR op_eq (pe_callB call_len_seq (by rfl) T.n_len PySem.boot_len (pa_cons (pv 1) pa_nil)) (pe_glob (v := .int 3) rfl (T.g_MOST_PLACES).choose_spec ⟨_, rfl⟩) (nomark _)) (pss_one (ps_raise rfl (takes_of rfl rfl rfl rfl) (pmk_own PySem.F.excBase_ValueError T.x_BadRule T.g_BadRule T.k_BadRule (raises_own T.s_BadRule T.t_BadRule) rfl))) pss_nil)
      (pss_cons (ps_asg (pe_call (E := E) (ok_read_place T) hr rfl T.g_read_place T.k_read_place T.b_read_place .nil (passes_call (takes_of rfl rfl rfl rfl) fun _ _ _ _ z => z) (pa_cons (pv 0) (pa_cons (pv 2) pa_nil))) (pg_tup (by rfl) (pgs_cons (pg_name (i := 3) sc_read_places.nd rfl (Or.inl rfl)) (pgs_cons (pg_name (i := 2) sc_read_places.nd rfl (Or.inl rfl)) pgs_nil))))
      (pss_one (ps_expr (pe_bm PySem.F.plainAttrs_list PySem.F.slot_list_append PySem.F.type_list_append mt_append (pv 1) (pa_cons (pv 3) pa_nil)))))))
      (pss_one (ps_ret (pv 1))))))), ?_⟩
    refine q_when (b := !(isStr v)) (et_not (et_B (ev_cb (ea_cons (ev_var rfl) (ea_cons ev_c ea_nil)) (rc_isStr hv)))) (fun hb H1 e1 => ?_) fun hb H1 e1 => ?_
    · refine kN (fun z hz => ?_) H1 e1
      subst hz
      cases hb
    · obtain ⟨z, rfl⟩ := isStr_eq (v := v) (by simpa using hb)
      obtain ⟨hz, hs⟩ := hv
      have hzl := len_L z
      refine q_asgL (el_lst ea_nil (by show 0 ≤ 100000; decide)) fun q H2 hq e2 h2 => q_asg ev_c fun H3 e3 => ?_
      have nq : H q = none := fresh_back e1 hq
      refine q_while (fun m σ' H' => ∃ (b : Nat) (ps : List (List Nat)) (o : Option V), σ' = [some (.str z), some (.ref q), some (.int b), o] ∧ H' q = some (.lst (ps.map fun l => V.str (TX.T l))) ∧ Ex H H' ∧
        b ≤ (L z).length ∧ ps.length ≤ 3 ∧ Upto (L z) ps ((L z).drop b) ∧ m = (L z).length - b) ((L z).length - 0) ⟨0, [], none, rfl, e3 q _ h2, (e1.trans e2).trans e3, Nat.zero_le _, by decide, Upto.start _, rfl⟩ ?_
      rintro m σ' H' ⟨b, ps, o, rfl, hq', eH, hb, hps, hu, rfl⟩
      refine ⟨decide (b < (L z).length), et_is (et_test (ev_op (ev_var rfl) (ev_cb (ea_cons (ev_var rfl) ea_nil) (rc_lenS (by omega))) rv_I0)) (by rw [decide_eq_decide]; omega), fun ht H4 e4 => ?_, fun hf H4 e4 => ?_⟩
      · have bl : b < (L z).length := by simpa using ht
        refine ⟨fun σ2 H2 => ∃ m', m' < (L z).length - b ∧ ∃ (b : Nat) (ps : List (List Nat)) (o : Option V), σ2 = [some (.str z), some (.ref q), some (.int b), o] ∧ H2 q = some (.lst (ps.map fun l => V.str (TX.T l))) ∧ Ex H H2 ∧
          b ≤ (L z).length ∧ ps.length ≤ 3 ∧ Upto (L z) ps ((L z).drop b) ∧ m' = (L z).length - b, fun _ _ h => h, ?_⟩
        have hq4 := e4 q _ hq'
        have hd : (L z).drop b = (L z)[b] :: (L z).drop (b + 1) := (List.getElem_cons_drop bl).symm
        have hc : (L z)[b]? = some (L z)[b] := List.getElem?_eq_getElem bl
        generalize (L z)[b] = c at hd hc
        rw [hd] at hu
        refine q_when (b := decide (ps.length = 3)) (et_is (et_test (ev_op (ev_cb (ea_cons (ev_var rfl) ea_nil) (rc_lenL (sq_of hq4))) ev_c rv_eqI)) (by rw [List.length_map, decide_eq_decide]; omega)) (fun h3 H5 e5 => ?_) fun h3 H5 e5 => ?_
        · refine kN (fun z' hz' => ?_) H5 ((eH.trans e4).trans e5)
          cases hz'
          exact hu.many (by have : ps.length = 3 := by simpa using h3
                            omega)
        · have h3' : ps.length < 3 := by
            have : ¬ ps.length = 3 := by simpa using h3
            omega
          have e05 := (eH.trans e4).trans e5
          refine ⟨_, rfl, _, rfl, z, b, c, rfl, hz, hs, hc, fun hn H6 e6 => ?_, fun p rest hp T0 H6 hT e6 h6 => ?_⟩
          · refine kN (fun z' hz' => ?_) H6 (e05.trans e6)
            cases hz'
            exact conds_none (hu.bad hn)
          · have hpl := place_le hp
            rw [List.length_drop] at hpl
            have hrest : rest = (L z).drop ((L z).length - rest.length) := by
              have := hpl.2
              rw [List.drop_drop] at this
              have e : b + 1 + ((L z).length - (b + 1) - rest.length) = (L z).length - rest.length := by omega
              rw [e] at this
              exact this
            refine ⟨T0, _, rfl, st_of h6, rfl, _, _, rfl, _, _, rfl, rfl, ?_⟩
            have hq6 := e6 q _ (e5 q _ hq4)
            refine s_app (l := q) hq6 (ev_var rfl) (ev_var rfl) (by rw [List.length_map]; omega) fun H7 e7 => ?_
            refine ⟨rest.length, by omega, (L z).length - rest.length, ps ++ [p], _, rfl, ?_, ?_, by omega, by rw [List.length_append, List.length_singleton]; omega, ?_, by omega⟩
            · rw [upd_same, List.map_append]
              rfl
            · exact Ex.mut ((e05.trans e6).trans e7) nq
            · rw [← hrest]
              exact hu.step hp
      · have hbl : b = (L z).length := by
          have : ¬ b < (L z).length := by simpa using hf
          omega
        subst hbl
        rw [List.drop_length] at hu
        refine s_ret (ev_var rfl) fun H5 e5 => ?_
        exact kS z ps rfl (conds_of hu.end_ (by omega)) q H5 nq (e5 q _ (e4 q _ hq')) ((eH.trans e4).trans e5)
/-! ### letters let -/
def spLet (K : PySem.W.Frag) : Sp := fun vs H Q _ => ∃ a z ps, vs = [.ref a, .str z] ∧ SqL K H a (ps.map fun l => V.str (T l)) ∧ ps.length ≤ 1000 ∧ ∀ H', Ex H H' → Q (.bl (fits ps (L z))) H'
theorem spLet_v {a : Addr} {z : Str} {ps : List (List Nat)} {H : Hp} (hS : SqL K H a (ps.map fun l => V.str (T l))) (hl : ps.length ≤ 1000) : SpV (spLet K) [.ref a, .str z] H (.bl (fits ps (L z))) :=
  fun _ e _ q _ => ⟨a, z, ps, rfl, ex_l e hS, hl, q⟩
theorem zip_map (ps : List (List Nat)) (l : List Nat) : List.zipWith (fun p c => decide (c ∈ p)) ps l = (List.range (min ps.length l.length)).map fun i => decide (l.getD i 0 ∈ ps.getD i []) := by
  apply List.ext_getElem
  · simp
  · intro i h1 h2
    simp at h1
    have h3 := Nat.lt_min.mp h1
    simp [List.getD, h3.1, h3.2]
theorem ok_are_let (T : Txt K mg A) : FnOk P w K mg base CX0 1 A.f_are_let A.d_are_let P_are_let (spLet K) := by
  refine T.F_are_let.ok sc_are_let (fun vs H Q E h => ?_) (fun cdv A' outer s H vs Q E hr h => ?_)
  · obtain ⟨a, z, ps, rfl, _⟩ := h
    rfl
  · obtain ⟨a, z, ps, rfl, hS, hl, k⟩ := h
    refine ⟨_, (pss_one (ps_ret (pe_callB (cr_all (by rfl)) (by rfl) T.n_all (by decide +kernel) (pa_cons (pe_lc (g := gTup K 2 (gCons (gName 2) (gCons (gName 3) gNil))) (own := [("let", 2), ("letter", 3)]) (by rfl) sc_are_let.nd (pi_zipS (by rfl) T.n_zip (pa_cons (pv 0) (pa_cons (pv 1) pa_nil))) (blkOk_by (own := [("let", 2), ("letter", 3)]) (N := N_are_let) (sc := defScope s_are_let) (by decide +kernel)) (fun _ _ _ _ _ => (pg_tup (by rfl) (pgs_cons (pg_name (i := 2) sc_are_let.nd rfl (Or.inl rfl)) (pgs_cons (pg_name (i := 3) sc_are_let.nd rfl (Or.inl rfl)) pgs_nil)))) (fun _ _ _ _ _ => pts_nil) (fun _ _ _ _ _ => (pe_cmpR op_in_sign (pv 3) (pv 2) (by rfl)))) pa_nil)))), ?_⟩
    refine s_ret (v := .bl (fits ps (L z))) (ev_allL (el_lcZS (fun i => V.bl (decide ((L z).getD i 0 ∈ ps.getD i []))) (a := a) (w := z) ?_ hS (by rw [List.length_map]; omega) ?_ fun i c x H2 e2 hx hc => ?_) ?_) k
    · exact ea_cons (ev_var rfl) (ea_cons (ev_var rfl) ea_nil)
    · intro _ _
      rfl
    · rw [List.getElem?_map] at hx
      have hd : (L z).getD i 0 = c := by
        show z.cps.toList.getD i 0 = c
        rw [List.getD_eq_getElem?_getD, Array.getElem?_toList, hc]
        rfl
      cases hps : ps[i]? with
      | none => rw [hps] at hx; cases hx
      | some p =>
        rw [hps] at hx
        cases hx
        have hd2 : ps.getD i [] = p := by
          rw [List.getD_eq_getElem?_getD, hps]
          rfl
        rw [hd, hd2]
        refine ev_is (ev_op (ev_var rfl) (ev_var rfl) rv_inS) ?_
        show V.bl (decide (c ∈ L (TX.T p))) = _
        rw [L_T]
    · have e : (L z).length = z.cps.size := Array.length_toList
      rw [zip_map, List.map_map, List.length_map, e]
      rfl
/-! ### a condition -/
/-- the condition's fields -/
def cFlds (q : Addr) (z : Str) : List (Str × V) := putF "told" (.str z) (putF "places" (.ref q) [])
theorem kPT : ¬ (("places" : Str) = "told") := by decide +kernel
/-- a condition at p, its places at q -/
structure CondAt (C : Addr) (H : Hp) (p : Addr) (z : Str) (ps : List (List Nat)) : Prop where
  ob : ∃ dx q, H p = some (.ins C dx (cFlds q z)) ∧ H q = some (.lst (ps.map fun l => V.str (T l)))
  rd : conds (L z) = some ps
theorem CondAt.mono {C p : Addr} {H H' : Hp} {z : Str} {ps : List (List Nat)} (c : CondAt C H p z ps) (e : Ex H H') : CondAt C H' p z ps := by
  obtain ⟨⟨dx, q, h1, h2⟩, r⟩ := c
  exact ⟨⟨dx, q, e _ _ h1, e _ _ h2⟩, r⟩
/-- the same, the places' list told -/
structure CondQ (C : Addr) (H : Hp) (p q : Addr) (z : Str) (ps : List (List Nat)) : Prop where
  ob : ∃ dx, H p = some (.ins C dx (cFlds q z))
  ls : H q = some (.lst (ps.map fun l => V.str (T l)))
  rd : conds (L z) = some ps
theorem CondQ.at {C p q : Addr} {H : Hp} {z : Str} {ps : List (List Nat)} (c : CondQ C H p q z ps) : CondAt C H p z ps := by
  obtain ⟨⟨dx, h1⟩, h2, r⟩ := c
  exact ⟨⟨dx, q, h1, h2⟩, r⟩
theorem CondQ.mono {C p q : Addr} {H H' : Hp} {z : Str} {ps : List (List Nat)} (c : CondQ C H p q z ps) (e : Ex H H') : CondQ C H' p q z ps := by
  obtain ⟨⟨dx, h1⟩, h2, r⟩ := c
  exact ⟨⟨dx, e _ _ h1⟩, e _ _ h2, r⟩
theorem CondQ.upd {C p q y : Addr} {o : HO} {H : Hp} {z : Str} {ps : List (List Nat)} (c : CondQ C H p q z ps) (h1 : p ≠ y) (h2 : q ≠ y) : CondQ C (upd H y o) p q z ps := by
  obtain ⟨⟨dx, g1⟩, g2, r⟩ := c
  exact ⟨⟨dx, by rw [upd_ne h1]; exact g1⟩, by rw [upd_ne h2]; exact g2, r⟩
theorem conds_len {l : List Nat} {ps : List (List Nat)} (h : conds l = some ps) : ps.length < 4 := by
  unfold conds at h
  cases hr : rdAll l with
  | none => rw [hr] at h; cases h
  | some x =>
    rw [hr] at h
    have h' : (if x.length < 4 then some x else none) = some ps := h
    split at h'
    · cases h'
      assumption
    · cases h'
theorem CondAt.len {C p : Addr} {H : Hp} {z : Str} {ps : List (List Nat)} (c : CondAt C H p z ps) : ps.length < 4 := conds_len c.rd
/-- Condition(told): the new object stands at x, bare -/
def spCInit (A : Ad) : Sp := fun vs H Q E => ∃ x dx v, vs = [.ref x, v] ∧ H x = some (.ins A.c_Condition dx []) ∧ Thing H v ∧
  (∀ z ps, v = .str z → conds (L z) = some ps → ∀ H' q, H q = none → CondQ A.c_Condition H' x q z ps → (∀ b o, b ≠ x → H b = some o → H' b = some o) → Q .non H') ∧
  ((∀ z, v = .str z → conds (L z) = none) → ∀ H', Ex H H' → E (.ref A.c_BadRule) none H')
theorem ok_Condition_init (T : Txt K mg A) : FnOk P w K mg base (L2.CX P w) 6 A.f_Condition_init A.d_Condition_init P_Condition_init (spCInit A) := by
  refine T.F_Condition_init.okX sc_Condition_init (fun vs H Q E h => ?_) (fun cdv A' outer s H vs Q E hr h => ?_)
  · obtain ⟨x, dx, v, rfl, _⟩ := h
    rfl
  · obtain ⟨x, dx, v, rfl, hx, hv, kS, kN⟩ := h
    refine ⟨_, (pss_cons (ps_fld (pv 0) (pe_call (E := E) (ok_read_places T) hr rfl T.g_read_places T.k_read_places T.b_read_places .nil (passes_call (takes_of rfl rfl rfl rfl) fun _ _ _ _ z => z) (pa_cons (pv 1) pa_nil)) rfl)
      (pss_one (ps_fld (pv 0) (pv 1) rfl))), ?_⟩
    refine ⟨_, rfl, v, rfl, hv, fun z ps hz hc p H' hp h' e => ?_, fun hn H' e => kN hn H' e⟩
    subst hz
    have hx' := e _ _ hx
    have npx : p ≠ x := fun q => by rw [q, hx] at hp; cases hp
    refine ⟨_, rfl, x, A.c_Condition, dx, [], rfl, hx', T.cl_Condition, T.na_Condition_places, (by show 0 < 1000; decide), ?_⟩
    refine ⟨_, rfl, _, rfl, x, A.c_Condition, dx, _, rfl, upd_same, T.cl_Condition, T.na_Condition_told, (by show 1 < 1000; decide), ?_⟩
    refine kS z ps rfl hc _ p hp ⟨⟨dx, upd_same⟩, by rw [upd_ne npx, upd_ne npx]; exact h', hc⟩ fun b o hb hh => ?_
    rw [upd_ne hb, upd_ne hb]
    exact e b o hh
def pFit (A : Ad) (vs : List V) (H : Hp) (f : List (List Nat) → List Nat → Bool) (Q : VK) : Prop := ∃ p z ps w, vs = [.ref p, .str w] ∧ CondAt A.c_Condition H p z ps ∧ w.length ≤ 1000 ∧ ∀ H', Ex H H' → Q (.bl (f ps (L w))) H'
def spEnds (A : Ad) : Sp := fun vs H Q _ => pFit A vs H fitE Q
def spBegins (A : Ad) : Sp := fun vs H Q _ => pFit A vs H fitB Q
theorem told_places {z : Str} {q : Addr} : (cFlds q z).lookup ("places" : Str) = some (.ref q) := by
  unfold cFlds
  rw [lookup_putF, if_neg kPT, lookup_putF, if_pos rfl]
theorem told_told {z : Str} {q : Addr} : (cFlds q z).lookup ("told" : Str) = some (.str z) := by
  unfold cFlds
  rw [lookup_putF, if_pos rfl]
/-- o.f -/
theorem ev_fld {σ : L2.St} {H : Hp} {ta : TE} {a C dx : Addr} {fs : List (Str × V)} {f : Str} {v : V} (h : Ev ta σ H (.ref a)) (ho : H a = some (.ins C dx fs)) (hc : Cls K C) (hn : NoAttr K C f) (hl : fs.lookup f = some v) : Ev (tFld K ta f) σ H v :=
  fun H1 e Q q => h H1 e _ fun H2 e2 => ⟨a, C, dx, fs, v, rfl, e2 _ _ (e _ _ ho), hc, hn, hl, q H2 e2⟩
theorem cut_end (z : Str) (a : Nat) (h : a ≤ (L z).length) : cutS z (some (a : Int)) none = T ((L z).drop a) := by
  unfold cutS
  have h1 : HT.sIx z.length 0 (some (a : Int)) = a := by rw [HT.sIx_nat, len_L]; omega
  have h2 : HT.sIx z.length z.length none = z.length := rfl
  rw [h1, h2, len_L]
  congr 1
  have h3 : (L z).length = z.cps.toList.length := rfl
  rw [List.take_of_length_le (by rw [List.length_drop]; omega)]
theorem cut_begin (z : Str) (b : Nat) (hb : b ≤ (L z).length) : cutS z none (some (b : Int)) = T ((L z).take b) := by
  have := cut_from z 0 b (Nat.zero_le _) hb
  unfold cutS at *
  have h1 : HT.sIx z.length 0 (some ((0 : Nat) : Int)) = 0 := by rw [HT.sIx_nat]; omega
  have h2 : HT.sIx z.length 0 none = 0 := rfl
  rw [h1] at this
  rw [h2, this, Nat.sub_zero]
  rfl
theorem ok_Condition_ends (T : Txt K mg A) : FnOk P w K mg base CX0 2 A.f_Condition_ends A.d_Condition_ends P_Condition_ends (spEnds A) := by
  refine T.F_Condition_ends.ok sc_Condition_ends (fun vs H Q E h => ?_) (fun cdv A' outer s H vs Q E hr h => ?_)
  · obtain ⟨p, z, ps, w, rfl, _⟩ := h
    rfl
  · obtain ⟨p, z, ps, w, rfl, c, hw, k⟩ := h
    refine ⟨_, (pss_cons (ps_set (i := 2) sc_Condition_ends.nd rfl (Or.inl rfl) (pe_op op_sub (pe_callB call_len_str (by rfl) T.n_len PySem.boot_len (pa_cons (pv 1) pa_nil)) (pe_callB call_len_seq (by rfl) T.n_len PySem.boot_len (pa_cons (pe_fld (pv 0) rfl) pa_nil))))
      (pss_one (ps_ret (pe_and (pe_cmpR op_ge (pv 2) pe_int (nomark _)) (pe_one (pe_call (ok_are_let T) hr rfl T.g_are_let T.k_are_let T.b_are_let .nil pass0 (pa_cons (pe_fld (pv 0) rfl) (pa_cons (pe_slice sl_str (pv 1) (po_some (pv 2)) po_none) pa_nil)))))))), ?_⟩
    have hl := c.len
    obtain ⟨⟨dx, q, h1, h2⟩, _⟩ := c
    have hwl := len_L w
    refine q_asg (v := .int ((w.length : Int) - (ps.length : Int))) (ev_is (ev_op (ev_cb (ea_cons (ev_var rfl) ea_nil) (rc_lenS (by omega))) (ev_cb (ea_cons (ev_fld (ev_var rfl) h1 T.cl_Condition T.na_Condition_places told_places) ea_nil) (rc_lenL (sq_of h2))) rv_I0) (by rw [List.length_map])) fun H1 e1 => ?_
    refine s_ret (v := .bl (fitE ps (L w))) (ev_andV (a := decide (ps.length ≤ (L w).length)) (b := fits ps ((L w).drop ((L w).length - ps.length))) (ev_is (ev_op (ev_var rfl) ev_c rv_I0) (by apply congrArg V.bl; rw [decide_eq_decide]; omega)) fun ht => ?_) fun H2 e2 => k H2 (e1.trans e2)
    have hle : ps.length ≤ (L w).length := by simpa using ht
    have e1' : ((w.length : Int) - (ps.length : Int)) = (((L w).length - ps.length : Nat) : Int) := by omega
    refine ev_is (ev_call (ea_cons (ev_fld (ev_var rfl) (e1 _ _ h1) T.cl_Condition T.na_Condition_places told_places) (ea_cons (ev_slS (ev_var rfl) (eo_some (ev_var rfl)) eo_none (by omega)) ea_nil)) (spLet_v (sq_of (e1 _ _ h2)) (by omega))) ?_
    rw [e1', cut_end w _ (by omega), L_T]
theorem ok_Condition_begins (T : Txt K mg A) : FnOk P w K mg base CX0 2 A.f_Condition_begins A.d_Condition_begins P_Condition_begins (spBegins A) := by
  refine T.F_Condition_begins.ok sc_Condition_begins (fun vs H Q E h => ?_) (fun cdv A' outer s H vs Q E hr h => ?_)
  · obtain ⟨p, z, ps, w, rfl, _⟩ := h
    rfl
  · obtain ⟨p, z, ps, w, rfl, c, hw, k⟩ := h
    refine ⟨_, (pss_cons (ps_set (i := 2) sc_Condition_begins.nd rfl (Or.inl rfl) (pe_callB call_len_seq (by rfl) T.n_len PySem.boot_len (pa_cons (pe_fld (pv 0) rfl) pa_nil)))
      (pss_one (ps_ret (pe_and (pe_cmpR op_ge (pe_callB call_len_str (by rfl) T.n_len PySem.boot_len (pa_cons (pv 1) pa_nil)) (pv 2) (nomark _)) (pe_one (pe_call (ok_are_let T) hr rfl T.g_are_let T.k_are_let T.b_are_let .nil pass0 (pa_cons (pe_fld (pv 0) rfl) (pa_cons (pe_slice sl_str (pv 1) po_none (po_some (pv 2))) pa_nil)))))))), ?_⟩
    have hl := c.len
    obtain ⟨⟨dx, q, h1, h2⟩, _⟩ := c
    have hwl := len_L w
    refine q_asg (v := .int (ps.length : Int)) (ev_is (ev_cb (ea_cons (ev_fld (ev_var rfl) h1 T.cl_Condition T.na_Condition_places told_places) ea_nil) (rc_lenL (sq_of h2))) (by rw [List.length_map])) fun H1 e1 => ?_
    refine s_ret (v := .bl (fitB ps (L w))) (ev_andV (a := decide (ps.length ≤ (L w).length)) (b := fits ps ((L w).take ps.length)) (ev_is (ev_op (ev_cb (ea_cons (ev_var rfl) ea_nil) (rc_lenS (by omega))) (ev_var rfl) rv_I0) (by apply congrArg V.bl; rw [decide_eq_decide]; omega)) fun ht => ?_) fun H2 e2 => k H2 (e1.trans e2)
    have hle : ps.length ≤ (L w).length := by simpa using ht
    refine ev_is (ev_call (ea_cons (ev_fld (ev_var rfl) (e1 _ _ h1) T.cl_Condition T.na_Condition_places told_places) (ea_cons (ev_slS (ev_var rfl) eo_none (eo_some (ev_var rfl)) (by omega)) ea_nil)) (spLet_v (sq_of (e1 _ _ h2)) (by omega))) ?_
    rw [cut_begin w _ hle, L_T]

/-! ### names of classes -/
def big (c : Nat) : Bool := decide (65 ≤ c) && decide (c ≤ 90)
def vN (m : Int) : V → Bool | .str z => decide ((z.length : Int) ≤ m) && ((L z).all big && decide (L z).Nodup) | _ => false
def pThM (vs : List V) (H : Hp) : Prop := ∃ v m, vs = [v, .int m] ∧ Thing H v
def rNames : List V → V | [v, .int m] => .bl (vN m v) | _ => .non
theorem ok_are_names (T : Txt K mg A) : FnOk P w K mg base CX0 1 A.f_are_names A.d_are_names P_are_names (SpFn pThM rNames) := by
  refine T.F_are_names.ok sc_are_names (fun vs H Q E h => ?_) (fun cdv A' outer s H vs Q E hr h => ?_)
  · obtain ⟨⟨v, m, rfl, _⟩, _⟩ := h
    rfl
  · obtain ⟨⟨v, m, rfl, hv⟩, k⟩ := h
    refine ⟨_, (pss_cons (ps_if (PW.pt (pw_or (pt_not (pt_val (pe_callB call_isi (by rfl) T.n_isinstance (by decide +kernel) (pa_cons (pv 0) (pa_cons (pe_bltn (v := .ty "str") (by rfl) T.n_str (by decide +kernel) rfl) pa_nil))))) (pw_or1 (pt_cmpR op_gt (pe_callB call_len_str (by rfl) T.n_len PySem.boot_len (pa_cons (pv 0) pa_nil)) (pv 1) (nomark _))))) (pss_one (ps_ret pe_bl)) pss_nil)
      (pss_one (ps_ret (pe_and (pe_cmpR op_eq (pe_bm PySem.F.plainAttrs_str PySem.F.slot_str_strip PySem.F.type_str_strip mt_stripChars (pv 0) (pa_cons (pe_glob (v := .str "ABCDEFGHIJKLMNOPQRSTUVWXYZ") rfl (T.g_GREAT_LETTERS).choose_spec ⟨_, rfl⟩) pa_nil)) pe_str (nomark _)) (pe_one (pe_cmpR op_eq (pe_lenSetS (by rfl) T.n_len (by rfl) T.n_set (pv 0)) (pe_callB call_len_str (by rfl) T.n_len PySem.boot_len (pa_cons (pv 0) pa_nil)) (nomark _))))))), ?_⟩
    have notStr : isStr v = false → vN m v = false := fun h => by
      cases v with
      | str z => cases h
      | _ => rfl
    refine q_when (b := !(isStr v) || (match v with | .str z => decide (m < (z.length : Int)) | _ => true)) (et_or (et_not (et_B (ev_cb (ea_cons (ev_var rfl) (ea_cons ev_c ea_nil)) (rc_isStr hv)))) fun hs => ?_) (fun hb H1 e1 => ?_) fun hb H1 e1 => ?_
    · obtain ⟨z, rfl⟩ := isStr_eq (v := v) (by simpa using hs)
      exact et_test (ev_op (ev_cb (ea_cons (ev_var rfl) ea_nil) (rc_lenS (by have := hv.1; omega))) (ev_var rfl) rv_I0)
    · refine s_ret (v := .bl false) ev_c fun H2 e2 => ?_
      have e : rNames [v, .int m] = .bl false := by
        show V.bl (vN m v) = _
        cases v with
        | str z =>
          have hb : decide (m < (z.length : Int)) = true := hb
          have hb' : ¬ (z.length : Int) ≤ m := by have := of_decide_eq_true hb; omega
          show V.bl (decide ((z.length : Int) ≤ m) && _) = _
          rw [decide_eq_false hb', Bool.false_and]
        | _ => rfl
      exact e ▸ k H2 (e1.trans e2)
    · rw [Bool.or_eq_false_iff] at hb
      obtain ⟨z, rfl⟩ := isStr_eq (v := v) (by simpa using hb.1)
      have hm : (z.length : Int) ≤ m := by
        have h2 : decide (m < (z.length : Int)) = false := hb.2
        have := of_decide_eq_false h2
        omega
      have hz : z.length ≤ 1000 := hv.1
      refine s_ret (v := .bl (vN m (.str z))) (ev_is (ev_andV (a := (L z).all big) (b := decide (L z).Nodup) (ev_is (ev_op (ev_bmS (v := .str (Txt.stripChars z gre)) (ev_var rfl) (ea_cons ev_c ea_nil) fun _ _ _ q => ⟨z, _, rfl, rfl, sz_of (Nat.le_trans hz (by decide)), q⟩) ev_c (rv_eq rfl)) (by rw [strip_gre]; rfl))
        fun _ => ev_is (ev_op (ev_lenSetS (ev_var rfl) (Nat.le_trans hz (by decide))) (ev_cb (ea_cons (ev_var rfl) ea_nil) (rc_lenS (Nat.le_trans hz (by decide)))) (rv_eq rfl)) ?_) ?_) fun H2 e2 => k H2 (e1.trans e2)
      · apply congrArg V.bl
        rw [dec_int, Bool.eq_iff_iff, beq_iff_eq, decide_eq_true_eq]
        have h1 := SetS.uniq_nodup (SetS.signsOf z)
        rw [SetS.signsOf_len, SetS.signsOf_nodup] at h1
        have h2 : z.cps.size = z.length := rfl
        rw [h2] at h1
        rw [← h1]
        omega
      · show V.bl _ = V.bl (decide ((z.length : Int) ≤ m) && _)
        rw [decide_eq_true hm, Bool.true_and]
theorem fur_iff {z : Str} : Fur (L z) ↔ (vN 3 (.str z) = true ∧ (L z).Pairwise (· ≤ ·)) := by
  have hz := len_L z
  constructor
  · rintro ⟨h1, h2, h3⟩
    refine ⟨?_, h3.imp fun h => Nat.le_of_lt h⟩
    show (decide ((z.length : Int) ≤ 3) && ((L z).all big && decide (L z).Nodup)) = true
    rw [decide_eq_true (by omega), decide_eq_true (show (L z).Nodup from h3.imp fun h => Nat.ne_of_lt h), Bool.true_and, Bool.and_true, List.all_eq_true]
    intro c hc
    have := h2 c hc
    unfold big
    rw [decide_eq_true this.1, decide_eq_true this.2]
    rfl
  · rintro ⟨h1, h2⟩
    have h1 : (decide ((z.length : Int) ≤ 3) && ((L z).all big && decide (L z).Nodup)) = true := h1
    rw [Bool.and_eq_true, Bool.and_eq_true, decide_eq_true_eq, decide_eq_true_eq, List.all_eq_true] at h1
    refine ⟨by omega, fun c hc => ?_, ?_⟩
    · have := h1.2.1 c hc
      unfold big at this
      rw [Bool.and_eq_true, decide_eq_true_eq, decide_eq_true_eq] at this
      exact this
    · exact List.Pairwise.imp (fun {a b} h => Nat.lt_of_le_of_ne h.1 h.2) (h2.and h1.2.2)

/-! ### the law's letters -/
def Few (w : Str) : Prop := lets w = true ∧ 1 ≤ w.length ∧ w.length ≤ 26
theorem few_ab : Few "ab" := by unfold Few; decide +kernel
theorem few_aeist : Few "aeist" := by unfold Few; decide +kernel
theorem few_alph : Few alph := by unfold Few; decide +kernel
theorem few_at {i : Int} (h0 : 0 ≤ i) (h1 : i < 3) : ∃ w, atI [V.str "ab", V.str "aeist", V.str alph] i = some (.str w) ∧ Few w := by
  obtain ⟨v, hv, hm⟩ := at_mem (xs := [V.str "ab", V.str "aeist", V.str alph]) h0 (by show i < 3; exact h1)
  simp only [List.mem_cons, List.not_mem_nil, or_false] at hm
  rcases hm with rfl | rfl | rfl
  · exact ⟨_, hv, few_ab⟩
  · exact ⟨_, hv, few_aeist⟩
  · exact ⟨_, hv, few_alph⟩
def spLetters (K : PySem.W.Frag) : Sp := fun vs H Q _ => ∃ (a : Addr) (ns : List Int) (at_ size : Int), vs = [.ref a, .int at_, .int size] ∧ SqL K H a (ns.map V.int) ∧ 0 ≤ at_ ∧ at_ ≤ 100000 ∧ 0 ≤ size ∧ size ≤ 100 ∧
  ∀ z H', (z.length : Int) = size → lets z = true → Ex H H' → Q (.str z) H'
theorem ok_l_letters (T : Txt K mg A) : FnOk P w K mg base CX0 3 A.f_l_letters A.d_l_letters P_l_letters (spLetters K) := by
  refine T.F_l_letters.ok sc_l_letters (fun vs H Q E h => ?_) (fun cdv A' outer s H vs Q E hr h => ?_)
  · obtain ⟨a, ns, at_, size, rfl, _⟩ := h
    rfl
  · obtain ⟨a, ns, at_, size, rfl, hS, h0, h1, h2, h3, k⟩ := h
    refine ⟨_, (pss_cons (ps_set (i := 3) sc_l_letters.nd rfl (Or.inr rfl) (pe_ix ix_list (pe_lst (pa_cons pe_str (pa_cons pe_str (pa_cons pe_str pa_nil)))) (pe_op op_mod (pe_call (ok_l_number T) hr rfl T.g_l_number T.k_l_number T.b_l_number .nil pass0 (pa_cons (pv 0) (pa_cons (pv 1) pa_nil))) pe_int) (fun _ _ => rfl)))
      (pss_one (ps_ret (pe_join pe_str (pe_lc (own := [("_law_k", 4)]) (by rfl) sc_l_letters.nd (pi_range1 rfl T.n_range (pa_cons (pv 2) pa_nil)) (blkOk_by (own := [("_law_k", 4)]) (N := N_l_letters) (sc := defScope s_l_letters) (by decide +kernel)) (fun _ _ _ _ _ => (pg_name (i := 4) sc_l_letters.nd rfl (Or.inl rfl))) (fun _ _ _ _ _ => pts_nil) (fun _ _ _ _ _ => (pe_ix ix_str (pv 3) (pe_op op_mod (pe_op op_fdiv (pe_call (ok_l_number T) hr rfl T.g_l_number T.k_l_number T.b_l_number .nil pass0 (pa_cons (pv 0) (pa_cons (pe_op op_add (pe_op op_add (pv 1) pe_int) (pv 4)) pa_nil))) pe_int) (pe_callB call_len_str (by rfl) T.n_len PySem.boot_len (pa_cons (pv 3) pa_nil))) (fun _ _ => rfl)))))))), ?_⟩
    have nb : ∀ j, 0 ≤ num ns j ∧ num ns j < 536870908 := fun j => mix_bd _ _
    obtain ⟨w, hw, ws, wl, wu⟩ := few_at (i := num ns at_ % 3) (Int.emod_nonneg _ (by decide)) (Int.emod_lt_of_pos _ (by decide))
    have hwl : w.length = w.cps.toList.length := len_L w
    refine q_asg (v := .str w) (ev_opL1 (el_lst (ea_cons ev_c (ea_cons ev_c (ea_cons ev_c ea_nil))) (by show 3 ≤ 100000; decide)) (fun H2 e2 => ev_op (ev_call (ea_cons (ev_var rfl) (ea_cons (ev_var rfl) ea_nil)) (spNum_v (ex_l e2 hS) h0 (by omega))) ev_c (rv_I (by show (0 : Int) < _; decide)))
      (fun p H2 hp e2 => rv_ixL (sq_of hp) hw)) fun H1 e1 => ?_
    refine s_ret (v := .str (drawnW w size.toNat fun i => num ns (at_ + 1 + i) / 3 % w.length)) (ev_joinL ev_c (el_lcR1 (fun _ => true) (fun i => .str (sgn w (num ns (at_ + 1 + i) / 3 % w.length))) (ea_cons (ev_var rfl) ea_nil) ⟨by omega, by omega⟩ (fun _ => rfl)
      (fun i H3 e3 hi => et_yes)
      (fun i H3 e3 hi _ => ev_sgn (ev_var rfl) (ev_op (ev_op (ev_call (ea_cons (ev_var rfl) (ea_cons (ev_op (ev_op (ev_var rfl) ev_c rv_I0) (ev_var rfl) rv_I0) ea_nil)) (spNum_v (ex_l (e1.trans e3) hS) (by omega) (by omega))) ev_c (rv_I ⟨by decide, by decide⟩))
          (ev_cb (ea_cons (ev_var rfl) ea_nil) (rc_lenS (by omega))) (rv_I (by show (0 : Int) < _; omega)))
        (by omega) (Int.emod_nonneg _ (by omega)) (by rw [← hwl]; exact Int.emod_lt_of_pos _ (by omega))))
      (by rw [given_all, List.map_map]; rfl) (by rw [sum_onesW]; omega)) fun H2 e2 => ?_
    exact k _ H2 (by rw [drawnW_len]; omega) (drawnW_lets ws _ _ fun i => ⟨Int.emod_nonneg _ (by omega), by rw [← hwl]; exact Int.emod_lt_of_pos _ (by omega)⟩) (e1.trans e2)

/-! ### the law's condition -/
theorem sub_len {α : Type} [DecidableEq α] : ∀ (l m : List α), l.Nodup → (∀ x ∈ l, x ∈ m) → l.length ≤ m.length
  | [], _, _, _ => Nat.zero_le _
  | a :: l, m, hn, hs => by
    rw [List.nodup_cons] at hn
    have h1 := sub_len l (m.erase a) hn.2 fun x hx => by
      have hne : x ≠ a := fun e => hn.1 (e ▸ hx)
      exact (List.mem_erase_of_ne hne).mpr (hs x (List.mem_cons_of_mem _ hx))
    have h2 := List.length_erase_of_mem (hs a List.mem_cons_self)
    have h3 := List.length_pos_of_mem (hs a List.mem_cons_self)
    rw [List.length_cons]
    omega
theorem alph_mem (c : Nat) : decide (c ∈ L alph) = small c := by
  rw [← letters_in c, Bool.eq_iff_iff, decide_eq_true_eq, Array.contains_iff_mem]
  exact Array.mem_toList_iff
/-- a pair of a place's text and its letters -/
def PlG (H : Hp) (x : V) (p : Str × Str) : Prop := ∃ T0, x = .ref T0 ∧ H T0 = some (.tup [.str p.1, .str p.2]) ∧ p.1.length ≤ 12 ∧ signs p.1 ∧ 1 ≤ p.2.length ∧ p.2.length ≤ 26 ∧ lets p.2 = true ∧ Good p.1 p.2
theorem PlG.mono {H H' : Hp} {x : V} {p : Str × Str} (h : PlG H x p) (e : Ex H H') : PlG H' x p := by
  obtain ⟨T0, rfl, h1, r⟩ := h
  exact ⟨T0, rfl, e _ _ h1, r⟩
theorem PlG.mut {H : Hp} {x : V} {f : Addr} {xs : List V} {o : HO} {p : Str × Str} (h : PlG H x p) (hf : H f = some (.lst xs)) : PlG (upd H f o) x p := by
  obtain ⟨T0, rfl, h1, r⟩ := h
  refine ⟨T0, rfl, ?_, r⟩
  rw [upd_ne (ne_of h1 hf (fun z => by cases z))]
  exact h1
/-- a list of such pairs -/
def PlGs (H : Hp) (xs : List V) (ps : List (Str × Str)) : Prop := xs.length = ps.length ∧ ∀ (i : Nat) (x : V) (p : Str × Str), xs[i]? = some x → ps[i]? = some p → PlG H x p
theorem PlGs.mono {H H' : Hp} {xs : List V} {ps : List (Str × Str)} (h : PlGs H xs ps) (e : Ex H H') : PlGs H' xs ps := ⟨h.1, fun i x p a b => (h.2 i x p a b).mono e⟩
theorem PlGs.nil {H : Hp} : PlGs H [] [] := ⟨rfl, fun i x p h => by simp at h⟩
theorem PlGs.snoc {H : Hp} {xs : List V} {ps : List (Str × Str)} {x : V} {p : Str × Str} (h : PlGs H xs ps) (hx : PlG H x p) : PlGs H (xs ++ [x]) (ps ++ [p]) := by
  refine ⟨by rw [List.length_append, List.length_append, h.1]; rfl, fun i y q a b => ?_⟩
  by_cases hi : i < xs.length
  · rw [List.getElem?_append_left hi] at a
    rw [List.getElem?_append_left (h.1 ▸ hi)] at b
    exact h.2 i y q a b
  · rw [List.getElem?_append_right (by omega)] at a
    rw [List.getElem?_append_right (by rw [← h.1]; omega), ← h.1] at b
    cases hk : i - xs.length with
    | zero =>
      rw [hk] at a b
      cases a
      cases b
      exact hx
    | succ n =>
      rw [hk] at a
      simp at a
theorem PlGs.mut {H : Hp} {xs ys : List V} {ps : List (Str × Str)} {f : Addr} {o : HO} (h : PlGs H xs ps) (hf : H f = some (.lst ys)) : PlGs (upd H f o) xs ps := ⟨h.1, fun i x p a b => (h.2 i x p a b).mut hf⟩
theorem flat_strs (ys : List Str) : (ys.map V.str).all flatV = true := by
  rw [List.all_map, List.all_eq_true]
  intro _ _
  rfl
theorem inV_one {d : Nat} {cs : List Nat} : inV (.str (TX.T [d])) ((cs.map fun c => TX.T [c]).map V.str) = decide (d ∈ cs) := by
  unfold inV
  rw [List.any_map, Bool.eq_iff_iff, List.any_eq_true, decide_eq_true_eq]
  constructor
  · rintro ⟨y, hy, e⟩
    obtain ⟨c, hc, rfl⟩ := List.mem_map.mp hy
    have : (TX.T [c] == TX.T [d]) = true := e
    have := T_inj (eq_of_beq this)
    simp only [List.cons.injEq, and_true] at this
    exact this ▸ hc
  · intro h
    exact ⟨TX.T [d], List.mem_map.mpr ⟨d, h, rfl⟩, by show (TX.T [d] == TX.T [d]) = true; exact beq_self_eq_true _⟩
abbrev w31 : Str := "aeist" ++ alph
theorem w31_len : w31.length = 31 := by decide +kernel
theorem w31_list : w31.cps.toList.length = 31 := by decide +kernel
theorem w31_lets : lets w31 = true := by decide +kernel
theorem ones_len (cs : List Nat) : ((cs.map fun c => TX.T [c]).map (·.length)).sum = cs.length := by
  induction cs with
  | nil => rfl
  | cons y r ih =>
    rw [List.map_cons, List.map_cons, List.sum_cons, ih, List.length_cons, len_T]
    simp only [List.length_cons, List.length_nil]
    omega
def spCond (K : PySem.W.Frag) : Sp := fun vs H Q _ => ∃ (a : Addr) (ns : List Int) (at_ : Int), vs = [.ref a, .int at_] ∧ SqL K H a (ns.map V.int) ∧ 0 ≤ at_ ∧ at_ ≤ 100000 ∧
  ∀ p xs ps H', H p = none → H' p = some (.lst xs) → ps.length ≤ 3 → PlGs H' xs ps → Ex H H' → Q (.ref p) H'
theorem alph_nodup : alphL.Nodup := by
  show alph.cps.toList.Nodup
  rw [letters_cps]
  decide
theorem ok_l_condition (T : Txt K mg A) : FnOk P w K mg base CX0 3 A.f_l_condition A.d_l_condition P_l_condition (spCond K) := by
  refine T.F_l_condition.ok sc_l_condition (fun vs H Q E h => ?_) (fun cdv A' outer s H vs Q E hr h => ?_)
  · obtain ⟨a, ns, at_, rfl, _⟩ := h
    rfl
  · obtain ⟨a, ns, at_, rfl, hS, h0, h1, kk⟩ := h
    refine ⟨_, (pss_cons (ps_set (i := 2) sc_l_condition.nd rfl (Or.inl rfl) pe_str)
      (pss_cons (ps_set (i := 3) sc_l_condition.nd rfl (Or.inl rfl) (pe_lst pa_nil))
      (pss_cons (ps_for PassesOwn.never rfl (pi_range1 rfl T.n_range (pa_cons (pe_op op_mod (pe_call (ok_l_number T) hr rfl T.g_l_number T.k_l_number T.b_l_number .nil pass0 (pa_cons (pv 0) (pa_cons (pv 1) pa_nil))) pe_int) pa_nil)) (pg_name (i := 4) sc_l_condition.nd rfl (Or.inl rfl))
      (pss_cons (ps_set (i := 5) sc_l_condition.nd rfl (Or.inr rfl) (pe_call (ok_l_number T) hr rfl T.g_l_number T.k_l_number T.b_l_number .nil pass0 (pa_cons (pv 0) (pa_cons (pe_op op_add (pe_op op_add (pv 1) pe_int) (pv 4)) pa_nil))))
      (pss_cons (ps_set (i := 6) sc_l_condition.nd rfl (Or.inr rfl) (pe_op op_add_str pe_str (pv 2)))
      (pss_cons (ps_set (i := 7) sc_l_condition.nd rfl (Or.inr rfl) (pe_lc (own := [("_law_j", 9)]) (by rfl) sc_l_condition.nd (pi_range1 rfl T.n_range (pa_cons (pe_op op_add pe_int (pe_op op_mod (pe_op op_fdiv (pv 5) pe_int) pe_int)) pa_nil)) (blkOk_by (own := [("_law_j", 9)]) (N := N_l_condition) (sc := defScope s_l_condition) (by decide +kernel)) (fun _ _ _ _ _ => (pg_name (i := 9) sc_l_condition.nd rfl (Or.inl rfl))) (fun _ _ _ _ _ => pts_nil) (fun _ _ _ _ _ => (pe_ix ix_str (pv 6) (pe_op op_mod (pe_op op_add (pe_op op_fdiv (pv 5) pe_int) (pe_op op_mul (pv 9) (pe_op op_add pe_int (pe_op op_mod (pe_op op_fdiv (pv 5) pe_int) pe_int)))) pe_int) (fun _ _ => rfl)))))
      (pss_cons (ps_set (i := 7) sc_l_condition.nd rfl (Or.inr rfl) (pe_lc (g := gTup K 2 (gCons (gName 9) (gCons (gName 10) gNil))) (own := [("_law_j", 9), ("_law_sign", 10)]) (by rfl) sc_l_condition.nd (pi_enum (by rfl) T.n_enumerate (pa_cons (pv 7) pa_nil)) (blkOk_by (own := [("_law_j", 9), ("_law_sign", 10)]) (N := N_l_condition) (sc := defScope s_l_condition) (by decide +kernel)) (fun _ _ _ _ _ => (pg_tup (by rfl) (pgs_cons (pg_name (i := 9) sc_l_condition.nd rfl (Or.inl rfl)) (pgs_cons (pg_name (i := 10) sc_l_condition.nd rfl (Or.inl rfl)) pgs_nil)))) (fun _ _ _ _ _ => pts_one (pt_cmpR (op_notIn_seqK (K := K) rfl) (pv 10) (pe_slice (sl_listK (K := K) rfl) (pv 7) po_none (po_some (pv 9))) (by rfl))) (fun _ _ _ _ _ => (pv 10))))
      (pss_cons (ps_set (i := 8) sc_l_condition.nd rfl (Or.inl rfl) (pe_join pe_str (pv 7)))
      (pss_one (ps_if (pt_cmpR op_eq (pe_op op_mod (pv 5) pe_int) pe_int (nomark _)) (pss_one (ps_expr (pe_bm PySem.F.plainAttrs_list PySem.F.slot_list_append PySem.F.type_list_append mt_append (pv 3) (pa_cons (pe_tup (pa_cons (pe_ix ix_list (pv 7) pe_int (fun _ _ => rfl)) (pa_cons (pe_ix ix_list (pv 7) pe_int (fun _ _ => rfl)) pa_nil))) pa_nil)))) (pss_one (ps_if (pt_cmpR op_eq (pe_op op_mod (pv 5) pe_int) pe_int (nomark _)) (pss_one (ps_expr (pe_bm PySem.F.plainAttrs_list PySem.F.slot_list_append PySem.F.type_list_append mt_append (pv 3) (pa_cons (pe_tup (pa_cons pe_str (pa_cons (pv 2) pa_nil))) pa_nil)))) (pss_one (ps_if (pt_cmpR op_eq (pe_op op_mod (pv 5) pe_int) pe_int (nomark _)) (pss_one (ps_expr (pe_bm PySem.F.plainAttrs_list PySem.F.slot_list_append PySem.F.type_list_append mt_append (pv 3) (pa_cons (pe_tup (pa_cons (pe_op op_add_str (pe_op op_add_str pe_str (pv 8)) pe_str) (pa_cons (pv 8) pa_nil))) pa_nil)))) (pss_one (ps_expr (pe_bm PySem.F.plainAttrs_list PySem.F.slot_list_append PySem.F.type_list_append mt_append (pv 3) (pa_cons (pe_tup (pa_cons (pe_op op_add_str (pe_op op_add_str pe_str (pv 8)) pe_str) (pa_cons (pe_join pe_str (pe_lc (own := [("_law_sign", 10)]) (by rfl) sc_l_condition.nd (pi_str (pv 2)) (blkOk_by (own := [("_law_sign", 10)]) (N := N_l_condition) (sc := defScope s_l_condition) (by decide +kernel)) (fun _ _ _ _ _ => (pg_name (i := 10) sc_l_condition.nd rfl (Or.inl rfl))) (fun _ _ _ _ _ => pts_one (pt_cmpR (op_notIn_seqK (K := K) rfl) (pv 10) (pv 7) (by rfl))) (fun _ _ _ _ _ => (pv 10)))) pa_nil))) pa_nil))))))))))))))))
      (pss_one (ps_ret (pv 3)))))), ?_⟩
    refine q_asg (v := .str alph) ev_c fun H1 e1 => q_asgL (el_lst ea_nil (by show 0 ≤ 100000; decide)) fun f H2 hf e2 h2 => ?_
    have nf : H f = none := fresh_back e1 hf
    have m0 : 0 ≤ num ns at_ % 4 := Int.emod_nonneg _ (by decide)
    have m1 : num ns at_ % 4 < 4 := Int.emod_lt_of_pos _ (by decide)
    refine q_forR1 (n := num ns at_ % 4) (ea_cons (ev_op (ev_call (ea_cons (ev_var rfl) (ea_cons (ev_var rfl) ea_nil)) (spNum_v (ex_l (e1.trans e2) hS) h0 (by omega))) ev_c (rv_I (by show (0 : Int) < _; decide))) ea_nil) ⟨m0, by omega⟩
      (fun i σ' H' => ∃ xs ps v4 v5 v6 v7 v8 v9 v10, σ' = [some (.ref a), some (.int at_), some (.str alph), some (.ref f), v4, v5, v6, v7, v8, v9, v10] ∧ Ex H H' ∧ H' f = some (.lst xs) ∧ ps.length ≤ i ∧ PlGs H' xs ps)
      (fun H3 e3 => ⟨[], [], none, none, none, none, none, none, none, rfl, (e1.trans e2).trans e3, e3 _ _ h2, Nat.le_refl _, PlGs.nil⟩) ?_ ?_
    · rintro i σ' H' hi ⟨xs, ps, v4, v5, v6, v7, v8, v9, v10, rfl, eH, hfx, hxl, hxp⟩
      have hxn := hxp.1
      have cb : 0 ≤ num ns (at_ + 1 + i) := (mix_bd _ _).1
      generalize hcc : num ns (at_ + 1 + i) = c at cb
      have s0 : 0 ≤ 1 + c / 1000 % 8 := by omega
      have s1 : 1 + c / 1000 % 8 ≤ 8 := by omega
      have nm : ∀ {H1 : Hp}, Ex H' H1 → SpV (spNum K) [.ref a, .int (at_ + 1 + i)] H1 (.int c) := fun e => hcc ▸ spNum_v (ex_l (eH.trans e) hS) (by omega) (by omega)
      refine q_asg (v := .int c) (ev_call (ea_cons (ev_var rfl) (ea_cons (ev_op (ev_op (ev_var rfl) ev_c rv_I0) (ev_var rfl) rv_I0) ea_nil)) (nm (Ex.refl _))) fun H3 e3 => ?_
      refine q_asg (v := .str w31) (ev_op ev_c (ev_var rfl) (rv_addS (by decide +kernel))) fun H4 e4 => ?_
      refine q_asgL (xs := ((List.range (1 + c / 1000 % 8).toNat).map fun (j : Nat) => sgn w31 ((c / 8 + (j : Int) * (1 + c / 300 % 3)) % 31)).map V.str) (el_is (el_lcR1 (fun _ => true) (fun j => .str (sgn w31 ((c / 8 + (j : Int) * (1 + c / 300 % 3)) % 31))) (ea_cons (ev_op ev_c (ev_op (ev_op (ev_var rfl) ev_c (rv_I ⟨by decide, by decide⟩)) ev_c (rv_I (by show (0 : Int) < _; decide))) rv_I0) ea_nil) ⟨by omega, by omega⟩ (fun _ => rfl)
        (fun j H5 e5 hj => et_yes)
        (fun j H5 e5 hj _ => ev_sgn (ev_var rfl) (ev_op (ev_op (ev_op (ev_var rfl) ev_c (rv_I ⟨by decide, by decide⟩)) (ev_op (ev_var rfl) (ev_op ev_c (ev_op (ev_op (ev_var rfl) ev_c (rv_I ⟨by decide, by decide⟩)) ev_c (rv_I (by show (0 : Int) < _; decide))) rv_I0) (rv_I (.inl ⟨by omega, by omega⟩))) rv_I0) ev_c (rv_I (by show (0 : Int) < _; decide)))
          (by rw [w31_len]; decide) (Int.emod_nonneg _ (by decide)) (by rw [w31_list]; exact Int.emod_lt_of_pos _ (by decide)))) (by rw [given_all, List.map_map]; rfl)) fun p1 H5 _ e5 h5 => ?_
      have wl : ((List.range (1 + c / 1000 % 8).toNat).map fun (j : Nat) => sgn w31 ((c / 8 + (j : Int) * (1 + c / 300 % 3)) % 31)).length = (1 + c / 1000 % 8).toNat := by rw [List.length_map, List.length_range]
      have wo : ∀ y ∈ ((List.range (1 + c / 1000 % 8).toNat).map fun (j : Nat) => sgn w31 ((c / 8 + (j : Int) * (1 + c / 300 % 3)) % 31)), One y := by
        intro y hy
        obtain ⟨j, _, rfl⟩ := List.mem_map.mp hy
        exact sgn_small w31_lets (Int.emod_nonneg _ (by decide)) (by rw [w31_list]; exact Int.emod_lt_of_pos _ (by decide))
      generalize ((List.range (1 + c / 1000 % 8).toNat).map fun (j : Nat) => sgn w31 ((c / 8 + (j : Int) * (1 + c / 300 % 3)) % 31)) = ws at h5 wl wo
      obtain ⟨cs, hys, y1, y2, cS, cN⟩ := dedup_one (ws := ws) (by omega) wo
      refine q_asgL (xs := (cs.map fun c => TX.T [c]).map V.str) (el_is (el_lcE (xs := ws.map V.str) (fun j => !inV (.str (ws.getD j "")) (cutV (ws.map V.str) none (some (j : Int)))) (fun j => .str (ws.getD j "")) (ea_cons (ev_var rfl) ea_nil) (sq_of h5) (by rw [List.length_map]; omega) (fun _ _ => rfl)
        (fun j x H6 e6 hx => ?_) (fun j x H6 e6 hx _ => ?_)) (by rw [List.length_map]; exact hys)) fun p2 H6 _ e6 h6 => ?_
      · have hx2 : x = .str (ws.getD j "") := by
          rw [List.getElem?_map] at hx
          cases hw : ws[j]? with
          | none => rw [hw] at hx; cases hx
          | some y => rw [hw] at hx; cases hx; rw [List.getD_eq_getElem?_getD, hw]; rfl
        subst hx2
        refine et_test (ev_opL (ev_var rfl) (el_sl (ev_var rfl) eo_none (eo_some (ev_var rfl)) (sq_of (e6 _ _ h5))) fun p H7 hp e7 => rv_niL (sq_of hp) rfl ?_)
        rw [List.all_eq_true]
        intro v hv
        have hv2 : v ∈ ws.map V.str := by
          unfold cutV at hv
          exact List.mem_of_mem_drop (List.mem_of_mem_take hv)
        obtain ⟨y, _, rfl⟩ := List.mem_map.mp hv2
        rfl
      · have hx2 : x = .str (ws.getD j "") := by
          rw [List.getElem?_map] at hx
          cases hw : ws[j]? with
          | none => rw [hw] at hx; cases hx
          | some y => rw [hw] at hx; cases hx; rw [List.getD_eq_getElem?_getD, hw]; rfl
        subst hx2
        exact ev_var rfl
      have yl := ones_len cs
      have c8 : cs.length ≤ 8 := by omega
      refine q_asg (v := .str (TX.T cs)) (ev_is (ev_joinV ev_c (ev_var rfl) (sq_of h6) (by rw [emp_len, Nat.mul_zero, Nat.add_zero, yl]; omega)) (by rw [join_ones])) fun H7 e7 => ?_
      have jl : (TX.T cs).length = cs.length := len_T cs
      have js : lets (TX.T cs) = true := lets_T.mpr cS
      have jg := lets_signs js
      have e37 := (((e3.trans e4).trans e5).trans e6).trans e7
      have hf7 := e37 _ _ hfx
      have h67 := e7 _ _ h6
      have fin : ∀ {H8 : Hp} {T0 : Addr} {t l : Str}, Ex H' H8 → H8 T0 = some (.tup [.str t, .str l]) → t.length ≤ 12 → signs t → 1 ≤ l.length → l.length ≤ 26 → lets l = true → Good t l → ∀ v8 v9 v10,
          ∃ xs' ps' v4 v5 v6 v7 v8' v9' v10', ([some (.ref a), some (.int at_), some (.str alph), some (.ref f), some (.int (i : Int)), some (.int c), some (.str w31), some (.ref p2), v8, v9, v10] : L2.St) = [some (.ref a), some (.int at_), some (.str alph), some (.ref f), v4, v5, v6, v7, v8', v9', v10'] ∧ Ex H (upd H8 f (.lst (xs ++ [.ref T0]))) ∧
            upd H8 f (.lst (xs ++ [.ref T0])) f = some (.lst xs') ∧ ps'.length ≤ i + 1 ∧ PlGs (upd H8 f (.lst (xs ++ [.ref T0]))) xs' ps' := by
        intro H8 T0 t l e8 ht t1 t2 l1 l2 l3 l4 v8 v9 v10
        have hf8 := e8 _ _ hfx
        refine ⟨xs ++ [.ref T0], ps ++ [(t, l)], _, _, _, _, _, _, _, rfl, Ex.mut (eH.trans e8) nf, upd_same, by rw [List.length_append, List.length_singleton]; omega, ?_⟩
        exact ((hxp.mono e8).snoc ⟨T0, rfl, ht, t1, t2, l1, l2, l3, l4⟩).mut hf8
      have m4 : ∀ {H8 : Hp} {σ : L2.St} {d : Int}, σ[5]? = some (some (.int c)) → Ev (tOp rEq (tOp (rI (fun x j => 0 < j) fun i j => V.int (i % j)) (tVar 5) (tC (V.int 4))) (tC (V.int d))) σ H8 (.bl (decide (c % 4 = d))) := fun h5 => ev_op (ev_op (ev_var h5) ev_c (rv_I (by show (0 : Int) < _; decide))) ev_c rv_eqI
      refine s_if (et_test (m4 rfl)) (fun _ H8 e8 => ?_) fun _ H8 e8 => ?_
      · have hy0 : ((cs.map fun c => TX.T [c]).map V.str)[0]? = some (.str (TX.T [cs[0]'(by omega)])) := by rw [List.getElem?_map, List.getElem?_map, List.getElem?_eq_getElem (by omega)]; rfl
        have hyo := cS _ (List.getElem_mem (show 0 < cs.length by omega))
        generalize cs[0]'(by omega) = d0 at hy0 hyo
        have hy1 : lets (TX.T [d0]) = true := lets_T.mpr fun x hx => by rw [List.mem_singleton] at hx; exact hx ▸ hyo
        have hyl : (TX.T [d0]).length = 1 := len_T [d0]
        have ix : ∀ {σ : L2.St}, σ[7]? = some (some (.ref p2)) → Ev (tOp (rIxL K) (tVar 7) (tC (V.int 0))) σ H8 (.str (TX.T [d0])) := fun h => ev_op (ev_var h) ev_c (rv_ixL (sq_of (e8 _ _ h67)) (atI_nat (j := 0) hy0))
        refine s_appU (xs := xs) (e8 _ _ hf7) (ev_var rfl) (eu_tup (ea_cons (ix rfl) (ea_cons (ix rfl) ea_nil)) (by show 2 ≤ 100000; decide)) (by omega) fun T0 H9 _ e9 h9 => ?_
        exact fin ((e37.trans e8).trans e9) h9 (by omega) (lets_signs hy1) (by omega) (by omega) hy1 (good_one hyo) _ _ _
      · refine s_if (et_test (m4 rfl)) (fun _ H9 e9 => ?_) fun _ H9 e9 => ?_
        · refine s_appU (xs := xs) (e9 _ _ (e8 _ _ hf7)) (ev_var rfl) (eu_tup (ea_cons ev_c (ea_cons (ev_var rfl) ea_nil)) (by show 2 ≤ 100000; decide)) (by omega) fun T0 H10 _ e10 h10 => ?_
          exact fin (((e37.trans e8).trans e9).trans e10) h10 (by decide +kernel) (by unfold signs; decide +kernel) (by rw [alph_len]; decide) (by rw [alph_len]; decide) (by decide +kernel) good_dot _ _ _
        · refine s_if (et_test (m4 rfl)) (fun _ H10 e10 => ?_) fun _ H10 e10 => ?_
          · have o1 : ("[" : Str).length = 1 := by decide +kernel
            have o2 : ("]" : Str).length = 1 := by decide +kernel
            have o3 : signs ("[" : Str) := by unfold signs; decide +kernel
            have o4 : signs ("]" : Str) := by unfold signs; decide +kernel
            refine s_appU (xs := xs) (e10 _ _ (e9 _ _ (e8 _ _ hf7))) (ev_var rfl) (eu_tup (ea_cons (ev_op (ev_op ev_c (ev_var rfl) (rv_addS (by omega))) ev_c (rv_addS (by rw [Str.length_append]; omega))) (ea_cons (ev_var rfl) ea_nil)) (by show 2 ≤ 100000; decide)) (by omega) fun T0 H11 _ e11 h11 => ?_
            exact fin ((((e37.trans e8).trans e9).trans e10).trans e11) h11 (by rw [Str.length_append, Str.length_append]; omega) (signs_add (signs_add o3 jg) o4) (by omega) (by omega) js (good_in cS cN y1 c8) _ _ _
          · have o1 : ("[^" : Str).length = 2 := by decide +kernel
            have o2 : ("]" : Str).length = 1 := by decide +kernel
            have o3 : signs ("[^" : Str) := by unfold signs; decide +kernel
            have o4 : signs ("]" : Str) := by unfold signs; decide +kernel
            have h610 := e10 _ _ (e9 _ _ (e8 _ _ h67))
            have hoS : ∀ d ∈ others cs, small d = true := fun d hd => by
              have h5 := (List.mem_filter.mp hd).1
              rw [← alph_mem]
              simpa using h5
            have r1 : 1 ≤ (others cs).length := by
              refine Nat.pos_of_ne_zero fun hz => ?_
              have hnil := List.filter_eq_nil_iff.mp (List.length_eq_zero_iff.mp hz)
              have h3 : alphL.length ≤ cs.length := sub_len _ _ alph_nodup fun x hx => by simpa using hnil x hx
              have h4 : alphL.length = 26 := alph_list
              omega
            have r2 : (others cs).length ≤ 26 := by
              have h4 : alphL.length = 26 := alph_list
              have := List.length_filter_le (fun d => !decide (d ∈ cs)) alphL
              unfold others
              omega
            have r4 := ones_len (others cs)
            have r5 : (TX.T (others cs)).length = (others cs).length := len_T _
            refine s_appU (xs := xs) (e10 _ _ (e9 _ _ (e8 _ _ hf7))) (ev_var rfl) (eu_tup (ea_cons (ev_op (ev_op ev_c (ev_var rfl) (rv_addS (by omega))) ev_c (rv_addS (by rw [Str.length_append]; omega))) (ea_cons (ev_is (ev_joinL (ys := (others cs).map fun d => TX.T [d]) ev_c (el_lcS (w := alph) (fun j => !decide (alphL.getD j 0 ∈ cs)) (fun j => .str (TX.T [alphL.getD j 0])) (ev_var rfl) (by decide +kernel) (fun _ => rfl)
              (fun j d H11 e11 hd => ?_) (fun j d H11 e11 hd _ => ?_)) ?_ ?_) (congrArg V.str (join_ones (others cs)))) ea_nil)) (by show 2 ≤ 100000; decide)) (by omega) fun T0 H11 _ e11 h11 => ?_
            · have hd2 : alphL.getD j 0 = d := by
                show alph.cps.toList.getD j 0 = d
                rw [List.getD_eq_getElem?_getD, Array.getElem?_toList, hd]
                rfl
              rw [hd2]
              refine et_test (ev_is (ev_op (ev_var rfl) (ev_var rfl) (rv_niL (sq_of (e11 _ _ h610)) rfl (flat_strs _))) ?_)
              rw [show (.str (⟨#[d]⟩ : Str) : V) = .str (TX.T [d]) from rfl, inV_one]
            · have hd2 : alphL.getD j 0 = d := by
                show alph.cps.toList.getD j 0 = d
                rw [List.getD_eq_getElem?_getD, Array.getElem?_toList, hd]
                rfl
              rw [hd2]
              exact ev_var rfl
            · rw [given_of alphL (fun d => !decide (d ∈ cs)) (fun d => V.str (TX.T [d])) _ (by show alph.cps.size = alph.cps.toList.length; rw [Array.length_toList]), List.map_map]
              rfl
            · rw [emp_len, Nat.mul_zero, Nat.add_zero, r4]
              omega
            · exact fin ((((e37.trans e8).trans e9).trans e10).trans e11) h11 (by rw [Str.length_append, Str.length_append]; omega) (signs_add (signs_add o3 jg) o4) (by omega) (by omega) (lets_T.mpr hoS) (good_out cS cN y1 c8) _ _ _
    · rintro σ' H' ⟨xs, ps, v4, v5, v6, v7, v8, v9, v10, rfl, eH, hfx, hxl, hxp⟩
      refine s_ret (ev_var rfl) fun H3 e3 => kk f xs ps H3 nf (e3 _ _ hfx) (by omega) (hxp.mono e3) (eH.trans e3)

/-! ### a condition's text -/
def txt (ps : List (Str × Str)) : Str := Txt.join "" (ps.map Prod.fst)
theorem txt_len {H : Hp} {xs : List V} {ps : List (Str × Str)} (h : PlGs H xs ps) (hl : ps.length ≤ 3) : (txt ps).length ≤ 36 ∧ signs (txt ps) := by
  have hp : ∀ p ∈ ps, p.1.length ≤ 12 ∧ signs p.1 := fun p hp => by
    obtain ⟨i, hi, rfl⟩ := List.mem_iff_getElem.mp hp
    obtain ⟨T0, _, _, t1, t2, _⟩ := h.2 i (xs[i]'(by rw [h.1]; exact hi)) _ (List.getElem?_eq_getElem _) (List.getElem?_eq_getElem hi)
    exact ⟨t1, t2⟩
  refine ⟨?_, join_signs fun y hy => ?_⟩
  · unfold txt
    rw [join_len]
    have := sum_le (n := 12) (ys := ps.map Prod.fst) fun y hy => by
      obtain ⟨p, hq, rfl⟩ := List.mem_map.mp hy
      exact (hp p hq).1
    rw [List.length_map] at this
    have : ps.length * 12 ≤ 36 := by omega
    omega
  · obtain ⟨p, hq, rfl⟩ := List.mem_map.mp hy
    exact (hp p hq).2
theorem txt_conds {H : Hp} {xs : List V} {ps : List (Str × Str)} (h : PlGs H xs ps) (hl : ps.length ≤ 3) : conds (L (txt ps)) = some (ps.map fun p => L p.2) := by
  refine conds_goods (fun p hp => ?_) hl
  obtain ⟨i, hi, rfl⟩ := List.mem_iff_getElem.mp hp
  obtain ⟨T0, _, _, _, _, _, _, _, g⟩ := h.2 i (xs[i]'(by rw [h.1]; exact hi)) _ (List.getElem?_eq_getElem _) (List.getElem?_eq_getElem hi)
  exact g
def spWritten (K : PySem.W.Frag) : Sp := fun vs H Q _ => ∃ (a : Addr) (xs : List V) (ps : List (Str × Str)), vs = [.ref a] ∧ SqL K H a xs ∧ PlGs H xs ps ∧ ps.length ≤ 3 ∧ ∀ H', Ex H H' → Q (.str (txt ps)) H'
theorem spWritten_v {a : Addr} {xs : List V} {ps : List (Str × Str)} {H : Hp} (hS : SqL K H a xs) (hp : PlGs H xs ps) (hl : ps.length ≤ 3) : SpV (spWritten K) [.ref a] H (.str (txt ps)) :=
  fun _ e _ q _ => ⟨a, xs, ps, rfl, ex_l e hS, hp.mono e, hl, q⟩
theorem ok_l_written (T : Txt K mg A) : FnOk P w K mg base CX0 1 A.f_l_written A.d_l_written P_l_written (spWritten K) := by
  refine T.F_l_written.ok sc_l_written (fun vs H Q E h => ?_) (fun cdv A' outer s H vs Q E hr h => ?_)
  · obtain ⟨a, xs, ps, rfl, _⟩ := h
    rfl
  · obtain ⟨a, xs, ps, rfl, hS, hp, hl, k⟩ := h
    refine ⟨_, (pss_one (ps_ret (pe_join pe_str (pe_lc (own := [("_law_place", 1)]) (by rfl) sc_l_written.nd (pi_list (pv 0)) (blkOk_by (own := [("_law_place", 1)]) (N := N_l_written) (sc := defScope s_l_written) (by decide +kernel)) (fun _ _ _ _ _ => (pg_name (i := 1) sc_l_written.nd rfl (Or.inl rfl))) (fun _ _ _ _ _ => pts_nil) (fun _ _ _ _ _ => (pe_ix (ix_tupK (K := K) rfl) (pv 1) pe_int (fun _ _ => rfl))))))), ?_⟩
    have tl := txt_len hp hl
    refine s_ret (ev_joinL (ys := ps.map Prod.fst) ev_c (el_lcL (fun _ => true) (fun i => .str ((ps.getD i ("", "")).1)) (ev_var rfl) hS (by rw [hp.1]; omega) (fun _ => rfl) (fun i x H1 e1 hx => et_yes) (fun i x H1 e1 hx _ => ?_)) ?_ ?_) k
    · have hi : i < ps.length := hp.1 ▸ (List.getElem?_eq_some_iff.mp hx).1
      obtain ⟨T0, rfl, h1, _⟩ := (hp.2 i x _ hx (List.getElem?_eq_getElem hi)).mono e1
      rw [List.getD_eq_getElem?_getD, List.getElem?_eq_getElem hi]
      exact ev_op (ev_var rfl) ev_c (rv_ixT (st_of h1) (atI_nat (j := 0) rfl))
    · rw [given_all, hp.1, List.map_map]
      apply List.ext_getElem
      · simp
      · intro i h1 h2
        simp at h1
        simp [List.getD, h1]
    · have := tl.1
      unfold txt at this
      rw [join_len] at this
      rw [emp_len]
      omega

/-! ### a rule's parts -/
structure Good4 (c a : Str) (ps : List (Str × Str)) (g : List Nat) : Prop where
  c1 : lets c = true
  c4 : c.length ≤ 4
  a1 : lets a = true
  a6 : a.length ≤ 6
  ne : c ≠ a
  p3 : ps.length ≤ 3
  fu : Fur g
/-- the parts as the law holds them -/
def PartsAt (H : Hp) (v : V) (c a : Str) (ps : List (Str × Str)) (g : List Nat) : Prop := ∃ T0 pa xs, v = .ref T0 ∧ H T0 = some (.tup [.str c, .str a, .ref pa, .str (TX.T g)]) ∧ H pa = some (.lst xs) ∧ PlGs H xs ps
/-- the same, the list of places told -/
def PartsQ (H : Hp) (v : V) (pa : Addr) (c a : Str) (ps : List (Str × Str)) (g : List Nat) : Prop := ∃ T0 xs, v = .ref T0 ∧ H T0 = some (.tup [.str c, .str a, .ref pa, .str (TX.T g)]) ∧ H pa = some (.lst xs) ∧ PlGs H xs ps
theorem PartsQ.at {H : Hp} {v : V} {pa : Addr} {c a : Str} {ps : List (Str × Str)} {g : List Nat} (h : PartsQ H v pa c a ps g) : PartsAt H v c a ps g := by
  obtain ⟨T0, xs, rfl, h1, h2, h3⟩ := h
  exact ⟨T0, pa, xs, rfl, h1, h2, h3⟩
theorem PartsQ.mono {H H' : Hp} {v : V} {pa : Addr} {c a : Str} {ps : List (Str × Str)} {g : List Nat} (h : PartsQ H v pa c a ps g) (e : Ex H H') : PartsQ H' v pa c a ps g := by
  obtain ⟨T0, xs, rfl, h1, h2, h3⟩ := h
  exact ⟨T0, xs, rfl, e _ _ h1, e _ _ h2, h3.mono e⟩
theorem PartsQ.upd {H : Hp} {v : V} {pa p : Addr} {c a : Str} {ps : List (Str × Str)} {g : List Nat} {ys : List V} {o : HO} (h : PartsQ H v pa c a ps g) (hp : H p = some (.lst ys)) (hn : pa ≠ p) : PartsQ (upd H p o) v pa c a ps g := by
  obtain ⟨T0, xs, rfl, h1, h2, h3⟩ := h
  refine ⟨T0, xs, rfl, ?_, by rw [upd_ne hn]; exact h2, h3.1, fun i x q a b => (h3.2 i x q a b).mut hp⟩
  rw [upd_ne (ne_of h1 hp (fun z => by cases z))]
  exact h1
theorem PartsAt.mono {H H' : Hp} {v : V} {c a : Str} {ps : List (Str × Str)} {g : List Nat} (h : PartsAt H v c a ps g) (e : Ex H H') : PartsAt H' v c a ps g := by
  obtain ⟨T0, pa, xs, rfl, h1, h2, h3⟩ := h
  exact ⟨T0, pa, xs, rfl, e _ _ h1, e _ _ h2, h3.mono e⟩
theorem eq_str {a b : Str} : decide (V.str a = V.str b) = decide (a = b) := by
  rw [decide_eq_decide]
  exact ⟨fun h => V.str.inj h, fun h => h ▸ rfl⟩
/-! ### spoilt parts -/
def isCond (z : Str) : Prop := ∃ ps, conds (L z) = some ps
def isFur (z : Str) : Prop := Fur (L z)
instance decFur (g : List Nat) : Decidable (Fur g) := by unfold Fur; infer_instance
/-- cut, put and condition as they should be -/
def GoodR (x y u : V) : Prop := ∃ c a k, x = .str c ∧ y = .str a ∧ u = .str k ∧ lets c = true ∧ c.length ≤ 4 ∧ lets a = true ∧ a.length ≤ 6 ∧ c ≠ a ∧ isCond k
def GoodF (x : V) : Prop := ∃ f, x = .str f ∧ isFur f
theorem signs_fur {g : List Nat} (h : Fur g) : signs (TX.T g) := by
  unfold signs
  show (L (TX.T g)).all _ = true
  rw [L_T, List.all_eq_true]
  intro x hx
  have := h.2.1 x hx
  simp only [decide_eq_true_eq]
  omega

theorem Ex.made {H : Hp} {x dx : Addr} {o1 o2 : HO} (h1 : H x = none) (h2 : H dx = none) (h3 : dx ≠ x) : Ex H (upd (upd H dx o1) x o2) :=
  (Ex.new h2).trans (Ex.new (by rw [upd_ne (Ne.symm h3)]; exact h1))
/-! ### the makings, as promised -/
def Kept (H H' : Hp) (x : Addr) : Prop := ∀ b o, b ≠ x → H b = some o → H' b = some o
theorem Kept.of {H H' : Hp} {x : Addr} (e : Ex H H') : Kept H H' x := fun b o _ h => e b o h
theorem Kept.trans {H H1 H2 : Hp} {x : Addr} (a : Kept H H1 x) (b : Kept H1 H2 x) : Kept H H2 x := fun c o hc h => b c o hc (a c o hc h)
theorem Kept.upd {H : Hp} {x : Addr} {o : HO} : Kept H (upd H x o) x := fun b o hb h => by rw [upd_ne hb]; exact h
/-- a class of rules -/
structure RCls (K : PySem.W.Frag) (C : Addr) : Prop where
  cl : Cls K C
  n1 : NoAttr K C "condition"
  n2 : NoAttr K C "cut"
  n3 : NoAttr K C "added"
/-- a rule's fields -/
def rFlds (o : Addr) (c a : Str) : List (Str × V) := putF "condition" (.ref o) (putF "added" (.str a) (putF "cut" (.str c) []))
/-- Rule.__init__: the new object stands at x, bare -/
def spRInit (K : PySem.W.Frag) (A : Ad) : Sp := fun vs H Q E => ∃ x dx b0 b1 b2 C, vs = [.ref x, b0, b1, b2] ∧ H x = some (.ins C dx []) ∧ RCls K C ∧ Thing H b0 ∧ Thing H b1 ∧ Thing H b2 ∧
  (GoodR b0 b1 b2 → ∀ c a k ps o q H', H q = none → b0 = .str c → b1 = .str a → b2 = .str k → H' x = some (.ins C dx (rFlds o c a)) → CondQ A.c_Condition H' o q k ps → o ≠ x → Kept H H' x → Q .non H') ∧ (¬ GoodR b0 b1 b2 → ∀ H', Kept H H' x → E (.ref A.c_BadRule) none H')
def eFlds (o : Addr) (c a f : Str) : List (Str × V) := putF "further" (.str f) (rFlds o c a)
def spEInit (K : PySem.W.Frag) (A : Ad) : Sp := fun vs H Q E => ∃ x dx b0 b1 b2 b3, vs = [.ref x, b0, b1, b2, b3] ∧ H x = some (.ins A.c_Ending dx []) ∧ Thing H b0 ∧ Thing H b1 ∧ Thing H b2 ∧ Thing H b3 ∧
  (GoodR b0 b1 b2 → GoodF b3 → ∀ c a k f ps o q H', H q = none → b0 = .str c → b1 = .str a → b2 = .str k → b3 = .str f → H' x = some (.ins A.c_Ending dx (eFlds o c a f)) → CondQ A.c_Condition H' o q k ps → o ≠ x → Kept H H' x → Q .non H') ∧
  (¬ (GoodR b0 b1 b2 ∧ GoodF b3) → ∀ H', Kept H H' x → E (.ref A.c_BadRule) none H')

/-! ### parts of a rule -/
def vP (m : Int) : V → Bool | .str z => lets z && decide ((z.length : Int) ≤ m) | _ => false
def spNeed (A : Ad) : Sp := fun vs H Q E => ∃ v m, vs = [v, .int m] ∧ Thing H v ∧ (vP m v = true → ∀ H', Ex H H' → Q .non H') ∧ (vP m v = false → ∀ H', Ex H H' → E (.ref A.c_BadRule) none H')
theorem ok_need_letters (T : Txt K mg A) : FnOk P w K mg base (L2.CX P w) 2 A.f_need_letters A.d_need_letters P_need_letters (spNeed A) := by
  refine T.F_need_letters.okX sc_need_letters (fun vs H Q E h => ?_) (fun cdv A' outer s H vs Q E hr h => ?_)
  · obtain ⟨v, m, rfl, _⟩ := h
    rfl
  · obtain ⟨v, m, rfl, hv, kS, kN⟩ := h
    refine ⟨_, (pss_one (ps_if (PW.pt (pw_or (pt_not (pt_val (pe_call (ok_are_letters T) hr rfl T.g_are_letters T.k_are_letters T.b_are_letters .nil pass0 (pa_cons (pv 0) pa_nil)))) (pw_or1 (pt_cmpR op_gt (pe_callB call_len_str (by rfl) T.n_len PySem.boot_len (pa_cons (pv 0) pa_nil)) (pv 1) (nomark _))))) (pss_one (ps_raise rfl (takes_of rfl rfl rfl rfl) (pmk_own PySem.F.excBase_ValueError T.x_BadRule T.g_BadRule T.k_BadRule (raises_own T.s_BadRule T.t_BadRule) rfl))) pss_nil)), ?_⟩
    refine s_when (b := !(vP m v)) (et_is (et_or (a := !(vL v)) (b := !(vP m v)) (et_not (et_B (ev_call (ea_cons (ev_var rfl) ea_nil) (spFn fun H1 e => ⟨v, rfl, hv.mono e⟩)))) fun hl => ?_) ?_) (fun hb H1 e1 => ?_) fun hb H1 e1 => ?_
    · cases v with
      | str z =>
        refine et_is (et_test (ev_op (ev_cb (ea_cons (ev_var rfl) ea_nil) (rc_lenS (by have := hv.1; omega))) (ev_var rfl) rv_I0)) ?_
        have hl : (!(lets z)) = false := hl
        have hl : lets z = true := by simpa using hl
        show decide (m < (z.length : Int)) = !(lets z && decide ((z.length : Int) ≤ m))
        rw [hl, Bool.true_and, ← decide_not, decide_eq_decide]
        omega
      | _ => cases hl
    · cases v with
      | str z =>
        show (!(lets z) || !(lets z && decide ((z.length : Int) ≤ m))) = !(lets z && decide ((z.length : Int) ≤ m))
        cases lets z <;> rfl
      | _ => rfl
    · exact kN (by simpa using hb) H1 e1
    · exact kS (by simpa using hb) H1 e1
theorem goodR_iff {x y u : V} : GoodR x y u ↔ (vP 4 x = true ∧ vP 6 y = true ∧ x ≠ y ∧ ∃ k, u = .str k ∧ isCond k) := by
  constructor
  · rintro ⟨c, a, k, rfl, rfl, rfl, h1, h2, h3, h4, h5, h6⟩
    refine ⟨?_, ?_, fun e => h5 (V.str.inj e), k, rfl, h6⟩
    · show (lets c && decide ((c.length : Int) ≤ 4)) = true
      rw [h1, Bool.true_and, decide_eq_true_eq]
      omega
    · show (lets a && decide ((a.length : Int) ≤ 6)) = true
      rw [h3, Bool.true_and, decide_eq_true_eq]
      omega
  · rintro ⟨h1, h2, h3, k, rfl, h4⟩
    cases x with
    | str c =>
      cases y with
      | str a =>
        have h1 : (lets c && decide ((c.length : Int) ≤ 4)) = true := h1
        have h2 : (lets a && decide ((a.length : Int) ≤ 6)) = true := h2
        rw [Bool.and_eq_true, decide_eq_true_eq] at h1 h2
        exact ⟨c, a, k, rfl, rfl, rfl, h1.1, by omega, h2.1, by omega, fun e => h3 (congrArg V.str e), h4⟩
      | _ => cases h2
    | _ => cases h1
theorem Thing.kept {H H' : Hp} {x C dx : Addr} {fs : List (Str × V)} {v : V} (h : Thing H v) (hx : H x = some (.ins C dx fs)) (kp : Kept H H' x) : Thing H' v := by
  cases v with
  | ref a =>
    have ne : ∀ {o : HO}, H a = some o → (∀ q, o ≠ .ins C dx q) → a ≠ x := fun {o} ho hn e => by
      rw [e, hx] at ho
      exact hn fs (Option.some.inj ho).symm
    rcases h with ⟨xs, h⟩ | ⟨xs, h⟩ | ⟨kvs, h⟩
    · exact Or.inl ⟨xs, kp a _ (ne h fun _ e => nomatch e) h⟩
    · exact Or.inr (Or.inl ⟨xs, kp a _ (ne h fun _ e => nomatch e) h⟩)
    · exact Or.inr (Or.inr ⟨kvs, kp a _ (ne h fun _ e => nomatch e) h⟩)
  | _ => exact h
theorem ok_Rule_init (T : Txt K mg A) : FnOk P w K mg base (L2.CX P w) 8 A.f_Rule_init A.d_Rule_init P_Rule_init (spRInit K A) := by
  refine T.F_Rule_init.okX sc_Rule_init (fun vs H Q E h => ?_) (fun cdv A' outer s H vs Q E hr h => ?_)
  · obtain ⟨x, dx, b0, b1, b2, C, rfl, _⟩ := h
    rfl
  · obtain ⟨x, dx, b0, b1, b2, C, rfl, hx, hC, t0, t1, t2, kS, kN⟩ := h
    refine ⟨_, (pss_cons (ps_expr (pe_call (E := E) (ok_need_letters T) (hr.mono (by decide)) rfl T.g_need_letters T.k_need_letters T.b_need_letters .nil (passes_call (takes_of rfl rfl rfl rfl) fun _ _ _ _ z => z) (pa_cons (pv 1) (pa_cons (pe_glob (v := .int 4) rfl (T.g_MOST_CUT).choose_spec ⟨_, rfl⟩) pa_nil))))
      (pss_cons (ps_expr (pe_call (E := E) (ok_need_letters T) (hr.mono (by decide)) rfl T.g_need_letters T.k_need_letters T.b_need_letters .nil (passes_call (takes_of rfl rfl rfl rfl) fun _ _ _ _ z => z) (pa_cons (pv 2) (pa_cons (pe_glob (v := .int 6) rfl (T.g_MOST_ADDED).choose_spec ⟨_, rfl⟩) pa_nil))))
      (pss_cons (ps_if (pt_cmpR op_eq (pv 1) (pv 2) (nomark _)) (pss_one (ps_raise rfl (takes_of rfl rfl rfl rfl) (pmk_own PySem.F.excBase_ValueError T.x_BadRule T.g_BadRule T.k_BadRule (raises_own T.s_BadRule T.t_BadRule) rfl))) pss_nil)
      (pss_cons (ps_fld (pv 0) (pv 1) rfl)
      (pss_cons (ps_fld (pv 0) (pv 2) rfl)
      (pss_one (ps_fld (pv 0) (pe_make (E := E) T.M_Condition (ok_Condition_init T) hr rfl T.g_Condition T.b_Condition_init .nil (passes_call (takes_of rfl rfl rfl rfl) fun _ _ _ _ z => z) (pa_cons (pv 3) pa_nil)) rfl))))))), ?_⟩
    refine q_dropC (ea_cons (ev_var rfl) (ea_cons ev_c ea_nil)) fun H1 e1 => ⟨b0, 4, rfl, t0.mono e1, fun g0 H2 e2 => ?_, fun g0 H2 e2 => kN (fun hG => ?_) H2 (Kept.of (e1.trans e2))⟩
    rotate_left
    · have := (goodR_iff.mp hG).1
      rw [g0] at this
      cases this
    have e02 := e1.trans e2
    refine q_dropC (ea_cons (ev_var rfl) (ea_cons ev_c ea_nil)) fun H3 e3 => ⟨b1, 6, rfl, t1.mono (e02.trans e3), fun g1 H4 e4 => ?_, fun g1 H4 e4 => kN (fun hG => ?_) H4 (Kept.of ((e02.trans e3).trans e4))⟩
    rotate_left
    · have := (goodR_iff.mp hG).2.1
      rw [g1] at this
      cases this
    have e04 := (e02.trans e3).trans e4
    refine q_when (b := decide (b0 = b1)) (et_test (ev_op (ev_var rfl) (ev_var rfl) (rv_eq ?_))) (fun hb H5 e5 => ?_) fun hb H5 e5 => ?_
    · cases b0 with
      | str c =>
        cases b1 with
        | str a => rfl
        | _ => cases g1
      | _ => cases g0
    · refine kN (fun hG => ?_) H5 (Kept.of (e04.trans e5))
      exact (goodR_iff.mp hG).2.2.1 (by simpa using hb)
    · have hne : b0 ≠ b1 := by simpa using hb
      have e05 := e04.trans e5
      have hx5 := e05 _ _ hx
      obtain ⟨c, rfl⟩ : ∃ c, b0 = .str c := by
        cases b0 with
        | str c => exact ⟨c, rfl⟩
        | _ => cases g0
      obtain ⟨a, rfl⟩ : ∃ a, b1 = .str a := by
        cases b1 with
        | str a => exact ⟨a, rfl⟩
        | _ => cases g1
      refine ⟨_, rfl, _, rfl, x, C, dx, [], rfl, hx5, hC.cl, hC.n2, (by show 0 < 1000; decide), ?_⟩
      refine ⟨_, rfl, _, rfl, x, C, dx, _, rfl, upd_same, hC.cl, hC.n3, (by show 1 < 1000; decide), ?_⟩
      have kp6 : Kept H (upd (upd H5 x (.ins C dx (putF "cut" (.str c) []))) x (.ins C dx (putF "added" (.str a) (putF "cut" (.str c) [])))) x := ((Kept.of e05).trans Kept.upd).trans Kept.upd
      have t26 := Thing.kept t2 hx kp6
      have hx6 : (upd (upd H5 x (.ins C dx (putF "cut" (.str c) []))) x (.ins C dx (putF "added" (.str a) (putF "cut" (.str c) [])))) x = some (.ins C dx (putF "added" (.str a) (putF "cut" (.str c) []))) := upd_same
      generalize (upd (upd H5 x (.ins C dx (putF "cut" (.str c) []))) x (.ins C dx (putF "added" (.str a) (putF "cut" (.str c) [])))) = H6 at kp6 t26 hx6
      refine ⟨_, rfl, fun o od no nd ne => ?_⟩
      have em := Ex.made no nd ne (o1 := .own o) (o2 := .ins A.c_Condition od [])
      have nox : o ≠ x := fun q => by rw [q, hx6] at no; cases no
      refine ⟨o, od, b2, rfl, upd_same, t26.mono em, fun z ps hz hc H2 q nq hcond hk => ⟨rfl, ?_⟩, fun hn H2 e2 => ?_⟩
      · subst hz
        have hG : GoodR (.str c) (.str a) (.str z) := goodR_iff.mpr ⟨g0, g1, hne, z, rfl, _, hc⟩
        have e62 : Ex H6 H2 := fun b o' hb => hk b o' (ne_of_none hb no) (em b o' hb)
        have hx2 := e62 _ _ hx6
        refine ⟨_, rfl, x, C, dx, _, rfl, hx2, hC.cl, hC.n1, (by show 2 < 1000; decide), ?_⟩
        have nqx : q ≠ x := fun e => by have g2 := hcond.ls; rw [e, hx2] at g2; cases g2
        have nq0 : H q = none := by
          cases hq : H q with
          | none => rfl
          | some o' => have := em _ _ (kp6 q o' nqx hq); rw [nq] at this; cases this
        refine kS hG c a z ps o q _ nq0 rfl rfl rfl upd_same ?_ nox ?_
        · exact hcond.upd nox nqx
        · exact (kp6.trans (Kept.of e62)).trans Kept.upd
      · refine kN (fun hG => ?_) H2 (kp6.trans (Kept.of (em.trans e2)))
        obtain ⟨_, _, _, k, rfl, ps, hps⟩ := goodR_iff.mp hG
        rw [hn k rfl] at hps
        cases hps
theorem ok_Beginning_init (T : Txt K mg A) : FnOk P w K mg base (L2.CX P w) 9 A.f_Beginning_init A.d_Beginning_init P_Beginning_init (spRInit K A) := by
  refine T.F_Beginning_init.okX sc_Beginning_init (fun vs H Q E h => ?_) (fun cdv A' outer s H vs Q E hr h => ?_)
  · obtain ⟨x, dx, b0, b1, b2, C, rfl, _⟩ := h
    rfl
  · obtain ⟨x, dx, b0, b1, b2, C, rfl, hx, hC, t0, t1, t2, kS, kN⟩ := h
    refine ⟨_, (pss_one (ps_expr (pe_off (E := E) T.of_Rule_init (ok_Rule_init T) hr rfl T.g_Rule T.b_Rule_init .nil (passes_call (takes_of rfl rfl rfl rfl) fun _ _ _ _ z => z) (pa_cons (pv 0) (pa_cons (pv 1) (pa_cons (pv 2) (pa_cons (pv 3) pa_nil))))))), ?_⟩
    exact s_dropC (ea_cons (ev_var rfl) (ea_cons (ev_var rfl) (ea_cons (ev_var rfl) (ea_cons (ev_var rfl) ea_nil)))) fun H1 e1 => ⟨x, dx, b0, b1, b2, C, rfl, e1 _ _ hx, hC, t0.mono e1, t1.mono e1, t2.mono e1,
      fun hG c a k ps o q H2 nq hc ha hk h2 hcond nox kp => kS hG c a k ps o q H2 (fresh_back e1 nq) hc ha hk h2 hcond nox ((Kept.of e1).trans kp), fun hB H2 kp => kN hB H2 ((Kept.of e1).trans kp)⟩
/-! ### further classes -/
theorem goodF_iff {x : V} : GoodF x ↔ ∃ f, x = .str f ∧ Fur (L f) := Iff.rfl
def spFurther (A : Ad) : Sp := fun vs H Q E => ∃ v, vs = [v] ∧ Thing H v ∧ (GoodF v → ∀ H', Ex H H' → Q .non H') ∧ (¬ GoodF v → ∀ H', Ex H H' → E (.ref A.c_BadRule) none H')
theorem ok_need_further_names (T : Txt K mg A) : FnOk P w K mg base (L2.CX P w) 2 A.f_need_further_names A.d_need_further_names P_need_further_names (spFurther A) := by
  refine T.F_need_further_names.okX sc_need_further_names (fun vs H Q E h => ?_) (fun cdv A' outer s H vs Q E hr h => ?_)
  · obtain ⟨v, rfl, _⟩ := h
    rfl
  · obtain ⟨v, rfl, hv, kS, kN⟩ := h
    refine ⟨_, (pss_one (ps_if (PW.pt (pw_or (pt_not (pt_val (pe_call (ok_are_names T) hr rfl T.g_are_names T.k_are_names T.b_are_names .nil pass0 (pa_cons (pv 0) (pa_cons (pe_glob (v := .int 3) rfl (T.g_MOST_FURTHER).choose_spec ⟨_, rfl⟩) pa_nil))))) (pw_or1 (pt_cmpR op_ne (pe_join pe_str (pe_callB (cr_sortedTx (by rfl)) (by rfl) T.n_sorted (by decide +kernel) (pa_cons (pv 0) pa_nil))) (pv 0) (nomark _))))) (pss_one (ps_raise rfl (takes_of rfl rfl rfl rfl) (pmk_own PySem.F.excBase_ValueError T.x_BadRule T.g_BadRule T.k_BadRule (raises_own T.s_BadRule T.t_BadRule) rfl))) pss_nil)), ?_⟩
    refine s_when (b := !(vN 3 v) || (match v with | .str z => !(decide ((L z).Pairwise (· ≤ ·))) | _ => true)) (et_or (et_not (et_B (ev_call (ea_cons (ev_var rfl) (ea_cons ev_c ea_nil)) (spFn fun H1 e => ⟨v, 3, rfl, hv.mono e⟩)))) fun hl => ?_) (fun hb H1 e1 => ?_) fun hb H1 e1 => ?_
    · cases v with
      | str z =>
        have hn : (decide ((z.length : Int) ≤ 3) && ((L z).all big && decide (L z).Nodup)) = true := (by simpa using hl : vN 3 (V.str z) = true)
        rw [Bool.and_eq_true, decide_eq_true_eq] at hn
        refine et_test (ev_opP (evp_joinSortedTx (ev_var rfl) (by omega)) (ev_var rfl) fun x H1 e1 hx => ?_)
        obtain ⟨g, rfl, hp, hs⟩ := hx
        have he : (!(decide ((L z).Pairwise (· ≤ ·)))) = !(decide (V.str (TX.T g) = V.str z)) := by
          congr 1
          rw [decide_eq_decide]
          constructor
          · intro h
            rw [sorted_le_eq hp hs h, T_L]
          · intro h
            have := V.str.inj h
            rw [← this, L_T]
            exact hs
        show RV _ _ _ _ (.bl (!(decide ((L z).Pairwise (· ≤ ·)))))
        rw [he]
        exact rv_ne rfl
      | _ => cases hl
    · refine kN (fun hG => ?_) H1 e1
      obtain ⟨f, rfl, hf⟩ := hG
      obtain ⟨h1, h2⟩ := fur_iff.mp hf
      have hb : (!(vN 3 (.str f)) || !(decide ((L f).Pairwise (· ≤ ·)))) = true := hb
      rw [h1, decide_eq_true h2] at hb
      cases hb
    · refine kS ?_ H1 e1
      rw [Bool.or_eq_false_iff] at hb
      cases v with
      | str f =>
        refine ⟨f, rfl, fur_iff.mpr ⟨by simpa using hb.1, ?_⟩⟩
        have h2 : (!(decide ((L f).Pairwise (· ≤ ·)))) = false := hb.2
        simpa using h2
      | _ => cases hb.2
theorem ok_Ending_init (T : Txt K mg A) : FnOk P w K mg base (L2.CX P w) 9 A.f_Ending_init A.d_Ending_init P_Ending_init (spEInit K A) := by
  refine T.F_Ending_init.ok sc_Ending_init (fun vs H Q E h => ?_) (fun cdv A' outer s H vs Q E hr h => ?_)
  · obtain ⟨x, dx, b0, b1, b2, b3, rfl, _⟩ := h
    rfl
  · obtain ⟨x, dx, b0, b1, b2, b3, rfl, hx, t0, t1, t2, t3, kS, kN⟩ := h
    refine ⟨_, (pss_cons (ps_expr (pe_off (E := E) T.of_Rule_init (ok_Rule_init T) hr rfl T.g_Rule T.b_Rule_init .nil (passes_call (takes_of rfl rfl rfl rfl) fun _ _ _ _ z => z) (pa_cons (pv 0) (pa_cons (pv 1) (pa_cons (pv 2) (pa_cons (pv 3) pa_nil))))))
      (pss_cons (ps_expr (pe_call (E := E) (ok_need_further_names T) (hr.mono (by decide)) rfl T.g_need_further_names T.k_need_further_names T.b_need_further_names .nil (passes_call (takes_of rfl rfl rfl rfl) fun _ _ _ _ z => z) (pa_cons (pv 4) pa_nil)))
      (pss_one (ps_fld (pv 0) (pv 4) rfl)))), ?_⟩
    refine q_dropC (ea_cons (ev_var rfl) (ea_cons (ev_var rfl) (ea_cons (ev_var rfl) (ea_cons (ev_var rfl) ea_nil)))) fun H1 e1 => ⟨x, dx, b0, b1, b2, A.c_Ending, rfl, e1 _ _ hx, ⟨T.cl_Ending, T.na_Ending_condition, T.na_Ending_cut, T.na_Ending_added⟩, t0.mono e1, t1.mono e1, t2.mono e1,
      fun hG c a k ps o q H2 nq hc ha hk h2 hcond nox kp => ?_, fun hB H2 kp => kN (fun h => hB h.1) H2 ((Kept.of e1).trans kp)⟩
    have kp2 := (Kept.of e1 (x := x)).trans kp
    have t3' := Thing.kept t3 hx kp2
    refine q_dropC (ea_cons (ev_var rfl) ea_nil) fun H3 e3 => ⟨b3, rfl, t3'.mono e3, fun hF H4 e4 => ?_, fun hF H4 e4 => kN (fun h => hF h.2) H4 (kp2.trans (Kept.of (e3.trans e4)))⟩
    have e34 := e3.trans e4
    obtain ⟨f, hf, hf2⟩ := hF
    subst hf
    refine ⟨_, rfl, _, rfl, x, A.c_Ending, dx, _, rfl, e34 _ _ h2, T.cl_Ending, T.na_Ending_further, (by show 3 < 1000; decide), ?_⟩
    have hc3 := hcond.mono e34
    refine kS hG ⟨f, rfl, hf2⟩ c a k f ps o q _ (fresh_back e1 nq) hc ha hk rfl upd_same ?_ nox ((kp2.trans (Kept.of e34)).trans Kept.upd)
    have nqx : q ≠ x := fun e => by have g2 := hc3.ls; rw [e, e34 _ _ h2] at g2; cases g2
    exact hc3.upd nox nqx

/-! ### the law's fit, over drawn places -/
def lst (ps : List (Str × Str)) : List (List Nat) := ps.map fun p => L p.2
def spFitsG (K : PySem.W.Frag) : Sp := fun vs H Q _ => ∃ a z xs ps, vs = [.ref a, .str z] ∧ SqL K H a xs ∧ PlGs H xs ps ∧ ps.length ≤ 3 ∧ z.length ≤ 1000 ∧ ps.length ≤ (L z).length ∧ ∀ H', Ex H H' → Q (.bl (fits (lst ps) (L z))) H'
theorem spFitsG_v {a : Addr} {z : Str} {xs : List V} {ps : List (Str × Str)} {H : Hp} (hS : SqL K H a xs) (hp : PlGs H xs ps) (hl : ps.length ≤ 3) (hz : z.length ≤ 1000) (h : ps.length ≤ (L z).length) : SpV (spFitsG K) [.ref a, .str z] H (.bl (fits (lst ps) (L z))) :=
  fun _ e _ q _ => ⟨a, z, xs, ps, rfl, ex_l e hS, hp.mono e, hl, hz, h, q⟩
theorem ok_l_fits (T : Txt K mg A) : FnOk P w K mg base CX0 1 A.f_l_fits A.d_l_fits P_l_fits (spFitsG K) := by
  refine T.F_l_fits.ok sc_l_fits (fun vs H Q E h => ?_) (fun cdv A' outer s H vs Q E hr h => ?_)
  · obtain ⟨a, z, xs, ps, rfl, _⟩ := h
    rfl
  · obtain ⟨a, z, xs, ps, rfl, hS, hp, hl, hz, hle, k⟩ := h
    refine ⟨_, (pss_one (ps_ret (pe_cmpR (show OpR _ (compareOp .Eq) (rEqD K) from op_eqD hr.units) (pe_lc (own := [("_law_k", 2)]) (by rfl) sc_l_fits.nd (pi_range1 rfl T.n_range (pa_cons (pe_callB call_len_seq (by rfl) T.n_len PySem.boot_len (pa_cons (pv 0) pa_nil)) pa_nil)) (blkOk_by (own := [("_law_k", 2)]) (N := N_l_fits) (sc := defScope s_l_fits) (by decide +kernel)) (fun _ _ _ _ _ => (pg_name (i := 2) sc_l_fits.nd rfl (Or.inl rfl))) (fun _ _ _ _ _ => pts_one (pt_cmpR op_notIn_sign (pe_ix ix_str (pv 1) (pv 2) (fun _ _ => rfl)) (pe_ix (ix_tupK (K := K) rfl) (pe_ix (ix_listK (K := K) rfl) (pv 0) (pv 2) (fun _ _ => rfl)) pe_int (fun _ _ => rfl)) (by rfl))) (fun _ _ _ _ _ => (pv 2))) (pe_lst pa_nil) (nomark _)))), ?_⟩
    have hzl := len_L z
    have hxl := hp.1
    refine s_ret (v := .bl (fits (lst ps) (L z))) (ev_is (ev_eqNil (el_lcR1 (n := (xs.length : Int)) (fun i => !decide ((L z).getD i 0 ∈ (lst ps).getD i [])) (fun i => .int (i : Int)) (ea_cons (ev_cb (ea_cons (ev_var rfl) ea_nil) (rc_lenL hS)) ea_nil) (by omega) (fun _ => rfl)
      (fun i H1 e1 hi => ?_) (fun i H1 e1 hi _ => ev_var rfl)) ?_) ?_) k
    · have hi' : i < ps.length := by omega
      have h1 : (L z)[i]? = some ((L z).getD i 0) := by
        rw [List.getD_eq_getElem?_getD, List.getElem?_eq_getElem (show i < (L z).length by omega)]
        rfl
      have hxi : xs[i]? = some (xs[i]'(by omega)) := List.getElem?_eq_getElem (by omega)
      obtain ⟨T0, hT0, hT, _⟩ := (hp.2 i _ _ hxi (List.getElem?_eq_getElem hi')).mono e1
      rw [hT0] at hxi
      have h2 : (lst ps).getD i [] = L (ps[i]).2 := by
        unfold lst
        rw [List.getD_eq_getElem?_getD, List.getElem?_map, List.getElem?_eq_getElem hi']
        rfl
      rw [h2]
      exact et_test (ev_is (ev_op (ev_op (ev_var rfl) (ev_var rfl) (rv_ixS (by omega) (at_L h1))) (ev_op (ev_op (ev_var rfl) (ev_var rfl) (rv_ixL (ex_l e1 hS) (atI_nat hxi))) ev_c (rv_ixT (st_of hT) (atI_nat (j := 1) rfl))) rv_ninS) rfl)
    · unfold given
      rw [List.all_map, List.all_eq_true]
      intro _ _
      rfl
    · apply congrArg V.bl
      have hll : (lst ps).length = ps.length := List.length_map _
      have hle' : (lst ps).length ≤ (L z).length := by omega
      unfold given fits
      rw [List.isEmpty_map, zip_map, Nat.min_eq_left hle', List.all_map, Bool.eq_iff_iff, List.isEmpty_iff, List.filter_eq_nil_iff, List.all_eq_true, hll, Int.toNat_natCast, hxl]
      simp

/-! ### the law's use of a rule -/
def oV : Option (List Nat) → V | some r => .str (TX.T r) | none => .non
def short (r : List Nat) : Option (List Nat) := if r.length < 17 then some r else none
def useE (c a : List Nat) (ps : List (List Nat)) (w : List Nat) : Option (List Nat) :=
  if (decide (ps.length ≤ w.length) && decide (c.length < w.length)) && (decide (w.drop (w.length - c.length) = c) && fits ps (w.drop (w.length - ps.length))) then short (w.take (w.length - c.length) ++ a) else none
def useB (c a : List Nat) (ps : List (List Nat)) (w : List Nat) : Option (List Nat) :=
  if (decide (ps.length ≤ w.length) && decide (c.length < w.length)) && (decide (w.take c.length = c) && fits ps (w.take ps.length)) then short (a ++ w.drop c.length) else none
def usedL (e : Bool) (c a : List Nat) (ps : List (List Nat)) (w : List Nat) : Option (List Nat) := if e = true then useE c a ps w else useB c a ps w
def spUsed : Sp := fun vs H Q _ => ∃ v c a ps g z e, vs = [v, .str z, .bl e] ∧ PartsAt H v c a ps g ∧ Good4 c a ps g ∧ z.length ≤ 16 ∧ ∀ H', Ex H H' → Q (oV (usedL e (L c) (L a) (lst ps) (L z))) H'
theorem eqT' {a : Str} {b : List Nat} : decide (V.str (TX.T b) = V.str a) = decide (b = L a) := by
  rw [decide_eq_decide]
  constructor
  · intro h
    rw [← V.str.inj h, L_T]
  · intro h
    rw [h, T_L]
theorem T_add {x : List Nat} {a : Str} : TX.T x ++ a = TX.T (x ++ L a) := eq_L (by rw [L_add, L_T, L_T])
theorem add_T {x : List Nat} {a : Str} : a ++ TX.T x = TX.T (L a ++ x) := eq_L (by rw [L_add, L_T, L_T])
theorem ok_l_used (T : Txt K mg A) : FnOk P w K mg base CX0 2 A.f_l_used A.d_l_used P_l_used spUsed := by
  refine T.F_l_used.ok sc_l_used (fun vs H Q E h => ?_) (fun cdv A' outer s H vs Q E hr h => ?_)
  · obtain ⟨v, c, a, ps, g, z, e, rfl, _⟩ := h
    rfl
  · obtain ⟨v, c, a, ps, g, z, e, rfl, ⟨T0, pa, xs, rfl, h1, h2, hpl⟩, G, hz, k⟩ := h
    refine ⟨_, (pss_cons (ps_asg (pv 0) (pg_tup (by rfl) (pgs_cons (pg_name (i := 3) sc_l_used.nd rfl (Or.inl rfl)) (pgs_cons (pg_name (i := 4) sc_l_used.nd rfl (Or.inl rfl)) (pgs_cons (pg_name (i := 5) sc_l_used.nd rfl (Or.inl rfl)) (pgs_cons (pg_name (i := 6) sc_l_used.nd rfl (Or.inl rfl)) pgs_nil))))))
      (pss_cons (ps_set (i := 7) sc_l_used.nd rfl (Or.inl rfl) (pe_callB call_len_seq (by rfl) T.n_len PySem.boot_len (pa_cons (pv 5) pa_nil)))
      (pss_cons (ps_if (PW.pt (pw_or (pt_cmpR op_lt (pe_callB call_len_str (by rfl) T.n_len PySem.boot_len (pa_cons (pv 1) pa_nil)) (pv 7) (nomark _)) (pw_or1 (pt_cmpR op_le (pe_callB call_len_str (by rfl) T.n_len PySem.boot_len (pa_cons (pv 1) pa_nil)) (pe_callB call_len_str (by rfl) T.n_len PySem.boot_len (pa_cons (pv 3) pa_nil)) (nomark _))))) (pss_one (ps_ret pe_non)) pss_nil)
      (pss_cons (ps_if (pt_val (pv 2)) (pss_cons (ps_set (i := 8) sc_l_used.nd rfl (Or.inl rfl) (pe_slice sl_str (pv 1) (po_some (pe_op op_sub (pe_callB call_len_str (by rfl) T.n_len PySem.boot_len (pa_cons (pv 1) pa_nil)) (pe_callB call_len_str (by rfl) T.n_len PySem.boot_len (pa_cons (pv 3) pa_nil)))) po_none))
      (pss_cons (ps_if (PW.pt (pw_or (pt_cmpR op_ne (pv 8) (pv 3) (nomark _)) (pw_or1 (pt_not (pt_val (pe_call (ok_l_fits T) hr rfl T.g_l_fits T.k_l_fits T.b_l_fits .nil pass0 (pa_cons (pv 5) (pa_cons (pe_slice sl_str (pv 1) (po_some (pe_op op_sub (pe_callB call_len_str (by rfl) T.n_len PySem.boot_len (pa_cons (pv 1) pa_nil)) (pv 7))) po_none) pa_nil)))))))) (pss_one (ps_ret pe_non)) pss_nil)
      (pss_one (ps_set (i := 9) sc_l_used.nd rfl (Or.inl rfl) (pe_op op_add_str (pe_slice sl_str (pv 1) po_none (po_some (pe_op op_sub (pe_callB call_len_str (by rfl) T.n_len PySem.boot_len (pa_cons (pv 1) pa_nil)) (pe_callB call_len_str (by rfl) T.n_len PySem.boot_len (pa_cons (pv 3) pa_nil))))) (pv 4)))))) (pss_cons (ps_if (PW.pt (pw_or (pt_cmpR op_ne (pe_slice sl_str (pv 1) po_none (po_some (pe_callB call_len_str (by rfl) T.n_len PySem.boot_len (pa_cons (pv 3) pa_nil)))) (pv 3) (nomark _)) (pw_or1 (pt_not (pt_val (pe_call (ok_l_fits T) hr rfl T.g_l_fits T.k_l_fits T.b_l_fits .nil pass0 (pa_cons (pv 5) (pa_cons (pe_slice sl_str (pv 1) po_none (po_some (pv 7))) pa_nil)))))))) (pss_one (ps_ret pe_non)) pss_nil)
      (pss_one (ps_set (i := 9) sc_l_used.nd rfl (Or.inl rfl) (pe_op op_add_str (pv 4) (pe_slice sl_str (pv 1) (po_some (pe_callB call_len_str (by rfl) T.n_len PySem.boot_len (pa_cons (pv 3) pa_nil))) po_none))))))
      (pss_one (ps_ret (pe_ifExp (pt_cmpR op_lt (pe_callB call_len_str (by rfl) T.n_len PySem.boot_len (pa_cons (pv 9) pa_nil)) pe_int (nomark _)) (pv 9) pe_non))))))), ?_⟩
    have c4 := G.c4
    have a6 := G.a6
    have hzl := len_L z
    have hcl := len_L c
    have hal := len_L a
    have hxl := hpl.1
    have p3 := G.p3
    have hll : (lst ps).length = ps.length := List.length_map _
    refine ⟨_, rfl, T0, _, rfl, st_of h1, rfl, _, _, rfl, _, _, rfl, _, _, rfl, _, _, rfl, rfl, ?_⟩
    refine q_asg (v := .int (xs.length : Int)) (ev_cb (ea_cons (ev_var rfl) ea_nil) (rc_lenL (sq_of h2))) fun H1 e1 => ?_
    have lz : ∀ {σ : L2.St} {H : Hp}, σ[1]? = some (some (.str z)) → Ev (tCB (fun xs H Q => ∃ z, xs = [.str z] ∧ z.length ≤ sizeLine ∧ Q (.int z.length) H) (tCons (tVar 1) tNil)) σ H (.int z.length) := fun h => ev_cb (ea_cons (ev_var h) ea_nil) (rc_lenS (by omega))
    have lc : ∀ {σ : L2.St} {H : Hp}, σ[3]? = some (some (.str c)) → Ev (tCB (fun xs H Q => ∃ z, xs = [.str z] ∧ z.length ≤ sizeLine ∧ Q (.int z.length) H) (tCons (tVar 3) tNil)) σ H (.int c.length) := fun h => ev_cb (ea_cons (ev_var h) ea_nil) (rc_lenS (by omega))
    refine q_when (b := !(decide (ps.length ≤ (L z).length) && decide ((L c).length < (L z).length))) (et_is (et_or (a := decide ((z.length : Int) < (xs.length : Int))) (b := decide ((z.length : Int) ≤ (c.length : Int))) (et_test (ev_op (lz rfl) (ev_var rfl) rv_I0)) fun _ => et_test (ev_op (lz rfl) (lc rfl) rv_I0)) ?_) (fun hb H2 e2 => ?_) fun hb H2 e2 => ?_
    · rw [Bool.not_and, ← decide_not, ← decide_not]
      congr 1
      · rw [decide_eq_decide]; omega
      · rw [decide_eq_decide]; omega
    · refine s_ret (v := .non) ev_c fun H3 e3 => ?_
      have : usedL e (L c) (L a) (lst ps) (L z) = none := by
        have hb' : (decide (ps.length ≤ (L z).length) && decide ((L c).length < (L z).length)) = false := (Bool.not_eq_true' _).mp hb
        unfold usedL useE useB
        rw [hll, hb']
        cases e <;> rfl
      have kk := k H3 ((e1.trans e2).trans e3)
      rw [this] at kk
      exact kk
    · have hb' : (decide (ps.length ≤ (L z).length) && decide ((L c).length < (L z).length)) = true := (Bool.not_eq_false' _).mp hb
      have hle := hb'
      rw [Bool.and_eq_true, decide_eq_true_eq, decide_eq_true_eq] at hle
      have ez : ((z.length : Int) - (c.length : Int)) = (((L z).length - (L c).length : Nat) : Int) := by omega
      have em : ((z.length : Int) - (xs.length : Int)) = (((L z).length - ps.length : Nat) : Int) := by omega
      have ft : ∀ {H : Hp} {l : List Nat}, Ex H1 H → ps.length ≤ l.length → l.length ≤ 16 → SpV (spFitsG K) [.ref pa, .str (TX.T l)] H (.bl (fits (lst ps) l)) := fun {H l} e' h3 h4 => by
        have := spFitsG_v (K := K) (sq_of ((e1.trans e') _ _ h2)) (hpl.mono (e1.trans e')) p3 (z := TX.T l) (by rw [len_T]; omega) (by rw [L_T]; exact h3)
        rw [L_T] at this
        exact this
      refine q_if (b := e) (et_B (ev_var rfl)) (fun he H3 e3 => ?_) fun he H3 e3 => ?_
      · subst he
        refine q_asg (v := .str (TX.T ((L z).drop ((L z).length - (L c).length)))) (ev_is (ev_slS (ev_var rfl) (eo_some (ev_op (lz rfl) (lc rfl) rv_I0)) eo_none (by omega)) (by rw [ez, cut_end z _ (by omega)])) fun H4 e4 => ?_
        refine q_when (b := !(decide ((L z).drop ((L z).length - (L c).length) = L c) && fits (lst ps) ((L z).drop ((L z).length - ps.length)))) (et_is (et_or (et_test (ev_op (ev_var rfl) (ev_var rfl) (rv_ne rfl))) fun _ => et_not (et_B (ev_call (ea_cons (ev_var rfl) (ea_cons (ev_is (ev_slS (ev_var rfl) (eo_some (ev_op (lz rfl) (ev_var rfl) rv_I0)) eo_none (by omega)) (by rw [em, cut_end z _ (by omega)])) ea_nil)) (ft ((e2.trans e3).trans e4) (by rw [List.length_drop]; omega) (by rw [List.length_drop]; omega))))) (by rw [Bool.not_and, eqT'])) (fun hn H5 e5 => ?_) fun hn H5 e5 => ?_
        · refine s_ret (v := .non) ev_c fun H6 e6 => ?_
          have hn' := (Bool.not_eq_true' _).mp hn
          have us : usedL true (L c) (L a) (lst ps) (L z) = none := by
            show useE (L c) (L a) (lst ps) (L z) = none
            unfold useE
            rw [hll, hb', hn']
            rfl
          have kk := k H6 (((((e1.trans e2).trans e3).trans e4).trans e5).trans e6)
          rw [us] at kk
          exact kk
        · have hn' := (Bool.not_eq_false' _).mp hn
          have us : usedL true (L c) (L a) (lst ps) (L z) = short ((L z).take ((L z).length - (L c).length) ++ L a) := by
            show useE (L c) (L a) (lst ps) (L z) = _
            unfold useE
            rw [hll, hb', hn']
            rfl
          refine s_asg (v := .str (TX.T ((L z).take ((L z).length - (L c).length) ++ L a))) (ev_is (ev_op (ev_slS (ev_var rfl) eo_none (eo_some (ev_op (lz rfl) (lc rfl) rv_I0)) (by omega)) (ev_var rfl) (rv_addS (by have := cut_len z none (some ((z.length : Int) - (c.length : Int))); omega))) (by rw [ez, cut_begin z _ (by omega), T_add])) fun H7 e7 => ?_
          have rl : ((L z).take ((L z).length - (L c).length) ++ L a).length ≤ 1000 := by rw [List.length_append, List.length_take]; omega
          generalize (L z).take ((L z).length - (L c).length) ++ L a = r at us rl
          have e5 := e5.trans e7
          have e05 := (((e1.trans e2).trans e3).trans e4).trans e5
          refine s_ret (v := oV (short r)) (ev_if (b := decide (r.length < 17)) (et_is (et_test (ev_op (ev_cb (ea_cons (ev_var rfl) ea_nil) (rc_lenS (by rw [len_T]; omega))) ev_c rv_I0)) (by rw [len_T, decide_eq_decide]; omega)) (fun h => ?_) fun h => ?_) fun H6 e6 => ?_
          · unfold short
            rw [if_pos (by simpa using h)]
            exact ev_var rfl
          · unfold short
            rw [if_neg (by simpa using h)]
            exact ev_c
          · have kk := k H6 (e05.trans e6)
            rw [us] at kk
            exact kk
      · subst he
        refine q_when (b := !(decide ((L z).take (L c).length = L c) && fits (lst ps) ((L z).take ps.length))) (et_is (et_or (et_test (ev_op (ev_is (ev_slS (ev_var rfl) eo_none (eo_some (lc rfl)) (by omega)) (by rw [hcl, cut_begin z _ (by omega)])) (ev_var rfl) (rv_ne rfl))) fun _ => et_not (et_B (ev_call (ea_cons (ev_var rfl) (ea_cons (ev_is (ev_slS (ev_var rfl) eo_none (eo_some (ev_var rfl)) (by omega)) (by rw [hxl, cut_begin z _ (by omega)])) ea_nil)) (ft (e2.trans e3) (by rw [List.length_take]; omega) (by rw [List.length_take]; omega))))) (by rw [Bool.not_and, eqT'])) (fun hn H5 e5 => ?_) fun hn H4 e4 => ?_
        · refine s_ret (v := .non) ev_c fun H6 e6 => ?_
          have hn' := (Bool.not_eq_true' _).mp hn
          have us : usedL false (L c) (L a) (lst ps) (L z) = none := by
            show useB (L c) (L a) (lst ps) (L z) = none
            unfold useB
            rw [hll, hb', hn']
            rfl
          have kk := k H6 ((((e1.trans e2).trans e3).trans e5).trans e6)
          rw [us] at kk
          exact kk
        · have hn' := (Bool.not_eq_false' _).mp hn
          have us : usedL false (L c) (L a) (lst ps) (L z) = short (L a ++ (L z).drop (L c).length) := by
            show useB (L c) (L a) (lst ps) (L z) = _
            unfold useB
            rw [hll, hb', hn']
            rfl
          refine s_asg (v := .str (TX.T (L a ++ (L z).drop (L c).length))) (ev_is (ev_op (ev_var rfl) (ev_slS (ev_var rfl) (eo_some (lc rfl)) eo_none (by omega)) (rv_addS (by have := cut_len z (some (c.length : Int)) none; omega))) (by rw [hcl, cut_end z _ (by omega), add_T])) fun H5 e5 => ?_
          have rl : (L a ++ (L z).drop (L c).length).length ≤ 1000 := by rw [List.length_append, List.length_drop]; omega
          generalize L a ++ (L z).drop (L c).length = r at us rl
          have e05 := (((e1.trans e2).trans e3).trans e4).trans e5
          refine s_ret (v := oV (short r)) (ev_if (b := decide (r.length < 17)) (et_is (et_test (ev_op (ev_cb (ea_cons (ev_var rfl) ea_nil) (rc_lenS (by rw [len_T]; omega))) ev_c rv_I0)) (by rw [len_T, decide_eq_decide]; omega)) (fun h => ?_) fun h => ?_) fun H6 e6 => ?_
          · unfold short
            rw [if_pos (by simpa using h)]
            exact ev_var rfl
          · unfold short
            rw [if_neg (by simpa using h)]
            exact ev_c
          · have kk := k H6 (e05.trans e6)
            rw [us] at kk
            exact kk

/-! ### rules, used and written -/
theorem txt_T {b : List Nat} {a : Str} : decide (V.str (TX.T b) = V.str a) = decide (b = L a) := by
  rw [decide_eq_decide]
  constructor
  · intro h
    rw [← V.str.inj h, L_T]
  · intro h
    rw [h, T_L]
def pShort (vs : List V) (_ : Hp) : Prop := ∃ z : Str, vs = [.str z] ∧ z.length ≤ 1000
def rShort : List V → V | [.str z] => oV (short (L z)) | _ => .non
theorem ok_short_enough (T : Txt K mg A) : FnOk P w K mg base CX0 1 A.f_short_enough A.d_short_enough P_short_enough (SpFn pShort rShort) := by
  refine T.F_short_enough.ok sc_short_enough (fun vs H Q E h => ?_) (fun cdv A' outer s H vs Q E hr h => ?_)
  · obtain ⟨⟨z, rfl, _⟩, _⟩ := h
    rfl
  · obtain ⟨⟨z, rfl, hz⟩, k⟩ := h
    refine ⟨_, (pss_cons (ps_if (pt_cmpR op_gt (pe_callB call_len_str (by rfl) T.n_len PySem.boot_len (pa_cons (pv 0) pa_nil)) (pe_glob (v := .int 16) rfl (T.g_MOST_LETTERS).choose_spec ⟨_, rfl⟩) (nomark _)) (pss_one (ps_ret pe_non)) pss_nil)
      (pss_one (ps_ret (pv 0)))), ?_⟩
    have hzl := len_L z
    refine q_when (b := !(decide ((L z).length < 17))) (et_is (et_test (ev_op (ev_cb (ea_cons (ev_var rfl) ea_nil) (rc_lenS (by omega))) ev_c rv_I0)) (by rw [← decide_not, decide_eq_decide]; omega)) (fun hb H1 e1 => ?_) fun hb H1 e1 => ?_
    · refine s_ret (v := .non) ev_c fun H2 e2 => ?_
      have kk := k H2 (e1.trans e2)
      have : rShort [.str z] = .non := by
        show oV (short (L z)) = _
        unfold short
        rw [if_neg (by simpa using hb)]
        rfl
      rw [this] at kk
      exact kk
    · refine s_ret (v := .str z) (ev_var rfl) fun H2 e2 => ?_
      have kk := k H2 (e1.trans e2)
      have : rShort [.str z] = .str z := by
        show oV (short (L z)) = _
        unfold short
        rw [if_pos (by simpa using hb)]
        show V.str (TX.T (L z)) = _
        rw [T_L]
      rw [this] at kk
      exact kk
/-- 0 for none -/
def zr (z : Str) : Str := if z = "" then "0" else z
theorem zr_len (z : Str) : (zr z).length ≤ z.length + 1 := by
  unfold zr
  split
  · have : ("0" : Str).length = 1 := by decide +kernel
    omega
  · omega
theorem zr_signs {z : Str} (h : signs z) : signs (zr z) := by
  unfold zr
  split
  · unfold signs; decide +kernel
  · exact h
def line (ys : List Str) : Str := Txt.join " " (ys.map zr)
def spLine (K : PySem.W.Frag) : Sp := fun vs H Q _ => ∃ (a : Addr) (ys : List Str), vs = [.ref a] ∧ SqL K H a (ys.map V.str) ∧ ys.length ≤ 10 ∧ (∀ y ∈ ys, y.length ≤ 1000) ∧ ∀ H', Ex H H' → Q (.str (line ys)) H'
theorem sp_len : (" " : Str).length = 1 := by decide +kernel
theorem ok_written (T : Txt K mg A) : FnOk P w K mg base CX0 1 A.f_written A.d_written P_written (spLine K) := by
  refine T.F_written.ok sc_written (fun vs H Q E h => ?_) (fun cdv A' outer s H vs Q E hr h => ?_)
  · obtain ⟨a, ys, rfl, _⟩ := h
    rfl
  · obtain ⟨a, ys, rfl, hS, hl, hy, k⟩ := h
    refine ⟨_, (pss_one (ps_ret (pe_join pe_str (pe_lc (own := [("part", 1)]) (by rfl) sc_written.nd (pi_list (pv 0)) (blkOk_by (own := [("part", 1)]) (N := N_written) (sc := defScope s_written) (by decide +kernel)) (fun _ _ _ _ _ => (pg_name (i := 1) sc_written.nd rfl (Or.inl rfl))) (fun _ _ _ _ _ => pts_nil) (fun _ _ _ _ _ => (pe_orTK (K := K) rfl (pv 1) (pe_one pe_str))))))), ?_⟩
    refine s_ret (ev_joinL (ys := ys.map zr) ev_c (el_lcL (fun _ => true) (fun i => .str (zr (ys.getD i ""))) (ev_var rfl) hS (by rw [List.length_map]; omega) (fun _ => rfl) (fun i x H1 e1 hx => et_yes) (fun i x H1 e1 hx _ => ?_)) ?_ ?_) k
    · rw [List.getElem?_map] at hx
      cases hi : ys[i]? with
      | none => rw [hi] at hx; cases hx
      | some y =>
        rw [hi] at hx
        cases hx
        rw [List.getD_eq_getElem?_getD, hi]
        exact ev_orTx (z := y) (ev_var rfl) (by have := hy y (List.mem_of_getElem? hi); omega) ev_c
    · rw [given_all, List.length_map, List.map_map]
      apply List.ext_getElem
      · simp
      · intro i h1 h2
        simp at h1
        simp [List.getD, h1]
    · have := sum_le (n := 1001) (ys := ys.map zr) fun y hy' => by
        obtain ⟨z, hz, rfl⟩ := List.mem_map.mp hy'
        have := zr_len z
        have := hy z hz
        omega
      rw [List.length_map] at this ⊢
      rw [sp_len]
      have : ys.length * 1001 ≤ 10 * 1001 := Nat.mul_le_mul_right _ hl
      omega
theorem line3 (a b c : Str) : line [a, b, c] = zr a ++ " " ++ (zr b ++ " " ++ zr c) := by
  show Builtin.Str.glued " " _ = _
  rw [StrLaws.glued_eq_join]
  rfl
theorem line4 (a b c d : Str) : line [a, b, c, d] = line [a, b, c] ++ " " ++ zr d := by
  have e : line [a, b, c, d] = zr a ++ " " ++ (zr b ++ " " ++ (zr c ++ " " ++ zr d)) := by
    show Builtin.Str.glued " " _ = _
    rw [StrLaws.glued_eq_join]
    rfl
  rw [e, line3]
  apply eq_L
  simp only [L_add, List.append_assoc]
/-- a rule of the class C at x -/
def RuleAt (A : Ad) (C : Addr) (H : Hp) (x : Addr) (c a k : Str) (ps : List (List Nat)) : Prop := ∃ dx o, H x = some (.ins C dx (rFlds o c a)) ∧ CondAt A.c_Condition H o k ps
def EndAt (A : Ad) (H : Hp) (x : Addr) (c a k f : Str) (ps : List (List Nat)) : Prop := ∃ dx o, H x = some (.ins A.c_Ending dx (eFlds o c a f)) ∧ CondAt A.c_Condition H o k ps
theorem RuleAt.mono {C x : Addr} {H H' : Hp} {c a k : Str} {ps : List (List Nat)} (h : RuleAt A C H x c a k ps) (e : Ex H H') : RuleAt A C H' x c a k ps := by
  obtain ⟨dx, o, h1, h2⟩ := h
  exact ⟨dx, o, e _ _ h1, h2.mono e⟩
theorem EndAt.mono {x : Addr} {H H' : Hp} {c a k f : Str} {ps : List (List Nat)} (h : EndAt A H x c a k f ps) (e : Ex H H') : EndAt A H' x c a k f ps := by
  obtain ⟨dx, o, h1, h2⟩ := h
  exact ⟨dx, o, e _ _ h1, h2.mono e⟩
theorem r_cut {o : Addr} {c a : Str} : (rFlds o c a).lookup ("cut" : Str) = some (.str c) := by
  unfold rFlds
  rw [lookup_putF, if_neg (by decide +kernel), lookup_putF, if_neg (by decide +kernel), lookup_putF, if_pos rfl]
theorem r_added {o : Addr} {c a : Str} : (rFlds o c a).lookup ("added" : Str) = some (.str a) := by
  unfold rFlds
  rw [lookup_putF, if_neg (by decide +kernel), lookup_putF, if_pos rfl]
theorem r_cond {o : Addr} {c a : Str} : (rFlds o c a).lookup ("condition" : Str) = some (.ref o) := by
  unfold rFlds
  rw [lookup_putF, if_pos rfl]
theorem r_no {o : Addr} {c a : Str} {m : Str} (h1 : ¬ (m = ("condition" : Str))) (h2 : ¬ (m = ("added" : Str))) (h3 : ¬ (m = ("cut" : Str))) : (rFlds o c a).lookup m = none := by
  unfold rFlds
  rw [lookup_putF, if_neg h1, lookup_putF, if_neg h2, lookup_putF, if_neg h3]
  rfl
theorem en_fld {o : Addr} {c a f : Str} {m : Str} (h : ¬ (m = ("further" : Str))) : (eFlds o c a f).lookup m = (rFlds o c a).lookup m := by
  unfold eFlds
  rw [lookup_putF, if_neg h]
theorem en_further {o : Addr} {c a f : Str} : (eFlds o c a f).lookup ("further" : Str) = some (.str f) := by
  unfold eFlds
  rw [lookup_putF, if_pos rfl]
theorem en_cut {o : Addr} {c a f : Str} : (eFlds o c a f).lookup ("cut" : Str) = some (.str c) := by rw [en_fld (by decide +kernel), r_cut]
theorem en_added {o : Addr} {c a f : Str} : (eFlds o c a f).lookup ("added" : Str) = some (.str a) := by rw [en_fld (by decide +kernel), r_added]
theorem en_cond {o : Addr} {c a f : Str} : (eFlds o c a f).lookup ("condition" : Str) = some (.ref o) := by rw [en_fld (by decide +kernel), r_cond]
theorem told_told' {z : Str} {q : Addr} : (cFlds q z).lookup ("told" : Str) = some (.str z) := told_told
theorem c_ends {q : Addr} {z : Str} : (cFlds q z).lookup ("ends" : Str) = none := by
  unfold cFlds
  rw [lookup_putF, if_neg (by decide +kernel), lookup_putF, if_neg (by decide +kernel)]
  rfl
theorem c_begins {q : Addr} {z : Str} : (cFlds q z).lookup ("begins" : Str) = none := by
  unfold cFlds
  rw [lookup_putF, if_neg (by decide +kernel), lookup_putF, if_neg (by decide +kernel)]
  rfl
theorem spE_v {p : Addr} {z w : Str} {ps : List (List Nat)} {H : Hp} (c : CondAt A.c_Condition H p z ps) (hw : w.length ≤ 1000) : SpV (spEnds A) [.ref p, .str w] H (.bl (fitE ps (L w))) :=
  fun _ e _ q _ => ⟨p, z, ps, w, rfl, c.mono e, hw, q⟩
theorem spB_v {p : Addr} {z w : Str} {ps : List (List Nat)} {H : Hp} (c : CondAt A.c_Condition H p z ps) (hw : w.length ≤ 1000) : SpV (spBegins A) [.ref p, .str w] H (.bl (fitB ps (L w))) :=
  fun _ e _ q _ => ⟨p, z, ps, w, rfl, c.mono e, hw, q⟩
def spUseE (A : Ad) : Sp := fun vs H Q _ => ∃ x z c a k f ps, vs = [.ref x, .str z] ∧ EndAt A H x c a k f ps ∧ c.length ≤ 4 ∧ a.length ≤ 6 ∧ z.length ≤ 16 ∧ ∀ H', Ex H H' → Q (oV (useE (L c) (L a) ps (L z))) H'
def spUseB (A : Ad) : Sp := fun vs H Q _ => ∃ x z c a k ps, vs = [.ref x, .str z] ∧ RuleAt A A.c_Beginning H x c a k ps ∧ c.length ≤ 4 ∧ a.length ≤ 6 ∧ z.length ≤ 16 ∧ ∀ H', Ex H H' → Q (oV (useB (L c) (L a) ps (L z))) H'
def spUseR : Sp := fun vs H Q _ => ∃ x v, vs = [.ref x, v] ∧ ∀ H', Ex H H' → Q .non H'
theorem useE_eq (c a : List Nat) (ps : List (List Nat)) (w : List Nat) : useE c a ps w = if (decide (c.length < w.length) && (decide (w.drop (w.length - c.length) = c) && fitE ps w)) = true then short (w.take (w.length - c.length) ++ a) else none := by
  unfold useE fitE
  congr 1
  cases decide (ps.length ≤ w.length) <;> cases decide (c.length < w.length) <;> cases decide (w.drop (w.length - c.length) = c) <;> simp
theorem useB_eq (c a : List Nat) (ps : List (List Nat)) (w : List Nat) : useB c a ps w = if (decide (c.length < w.length) && (decide (w.take c.length = c) && fitB ps w)) = true then short (a ++ w.drop c.length) else none := by
  unfold useB fitB
  congr 1
  cases decide (ps.length ≤ w.length) <;> cases decide (c.length < w.length) <;> cases decide (w.take c.length = c) <;> simp
theorem ok_Ending_use (T : Txt K mg A) : FnOk P w K mg base CX0 3 A.f_Ending_use A.d_Ending_use P_Ending_use (spUseE A) := by
  refine T.F_Ending_use.ok sc_Ending_use (fun vs H Q E h => ?_) (fun cdv A' outer s H vs Q E hr h => ?_)
  · obtain ⟨x, z, c, a, k, f, ps, rfl, _⟩ := h
    rfl
  · obtain ⟨x, z, c, a, k, f, ps, rfl, ⟨dx, o, hx, hc⟩, c4, a6, hz, kk⟩ := h
    refine ⟨_, (pss_cons (ps_set (i := 2) sc_Ending_use.nd rfl (Or.inl rfl) (pe_op op_sub (pe_callB call_len_str (by rfl) T.n_len PySem.boot_len (pa_cons (pv 1) pa_nil)) (pe_callB call_len_str (by rfl) T.n_len PySem.boot_len (pa_cons (pe_fld (pv 0) rfl) pa_nil))))
      (pss_cons (ps_if (PW.pt (pw_or (pt_cmpR op_lt (pv 2) pe_int (nomark _)) (pw_or (pt_not (pt_val (pe_bm PySem.F.plainAttrs_str PySem.F.slot_str_endswith PySem.F.type_str_endswith mt_endswith (pv 1) (pa_cons (pe_fld (pv 0) rfl) pa_nil)))) (pw_or1 (pt_not (pt_val (pe_meth (pe_fld (pv 0) rfl) T.cl_Condition T.mt_Condition_ends (ok_Condition_ends T) hr T.b_Condition_ends .nil pass0 (pa_cons (pv 1) pa_nil)))))))) (pss_one (ps_ret pe_non)) pss_nil)
      (pss_one (ps_ret (pe_call (ok_short_enough T) (hr.mono (by decide)) rfl T.g_short_enough T.k_short_enough T.b_short_enough .nil pass0 (pa_cons (pe_op op_add_str (pe_slice sl_str (pv 1) po_none (po_some (pv 2))) (pe_fld (pv 0) rfl)) pa_nil)))))), ?_⟩
    have hzl := len_L z
    have hcl := len_L c
    have hal := len_L a
    have hc0 := hc
    obtain ⟨⟨dy, q, ho, _⟩, _⟩ := hc
    refine q_asg (v := .int ((z.length : Int) - (c.length : Int))) (ev_op (ev_cb (ea_cons (ev_var rfl) ea_nil) (rc_lenS (by omega))) (ev_cb (ea_cons (ev_fld (ev_var rfl) hx T.cl_Ending T.na_Ending_cut en_cut) ea_nil) (rc_lenS (by omega))) rv_I0) fun H1 e1 => ?_
    have hx1 := e1 _ _ hx
    refine q_when (b := !(decide ((L c).length < (L z).length) && (decide ((L z).drop ((L z).length - (L c).length) = L c) && fitE ps (L z)))) (et_is (et_or (a := !(decide ((L c).length < (L z).length))) (et_is (et_test (ev_op (ev_var rfl) ev_c rv_I0)) (by rw [← decide_not, decide_eq_decide]; omega)) fun hlt => et_or (a := !(decide ((L z).drop ((L z).length - (L c).length) = L c))) (et_not (et_B (ev_is (ev_bmS (v := .bl (Txt.endswith z c)) (ev_var rfl) (ea_cons (ev_fld (ev_var rfl) hx1 T.cl_Ending T.na_Ending_cut en_cut) ea_nil) fun _ _ _ q => ⟨z, c, rfl, rfl, q⟩) ?_)))
      fun _ => et_not (et_B (ev_methV (ev_fld (ev_var rfl) hx1 T.cl_Ending T.na_Ending_condition en_cond) (e1 _ _ ho) c_ends (ea_cons (ev_var rfl) ea_nil) (spE_v (hc0.mono e1) (by omega))))) ?_) (fun hb H2 e2 => ?_) fun hb H2 e2 => ?_
    · have hlt' : (L c).length < (L z).length := by simpa using hlt
      rw [ends_eq (by omega), hzl, hcl]
    · simp only [Bool.not_and]
    · refine s_ret (v := .non) ev_c fun H3 e3 => ?_
      have := kk H3 ((e1.trans e2).trans e3)
      rw [useE_eq, if_neg (by rw [(Bool.not_eq_true' _).mp hb]; exact Bool.false_ne_true)] at this
      exact this
    · have hb' := (Bool.not_eq_false' _).mp hb
      have hlt : (L c).length < (L z).length := by
        rw [Bool.and_eq_true, decide_eq_true_eq] at hb'
        exact hb'.1
      have ez : ((z.length : Int) - (c.length : Int)) = (((L z).length - (L c).length : Nat) : Int) := by omega
      have hx2 := e2 _ _ hx1
      refine s_ret (v := oV (useE (L c) (L a) ps (L z))) (ev_is (ev_call (ea_cons (ev_is (ev_op (ev_slS (ev_var rfl) eo_none (eo_some (ev_var rfl)) (by omega)) (ev_fld (ev_var rfl) hx2 T.cl_Ending T.na_Ending_added en_added) (rv_addS (by have := cut_len z none (some ((z.length : Int) - (c.length : Int))); omega))) (w := .str (TX.T ((L z).take ((L z).length - (L c).length) ++ L a))) ?_) ea_nil)
        (spFn fun H5 e5 => ⟨_, rfl, ?_⟩)) ?_) fun H3 e3 => kk H3 ((e1.trans e2).trans e3)
      · rw [ez, cut_begin z _ (by omega)]
        exact congrArg V.str (eq_L (by rw [L_add, L_T, L_T]))
      · rw [len_T, List.length_append, List.length_take]
        omega
      · show oV (short (L (TX.T _))) = _
        rw [L_T, useE_eq, if_pos hb']
theorem ok_Beginning_use (T : Txt K mg A) : FnOk P w K mg base CX0 3 A.f_Beginning_use A.d_Beginning_use P_Beginning_use (spUseB A) := by
  refine T.F_Beginning_use.ok sc_Beginning_use (fun vs H Q E h => ?_) (fun cdv A' outer s H vs Q E hr h => ?_)
  · obtain ⟨x, z, c, a, k, ps, rfl, _⟩ := h
    rfl
  · obtain ⟨x, z, c, a, k, ps, rfl, ⟨dx, o, hx, hc⟩, c4, a6, hz, kk⟩ := h
    refine ⟨_, (pss_cons (ps_set (i := 2) sc_Beginning_use.nd rfl (Or.inl rfl) (pe_callB call_len_str (by rfl) T.n_len PySem.boot_len (pa_cons (pe_fld (pv 0) rfl) pa_nil)))
      (pss_cons (ps_if (PW.pt (pw_or (pt_cmpR op_ge (pv 2) (pe_callB call_len_str (by rfl) T.n_len PySem.boot_len (pa_cons (pv 1) pa_nil)) (nomark _)) (pw_or (pt_not (pt_val (pe_bm PySem.F.plainAttrs_str PySem.F.slot_str_startswith PySem.F.type_str_startswith mt_startswith (pv 1) (pa_cons (pe_fld (pv 0) rfl) pa_nil)))) (pw_or1 (pt_not (pt_val (pe_meth (pe_fld (pv 0) rfl) T.cl_Condition T.mt_Condition_begins (ok_Condition_begins T) hr T.b_Condition_begins .nil pass0 (pa_cons (pv 1) pa_nil)))))))) (pss_one (ps_ret pe_non)) pss_nil)
      (pss_one (ps_ret (pe_call (ok_short_enough T) (hr.mono (by decide)) rfl T.g_short_enough T.k_short_enough T.b_short_enough .nil pass0 (pa_cons (pe_op op_add_str (pe_fld (pv 0) rfl) (pe_slice sl_str (pv 1) (po_some (pv 2)) po_none)) pa_nil)))))), ?_⟩
    have hzl := len_L z
    have hcl := len_L c
    have hal := len_L a
    have hc0 := hc
    obtain ⟨⟨dy, q, ho, _⟩, _⟩ := hc
    refine q_asg (v := .int (c.length : Int)) (ev_cb (ea_cons (ev_fld (ev_var rfl) hx T.cl_Beginning T.na_Beginning_cut r_cut) ea_nil) (rc_lenS (by omega))) fun H1 e1 => ?_
    have hx1 := e1 _ _ hx
    refine q_when (b := !(decide ((L c).length < (L z).length) && (decide ((L z).take (L c).length = L c) && fitB ps (L z)))) (et_is (et_or (a := !(decide ((L c).length < (L z).length))) (et_is (et_test (ev_op (ev_var rfl) (ev_cb (ea_cons (ev_var rfl) ea_nil) (rc_lenS (by omega))) rv_I0)) (by rw [← decide_not, decide_eq_decide]; omega)) fun hlt => et_or (a := !(decide ((L z).take (L c).length = L c))) (et_not (et_B (ev_is (ev_bmS (v := .bl (Txt.startswith z c)) (ev_var rfl) (ea_cons (ev_fld (ev_var rfl) hx1 T.cl_Beginning T.na_Beginning_cut r_cut) ea_nil) fun _ _ _ q => ⟨z, c, rfl, rfl, q⟩) ?_)))
      fun _ => et_not (et_B (ev_methV (ev_fld (ev_var rfl) hx1 T.cl_Beginning T.na_Beginning_condition r_cond) (e1 _ _ ho) c_begins (ea_cons (ev_var rfl) ea_nil) (spB_v (hc0.mono e1) (by omega))))) ?_) (fun hb H2 e2 => ?_) fun hb H2 e2 => ?_
    · have hlt' : (L c).length < (L z).length := by simpa using hlt
      rw [starts_eq (by omega), hcl]
    · simp only [Bool.not_and]
    · refine s_ret (v := .non) ev_c fun H3 e3 => ?_
      have := kk H3 ((e1.trans e2).trans e3)
      rw [useB_eq, if_neg (by rw [(Bool.not_eq_true' _).mp hb]; exact Bool.false_ne_true)] at this
      exact this
    · have hb' := (Bool.not_eq_false' _).mp hb
      have hlt : (L c).length < (L z).length := by
        rw [Bool.and_eq_true, decide_eq_true_eq] at hb'
        exact hb'.1
      have hx2 := e2 _ _ hx1
      refine s_ret (v := oV (useB (L c) (L a) ps (L z))) (ev_is (ev_call (ea_cons (ev_is (ev_op (ev_fld (ev_var rfl) hx2 T.cl_Beginning T.na_Beginning_added r_added) (ev_slS (ev_var rfl) (eo_some (ev_var rfl)) eo_none (by omega)) (rv_addS (by have := cut_len z (some (c.length : Int)) none; omega))) (w := .str (TX.T (L a ++ (L z).drop (L c).length))) ?_) ea_nil)
        (spFn fun H5 e5 => ⟨_, rfl, ?_⟩)) ?_) fun H3 e3 => kk H3 ((e1.trans e2).trans e3)
      · rw [hcl, cut_end z _ (by omega)]
        exact congrArg V.str (eq_L (by rw [L_add, L_T, L_T]))
      · rw [len_T, List.length_append, List.length_drop]
        omega
      · show oV (short (L (TX.T _))) = _
        rw [L_T, useB_eq, if_pos hb']
theorem ok_Rule_use (T : Txt K mg A) : FnOk P w K mg base CX0 1 A.f_Rule_use A.d_Rule_use P_Rule_use spUseR := by
  refine T.F_Rule_use.ok sc_Rule_use (fun vs H Q E h => ?_) (fun cdv A' outer s H vs Q E hr h => ?_)
  · obtain ⟨x, v, rfl, _⟩ := h
    rfl
  · obtain ⟨x, v, rfl, kk⟩ := h
    refine ⟨_, (pss_one (ps_ret pe_non)), ?_⟩
    exact s_ret ev_c kk
/-- o.text() -/
def spTextR (A : Ad) (C : Addr) : Sp := fun vs H Q _ => ∃ x c a k ps, vs = [.ref x] ∧ RuleAt A C H x c a k ps ∧ c.length ≤ 100 ∧ a.length ≤ 100 ∧ k.length ≤ 100 ∧ ∀ H', Ex H H' → Q (.str (line [c, a, k])) H'
def spTextE (A : Ad) : Sp := fun vs H Q _ => ∃ x c a k f ps, vs = [.ref x] ∧ EndAt A H x c a k f ps ∧ c.length ≤ 100 ∧ a.length ≤ 100 ∧ k.length ≤ 100 ∧ f.length ≤ 100 ∧ ∀ H', Ex H H' → Q (.str (line [c, a, k, f])) H'
theorem ev_callL {sp : Sp} {xs : List V} {E : XK} {te : TE} {σ : L2.St} {H : Hp} {v : V} (h : EvL te σ H xs) (hs : ∀ p H1, Ex H H1 → H1 p = some (.lst xs) → ∀ Q : VK, (∀ H2, Ex H1 H2 → Q v H2) → sp [.ref p] H1 Q E) : Ev (tCall sp [] E (tCons te tNil)) σ H v := fun H1 e Q q =>
  h H1 e _ fun p H2 _ e2 h2 => hs p H2 (e.trans e2) h2 Q fun H3 e3 => q H3 (e2.trans e3)
theorem ok_Rule_text (T : Txt K mg A) : FnOk P w K mg base CX0 2 A.f_Rule_text A.d_Rule_text P_Rule_text (spTextR A A.c_Rule) := by
  refine T.F_Rule_text.ok sc_Rule_text (fun vs H Q E h => ?_) (fun cdv A' outer s H vs Q E hr h => ?_)
  · obtain ⟨x, c, a, k, ps, rfl, _⟩ := h
    rfl
  · obtain ⟨x, c, a, k, ps, rfl, ⟨dx, o, hx, ⟨⟨dy, q, ho, _⟩, _⟩⟩, c1, a1, k1, kk⟩ := h
    refine ⟨_, (pss_one (ps_ret (pe_call (ok_written T) hr rfl T.g_written T.k_written T.b_written .nil pass0 (pa_cons (pe_lst (pa_cons (pe_fld (pv 0) rfl) (pa_cons (pe_fld (pv 0) rfl) (pa_cons (pe_fld (pe_fld (pv 0) rfl) rfl) pa_nil)))) pa_nil)))), ?_⟩
    refine s_ret (v := .str (line [c, a, k])) (ev_callL (xs := [.str c, .str a, .str k]) (el_lst (ea_cons (ev_fld (ev_var rfl) hx T.cl_Rule T.na_Rule_cut r_cut) (ea_cons (ev_fld (ev_var rfl) hx T.cl_Rule T.na_Rule_added r_added) (ea_cons (ev_fld (ev_fld (ev_var rfl) hx T.cl_Rule T.na_Rule_condition r_cond) ho T.cl_Condition T.na_Condition_told told_told) ea_nil))) (by show 3 ≤ 100000; decide))
      fun p H1 e1 h1 Q q => ⟨p, [c, a, k], rfl, sq_of h1, by show 3 ≤ 10; decide, fun y hy => ?_, q⟩) kk
    simp only [List.mem_cons, List.not_mem_nil, or_false] at hy
    rcases hy with rfl | rfl | rfl <;> omega
theorem ok_Beginning_text (T : Txt K mg A) : FnOk P w K mg base CX0 2 A.f_Beginning_text A.d_Beginning_text P_Beginning_text (spTextR A A.c_Beginning) := by
  refine T.F_Beginning_text.ok sc_Beginning_text (fun vs H Q E h => ?_) (fun cdv A' outer s H vs Q E hr h => ?_)
  · obtain ⟨x, c, a, k, ps, rfl, _⟩ := h
    rfl
  · obtain ⟨x, c, a, k, ps, rfl, ⟨dx, o, hx, ⟨⟨dy, q, ho, _⟩, _⟩⟩, c1, a1, k1, kk⟩ := h
    refine ⟨_, (pss_one (ps_ret (pe_call (ok_written T) hr rfl T.g_written T.k_written T.b_written .nil pass0 (pa_cons (pe_lst (pa_cons (pe_fld (pv 0) rfl) (pa_cons (pe_fld (pv 0) rfl) (pa_cons (pe_fld (pe_fld (pv 0) rfl) rfl) pa_nil)))) pa_nil)))), ?_⟩
    refine s_ret (v := .str (line [c, a, k])) (ev_callL (xs := [.str c, .str a, .str k]) (el_lst (ea_cons (ev_fld (ev_var rfl) hx T.cl_Beginning T.na_Beginning_cut r_cut) (ea_cons (ev_fld (ev_var rfl) hx T.cl_Beginning T.na_Beginning_added r_added) (ea_cons (ev_fld (ev_fld (ev_var rfl) hx T.cl_Beginning T.na_Beginning_condition r_cond) ho T.cl_Condition T.na_Condition_told told_told) ea_nil))) (by show 3 ≤ 100000; decide))
      fun p H1 e1 h1 Q q => ⟨p, [c, a, k], rfl, sq_of h1, by show 3 ≤ 10; decide, fun y hy => ?_, q⟩) kk
    simp only [List.mem_cons, List.not_mem_nil, or_false] at hy
    rcases hy with rfl | rfl | rfl <;> omega
theorem ok_Ending_text (T : Txt K mg A) : FnOk P w K mg base CX0 2 A.f_Ending_text A.d_Ending_text P_Ending_text (spTextE A) := by
  refine T.F_Ending_text.ok sc_Ending_text (fun vs H Q E h => ?_) (fun cdv A' outer s H vs Q E hr h => ?_)
  · obtain ⟨x, c, a, k, f, ps, rfl, _⟩ := h
    rfl
  · obtain ⟨x, c, a, k, f, ps, rfl, ⟨dx, o, hx, ⟨⟨dy, q, ho, _⟩, _⟩⟩, c1, a1, k1, f1, kk⟩ := h
    refine ⟨_, (pss_one (ps_ret (pe_call (ok_written T) hr rfl T.g_written T.k_written T.b_written .nil pass0 (pa_cons (pe_lst (pa_cons (pe_fld (pv 0) rfl) (pa_cons (pe_fld (pv 0) rfl) (pa_cons (pe_fld (pe_fld (pv 0) rfl) rfl) (pa_cons (pe_fld (pv 0) rfl) pa_nil))))) pa_nil)))), ?_⟩
    refine s_ret (v := .str (line [c, a, k, f])) (ev_callL (xs := [.str c, .str a, .str k, .str f]) (el_lst (ea_cons (ev_fld (ev_var rfl) hx T.cl_Ending T.na_Ending_cut en_cut) (ea_cons (ev_fld (ev_var rfl) hx T.cl_Ending T.na_Ending_added en_added) (ea_cons (ev_fld (ev_fld (ev_var rfl) hx T.cl_Ending T.na_Ending_condition en_cond) ho T.cl_Condition T.na_Condition_told told_told) (ea_cons (ev_fld (ev_var rfl) hx T.cl_Ending T.na_Ending_further en_further) ea_nil)))) (by show 4 ≤ 100000; decide))
      fun p H1 e1 h1 Q q => ⟨p, [c, a, k, f], rfl, sq_of h1, by show 4 ≤ 10; decide, fun y hy => ?_, q⟩) kk
    simp only [List.mem_cons, List.not_mem_nil, or_false] at hy
    rcases hy with rfl | rfl | rfl | rfl <;> omega
theorem r_text {o : Addr} {c a : Str} : (rFlds o c a).lookup ("text" : Str) = none := r_no (by decide +kernel) (by decide +kernel) (by decide +kernel)
theorem r_use {o : Addr} {c a : Str} : (rFlds o c a).lookup ("use" : Str) = none := r_no (by decide +kernel) (by decide +kernel) (by decide +kernel)
theorem en_text {o : Addr} {c a f : Str} : (eFlds o c a f).lookup ("text" : Str) = none := by rw [en_fld (by decide +kernel), r_text]
theorem en_use {o : Addr} {c a f : Str} : (eFlds o c a f).lookup ("use" : Str) = none := by rw [en_fld (by decide +kernel), r_use]
/-! ### classes and their rules -/
structure RuleD where
  c : Str
  a : Str
  ps : List (Str × Str)
  g : List Nat
abbrev BandD := Bool × List RuleD
abbrev OwnD := List (Str × BandD)
def kindS (e : Bool) : Str := if e = true then "ending" else "beginning"
theorem kind_eq (a b : Bool) : decide (V.str (kindS a) = V.str (kindS b)) = decide (a = b) := by cases a <;> cases b <;> decide +kernel
def fnd (own : OwnD) (n : Str) : Option BandD := (own.find? fun e => decide (e.1 = n)).map (·.2)
/-- a rule's object -/
def RObj (A : Ad) (H : Hp) (e : Bool) (v : V) (r : RuleD) : Prop := ∃ x, v = .ref x ∧ (if e = true then EndAt A H x r.c r.a (txt r.ps) (TX.T r.g) (lst r.ps) else RuleAt A A.c_Beginning H x r.c r.a (txt r.ps) (lst r.ps)) ∧ Good4 r.c r.a r.ps r.g
theorem RObj.mono {H H' : Hp} {e : Bool} {v : V} {r : RuleD} (h : RObj A H e v r) (ex : Ex H H') : RObj A H' e v r := by
  obtain ⟨x, rfl, h1, h2⟩ := h
  refine ⟨x, rfl, ?_, h2⟩
  cases e with
  | true => exact EndAt.mono h1 ex
  | false => exact RuleAt.mono h1 ex
/-- item by item -/
def Pw {α β : Type} (R : α → β → Prop) (xs : List α) (ys : List β) : Prop := xs.length = ys.length ∧ ∀ (i : Nat) x y, xs[i]? = some x → ys[i]? = some y → R x y
theorem Pw.imp {α β : Type} {R R' : α → β → Prop} {xs : List α} {ys : List β} (h : Pw R xs ys) (i : ∀ x y, R x y → R' x y) : Pw R' xs ys := ⟨h.1, fun j x y a b => i x y (h.2 j x y a b)⟩
def bFlds (e : Bool) (rl : Addr) : List (Str × V) := putF "rules" (.ref rl) (putF "kind" (.str (kindS e)) [])
theorem b_kind {e : Bool} {rl : Addr} : (bFlds e rl).lookup ("kind" : Str) = some (.str (kindS e)) := by
  unfold bFlds
  rw [lookup_putF, if_neg (by decide +kernel), lookup_putF, if_pos rfl]
theorem b_rules {e : Bool} {rl : Addr} : (bFlds e rl).lookup ("rules" : Str) = some (.ref rl) := by
  unfold bFlds
  rw [lookup_putF, if_pos rfl]
/-- a Band -/
def BandAt (A : Ad) (H : Hp) (o : Addr) (b : BandD) : Prop := ∃ dx rl xs, H o = some (.ins A.c_Band dx (bFlds b.1 rl)) ∧ H rl = some (.lst xs) ∧ Pw (RObj A H b.1) xs b.2 ∧ b.2.length ≤ 6
theorem BandAt.mono {H H' : Hp} {o : Addr} {b : BandD} (h : BandAt A H o b) (ex : Ex H H') : BandAt A H' o b := by
  obtain ⟨dx, rl, xs, h1, h2, h3, h4⟩ := h
  exact ⟨dx, rl, xs, ex _ _ h1, ex _ _ h2, h3.imp fun x y r => r.mono ex, h4⟩
/-- the dict of Bands -/
def BandsAt (A : Ad) (H : Hp) (d : Addr) (own : OwnD) : Prop := ∃ kvs, Rd H d (.dK kvs) ∧ ∀ n b, fnd own n = some b → ∃ o, valV kvs (.inr n) = some (.ref o) ∧ BandAt A H o b
theorem BandsAt.mono {H H' : Hp} {d : Addr} {own : OwnD} (h : BandsAt A H d own) (ex : Ex H H') : BandsAt A H' d own := by
  obtain ⟨kvs, h1, h2⟩ := h
  refine ⟨kvs, ex_rd ex h1, fun n b hb => ?_⟩
  obtain ⟨o, h3, h4⟩ := h2 n b hb
  exact ⟨o, h3, h4.mono ex⟩
def spBInit (A : Ad) (K : PySem.W.Frag) : Sp := fun vs H Q _ => ∃ x dx rl xs e rs, vs = [.ref x, .str (kindS e), .ref rl] ∧ H x = some (.ins A.c_Band dx []) ∧ SqL K H rl xs ∧ Pw (RObj A H e) xs rs ∧ rs.length ≤ 6 ∧
  ∀ q H', H q = none → H' x = some (.ins A.c_Band dx (bFlds e q)) → H' q = some (.lst xs) → q ≠ x → Kept H H' x → Q .non H'
theorem ok_Band_init (T : Txt K mg A) : FnOk P w K mg base CX0 1 A.f_Band_init A.d_Band_init P_Band_init (spBInit A K) := by
  refine T.F_Band_init.ok sc_Band_init (fun vs H Q E h => ?_) (fun cdv A' outer s H vs Q E hr h => ?_)
  · obtain ⟨x, dx, rl, xs, e, rs, rfl, _⟩ := h
    rfl
  · obtain ⟨x, dx, rl, xs, e, rs, rfl, hx, hS, hR, h6, k⟩ := h
    refine ⟨_, (pss_cons (ps_fld (pv 0) (pv 1) rfl)
      (pss_one (ps_fld (pv 0) (pe_callTy call_list_of (by rfl) T.n_list (by decide +kernel) (pa_cons (pv 2) pa_nil)) rfl))), ?_⟩
    refine ⟨_, rfl, _, rfl, x, A.c_Band, dx, [], rfl, hx, T.cl_Band, T.na_Band_kind, (by show 0 < 1000; decide), ?_⟩
    have hS1 : SqL K (upd H x (.ins A.c_Band dx (putF "kind" (.str (kindS e)) []))) rl xs := by
      rcases hS with hS | hS
      · refine Or.inl ?_
        rcases hS with hS | ⟨u, hS⟩
        · exact Or.inl (by rw [upd_ne (ne_of hS hx fun z => by cases z)]; exact hS)
        · exact Or.inr ⟨u, by rw [upd_ne (ne_of hS hx fun z => by cases z)]; exact hS⟩
      · exact Or.inr hS
    have hl : EvL _ [some (.ref x), some (.str (kindS e)), some (.ref rl)] _ xs := el_listOf (ev_var (i := 2) rfl) hS1
    dsimp only
    unfold sFld
    refine hl _ (Ex.refl _) _ fun q H1 nq e1 h1 => ?_
    have hx1 := e1 _ _ (upd_same (H := H) (a := x))
    have nqx : q ≠ x := fun z => by rw [z, upd_same] at nq; cases nq
    refine ⟨_, rfl, x, A.c_Band, dx, _, rfl, hx1, T.cl_Band, T.na_Band_rules, (by show 1 < 1000; decide), ?_⟩
    have nq0 : H q = none := by rwa [upd_ne nqx] at nq
    refine k q _ nq0 upd_same (by rw [upd_ne nqx]; exact h1) nqx ?_
    exact (Kept.upd.trans (Kept.of e1)).trans Kept.upd
/-! ### what comes of a word -/
abbrev Pair := Nat × Nat
def stepR (e : Bool) (w : List Nat) (r : RuleD) : Option (List Nat) := usedL e (L r.c) (L r.a) (lst r.ps) w
def inn (e : Bool) (w : List Nat) (c : Nat) (rs : List RuleD) (i : Nat) : List (List Nat × Pair) := (List.range i).filterMap fun j => (rs[j]?.bind (stepR e w)).map fun q => (q, (c, j))
theorem inn_succ (e : Bool) (w : List Nat) (c : Nat) (rs : List RuleD) (i : Nat) : inn e w c rs (i + 1) = inn e w c rs i ++ ((rs[i]?.bind (stepR e w)).map fun q => (q, (c, i))).toList := by
  unfold inn
  rw [List.range_succ, List.filterMap_append]
  congr 1
theorem inn_len (e : Bool) (w : List Nat) (c : Nat) (rs : List RuleD) (i : Nat) : (inn e w c rs i).length ≤ i := by
  unfold inn
  have := List.length_filterMap_le (fun j => (rs[j]?.bind (stepR e w)).map fun q => (q, ((c, j) : Pair))) (List.range i)
  rwa [List.length_range] at this
def per (own : OwnD) (e : Bool) (w : List Nat) (c : Nat) : List (List Nat × Pair) := match fnd own (TX.T [c]) with
  | some (k, rs) => if k = e then inn e w c rs rs.length else []
  | none => []
def stepsD (own : OwnD) (e : Bool) (w : List Nat) (cs : List Nat) : List (List Nat × Pair) := (cs.map (per own e w)).flatten
def pairP (p : Pair) : PyData := .tuple [.str (TX.T [p.1]), .int (p.2 : Int)]
def stepP (s : List Nat × Pair) : PyData := .tuple [.str (TX.T s.1), pairP s.2]
def Known (own : OwnD) (cs : List Nat) : Prop := ∀ c ∈ cs, ∃ b, fnd own (TX.T [c]) = some b
theorem flat_len {α β : Type} {f : α → List β} {n : Nat} : ∀ {l : List α}, (∀ c ∈ l, (f c).length ≤ n) → ((l.map f).flatten).length ≤ n * l.length
  | [], _ => Nat.zero_le _
  | c :: l, h => by
    have h1 := flat_len (l := l) fun x hx => h x (List.mem_cons_of_mem _ hx)
    have h2 := h c List.mem_cons_self
    rw [List.map_cons, List.flatten_cons, List.length_append, List.length_cons, Nat.mul_succ]
    omega
theorem per_len {own : OwnD} {e : Bool} {w : List Nat} {c : Nat} (h : ∀ n b, fnd own n = some b → b.2.length ≤ 6) : (per own e w c).length ≤ 6 := by
  unfold per
  split
  · rename_i k rs hf
    have := h _ _ hf
    split
    · exact Nat.le_trans (inn_len _ _ _ _ _) this
    · exact Nat.zero_le _
  · exact Nat.zero_le _
theorem steps_len {own : OwnD} {e : Bool} {w cs : List Nat} (h : ∀ n b, fnd own n = some b → b.2.length ≤ 6) : (stepsD own e w cs).length ≤ 6 * cs.length := flat_len fun c _ => per_len h
theorem BandsAt.six {H : Hp} {d : Addr} {own : OwnD} (h : BandsAt A H d own) : ∀ n b, fnd own n = some b → b.2.length ≤ 6 := fun n b hb => by
  obtain ⟨kvs, _, h2⟩ := h
  obtain ⟨o, _, dx, rl, xs, _, _, _, h6⟩ := h2 n b hb
  exact h6
theorem noL_step (s : List Nat × Pair) : noL (stepP s) = true := by simp [stepP, pairP, noL, noLs]
theorem noL_steps (l : List (List Nat × Pair)) : noLs (l.map stepP) = true := noLs_of fun d hd => by
  obtain ⟨s, _, rfl⟩ := List.mem_map.mp hd
  exact noL_step s
/-- what comes, and whence -/
theorem steps_mem {own : OwnD} {e : Bool} {w cs : List Nat} {s : List Nat × Pair} (h : s ∈ stepsD own e w cs) : s.2.1 ∈ cs ∧ ∃ rs r, fnd own (TX.T [s.2.1]) = some (e, rs) ∧ rs[s.2.2]? = some r ∧ stepR e w r = some s.1 := by
  unfold stepsD at h
  obtain ⟨l, hl, hs⟩ := List.mem_flatten.mp h
  obtain ⟨c, hc, rfl⟩ := List.mem_map.mp hl
  unfold per at hs
  split at hs
  · rename_i k rs hf
    split at hs
    · rename_i hk
      subst hk
      unfold inn at hs
      obtain ⟨j, _, hj⟩ := List.mem_filterMap.mp hs
      cases hr : rs[j]? with
      | none => rw [hr] at hj; cases hj
      | some r =>
        rw [hr] at hj
        cases hq : stepR k w r with
        | none =>
          have hj' : ((stepR k w r).map fun q => (q, ((c, j) : Pair))) = some s := hj
          rw [hq] at hj'
          cases hj'
        | some q =>
          have hj' : ((stepR k w r).map fun q => (q, ((c, j) : Pair))) = some s := hj
          rw [hq] at hj'
          cases hj'
          exact ⟨hc, rs, r, hf, hr, hq⟩
    · cases hs
  · cases hs
def spUse (A : Ad) (K : PySem.W.Frag) : Sp := fun vs H Q _ => ∃ d z e w own, vs = [.ref d, .str z, .str (kindS e), .str w] ∧ BandsAt A H d own ∧ Known own (L z) ∧ z.length ≤ 4 ∧ w.length ≤ 16 ∧
  ∀ p xs H', H p = none → H' p = some (.lst xs) → DpAll K H' xs ((stepsD own e (L w) (L z)).map stepP) → Ex H H' → Q (.ref p) H'
theorem ok_used (T : Txt K mg A) : FnOk P w K mg base CX0 4 A.f_used A.d_used P_used (spUse A K) := by
  refine T.F_used.ok sc_used (fun vs H Q E h => ?_) (fun cdv A' outer s H vs Q E hr h => ?_)
  · obtain ⟨d, z, e, w, own, rfl, _⟩ := h
    rfl
  · obtain ⟨d, z, e, w, own, rfl, hB, hK, hz, hw, k⟩ := h
    refine ⟨_, (pss_cons (ps_set (i := 4) sc_used.nd rfl (Or.inl rfl) (pe_lst pa_nil))
      (pss_cons (ps_for PassesOwn.never rfl (pi_str (pv 1)) (pg_name (i := 5) sc_used.nd rfl (Or.inl rfl))
      (pss_one (ps_if (pt_cmpR op_eq (pe_fld (pe_dget (hu_of hr) (pv 0) (pv 5) (fun _ _ => rfl)) rfl) (pv 2) (nomark _)) (pss_one (ps_for PassesOwn.never rfl (pi_enum (by rfl) T.n_enumerate (pa_cons (pe_fld (pe_dget (hu_of hr) (pv 0) (pv 5) (fun _ _ => rfl)) rfl) pa_nil)) (pg_tup (by rfl) (pgs_cons (pg_name (i := 6) sc_used.nd rfl (Or.inl rfl)) (pgs_cons (pg_name (i := 7) sc_used.nd rfl (Or.inl rfl)) pgs_nil)))
      (pss_cons (ps_set (i := 8) sc_used.nd rfl (Or.inl rfl) (pe_alt (pe_meth (pv 7) T.cl_Ending T.mt_Ending_use (ok_Ending_use T) hr T.b_Ending_use .nil pass0 (pa_cons (pv 3) pa_nil)) (pe_meth (pv 7) T.cl_Beginning T.mt_Beginning_use (ok_Beginning_use T) hr T.b_Beginning_use .nil pass0 (pa_cons (pv 3) pa_nil))))
      (pss_one (ps_if (pt_cmpR op_notN (pv 8) pe_non (nomark _)) (pss_one (ps_expr (pe_bm PySem.F.plainAttrs_list PySem.F.slot_list_append PySem.F.type_list_append mt_append (pv 4) (pa_cons (pe_tup (pa_cons (pv 8) (pa_cons (pe_tup (pa_cons (pv 5) (pa_cons (pv 6) pa_nil))) pa_nil))) pa_nil)))) pss_nil))))) pss_nil)))
      (pss_one (ps_ret (pv 4))))), ?_⟩
    have six := hB.six
    have hzl := len_L z
    obtain ⟨kvs, hd, hO⟩ := hB
    refine q_asgL (xs := []) (el_lst ea_nil (by show 0 ≤ 100000; decide)) fun p H0 np e0 hp0 => ?_
    have bnd : ∀ i, (((L z).take i).map (per own e (L w))).flatten.length ≤ 24 := fun i => by
      have := flat_len (l := (L z).take i) (f := per own e (L w)) (n := 6) fun c _ => per_len six
      have h2 : ((L z).take i).length ≤ 4 := by rw [List.length_take]; omega
      omega
    refine q_forS (w := z) (ev_var rfl) (fun i σ' H' => Ex H H' ∧ ∃ xs v5 v6 v7 v8, σ' = [some (.ref d), some (.str z), some (.str (kindS e)), some (.str w), some (.ref p), v5, v6, v7, v8] ∧ H' p = some (.lst xs) ∧ DpAll K H' xs ((((L z).take i).map (per own e (L w))).flatten.map stepP))
      (fun H1 e1 => ⟨e0.trans e1, [], none, none, none, none, rfl, e1 _ _ hp0, .nil⟩) ?_ ?_
    · rintro i c σ' H' hc ⟨eH, xs, v5, v6, v7, v8, rfl, hp, dx⟩
      have xl : xs.length ≤ 24 := by rw [dx.len, List.length_map]; exact bnd i
      obtain ⟨⟨k2, rs⟩, hf⟩ := hK c (List.mem_of_getElem? hc)
      obtain ⟨o, hv, db, rl, rxs, ho, hrl, hR, r6⟩ := hO _ _ hf
      have tk : (((L z).take (i + 1)).map (per own e (L w))).flatten = (((L z).take i).map (per own e (L w))).flatten ++ per own e (L w) c := by
        rw [List.take_add_one, hc, List.map_append, List.flatten_append]
        simp
      rw [tk]
      have get : ∀ {H1 : Hp} {σ : L2.St}, Ex H H1 → σ[0]? = some (some (.ref d)) → σ[5]? = some (some (.str (TX.T [c]))) → Ev (tDGet (tVar 0) (tVar 5)) σ H1 (.ref o) := fun ex h0 h5 => ev_dget (ev_var h0) (ev_var h5) (ex_rd ex hd) hv
      refine s_when (b := decide (k2 = e)) (et_is (et_test (ev_op (ev_fld (get eH rfl rfl) (eH _ _ ho) T.cl_Band T.na_Band_kind b_kind) (ev_var rfl) (rv_eq rfl))) (kind_eq k2 e)) (fun hk H1 e1 => ?_) fun hk H1 e1 => ?_
      · have hk' : k2 = e := by simpa using hk
        subst hk'
        have e01 := eH.trans e1
        have pc : per own k2 (L w) c = inn k2 (L w) c rs rs.length := by
          unfold per
          rw [hf]
          exact if_pos rfl
        rw [pc]
        have rxl : rxs.length = rs.length := hR.1
        refine s_forE (a := rl) (xs := rxs) (ea_cons (ev_fld (get e01 rfl rfl) (e01 _ _ ho) T.cl_Band T.na_Band_rules b_rules) ea_nil) (sq_of (e01 _ _ hrl)) (fun j σ' H' => Ex H H' ∧ ∃ ys v6 v7 v8, σ' = [some (.ref d), some (.str z), some (.str (kindS k2)), some (.str w), some (.ref p), some (.str (TX.T [c])), v6, v7, v8] ∧ H' p = some (.lst ys) ∧ DpAll K H' ys (((((L z).take i).map (per own k2 (L w))).flatten ++ inn k2 (L w) c rs j).map stepP))
          (fun H2 e2 => ⟨e01.trans e2, xs, v6, v7, v8, rfl, e2 _ _ (e1 _ _ hp), by rw [show inn k2 (L w) c rs 0 = [] from rfl, List.append_nil]; exact DpAll.mono (e1.trans e2) _ _ dx⟩) (fun j σ' H' _ h => sq_of (h.1 _ _ hrl)) ?_ ?_
        · rintro j x σ' H2 H3 hx ⟨eH2, ys, u6, u7, u8, rfl, hp2, dy⟩ e3
          have hj : j < rs.length := rxl ▸ (List.getElem?_eq_some_iff.mp hx).1
          have hr : rs[j]? = some (rs[j]) := List.getElem?_eq_getElem hj
          generalize rs[j] = r at hr
          have hro := (hR.2 j x r hx hr).mono (eH2.trans e3)
          obtain ⟨y, rfl, hro, G⟩ := hro
          have r6' : rs.length ≤ 6 := r6
          have yl : ys.length ≤ 100 := by
            have := dy.len
            have h1 := inn_len k2 (L w) c rs j
            have h2 := bnd i
            rw [List.length_map, List.length_append] at this
            omega
          rw [inn_succ, hr]
          show tSeq _ _ _ _ _
          refine q_asg (v := oV (stepR k2 (L w) r)) ?_ fun H4 e4 => ?_
          · cases k2 with
            | true =>
              have hE : EndAt A H3 y r.c r.a (txt r.ps) (TX.T r.g) (lst r.ps) := hro
              have hE0 := hE
              obtain ⟨dy, oy, hy, _⟩ := hE0
              exact ev_alt1 (ev_methV (ev_var rfl) hy en_use (ea_cons (ev_var rfl) ea_nil) (fun H5 e5 Q5 q5 E5 => ⟨y, w, r.c, r.a, txt r.ps, TX.T r.g, lst r.ps, rfl, hE.mono e5, G.c4, G.a6, hw, q5⟩))
            | false =>
              have hE : RuleAt A A.c_Beginning H3 y r.c r.a (txt r.ps) (lst r.ps) := hro
              have hE0 := hE
              obtain ⟨dy, oy, hy, _⟩ := hE0
              exact ev_alt2 (ev_methV (ev_var rfl) hy r_use (ea_cons (ev_var rfl) ea_nil) (fun H5 e5 Q5 q5 E5 => ⟨y, w, r.c, r.a, txt r.ps, lst r.ps, rfl, hE.mono e5, G.c4, G.a6, hw, q5⟩))
          · show tIfS _ _ _ _ _ _
            have e24 := e3.trans e4
            cases hq : stepR k2 (L w) r with
            | none =>
              refine s_when (b := false) (et_is (et_test (ev_op (ev_var rfl) ev_c rv_notN)) rfl) (fun h => nomatch h) fun _ H5 e5 => ?_
              refine ⟨eH2.trans (e24.trans e5), ys, _, _, _, rfl, e5 _ _ (e24 _ _ hp2), ?_⟩
              have : ((some r : Option RuleD).bind (stepR k2 (L w))).map (fun q => (q, ((c, j) : Pair))) = none := by
                show (stepR k2 (L w) r).map _ = none
                rw [hq]
                rfl
              rw [this, Option.toList_none, List.append_nil]
              exact DpAll.mono (e24.trans e5) _ _ dy
            | some q =>
              refine s_when (b := true) (et_is (et_test (ev_op (ev_var rfl) ev_c rv_notN)) rfl) (fun _ H5 e5 => ?_) fun h => nomatch h
              have e25 := e24.trans e5
              refine s_appG (P2 := fun H1 v => Dp K H1 v (stepP (q, (c, j)))) (l := p) (e25 _ _ hp2) (ev_var rfl) (eg_tupD (ds := [.str (TX.T q), pairP (c, j)]) (ear_vD (ev_var rfl) (.str _) (ear_gD (eg_tupD (ear_vD (ev_var rfl) (.str _) (ear_vD (ev_var rfl) (.int _) ear_nilD)) (by show 2 ≤ 1000; decide)) ear_nilD)) (by show 2 ≤ 1000; decide)) (by omega) fun v H6 e6 dv => ?_
              have e26 := e25.trans e6
              refine ⟨Ex.mut (eH2.trans e26) np, ys ++ [v], _, _, _, rfl, upd_same, ?_⟩
              have : ((some r : Option RuleD).bind (stepR k2 (L w))).map (fun q => (q, ((c, j) : Pair))) = some (q, (c, j)) := by
                show (stepR k2 (L w) r).map _ = _
                rw [hq]
                rfl
              rw [this, Option.toList_some, ← List.append_assoc, List.map_append]
              exact DpAll.snoc (DpAll.updL (e26 _ _ hp2) _ _ (noL_steps _) (DpAll.mono e26 _ _ dy)) (Dp.updL (e26 _ _ hp2) _ _ (noL_step (q, (c, j))) dv)
        · rintro σ' H2 ⟨eH2, ys, u6, u7, u8, rfl, hp2, dy⟩
          rw [rxl] at dy
          exact ⟨eH2, ys, _, _, _, _, rfl, hp2, dy⟩
      · have pc : per own e (L w) c = [] := by
          unfold per
          rw [hf]
          exact if_neg (by simpa using hk)
        rw [pc, List.append_nil]
        exact ⟨eH.trans e1, xs, _, _, _, _, rfl, e1 _ _ hp, DpAll.mono e1 _ _ dx⟩
    · rintro σ' H' ⟨eH, xs, v5, v6, v7, v8, rfl, hp, dx⟩
      rw [List.take_length] at dx
      refine s_ret (ev_var rfl) fun H1 e1 => k p xs H1 np (e1 _ _ hp) (DpAll.mono e1 _ _ dx) (eH.trans e1)

/-! ### endings, one or two -/
def furD (own : OwnD) (p : Pair) : List Nat := match fnd own (TX.T [p.1]) with
  | some (_, rs) => (match rs[p.2]? with | some r => r.g | none => [])
  | none => []
def endR (own : OwnD) (s : List Nat × Pair) : List (List Nat × List Pair) := (s.1, [s.2]) :: (stepsD own true s.1 (furD own s.2)).map fun t => (t.1, [s.2, t.2])
def endedD (own : OwnD) (w cs : List Nat) : List (List Nat × List Pair) := (w, []) :: ((stepsD own true w cs).map (endR own)).flatten
def endP (r : List Nat × List Pair) : PyData := .tuple [.str (TX.T r.1), .tuple (r.2.map pairP)]
/-- further classes are there -/
def Deep (own : OwnD) : Prop := ∀ n k rs r, fnd own n = some (k, rs) → r ∈ rs → Known own r.g
theorem noL_pair (p : Pair) : noL (pairP p) = true := by simp [pairP, noL, noLs]
theorem noL_pairs (l : List Pair) : noLs (l.map pairP) = true := noLs_of fun d hd => by
  obtain ⟨s, _, rfl⟩ := List.mem_map.mp hd
  exact noL_pair s
theorem noL_end (s : List Nat × List Pair) : noL (endP s) = true := by simp [endP, noL, noLs, noL_pairs]
theorem noL_ends (l : List (List Nat × List Pair)) : noLs (l.map endP) = true := noLs_of fun d hd => by
  obtain ⟨s, _, rfl⟩ := List.mem_map.mp hd
  exact noL_end s
theorem fur3 {H : Hp} {d : Addr} {own : OwnD} (h : BandsAt A H d own) (p : Pair) : (furD own p).length ≤ 3 := by
  unfold furD
  split
  · rename_i rs hf
    obtain ⟨kvs, _, h2⟩ := h
    obtain ⟨o, _, dx, rl, xs, _, _, hR, _⟩ := h2 _ _ hf
    split
    · rename_i r hr
      have hi : p.2 < xs.length := by rw [hR.1]; exact (List.getElem?_eq_some_iff.mp hr).1
      obtain ⟨x, _, _, G⟩ := hR.2 _ _ _ (List.getElem?_eq_getElem hi) hr
      exact G.fu.1
    · exact Nat.zero_le _
  · exact Nat.zero_le _
theorem endR_len {H : Hp} {d : Addr} {own : OwnD} (h : BandsAt A H d own) (s : List Nat × Pair) : (endR own s).length ≤ 19 := by
  unfold endR
  have h1 := steps_len (e := true) (w := s.1) (cs := furD own s.2) h.six
  have h2 := fur3 h s.2
  rw [List.length_cons, List.length_map]
  omega
theorem ended_len {H : Hp} {d : Addr} {own : OwnD} {w cs : List Nat} (h : BandsAt A H d own) (hc : cs.length ≤ 4) : (endedD own w cs).length ≤ 457 := by
  unfold endedD
  have h1 := flat_len (l := stepsD own true w cs) (f := endR own) (n := 19) fun s _ => endR_len h s
  have h2 := steps_len (e := true) (w := w) (cs := cs) h.six
  rw [List.length_cons]
  omega
/-- a step's word is short -/
theorem stepR_short {e : Bool} {w q : List Nat} {r : RuleD} (h : stepR e w r = some q) : q.length ≤ 16 := by
  unfold stepR usedL useE useB at h
  split at h
  · split at h
    · exact (short_le h)
    · cases h
  · split at h
    · exact (short_le h)
    · cases h
where
  short_le {r q : List Nat} (h : short r = some q) : q.length ≤ 16 := by
    unfold short at h
    split at h
    · cases h
      omega
    · cases h
def spEnded (A : Ad) (K : PySem.W.Frag) : Sp := fun vs H Q _ => ∃ d w z own, vs = [.ref d, .str w, .str z] ∧ BandsAt A H d own ∧ Deep own ∧ Known own (L z) ∧ z.length ≤ 4 ∧ w.length ≤ 16 ∧
  ∀ p xs H', H p = none → H' p = some (.lst xs) → DpAll K H' xs ((endedD own (L w) (L z)).map endP) → Ex H H' → Q (.ref p) H'
theorem ok_ended (T : Txt K mg A) : FnOk P w K mg base CX0 5 A.f_ended A.d_ended P_ended (spEnded A K) := by
  refine T.F_ended.ok sc_ended (fun vs H Q E h => ?_) (fun cdv A' outer s H vs Q E hr h => ?_)
  · obtain ⟨d, w, z, own, rfl, _⟩ := h
    rfl
  · obtain ⟨d, w, z, own, rfl, hB, hDp, hK, hz, hw, k⟩ := h
    refine ⟨_, (pss_cons (ps_set (i := 3) sc_ended.nd rfl (Or.inl rfl) (pe_lst (pa_cons (pe_tup (pa_cons (pv 1) (pa_cons (pe_tup pa_nil) pa_nil))) pa_nil)))
      (pss_cons (ps_for PassesOwn.never rfl (pi_list (pe_call (ok_used T) hr rfl T.g_used T.k_used T.b_used .nil pass0 (pa_cons (pv 0) (pa_cons (pv 2) (pa_cons (pe_glob (v := .str "ending") rfl (T.g_ENDING).choose_spec ⟨_, rfl⟩) (pa_cons (pv 1) pa_nil)))))) (pg_tup (by rfl) (pgs_cons (pg_name (i := 4) sc_ended.nd rfl (Or.inl rfl)) (pgs_cons (pg_name (i := 5) sc_ended.nd rfl (Or.inl rfl)) pgs_nil)))
      (pss_cons (ps_expr (pe_bm PySem.F.plainAttrs_list PySem.F.slot_list_append PySem.F.type_list_append mt_append (pv 3) (pa_cons (pe_tup (pa_cons (pv 4) (pa_cons (pe_tup (pa_cons (pv 5) pa_nil)) pa_nil))) pa_nil)))
      (pss_cons (ps_asg (pv 5) (pg_tup (by rfl) (pgs_cons (pg_name (i := 6) sc_ended.nd rfl (Or.inl rfl)) (pgs_cons (pg_name (i := 7) sc_ended.nd rfl (Or.inl rfl)) pgs_nil))))
      (pss_cons (ps_set (i := 8) sc_ended.nd rfl (Or.inl rfl) (pe_fld (pe_ix ix_list (pe_fld (pe_dget (hu_of hr) (pv 0) (pv 6) (fun _ _ => rfl)) rfl) (pv 7) (fun _ _ => rfl)) rfl))
      (pss_one (ps_for PassesOwn.never rfl (pi_list (pe_call (ok_used T) hr rfl T.g_used T.k_used T.b_used .nil pass0 (pa_cons (pv 0) (pa_cons (pv 8) (pa_cons (pe_glob (v := .str "ending") rfl (T.g_ENDING).choose_spec ⟨_, rfl⟩) (pa_cons (pv 4) pa_nil)))))) (pg_tup (by rfl) (pgs_cons (pg_name (i := 9) sc_ended.nd rfl (Or.inl rfl)) (pgs_cons (pg_name (i := 10) sc_ended.nd rfl (Or.inl rfl)) pgs_nil)))
      (pss_one (ps_expr (pe_bm PySem.F.plainAttrs_list PySem.F.slot_list_append PySem.F.type_list_append mt_append (pv 3) (pa_cons (pe_tup (pa_cons (pv 9) (pa_cons (pe_tup (pa_cons (pv 5) (pa_cons (pv 10) pa_nil))) pa_nil))) pa_nil))))))))))
      (pss_one (ps_ret (pv 3))))), ?_⟩
    have hzl := len_L z
    refine q_asgGN (P2 := fun H1 v => Dp K H1 v (endP (L w, []))) (n := 1) (egs_cons (R := fun H1 v => Dp K H1 v (endP (L w, []))) (fun H H' v e h => Dp.mono e _ _ h) ?_ egs_nil) (by decide) (fun H H' v e h => Dp.mono e _ _ h) fun p xs H0 np e0 hp0 xl xd => ?_
    · have e : endP (L w, []) = .tuple [.str w, .tuple []] := by show PyData.tuple [.str (TX.T (L w)), .tuple []] = _; rw [T_L]
      show EvG (fun H1 v => Dp K H1 v (endP (L w, []))) _ _ _
      rw [e]
      exact eg_tupD (ear_vD (ev_var rfl) (.str _) (ear_gD (eg_tupD ear_nilD (by show 0 ≤ 1000; decide)) ear_nilD)) (by show 2 ≤ 1000; decide)
    have dx0 : DpAll K H0 xs ([(L w, ([] : List Pair))].map endP) := DpAll.of xl fun i v dd h1 h2 => by
      rw [List.getElem?_map] at h2
      cases i with
      | zero =>
        cases h2
        exact xd v (List.mem_of_getElem? h1)
      | succ i => cases h2
    refine q_forC (ea_cons (ev_var rfl) (ea_cons (ev_var rfl) (ea_cons ev_c (ea_cons (ev_var rfl) ea_nil)))) fun H1 e1 => ⟨d, z, true, w, own, rfl, hB.mono (e0.trans e1), hK, hz, hw, fun pu us H2 npu hpu du e2 => ?_⟩
    have e02 := (e0.trans e1).trans e2
    have npup : pu ≠ p := fun h => by rw [h, e1 _ _ hp0] at npu; cases npu
    refine s_forL ev_c (sq_of hpu) (fun i σ' H' => Ex H H' ∧ H' pu = some (.lst us) ∧ DpAll K H' us ((stepsD own true (L w) (L z)).map stepP) ∧ ∃ xs v4 v5 v6 v7 v8 v9 v10, σ' = [some (.ref d), some (.str w), some (.str z), some (.ref p), v4, v5, v6, v7, v8, v9, v10] ∧ H' p = some (.lst xs) ∧ DpAll K H' xs (((L w, []) :: (((stepsD own true (L w) (L z)).take i).map (endR own)).flatten).map endP))
      (fun H3 e3 => ⟨e02.trans e3, e3 _ _ hpu, DpAll.mono e3 _ _ du, xs, none, none, none, none, none, none, none, rfl, e3 _ _ (e2 _ _ (e1 _ _ hp0)), DpAll.mono ((e1.trans e2).trans e3) _ _ dx0⟩) (fun i σ' H' _ h => sq_of h.2.1) ?_ ?_
    · rintro i x σ' H' hx ⟨eH, hpu', du', xs, v4, v5, v6, v7, v8, v9, v10, rfl, hp, dx⟩
      obtain ⟨ds, hds, dxx⟩ := du'.get hx
      rw [List.getElem?_map] at hds
      cases hs : (stepsD own true (L w) (L z))[i]? with
      | none => rw [hs] at hds; cases hds
      | some s =>
        rw [hs] at hds
        cases hds
        have smem := List.mem_of_getElem? hs
        obtain ⟨hc, rs, r, hf, hr, hq⟩ := steps_mem smem
        have q16 := stepR_short hq
        obtain ⟨kvs, hd, hO⟩ := hB.mono eH
        obtain ⟨o, hv, db, rl, rxs, ho, hrl, hR, r6⟩ := hO _ _ hf
        have hri : s.2.2 < rxs.length := by rw [hR.1]; exact (List.getElem?_eq_some_iff.mp hr).1
        have hrx : rxs[s.2.2]? = some (rxs[s.2.2]) := List.getElem?_eq_getElem hri
        obtain ⟨y, hy, hro, G⟩ := hR.2 _ _ _ hrx hr
        rw [hy] at hrx
        have hyE : EndAt A H' y r.c r.a (txt r.ps) (TX.T r.g) (lst r.ps) := hro
        obtain ⟨dy, oy, hyo, _⟩ := hyE
        have fd : furD own s.2 = r.g := by
          unfold furD
          rw [hf]
          show (match rs[s.2.2]? with | some r => r.g | none => []) = r.g
          rw [hr]
        have kg : Known own r.g := hDp _ _ _ r hf (List.mem_of_getElem? hr)
        have g3 := G.fu.1
        obtain ⟨Tx, xv, rfl, hTx, dxv⟩ := dxx.tupI
        obtain ⟨w1, xr, rfl, dw1, dxr⟩ := dxv.consI
        obtain ⟨first, xr2, rfl, dfirst, dxr2⟩ := dxr.consI
        obtain rfl := dxr2.nilI
        obtain rfl := dw1.strI
        have dfirst0 := dfirst
        obtain ⟨Tf, fv, rfl, hTf, dfv⟩ := dfirst.tupI
        obtain ⟨n1, fr, rfl, dn1, dfr⟩ := dfv.consI
        obtain ⟨j1, fr2, rfl, dj1, dfr2⟩ := dfr.consI
        obtain rfl := dfr2.nilI
        obtain rfl := dn1.strI
        obtain rfl := dj1.intI
        have bnd := ended_len (w := L w) (cs := L z) hB (by omega)
        have tk : ((stepsD own true (L w) (L z)).take (i + 1)).map (endR own) = ((stepsD own true (L w) (L z)).take i).map (endR own) ++ [endR own s] := by
          rw [List.take_add_one, hs, List.map_append]
          rfl
        have xl2 : xs.length ≤ 457 := by
          rw [dx.len, List.length_map, List.length_cons]
          have h2 := steps_len (e := true) (w := L w) (cs := L z) hB.six
          have h1 := flat_len (l := (stepsD own true (L w) (L z)).take i) (f := endR own) (n := 19) fun s _ => endR_len hB s
          have h3 : ((stepsD own true (L w) (L z)).take i).length ≤ (stepsD own true (L w) (L z)).length := by rw [List.length_take]; exact Nat.min_le_right _ _
          omega
        refine ⟨Tx, _, rfl, hTx, rfl, _, _, rfl, _, [], rfl, rfl, ?_⟩
        refine q_sl (σ' := [some (.ref d), some (.str w), some (.str z), some (.ref p), some (.str (TX.T s.1)), some (.ref Tf), v6, v7, v8, v9, v10]) rfl ?_
        refine q_appG (P2 := fun H1 v => Dp K H1 v (endP (s.1, [s.2]))) (l := p) hp (ev_var rfl) (eg_tupD (ds := [.str (TX.T s.1), .tuple [pairP s.2]]) (ear_vD (ev_var rfl) (.str _) (ear_gD (eg_tupD (ear_vD (ev_var rfl) dfirst0 ear_nilD) (by show 1 ≤ 1000; decide)) ear_nilD)) (by show 2 ≤ 1000; decide)) (by omega) fun v H3 e3 dv => ?_
        have e3u : Ex H (upd H3 p (.lst (xs ++ [v]))) := Ex.mut (eH.trans e3) np
        have hpu3 : (upd H3 p (.lst (xs ++ [v]))) pu = some (.lst us) := by rw [upd_ne npup]; exact e3 _ _ hpu'
        have du3 : DpAll K (upd H3 p (.lst (xs ++ [v]))) us ((stepsD own true (L w) (L z)).map stepP) := DpAll.updL (e3 _ _ hp) _ _ (noL_steps _) (DpAll.mono e3 _ _ du')
        have hp3 : (upd H3 p (.lst (xs ++ [v]))) p = some (.lst (xs ++ [v])) := upd_same
        have hTf3 : SqT K (upd H3 p (.lst (xs ++ [v]))) Tf [.str (TX.T [s.2.1]), .int (s.2.2 : Int)] := sqT_upd (e3 _ _ hp) (ex_t e3 hTf)
        have df3 : Dp K (upd H3 p (.lst (xs ++ [v]))) (.ref Tf) (pairP s.2) := Dp.updL (e3 _ _ hp) _ _ (noL_pair _) (Dp.mono e3 _ _ dfirst0)
        have dx3 : DpAll K (upd H3 p (.lst (xs ++ [v]))) (xs ++ [v]) (((L w, []) :: ((((stepsD own true (L w) (L z)).take i).map (endR own)).flatten ++ [(s.1, [s.2])])).map endP) := by
          rw [← List.cons_append, List.map_append]
          exact DpAll.snoc (DpAll.updL (e3 _ _ hp) _ _ (noL_ends _) (DpAll.mono e3 _ _ dx)) (Dp.updL (e3 _ _ hp) _ _ (noL_end (s.1, [s.2])) dv)
        have xl3 : (xs ++ [v]).length ≤ 458 := by rw [List.length_append]; show xs.length + 1 ≤ 458; omega
        obtain ⟨kvs3, hd3, hO3⟩ := hB.mono e3u
        obtain ⟨o3, hv3, db3, rl3, rxs3, ho3, hrl3, hR3, _⟩ := hO3 _ _ hf
        have hri3 : s.2.2 < rxs3.length := by rw [hR3.1]; exact (List.getElem?_eq_some_iff.mp hr).1
        have hrx3 : rxs3[s.2.2]? = some (rxs3[s.2.2]) := List.getElem?_eq_getElem hri3
        obtain ⟨y3, hy3, hro3, _⟩ := hR3.2 _ _ _ hrx3 hr
        rw [hy3] at hrx3
        have hyE3 : EndAt A (upd H3 p (.lst (xs ++ [v]))) y3 r.c r.a (txt r.ps) (TX.T r.g) (lst r.ps) := hro3
        obtain ⟨dy3, oy3, hyo3, _⟩ := hyE3
        generalize upd H3 p (.lst (xs ++ [v])) = H4 at *
        generalize xs ++ [v] = ys at *
        refine ⟨_, rfl, Tf, _, rfl, hTf3, rfl, _, _, rfl, _, _, rfl, rfl, ?_⟩
        refine q_asg (v := .str (TX.T r.g)) (ev_fld (ev_op (ev_fld (ev_dget (ev_var rfl) (ev_var rfl) hd3 hv3) ho3 T.cl_Band T.na_Band_rules b_rules) (ev_var rfl) (rv_ixL (sq_of hrl3) (atI_nat hrx3))) hyo3 T.cl_Ending T.na_Ending_further en_further) fun H5 e5 => ?_
        refine s_forC (ea_cons (ev_var rfl) (ea_cons (ev_var rfl) (ea_cons ev_c (ea_cons (ev_var rfl) ea_nil)))) fun H6 e6 => ⟨d, TX.T r.g, true, TX.T s.1, own, rfl, hB.mono ((e3u.trans e5).trans e6), by rw [L_T]; exact kg, by rw [len_T]; omega, by rw [len_T]; exact q16, fun pv vs H7 npv hpv dv7 e7 => ?_⟩
        have e47 := (e5.trans e6).trans e7
        have npvp : pv ≠ p := fun h => by rw [h, (e5.trans e6) _ _ hp3] at npv; cases npv
        have npvu : pu ≠ p := npup
        rw [L_T, L_T, ← fd] at dv7
        refine s_forL ev_c (sq_of hpv) (fun j σ' H' => Ex H H' ∧ H' pu = some (.lst us) ∧ DpAll K H' us ((stepsD own true (L w) (L z)).map stepP) ∧ H' pv = some (.lst vs) ∧ DpAll K H' vs ((stepsD own true s.1 (furD own s.2)).map stepP) ∧ Dp K H' (.ref Tf) (pairP s.2) ∧ ∃ xs v9 v10, σ' = [some (.ref d), some (.str w), some (.str z), some (.ref p), some (.str (TX.T s.1)), some (.ref Tf), some (.str (TX.T [s.2.1])), some (.int (s.2.2 : Int)), some (.str (TX.T r.g)), v9, v10] ∧ H' p = some (.lst xs) ∧
            DpAll K H' xs (((L w, []) :: ((((stepsD own true (L w) (L z)).take i).map (endR own)).flatten ++ ((s.1, [s.2]) :: ((stepsD own true s.1 (furD own s.2)).take j).map fun t => (t.1, [s.2, t.2])))).map endP))
          (fun H8 e8 => ⟨(e3u.trans e47).trans e8, (e47.trans e8) _ _ hpu3, DpAll.mono (e47.trans e8) _ _ du3, e8 _ _ hpv, DpAll.mono e8 _ _ dv7, Dp.mono (e47.trans e8) _ _ df3, ys, v9, v10, rfl, (e47.trans e8) _ _ hp3, DpAll.mono (e47.trans e8) _ _ dx3⟩) (fun j σ' H' _ h => sq_of h.2.2.2.1) ?_ ?_
        · rintro j x2 σ' H8 hx2 ⟨eH8, hpu8, du8, hpv8, dv8, df8, zs, u9, u10, rfl, hp8, dz⟩
          obtain ⟨d2, hd2, dx2⟩ := dv8.get hx2
          rw [List.getElem?_map] at hd2
          cases ht : (stepsD own true s.1 (furD own s.2))[j]? with
          | none => rw [ht] at hd2; cases hd2
          | some t =>
            rw [ht] at hd2
            cases hd2
            obtain ⟨Ty, yv, rfl, hTy, dyv⟩ := dx2.tupI
            obtain ⟨w2, yr, rfl, dw2, dyr⟩ := dyv.consI
            obtain ⟨second, yr2, rfl, dsec, dyr2⟩ := dyr.consI
            obtain rfl := dyr2.nilI
            obtain rfl := dw2.strI
            have zl : zs.length ≤ 1000 := by
              have h1 := dz.len
              have h2 := dx.len
              have h3 := steps_len (e := true) (w := s.1) (cs := furD own s.2) hB.six
              have h4 := fur3 hB s.2
              have h5 : ((stepsD own true s.1 (furD own s.2)).take j).length ≤ (stepsD own true s.1 (furD own s.2)).length := by rw [List.length_take]; exact Nat.min_le_right _ _
              rw [List.length_map, List.length_cons, List.length_append, List.length_cons, List.length_map] at h1
              rw [List.length_map, List.length_cons] at h2
              omega
            refine ⟨Ty, _, rfl, hTy, rfl, _, _, rfl, _, [], rfl, rfl, ?_⟩
            refine q_sl (tz := tDrop _) (σ' := [some (.ref d), some (.str w), some (.str z), some (.ref p), some (.str (TX.T s.1)), some (.ref Tf), some (.str (TX.T [s.2.1])), some (.int (s.2.2 : Int)), some (.str (TX.T r.g)), some (.str (TX.T t.1)), some second]) rfl ?_
            refine s_appG (P2 := fun H1 v => Dp K H1 v (endP (t.1, [s.2, t.2]))) (l := p) hp8 (ev_var rfl) (eg_tupD (ds := [.str (TX.T t.1), .tuple [pairP s.2, pairP t.2]]) (ear_vD (ev_var rfl) (.str _) (ear_gD (eg_tupD (ear_vD (ev_var rfl) df8 (ear_vD (ev_var rfl) dsec ear_nilD)) (by show 2 ≤ 1000; decide)) ear_nilD)) (by show 2 ≤ 1000; decide)) (by omega) fun v2 H9 e9 dv2 => ?_
            have hp9 := e9 _ _ hp8
            refine ⟨Ex.mut (eH8.trans e9) np, by rw [upd_ne npup]; exact e9 _ _ hpu8, DpAll.updL hp9 _ _ (noL_steps _) (DpAll.mono e9 _ _ du8), by rw [upd_ne npvp]; exact e9 _ _ hpv8, DpAll.updL hp9 _ _ (noL_steps _) (DpAll.mono e9 _ _ dv8), Dp.updL hp9 _ _ (noL_pair _) (Dp.mono e9 _ _ df8), zs ++ [v2], _, _, rfl, upd_same, ?_⟩
            have el : ((L w, []) :: ((((stepsD own true (L w) (L z)).take i).map (endR own)).flatten ++ ((s.1, [s.2]) :: ((stepsD own true s.1 (furD own s.2)).take (j + 1)).map fun t => (t.1, [s.2, t.2])))) =
                ((L w, []) :: ((((stepsD own true (L w) (L z)).take i).map (endR own)).flatten ++ ((s.1, [s.2]) :: ((stepsD own true s.1 (furD own s.2)).take j).map fun t => (t.1, [s.2, t.2])))) ++ [(t.1, [s.2, t.2])] := by
              rw [List.take_add_one, ht, List.map_append]
              simp
            rw [el, List.map_append]
            exact DpAll.snoc (DpAll.updL hp9 _ _ (noL_ends _) (DpAll.mono e9 _ _ dz)) (Dp.updL hp9 _ _ (noL_end (t.1, [s.2, t.2])) dv2)
        · rintro σ' H8 ⟨eH8, hpu8, du8, hpv8, dv8, df8, zs, u9, u10, rfl, hp8, dz⟩
          refine ⟨eH8, hpu8, du8, zs, _, _, _, _, _, _, _, rfl, hp8, ?_⟩
          have vl : vs.length = (stepsD own true s.1 (furD own s.2)).length := by rw [dv8.len, List.length_map]
          rw [vl, List.take_length] at dz
          rw [tk, List.flatten_append, List.flatten_singleton]
          exact dz
    · rintro σ' H' ⟨eH, hpu', du', xs, v4, v5, v6, v7, v8, v9, v10, rfl, hp, dx⟩
      have ul : us.length = (stepsD own true (L w) (L z)).length := by rw [du'.len, List.length_map]
      rw [ul, List.take_length] at dx
      refine s_ret (ev_var rfl) fun H1 e1 => k p xs H1 np (e1 _ _ hp) (DpAll.mono e1 _ _ dx) (eH.trans e1)

/-! ### all makings -/
abbrev Row := List Nat × List Pair × Option Pair
def bP : Option Pair → PyData | none => .none | some p => pairP p
def bK : Option Pair → PyData | none => .tuple [] | some p => pairP p
def rowP (stem : Str) (r : Row) : PyData := .tuple [.str (TX.T r.1), .tuple [.str stem, bP r.2.2, .tuple (r.2.1.map pairP)]]
def keyP (r : Row) : PyData := .tuple [.str (TX.T r.1), .tuple (r.2.1.map pairP), bK r.2.2]
theorem noL_b (b : Option Pair) : noL (bP b) = true := by cases b <;> simp [bP, pairP, noL, noLs]
theorem noL_row (stem : Str) (r : Row) : noL (rowP stem r) = true := by simp [rowP, noL, noLs, noL_pairs, noL_b]
theorem noL_rows (stem : Str) (l : List Row) : noLs (l.map (rowP stem)) = true := noLs_of fun d hd => by
  obtain ⟨s, _, rfl⟩ := List.mem_map.mp hd
  exact noL_row stem s
theorem alike_pairs : ∀ (a b : List Pair), PySem.W.alikeAll (a.map pairP) (b.map pairP) = true
  | [], _ => by simp [PySem.W.alikeAll]
  | _ :: _, [] => by simp [PySem.W.alikeAll]
  | x :: a, y :: b => by simp [PySem.W.alikeAll, PySem.W.alike, pairP, alike_pairs a b]
theorem alike_b (a b : Option Pair) : PySem.W.alike (bK a) (bK b) = true := by cases a <;> cases b <;> simp [bK, pairP, PySem.W.alike, PySem.W.alikeAll]
theorem alike_key (a b : Row) : PySem.W.alike (keyP a) (keyP b) = true := by
  simp [keyP, PySem.W.alike, PySem.W.alikeAll, alike_pairs, alike_b]
theorem depth_pairs : ∀ l : List Pair, PyData.depthAll (l.map pairP) ≤ 1
  | [] => by simp [PyData.depthAll]
  | x :: l => by
    have := depth_pairs l
    simp only [List.map_cons, PyData.depthAll, pairP, PyData.depth]
    omega
theorem depth_key (r : Row) : (keyP r).depth ≤ 60 := by
  have h1 := depth_pairs r.2.1
  have h2 : (bK r.2.2).depth ≤ 1 := by cases r.2.2 <;> simp [bK, pairP, PyData.depth, PyData.depthAll]
  simp only [keyP, PyData.depth, PyData.depthAll]
  omega
def spOrder (K : PySem.W.Frag) : Sp := fun vs H Q _ => ∃ v stem r, vs = [v] ∧ Dp K H v (rowP stem r) ∧ ∀ v' H', Ex H H' → Dp K H' v' (keyP r) → Q v' H'
theorem ok_order (T : Txt K mg A) : FnOk P w K mg base CX0 1 A.f_order A.d_order P_order (spOrder K) := by
  refine T.F_order.ok sc_order (fun vs H Q E h => ?_) (fun cdv A' outer s H vs Q E hr h => ?_)
  · obtain ⟨v, stem, r, rfl, _⟩ := h
    rfl
  · obtain ⟨v, stem, r, rfl, dv, k⟩ := h
    refine ⟨_, (pss_cons (ps_asg (pv 0) (pg_tup (by rfl) (pgs_cons (pg_name (i := 1) sc_order.nd rfl (Or.inl rfl)) (pgs_cons (pg_tup (by rfl) (pgs_cons (pg_name (i := 2) sc_order.nd rfl (Or.inl rfl)) (pgs_cons (pg_name (i := 3) sc_order.nd rfl (Or.inl rfl)) (pgs_cons (pg_name (i := 4) sc_order.nd rfl (Or.inl rfl)) pgs_nil)))) pgs_nil))))
      (pss_one (ps_ret (pe_tup (pa_cons (pv 1) (pa_cons (pv 4) (pa_cons (pe_orTK (K := K) rfl (pv 3) (pe_one (pe_tup pa_nil))) pa_nil))))))), ?_⟩
    obtain ⟨T1, x1, rfl, hT1, d1⟩ := dv.tupI
    obtain ⟨w1, x2, rfl, dw, d2⟩ := d1.consI
    obtain ⟨m1, x3, rfl, dm, d3⟩ := d2.consI
    obtain rfl := d3.nilI
    obtain rfl := dw.strI
    obtain ⟨T2, y1, rfl, hT2, g1⟩ := dm.tupI
    obtain ⟨s1, y2, rfl, ds, g2⟩ := g1.consI
    obtain ⟨b1, y3, rfl, db, g3⟩ := g2.consI
    obtain ⟨e1, y4, rfl, de, g4⟩ := g3.consI
    obtain rfl := g4.nilI
    obtain rfl := ds.strI
    refine ⟨_, rfl, T1, _, rfl, hT1, rfl, _, _, rfl, _, _, rfl, T2, _, rfl, hT2, rfl, _, _, rfl, _, _, rfl, _, _, rfl, rfl, rfl, ?_⟩
    dsimp only
    refine s_retG (P2 := fun H1 v => Dp K H1 v (keyP r)) ?_ fun v H1 e d => k v H1 e d
    refine eg_tupD (ear_vD (ev_var rfl) (.str _) (ear_vD (ev_var rfl) de (ear_gD (eg_orD (d := bP r.2.2) (e := .tuple []) (ev_var rfl) db (eg_tupD ear_nilD (by show 0 ≤ 1000; decide)) ?_) ear_nilD))) (by show 3 ≤ 1000; decide)
    cases r.2.2 with
    | none => exact Or.inl ⟨rfl, rfl⟩
    | some p => exact Or.inr ⟨_, _, rfl, rfl⟩
def rowsR (own : OwnD) (cs : List Nat) (r : List Nat × List Pair) : List Row := (r.1, r.2, none) :: (stepsD own false r.1 cs).map fun t => (t.1, r.2, some t.2)
def rowsD (own : OwnD) (w cs : List Nat) : List Row := ((endedD own w cs).map (rowsR own cs)).flatten
def madeD (own : OwnD) (w cs : List Nat) : List Row := (rowsD own w cs).mergeSort (PySem.W.dataLe false keyP)
theorem ended_short {own : OwnD} {w cs : List Nat} (hw : w.length ≤ 16) : ∀ r ∈ endedD own w cs, r.1.length ≤ 16 := by
  intro r hr
  unfold endedD at hr
  rcases List.mem_cons.mp hr with rfl | hr
  · exact hw
  · obtain ⟨l, hl, hr⟩ := List.mem_flatten.mp hr
    obtain ⟨s, hs, rfl⟩ := List.mem_map.mp hl
    unfold endR at hr
    rcases List.mem_cons.mp hr with rfl | hr
    · obtain ⟨_, _, _, _, _, q⟩ := steps_mem hs
      exact stepR_short q
    · obtain ⟨t, ht, rfl⟩ := List.mem_map.mp hr
      obtain ⟨_, _, _, _, _, q⟩ := steps_mem ht
      exact stepR_short q
theorem rowsR_len {own : OwnD} {cs : List Nat} (six : ∀ n b, fnd own n = some b → b.2.length ≤ 6) (hc : cs.length ≤ 4) (r : List Nat × List Pair) : (rowsR own cs r).length ≤ 25 := by
  unfold rowsR
  have h1 := steps_len (e := false) (w := r.1) (cs := cs) six
  rw [List.length_cons, List.length_map]
  omega
theorem rows_len {H : Hp} {d : Addr} {own : OwnD} {w cs : List Nat} (h : BandsAt A H d own) (hc : cs.length ≤ 4) : (rowsD own w cs).length ≤ 11425 := by
  unfold rowsD
  have h1 := flat_len (l := endedD own w cs) (f := rowsR own cs) (n := 25) fun r _ => rowsR_len h.six hc r
  have h2 := ended_len (w := w) (cs := cs) h hc
  omega
theorem s_retKw {r : List V → List V → Hp → VK → Prop} {ta tk : TA} {vs zs : List V} {σ : L2.St} {H : Hp} {D : Ends} (h : EvA ta σ H vs) (hk : ∀ H1, Ex H H1 → EvA tk σ H1 zs) (q : ∀ H1, Ex H H1 → r vs zs H1 D.rt) : tRet (tCKw r ta tk) D σ H :=
  h H (Ex.refl H) _ fun H1 e1 => hk H1 e1 H1 (Ex.refl H1) _ fun H2 e2 => q H2 (e1.trans e2)
/-- values, and the rows that they show, by the rows' keys -/
theorem sort_rows {K : PySem.W.Frag} {H : Hp} {stem : Str} {xs : List V} {rows : List Row} (dx : DpAll K H xs (rows.map (rowP stem))) :
    ∃ bs : List (V × PyData), bs.map Prod.fst = xs ∧ bs.map Prod.snd = rows.map keyP ∧ (∀ b ∈ bs, ∃ r, b.2 = keyP r ∧ Dp K H b.1 (rowP stem r)) ∧
      ∀ H', Ex H H' → DpAll K H' ((bs.mergeSort (PySem.W.dataLe false Prod.snd)).map Prod.fst) ((rows.mergeSort (PySem.W.dataLe false keyP)).map (rowP stem)) := by
  have hl : xs.length = rows.length := by rw [dx.len, List.length_map]
  have e1 : (xs.zip rows).map Prod.fst = xs := List.map_fst_zip (Nat.le_of_eq hl)
  have e2 : (xs.zip rows).map Prod.snd = rows := List.map_snd_zip (Nat.le_of_eq hl.symm)
  have hz : ∀ p ∈ xs.zip rows, Dp K H p.1 (rowP stem p.2) := fun p hp => by
    obtain ⟨i, hi, rfl⟩ := List.mem_iff_getElem.mp hp
    rw [List.length_zip] at hi
    have hx : xs[i]? = some (xs[i]'(by omega)) := List.getElem?_eq_getElem (by omega)
    obtain ⟨d, hd, dp⟩ := dx.get hx
    rw [List.getElem?_map, List.getElem?_eq_getElem (show i < rows.length by omega)] at hd
    rw [List.getElem_zip]
    exact (Option.some.inj hd) ▸ dp
  refine ⟨(xs.zip rows).map fun p => (p.1, keyP p.2), ?_, ?_, fun b hb => ?_, fun H' ex => ?_⟩
  · rw [List.map_map]
    exact e1
  · rw [List.map_map]
    conv => rhs; rw [← e2]
    rw [List.map_map]
    rfl
  · obtain ⟨p, hp, rfl⟩ := List.mem_map.mp hb
    exact ⟨p.2, rfl, hz p hp⟩
  · have s1 : ((xs.zip rows).mergeSort (PySem.W.dataLe false fun p => keyP p.2)).map (fun p => (p.1, keyP p.2)) = ((xs.zip rows).map fun p => (p.1, keyP p.2)).mergeSort (PySem.W.dataLe false Prod.snd) :=
      List.map_mergeSort fun a _ b _ => rfl
    have s2 : ((xs.zip rows).mergeSort (PySem.W.dataLe false fun p => keyP p.2)).map Prod.snd = rows.mergeSort (PySem.W.dataLe false keyP) := by
      conv => rhs; rw [← e2]
      exact List.map_mergeSort fun a _ b _ => rfl
    rw [← s1, ← s2, List.map_map, List.map_map]
    have := dp_pairs (K := K) (H := H) (zs := ((xs.zip rows).mergeSort (PySem.W.dataLe false fun p => keyP p.2)).map fun p => (p.1, rowP stem p.2)) fun z hz' => by
      obtain ⟨p, hp, rfl⟩ := List.mem_map.mp hz'
      exact hz p ((List.mergeSort_perm _ _).mem_iff.mp hp)
    rw [List.map_map, List.map_map] at this
    exact DpAll.mono ex _ _ this
def spMade (A : Ad) (K : PySem.W.Frag) : Sp := fun vs H Q _ => ∃ d w z own, vs = [.ref d, .str w, .str z] ∧ BandsAt A H d own ∧ Deep own ∧ Known own (L z) ∧ z.length ≤ 4 ∧ w.length ≤ 16 ∧
  ∀ p xs H', H p = none → H' p = some (.lst xs) → DpAll K H' xs ((madeD own (L w) (L z)).map (rowP w)) → Ex H H' → Q (.ref p) H'
theorem ok_made (T : Txt K mg A) : FnOk P w K mg base CX0 6 A.f_made A.d_made P_made (spMade A K) := by
  refine T.F_made.ok sc_made (fun vs H Q E h => ?_) (fun cdv A' outer s H vs Q E hr h => ?_)
  · obtain ⟨d, w, z, own, rfl, _⟩ := h
    rfl
  · obtain ⟨d, w, z, own, rfl, hB, hDp, hK, hz, hw, k⟩ := h
    refine ⟨_, (pss_cons (ps_set (i := 3) sc_made.nd rfl (Or.inl rfl) (pe_lst pa_nil))
      (pss_cons (ps_for PassesOwn.never rfl (pi_list (pe_call (ok_ended T) hr rfl T.g_ended T.k_ended T.b_ended .nil pass0 (pa_cons (pv 0) (pa_cons (pv 1) (pa_cons (pv 2) pa_nil))))) (pg_tup (by rfl) (pgs_cons (pg_name (i := 4) sc_made.nd rfl (Or.inl rfl)) (pgs_cons (pg_name (i := 5) sc_made.nd rfl (Or.inl rfl)) pgs_nil)))
      (pss_cons (ps_expr (pe_bm PySem.F.plainAttrs_list PySem.F.slot_list_append PySem.F.type_list_append mt_append (pv 3) (pa_cons (pe_tup (pa_cons (pv 4) (pa_cons (pe_tup (pa_cons (pv 1) (pa_cons pe_non (pa_cons (pv 5) pa_nil)))) pa_nil))) pa_nil)))
      (pss_one (ps_for PassesOwn.never rfl (pi_list (pe_call (ok_used T) (hr.mono (by decide)) rfl T.g_used T.k_used T.b_used .nil pass0 (pa_cons (pv 0) (pa_cons (pv 2) (pa_cons (pe_glob (v := .str "beginning") rfl (T.g_BEGINNING).choose_spec ⟨_, rfl⟩) (pa_cons (pv 4) pa_nil)))))) (pg_tup (by rfl) (pgs_cons (pg_name (i := 6) sc_made.nd rfl (Or.inl rfl)) (pgs_cons (pg_name (i := 7) sc_made.nd rfl (Or.inl rfl)) pgs_nil)))
      (pss_one (ps_expr (pe_bm PySem.F.plainAttrs_list PySem.F.slot_list_append PySem.F.type_list_append mt_append (pv 3) (pa_cons (pe_tup (pa_cons (pv 6) (pa_cons (pe_tup (pa_cons (pv 1) (pa_cons (pv 7) (pa_cons (pv 5) pa_nil)))) pa_nil))) pa_nil))))))))
      (pss_one (ps_ret (pe_callBK (cr_sortedBy (ok_order T) (hr.mono (by decide)) T.b_order (by rfl) (by rfl)) (by rfl) T.n_sorted (by decide +kernel) (pa_cons (pv 3) pa_nil) (pk_cons (pe_glob (v := .ref A.f_order) rfl T.g_order rfl) pk_nil)))))), ?_⟩
    have hzl := len_L z
    have hwl := len_L w
    refine q_asgL (xs := []) (el_lst ea_nil (by show 0 ≤ 100000; decide)) fun p H0 np e0 hp0 => ?_
    refine q_forC (ea_cons (ev_var rfl) (ea_cons (ev_var rfl) (ea_cons (ev_var rfl) ea_nil))) fun H1 e1 => ⟨d, w, z, own, rfl, hB.mono (e0.trans e1), hDp, hK, hz, hw, fun pu us H2 npu hpu du e2 => ?_⟩
    have e02 := (e0.trans e1).trans e2
    have npup : pu ≠ p := fun h => by rw [h, e1 _ _ hp0] at npu; cases npu
    refine s_forL ev_c (sq_of hpu) (fun i σ' H' => Ex H H' ∧ H' pu = some (.lst us) ∧ DpAll K H' us ((endedD own (L w) (L z)).map endP) ∧ ∃ xs v4 v5 v6 v7, σ' = [some (.ref d), some (.str w), some (.str z), some (.ref p), v4, v5, v6, v7] ∧ H' p = some (.lst xs) ∧ DpAll K H' xs ((((endedD own (L w) (L z)).take i).map (rowsR own (L z))).flatten.map (rowP w)))
      (fun H3 e3 => ⟨e02.trans e3, e3 _ _ hpu, DpAll.mono e3 _ _ du, [], none, none, none, none, rfl, e3 _ _ (e2 _ _ (e1 _ _ hp0)), .nil⟩) (fun i σ' H' _ h => sq_of h.2.1) ?_ ?_
    · rintro i x σ' H' hx ⟨eH, hpu', du', xs, v4, v5, v6, v7, rfl, hp, dx⟩
      obtain ⟨ds, hds, dxx⟩ := du'.get hx
      rw [List.getElem?_map] at hds
      cases hs : (endedD own (L w) (L z))[i]? with
      | none => rw [hs] at hds; cases hds
      | some r =>
        rw [hs] at hds
        cases hds
        have r16 := ended_short (own := own) (cs := L z) (show (L w).length ≤ 16 by omega) r (List.mem_of_getElem? hs)
        obtain ⟨Tx, xv, rfl, hTx, dxv⟩ := dxx.tupI
        obtain ⟨w1, xr, rfl, dw1, dxr⟩ := dxv.consI
        obtain ⟨es, xr2, rfl, des, dxr2⟩ := dxr.consI
        obtain rfl := dxr2.nilI
        obtain rfl := dw1.strI
        have xl : xs.length ≤ 11425 := by
          have h1 := flat_len (l := (endedD own (L w) (L z)).take i) (f := rowsR own (L z)) (n := 25) fun r _ => rowsR_len hB.six (by omega) r
          have h2 := ended_len (w := L w) (cs := L z) hB (by omega)
          have h3 : ((endedD own (L w) (L z)).take i).length ≤ (endedD own (L w) (L z)).length := by rw [List.length_take]; exact Nat.min_le_right _ _
          rw [dx.len, List.length_map]
          omega
        have tk : (((endedD own (L w) (L z)).take (i + 1)).map (rowsR own (L z))).flatten = (((endedD own (L w) (L z)).take i).map (rowsR own (L z))).flatten ++ rowsR own (L z) r := by
          rw [List.take_add_one, hs, List.map_append, List.flatten_append]
          simp
        refine ⟨Tx, _, rfl, hTx, rfl, _, _, rfl, _, [], rfl, rfl, ?_⟩
        refine q_sl (σ' := [some (.ref d), some (.str w), some (.str z), some (.ref p), some (.str (TX.T r.1)), some es, v6, v7]) rfl ?_
        refine q_appG (P2 := fun H1 v => Dp K H1 v (rowP w (r.1, r.2, none))) (l := p) hp (ev_var rfl) (eg_tupD (ds := [.str (TX.T r.1), .tuple [.str w, .none, .tuple (r.2.map pairP)]]) (ear_vD (ev_var rfl) (.str _) (ear_gD (eg_tupD (ear_vD (ev_var rfl) (.str _) (ear_vD ev_c .non (ear_vD (ev_var rfl) des ear_nilD))) (by show 3 ≤ 1000; decide)) ear_nilD)) (by show 2 ≤ 1000; decide)) (by omega) fun v H3 e3 dv => ?_
        have hp3' := e3 _ _ hp
        have e3u : Ex H (upd H3 p (.lst (xs ++ [v]))) := Ex.mut (eH.trans e3) np
        have hpu3 : (upd H3 p (.lst (xs ++ [v]))) pu = some (.lst us) := by rw [upd_ne npup]; exact e3 _ _ hpu'
        have du3 : DpAll K (upd H3 p (.lst (xs ++ [v]))) us ((endedD own (L w) (L z)).map endP) := DpAll.updL hp3' _ _ (noL_ends _) (DpAll.mono e3 _ _ du')
        have hp3 : (upd H3 p (.lst (xs ++ [v]))) p = some (.lst (xs ++ [v])) := upd_same
        have des3 : Dp K (upd H3 p (.lst (xs ++ [v]))) es (.tuple (r.2.map pairP)) := Dp.updL hp3' _ _ (by simp only [noL, noL_pairs]) (Dp.mono e3 _ _ des)
        have dx3 : DpAll K (upd H3 p (.lst (xs ++ [v]))) (xs ++ [v]) (((((endedD own (L w) (L z)).take i).map (rowsR own (L z))).flatten ++ [(r.1, r.2, none)]).map (rowP w)) := by
          rw [List.map_append]
          exact DpAll.snoc (DpAll.updL hp3' _ _ (noL_rows _ _) (DpAll.mono e3 _ _ dx)) (Dp.updL hp3' _ _ (noL_row w (r.1, r.2, none)) dv)
        have xl3 : (xs ++ [v]).length ≤ 11426 := by rw [List.length_append]; show xs.length + 1 ≤ 11426; omega
        generalize upd H3 p (.lst (xs ++ [v])) = H4 at *
        generalize xs ++ [v] = ys at *
        refine s_forC (ea_cons (ev_var rfl) (ea_cons (ev_var rfl) (ea_cons ev_c (ea_cons (ev_var rfl) ea_nil)))) fun H6 e6 => ⟨d, z, false, TX.T r.1, own, rfl, hB.mono (e3u.trans e6), hK, hz, by rw [len_T]; exact r16, fun pv vs H7 npv hpv dv7 e7 => ?_⟩
        have e47 := e6.trans e7
        have npvp : pv ≠ p := fun h => by rw [h, e6 _ _ hp3] at npv; cases npv
        rw [L_T] at dv7
        refine s_forL ev_c (sq_of hpv) (fun j σ' H' => Ex H H' ∧ H' pu = some (.lst us) ∧ DpAll K H' us ((endedD own (L w) (L z)).map endP) ∧ H' pv = some (.lst vs) ∧ DpAll K H' vs ((stepsD own false r.1 (L z)).map stepP) ∧ Dp K H' es (.tuple (r.2.map pairP)) ∧ ∃ xs v6 v7, σ' = [some (.ref d), some (.str w), some (.str z), some (.ref p), some (.str (TX.T r.1)), some es, v6, v7] ∧ H' p = some (.lst xs) ∧
            DpAll K H' xs (((((endedD own (L w) (L z)).take i).map (rowsR own (L z))).flatten ++ ((r.1, r.2, none) :: ((stepsD own false r.1 (L z)).take j).map fun t => (t.1, r.2, some t.2))).map (rowP w)))
          (fun H8 e8 => ⟨(e3u.trans e47).trans e8, (e47.trans e8) _ _ hpu3, DpAll.mono (e47.trans e8) _ _ du3, e8 _ _ hpv, DpAll.mono e8 _ _ dv7, Dp.mono (e47.trans e8) _ _ des3, ys, v6, v7, rfl, (e47.trans e8) _ _ hp3, DpAll.mono (e47.trans e8) _ _ dx3⟩) (fun j σ' H' _ h => sq_of h.2.2.2.1) ?_ ?_
        · rintro j x2 σ' H8 hx2 ⟨eH8, hpu8, du8, hpv8, dv8, des8, zs, u6, u7, rfl, hp8, dz⟩
          obtain ⟨d2, hd2, dx2⟩ := dv8.get hx2
          rw [List.getElem?_map] at hd2
          cases ht : (stepsD own false r.1 (L z))[j]? with
          | none => rw [ht] at hd2; cases hd2
          | some t =>
            rw [ht] at hd2
            cases hd2
            obtain ⟨Ty, yv, rfl, hTy, dyv⟩ := dx2.tupI
            obtain ⟨w2, yr, rfl, dw2, dyr⟩ := dyv.consI
            obtain ⟨second, yr2, rfl, dsec, dyr2⟩ := dyr.consI
            obtain rfl := dyr2.nilI
            obtain rfl := dw2.strI
            have zl : zs.length ≤ 20000 := by
              have h1 := dz.len
              have h2 := dx.len
              have h3 := steps_len (e := false) (w := r.1) (cs := L z) hB.six
              have h5 : ((stepsD own false r.1 (L z)).take j).length ≤ (stepsD own false r.1 (L z)).length := by rw [List.length_take]; exact Nat.min_le_right _ _
              rw [List.length_map, List.length_append, List.length_cons, List.length_map] at h1
              rw [List.length_map] at h2
              omega
            refine ⟨Ty, _, rfl, hTy, rfl, _, _, rfl, _, [], rfl, rfl, ?_⟩
            refine q_sl (tz := tDrop _) (σ' := [some (.ref d), some (.str w), some (.str z), some (.ref p), some (.str (TX.T r.1)), some es, some (.str (TX.T t.1)), some second]) rfl ?_
            refine s_appG (P2 := fun H1 v => Dp K H1 v (rowP w (t.1, r.2, some t.2))) (l := p) hp8 (ev_var rfl) (eg_tupD (ds := [.str (TX.T t.1), .tuple [.str w, pairP t.2, .tuple (r.2.map pairP)]]) (ear_vD (ev_var rfl) (.str _) (ear_gD (eg_tupD (ear_vD (ev_var rfl) (.str _) (ear_vD (ev_var rfl) dsec (ear_vD (ev_var rfl) des8 ear_nilD))) (by show 3 ≤ 1000; decide)) ear_nilD)) (by show 2 ≤ 1000; decide)) (by omega) fun v2 H9 e9 dv2 => ?_
            have hp9 := e9 _ _ hp8
            refine ⟨Ex.mut (eH8.trans e9) np, by rw [upd_ne npup]; exact e9 _ _ hpu8, DpAll.updL hp9 _ _ (noL_ends _) (DpAll.mono e9 _ _ du8), by rw [upd_ne npvp]; exact e9 _ _ hpv8, DpAll.updL hp9 _ _ (noL_steps _) (DpAll.mono e9 _ _ dv8), Dp.updL hp9 _ _ (by simp only [noL, noL_pairs]) (Dp.mono e9 _ _ des8), zs ++ [v2], _, _, rfl, upd_same, ?_⟩
            have el : ((((endedD own (L w) (L z)).take i).map (rowsR own (L z))).flatten ++ (((r.1, r.2, none) : Row) :: ((stepsD own false r.1 (L z)).take (j + 1)).map fun t => (t.1, r.2, some t.2))) =
                ((((endedD own (L w) (L z)).take i).map (rowsR own (L z))).flatten ++ ((r.1, r.2, none) :: ((stepsD own false r.1 (L z)).take j).map fun t => (t.1, r.2, some t.2))) ++ [(t.1, r.2, some t.2)] := by
              rw [List.take_add_one, ht, List.map_append]
              simp
            rw [el, List.map_append]
            exact DpAll.snoc (DpAll.updL hp9 _ _ (noL_rows _ _) (DpAll.mono e9 _ _ dz)) (Dp.updL hp9 _ _ (noL_row w (t.1, r.2, some t.2)) dv2)
        · rintro σ' H8 ⟨eH8, hpu8, du8, hpv8, dv8, des8, zs, u6, u7, rfl, hp8, dz⟩
          refine ⟨eH8, hpu8, du8, zs, _, _, _, _, rfl, hp8, ?_⟩
          have vl : vs.length = (stepsD own false r.1 (L z)).length := by rw [dv8.len, List.length_map]
          rw [vl, List.take_length] at dz
          rw [tk]
          exact dz
    · rintro σ' H' ⟨eH, hpu', du', xs, v4, v5, v6, v7, rfl, hp, dx⟩
      have ul : us.length = (endedD own (L w) (L z)).length := by rw [du'.len, List.length_map]
      rw [ul, List.take_length] at dx
      have rl := rows_len (w := L w) (cs := L z) hB (by omega)
      obtain ⟨bs, b1, b2, b3, b4⟩ := sort_rows (rows := rowsD own (L w) (L z)) dx
      refine s_retKw (vs := [.ref p]) (zs := [.ref A.f_order]) (ea_cons (ev_var rfl) ea_nil) (fun H1 _ => ea_cons ev_c ea_nil) fun H1 e1 => ⟨p, bs, rfl, rfl, by rw [b1]; exact sq_of (e1 _ _ hp), ?_, ?_, fun b hb => ?_, ?_, fun b hb H3 e3 Q1 q1 => ?_, fun q H3 e3 nq nq3 => ?_⟩
      · rw [b2]
        intro d1 h1 d2 h2
        obtain ⟨r1, _, rfl⟩ := List.mem_map.mp h1
        obtain ⟨r2, _, rfl⟩ := List.mem_map.mp h2
        exact alike_key r1 r2
      · rw [b2]
        exact Or.inl fun d1 h1 => by
          obtain ⟨r1, _, rfl⟩ := List.mem_map.mp h1
          exact ⟨_, _, rfl⟩
      · obtain ⟨r, hr, _⟩ := b3 b hb
        rw [hr]
        exact depth_key r
      · have h1 : bs.length = (bs.map Prod.snd).length := (List.length_map _).symm
        rw [h1, b2, List.length_map]
        omega
      · obtain ⟨r, hr, dr⟩ := b3 b hb
        refine ⟨b.1, w, r, rfl, Dp.mono (e1.trans e3) _ _ dr, fun v' H4 e4 dk => q1 v' H4 e4 ?_⟩
        rw [hr]
        exact dk
      · exact k q _ _ (fresh_back (eH.trans e1) nq) upd_same (b4 _ ((e1.trans e3).trans (Ex.new nq3))) (((eH.trans e1).trans e3).trans (Ex.new nq3))

/-! ### the law's own makings -/
/-- a class as the law holds it -/
def ClsAt (H : Hp) (v : V) (b : BandD) : Prop := ∃ T0 rl xs, v = .ref T0 ∧ H T0 = some (.tup [.str (kindS b.1), .ref rl]) ∧ H rl = some (.lst xs) ∧ Pw (fun x (r : RuleD) => PartsAt H x r.c r.a r.ps r.g ∧ Good4 r.c r.a r.ps r.g) xs b.2 ∧ b.2.length ≤ 6
theorem ClsAt.mono {H H' : Hp} {v : V} {b : BandD} (h : ClsAt H v b) (ex : Ex H H') : ClsAt H' v b := by
  obtain ⟨T0, rl, xs, rfl, h1, h2, h3, h4⟩ := h
  exact ⟨T0, rl, xs, rfl, ex _ _ h1, ex _ _ h2, h3.imp fun x y r => ⟨r.1.mono ex, r.2⟩, h4⟩
def OwnAt (H : Hp) (a : Addr) (own : OwnD) : Prop := ∃ kvs, Rd H a (.dK kvs) ∧ ∀ n b, fnd own n = some b → ∃ v, valV kvs (.inr n) = some v ∧ ClsAt H v b
theorem OwnAt.mono {H H' : Hp} {d : Addr} {own : OwnD} (h : OwnAt H d own) (ex : Ex H H') : OwnAt H' d own := by
  obtain ⟨kvs, h1, h2⟩ := h
  refine ⟨kvs, ex_rd ex h1, fun n b hb => ?_⟩
  obtain ⟨o, h3, h4⟩ := h2 n b hb
  exact ⟨o, h3, h4.mono ex⟩
theorem OwnAt.six {H : Hp} {d : Addr} {own : OwnD} (h : OwnAt H d own) : ∀ n b, fnd own n = some b → b.2.length ≤ 6 := fun n b hb => by
  obtain ⟨kvs, _, h2⟩ := h
  obtain ⟨o, _, T0, rl, xs, _, _, _, _, h6⟩ := h2 n b hb
  exact h6
theorem spUsed_v {v : V} {c a z : Str} {ps : List (Str × Str)} {g : List Nat} {e : Bool} {H : Hp} (hp : PartsAt H v c a ps g) (G : Good4 c a ps g) (hz : z.length ≤ 16) : SpV spUsed [v, .str z, .bl e] H (oV (usedL e (L c) (L a) (lst ps) (L z))) :=
  fun _ ex _ q _ => ⟨v, c, a, ps, g, z, e, rfl, hp.mono ex, G, hz, q⟩
def Low (own : OwnD) : Prop := ∀ c b, fnd own (TX.T [c]) = some b → PyData.strOk (TX.T [c]) = true

/-! ### the law's light rules -/
def spLight (K : PySem.W.Frag) : Sp := fun vs H Q _ => ∃ (a : Addr) (ns : List Int) (at_ : Int) (g : List Nat), vs = [.ref a, .int at_, .str (TX.T g)] ∧ SqL K H a (ns.map V.int) ∧ 0 ≤ at_ ∧ at_ ≤ 90000 ∧ Fur g ∧
  ∀ v pa c b ps H', PartsQ H' v pa c b ps g → H pa = none → Good4 c b ps g → Ex H H' → Q v H'
theorem q_asgV {R : Hp → V → Prop} {te : TE} {σ : L2.St} {H : Hp} {D : Ends} {tz : TS} {i : Nat} (h : EvG R te σ H) (k : ∀ v H1, Ex H H1 → R H1 v → tz D (σ.set i (some v)) H1) : tSeq (tAsg te (gName i)) tz D σ H := h H (Ex.refl H) _ fun v H1 e r => k v H1 e r
theorem s_retC {sp : Sp} {dvs vs : List V} {E : XK} {ta : TA} {σ : L2.St} {H : Hp} {D : Ends} (h : EvA ta σ H vs) (k : ∀ H1, Ex H H1 → sp (vs ++ dvs) H1 D.rt E) : tRet (tCall sp dvs E ta) D σ H := h H (Ex.refl H) _ fun H1 e => k H1 e
theorem eq_int {a b : Int} : decide (V.int a = V.int b) = decide (a = b) := by
  rw [decide_eq_decide]
  exact ⟨fun h => V.int.inj h, fun h => h ▸ rfl⟩
theorem cut_at {i : Int} (h0 : 0 ≤ i) (h1 : i < 8) : ∃ w : Str, atI [V.str "", V.str "", V.str "e", V.str "", V.str "a", V.str "es", V.str "t", V.str ""] i = some (.str w) ∧ lets w = true ∧ w.length ≤ 2 := by
  obtain ⟨v, hv, hm⟩ := at_mem (xs := [V.str "", V.str "", V.str "e", V.str "", V.str "a", V.str "es", V.str "t", V.str ""]) h0 (by show i < 8; exact h1)
  simp only [List.mem_cons, List.not_mem_nil, or_false] at hm
  rcases hm with rfl | rfl | rfl | rfl | rfl | rfl | rfl | rfl <;> exact ⟨_, hv, by decide +kernel, by decide +kernel⟩
theorem ok_l_light (T : Txt K mg A) : FnOk P w K mg base CX0 4 A.f_l_light A.d_l_light P_l_light (spLight K) := by
  refine T.F_l_light.ok sc_l_light (fun vs H Q E h => ?_) (fun cdv A' outer s H vs Q E hr h => ?_)
  · obtain ⟨a, ns, at_, g, rfl, _⟩ := h
    rfl
  · obtain ⟨a, ns, at_, g, rfl, hS, h0, h1, hg, kk⟩ := h
    refine ⟨_, (pss_cons (ps_set (i := 3) sc_l_light.nd rfl (Or.inl rfl) (pe_call (ok_l_number T) (hr.mono (by decide)) rfl T.g_l_number T.k_l_number T.b_l_number .nil pass0 (pa_cons (pv 0) (pa_cons (pv 1) pa_nil))))
      (pss_cons (ps_set (i := 4) sc_l_light.nd rfl (Or.inl rfl) (pe_ix ix_list (pe_lst (pa_cons pe_str (pa_cons pe_str (pa_cons pe_str (pa_cons pe_str (pa_cons pe_str (pa_cons pe_str (pa_cons pe_str (pa_cons pe_str pa_nil))))))))) (pe_op op_mod (pv 3) pe_int) (fun _ _ => rfl)))
      (pss_cons (ps_set (i := 5) sc_l_light.nd rfl (Or.inl rfl) (pe_call (ok_l_letters T) hr rfl T.g_l_letters T.k_l_letters T.b_l_letters .nil pass0 (pa_cons (pv 0) (pa_cons (pe_op op_add (pv 1) pe_int) (pa_cons (pe_op op_mod (pe_op op_fdiv (pv 3) pe_int) pe_int) pa_nil)))))
      (pss_cons (ps_if (pt_cmpR op_eq (pe_op op_mod (pe_op op_fdiv (pv 3) pe_int) pe_int) pe_int (nomark _)) (pss_one (ps_set (i := 5) sc_l_light.nd rfl (Or.inl rfl) pe_str)) pss_nil)
      (pss_cons (ps_if (pt_cmpR op_eq (pv 4) (pv 5) (nomark _)) (pss_one (ps_set (i := 5) sc_l_light.nd rfl (Or.inl rfl) (pe_ifExp (pt_cmpR op_eq (pv 4) pe_str (nomark _)) pe_str pe_str))) pss_nil)
      (pss_cons (ps_set (i := 6) sc_l_light.nd rfl (Or.inl rfl) (pe_ifExp (pt_cmpR op_eq (pe_op op_mod (pe_op op_fdiv (pv 3) pe_int) pe_int) pe_int (nomark _)) (pe_call (ok_l_condition T) hr rfl T.g_l_condition T.k_l_condition T.b_l_condition .nil pass0 (pa_cons (pv 0) (pa_cons (pe_op op_add (pv 1) pe_int) pa_nil))) (pe_lst pa_nil)))
      (pss_one (ps_ret (pe_tup (pa_cons (pv 4) (pa_cons (pv 5) (pa_cons (pv 6) (pa_cons (pv 2) pa_nil))))))))))))), ?_⟩
    have nb : ∀ j, 0 ≤ num ns j ∧ num ns j < 536870908 := fun j => mix_bd _ _
    refine q_asg (v := .int (num ns at_)) (ev_call (ea_cons (ev_var rfl) (ea_cons (ev_var rfl) ea_nil)) (spNum_v hS (by omega) (by omega))) fun H1 e1 => ?_
    have nn := nb at_
    generalize num ns at_ = n at nn
    obtain ⟨c, hc, cl, c2⟩ := cut_at (i := n % 8) (Int.emod_nonneg _ (by decide)) (Int.emod_lt_of_pos _ (by decide))
    refine q_asg (v := .str c) (ev_opL1 (el_lst (ea_cons ev_c (ea_cons ev_c (ea_cons ev_c (ea_cons ev_c (ea_cons ev_c (ea_cons ev_c (ea_cons ev_c (ea_cons ev_c ea_nil)))))))) (by show 8 ≤ 100000; decide)) (fun H2 e2 => ev_op (ev_var rfl) ev_c (rv_I (by show (0 : Int) < _; decide))) (fun p H2 hp e2 => rv_ixL (sq_of hp) hc)) fun H2 e2 => ?_
    have e12 := e1.trans e2
    refine q_asgC (ea_cons (ev_var rfl) (ea_cons (ev_op (ev_var rfl) ev_c rv_I0) (ea_cons (ev_op (ev_op (ev_var rfl) ev_c (rv_I ⟨by decide, by decide⟩)) ev_c (rv_I (by show (0 : Int) < _; decide))) ea_nil))) fun H3 e3 => ?_
    refine ⟨a, ns, at_ + 1, n / 8 % 4, rfl, ex_l (e12.trans e3) hS, by omega, by omega, by omega, by omega, fun b H4 hb hbl e4 => ?_⟩
    have e14 := (e12.trans e3).trans e4
    refine q_ifAsg (b := decide (n / 32 % 16 = 1)) (v := .str (if n / 32 % 16 = 1 then ("aeista" : Str) else b)) (et_is (et_test (ev_op (ev_op (ev_op (ev_var rfl) ev_c (rv_I ⟨by decide, by decide⟩)) ev_c (rv_I (by show (0 : Int) < _; decide))) ev_c (rv_eq rfl))) eq_int) (fun hq => ?_) (fun hq => ?_) fun H5 e5 => ?_
    · have hq' : n / 32 % 16 = 1 := by simpa using hq
      rw [if_pos hq']
      exact ev_c
    · have hq' : ¬ n / 32 % 16 = 1 := by simpa using hq
      rw [if_neg hq']
      rfl
    · have hb1 : ∃ b1 : Str, (if n / 32 % 16 = 1 then ("aeista" : Str) else b) = b1 ∧ lets b1 = true ∧ b1.length ≤ 6 := by
        refine ⟨_, rfl, ?_⟩
        split
        · exact ⟨by decide +kernel, by decide +kernel⟩
        · exact ⟨hbl, by omega⟩
      obtain ⟨b1, eb1, hbl1, hb6⟩ := hb1
      rw [eb1]
      refine q_ifAsg (b := decide (c = b1)) (v := .str (if c = b1 then (if c = "" then ("s" : Str) else "") else b1)) (et_is (et_test (ev_op (ev_var rfl) (ev_var rfl) (rv_eq rfl))) eq_str) (fun hcb => ?_) (fun hcb => ?_) fun H6 e6 => ?_
      · have hcb' : c = b1 := by simpa using hcb
        rw [if_pos hcb']
        refine ev_if (b := decide (c = "")) (et_is (et_test (ev_op (ev_var rfl) ev_c (rv_eq rfl))) eq_str) (fun hbe => ?_) fun hbe => ?_
        · have hbe' : c = "" := by simpa using hbe
          rw [if_pos hbe']
          exact ev_c
        · have hbe' : ¬ c = "" := by simpa using hbe
          rw [if_neg hbe']
          exact ev_c
      · have hcb' : ¬ c = b1 := by simpa using hcb
        rw [if_neg hcb']
        rfl
      · have good : ∃ b' : Str, (if c = b1 then (if c = "" then ("s" : Str) else "") else b1) = b' ∧ lets b' = true ∧ b'.length ≤ 6 ∧ c ≠ b' := by
          refine ⟨_, rfl, ?_⟩
          by_cases hcb : c = b1
          · rw [if_pos hcb]
            by_cases hbe : c = ""
            · rw [if_pos hbe]
              refine ⟨by decide +kernel, by decide +kernel, ?_⟩
              rw [hbe]
              decide +kernel
            · rw [if_neg hbe]
              exact ⟨by decide +kernel, by decide +kernel, hbe⟩
          · rw [if_neg hcb]
            exact ⟨hbl1, hb6, hcb⟩
        obtain ⟨b', eb, b1', b6, bne⟩ := good
        rw [eb]
        have e16 := (e14.trans e5).trans e6
        refine q_asgV (R := fun H2 v => ∃ pa xs ps, v = .ref pa ∧ H6 pa = none ∧ H2 pa = some (.lst xs) ∧ PlGs H2 xs ps ∧ ps.length ≤ 3) (eg_if (c := decide (n / 512 % 3 = 1)) (et_is (et_test (ev_op (ev_op (ev_op (ev_var rfl) ev_c (rv_I ⟨by decide, by decide⟩)) ev_c (rv_I (by show (0 : Int) < _; decide))) ev_c (rv_eq rfl))) eq_int) (fun _ H7 e7 Q7 q7 => ?_) (fun _ H7 e7 Q7 q7 => ?_)) fun v H7 e7 hv => ?_
        · refine (ea_cons (ev_var rfl) (ea_cons (ev_op (ev_var rfl) ev_c rv_I0) ea_nil) : EvA _ _ H6 [.ref a, .int (at_ + 6)]) H7 e7 _ fun H8 e8 => ⟨a, ns, at_ + 6, rfl, ex_l ((e16.trans e7).trans e8) hS, by omega, by omega, fun pa xs ps H9 npa hpa hps hps2 e9 => ?_⟩
          exact q7 _ H9 (e8.trans e9) ⟨pa, xs, ps, rfl, fresh_back (e7.trans e8) npa, hpa, hps2, hps⟩
        · refine (el_lst ea_nil (by show 0 ≤ 100000; decide) : EvL _ _ H6 []) H7 e7 _ fun pa H8 npa e8 hpa => ?_
          exact q7 _ H8 e8 ⟨pa, [], [], rfl, fresh_back e7 npa, hpa, PlGs.nil, Nat.zero_le _⟩
        · obtain ⟨pa, xs, ps, rfl, npa, hpa, hps2, hps⟩ := hv
          refine s_retU (eu_tup (ea_cons (ev_var rfl) (ea_cons (ev_var rfl) (ea_cons (ev_var rfl) (ea_cons (ev_var rfl) ea_nil)))) (by show 4 ≤ 100000; decide)) fun p H8 np e8 h8 => ?_
          exact kk (.ref p) pa c b' ps H8 ⟨p, xs, rfl, h8, e8 _ _ hpa, hps2.mono e8⟩ (fresh_back e16 npa) ⟨cl, by omega, b1', b6, bne, hps, hg⟩ ((e16.trans e7).trans e8)
def spStem (K : PySem.W.Frag) : Sp := fun vs H Q _ => ∃ (a : Addr) (ns : List Int) (at_ : Int), vs = [.ref a, .int at_] ∧ SqL K H a (ns.map V.int) ∧ 0 ≤ at_ ∧ at_ ≤ 90000 ∧
  ∀ z H', z.length ≤ 16 → lets z = true → Ex H H' → Q (.str z) H'
theorem ok_l_stem (T : Txt K mg A) : FnOk P w K mg base CX0 4 A.f_l_stem A.d_l_stem P_l_stem (spStem K) := by
  refine T.F_l_stem.ok sc_l_stem (fun vs H Q E h => ?_) (fun cdv A' outer s H vs Q E hr h => ?_)
  · obtain ⟨a, ns, at_, rfl, _⟩ := h
    rfl
  · obtain ⟨a, ns, at_, rfl, hS, h0, h1, kk⟩ := h
    refine ⟨_, (pss_cons (ps_set (i := 2) sc_l_stem.nd rfl (Or.inl rfl) (pe_call (ok_l_number T) (hr.mono (by decide)) rfl T.g_l_number T.k_l_number T.b_l_number .nil pass0 (pa_cons (pv 0) (pa_cons (pv 1) pa_nil))))
      (pss_one (ps_ret (pe_call (ok_l_letters T) hr rfl T.g_l_letters T.k_l_letters T.b_l_letters .nil pass0 (pa_cons (pv 0) (pa_cons (pe_op op_add (pv 1) pe_int) (pa_cons (pe_ix ix_list (pe_lst (pa_cons (pe_op op_add pe_int (pe_op op_mod (pv 2) pe_int)) (pa_cons (pe_op op_add pe_int (pe_op op_mod (pv 2) pe_int)) pa_nil))) (pe_op op_mod (pe_op op_fdiv (pv 2) pe_int) pe_int) (fun _ _ => rfl)) pa_nil))))))), ?_⟩
    refine q_asg (v := .int (num ns at_)) (ev_call (ea_cons (ev_var rfl) (ea_cons (ev_var rfl) ea_nil)) (spNum_v hS (by omega) (by omega))) fun H1 e1 => ?_
    have nn : 0 ≤ num ns at_ ∧ num ns at_ < 536870908 := mix_bd _ _
    generalize num ns at_ = n at nn
    obtain ⟨m, hm, m0, m16⟩ : ∃ m : Int, atI [V.int (1 + n % 16), V.int (2 + n % 6)] (n / 16 % 2) = some (.int m) ∧ 0 ≤ m ∧ m ≤ 16 := by
      have h3 : n / 16 % 2 = 0 ∨ n / 16 % 2 = 1 := by omega
      rcases h3 with h3 | h3
      · rw [h3]
        exact ⟨1 + n % 16, rfl, by omega, by omega⟩
      · rw [h3]
        exact ⟨2 + n % 6, rfl, by omega, by omega⟩
    refine s_retC (ea_cons (ev_var rfl) (ea_cons (ev_op (ev_var rfl) ev_c rv_I0) (ea_cons (ev_opL1 (el_lst (ea_cons (ev_op ev_c (ev_op (ev_var rfl) ev_c (rv_I (by show (0 : Int) < _; decide))) rv_I0) (ea_cons (ev_op ev_c (ev_op (ev_var rfl) ev_c (rv_I (by show (0 : Int) < _; decide))) rv_I0) ea_nil)) (by show 2 ≤ 100000; decide)) (fun H2 e2 => ev_op (ev_op (ev_var rfl) ev_c (rv_I ⟨by decide, by decide⟩)) ev_c (rv_I (by show (0 : Int) < _; decide))) (fun p H2 hp e2 => rv_ixL (sq_of hp) hm)) ea_nil))) fun H2 e2 => ?_
    exact ⟨a, ns, at_ + 1, m, rfl, ex_l (e1.trans e2) hS, by omega, by omega, by omega, by omega, fun z H3 hz hzl e3 => kk z H3 (by omega) hzl ((e1.trans e2).trans e3)⟩

/-! ### the law's names -/
/-- the names in their order -/
def OwnK (H : Hp) (d : Addr) (own : OwnD) : Prop := (∃ kvs, Rd H d (.dK kvs) ∧ kvs.map (fun kv => kV kv.1) = own.map fun e => V.str e.1) ∧ (∀ e ∈ own, ∃ c, e.1 = TX.T [c] ∧ 65 ≤ c ∧ c ≤ 90) ∧ own.length ≤ 6 ∧ (own.map (·.1)).Nodup
theorem OwnK.mono {H H' : Hp} {d : Addr} {own : OwnD} (h : OwnK H d own) (ex : Ex H H') : OwnK H' d own := by
  obtain ⟨⟨kvs, h1, h2⟩, h3⟩ := h
  exact ⟨⟨kvs, ex_rd ex h1, h2⟩, h3⟩
theorem fnd_mem {own : OwnD} {e : Str × BandD} (h : e ∈ own) : ∃ b, fnd own e.1 = some b := by
  unfold fnd
  cases hf : own.find? fun x => decide (x.1 = e.1) with
  | some x => exact ⟨x.2, rfl⟩
  | none =>
    have := List.find?_eq_none.mp hf e h
    simp at this
theorem known_app {own : OwnD} {a b : Str} (ha : Known own (L a)) (hb : Known own (L b)) : Known own (L (a ++ b)) := by
  rw [L_add]
  intro c hc
  rcases List.mem_append.mp hc with h | h
  · exact ha c h
  · exact hb c h
theorem q_popAt {l : Addr} {xs : List V} {σ : L2.St} {H : Hp} {D : Ends} {tz : TS} {ta ti : TE} {K : PySem.W.Frag} {i : Nat} {k : Nat} {y : V} (hl : H l = some (.lst xs)) (ha : Ev ta σ H (.ref l)) (hi : Ev ti σ H (.int (k : Int))) (hk : k < 1000000) (hy : xs[k]? = some y)
    (q : ∀ H1, Ex H H1 → tz D (σ.set i (some y)) (upd H1 l (.lst (xs.eraseIdx k)))) : tSeq (tAsg (tBM K "list" rPopAt ta (tCons ti tNil)) (gName i)) tz D σ H :=
  ha H (Ex.refl H) _ fun H1 e1 => ⟨Or.inl ⟨rfl, xs, sq_of (e1 l _ hl)⟩, hi H1 e1 _ fun H2 e2 => ⟨l, xs, k, k, y, rfl, rfl, e2 l _ (e1 l _ hl), by omega, by omega, by
    have hlt : k < xs.length := (List.getElem?_eq_some_iff.mp hy).1
    simp [seqIndex?]
    omega, hy, q H2 (e1.trans e2)⟩⟩
theorem mem_erase_ne {α : Type} : ∀ {l : List α} {k : Nat} {x : α}, x ∈ l.eraseIdx k → ∃ j, j ≠ k ∧ l[j]? = some x
  | [], _, _, h => by simp at h
  | a :: l, 0, x, h => by
    obtain ⟨j, hj⟩ := List.mem_iff_getElem?.mp (by simpa using h : x ∈ l)
    exact ⟨j + 1, by omega, by simpa using hj⟩
  | a :: l, k + 1, x, h => by
    rw [List.eraseIdx_cons_succ] at h
    rcases List.mem_cons.mp h with rfl | h
    · exact ⟨0, by omega, rfl⟩
    · obtain ⟨j, jn, hj⟩ := mem_erase_ne h
      exact ⟨j + 1, by omega, by simpa using hj⟩
def spNamed (K : PySem.W.Frag) : Sp := fun vs H Q _ => ∃ (a d : Addr) (ns : List Int) (at_ : Int) (own : OwnD), vs = [.ref a, .int at_, .ref d] ∧ SqL K H a (ns.map V.int) ∧ 0 ≤ at_ ∧ at_ ≤ 90000 ∧ OwnK H d own ∧
  ∀ z H', Known own (L z) → z.length ≤ 4 → (L z).Nodup → Ex H H' → Q (.str z) H'
theorem ok_l_named (T : Txt K mg A) : FnOk P w K mg base CX0 3 A.f_l_named A.d_l_named P_l_named (spNamed K) := by
  refine T.F_l_named.ok sc_l_named (fun vs H Q E h => ?_) (fun cdv A' outer s H vs Q E hr h => ?_)
  · obtain ⟨a, d, ns, at_, own, rfl, _⟩ := h
    rfl
  · obtain ⟨a, d, ns, at_, own, rfl, hS, h0, h1, hO, kk⟩ := h
    refine ⟨_, (pss_cons (ps_set (i := 3) sc_l_named.nd rfl (Or.inl rfl) (pe_callTy (call_listD (by rfl)) (by rfl) T.n_list (by decide +kernel) (pa_cons (pv 2) pa_nil)))
      (pss_cons (ps_set (i := 4) sc_l_named.nd rfl (Or.inl rfl) pe_str)
      (pss_cons (ps_for PassesOwn.never rfl (pi_range1 rfl T.n_range (pa_cons (pe_callB (call_min2 rfl) (by rfl) T.n_min (by decide +kernel) (pa_cons pe_int (pa_cons (pe_callB call_len_seq (by rfl) T.n_len PySem.boot_len (pa_cons (pv 3) pa_nil)) pa_nil))) pa_nil)) (pg_name (i := 5) sc_l_named.nd rfl (Or.inl rfl))
      (pss_cons (ps_set (i := 6) sc_l_named.nd rfl (Or.inl rfl) (pe_call (ok_l_number T) hr rfl T.g_l_number T.k_l_number T.b_l_number .nil pass0 (pa_cons (pv 0) (pa_cons (pe_op op_add (pv 1) (pv 5)) pa_nil))))
      (pss_cons (ps_set (i := 7) sc_l_named.nd rfl (Or.inl rfl) (pe_bm PySem.F.plainAttrs_list PySem.F.slot_list_pop PySem.F.type_list_pop mt_popAt (pv 3) (pa_cons (pe_op op_mod (pe_op op_fdiv (pv 6) pe_int) (pe_callB call_len_seq (by rfl) T.n_len PySem.boot_len (pa_cons (pv 3) pa_nil))) pa_nil)))
      (pss_one (ps_set (i := 4) sc_l_named.nd rfl (Or.inl rfl) (pe_op op_add_str (pv 4) (pe_op op_mulS (pv 7) (pe_callTy call_int1 (by rfl) T.n_int (by decide +kernel) (pa_cons (pe_cmpR op_gt (pe_op op_mod (pv 6) pe_int) pe_int (nomark _)) pa_nil)))))))))
      (pss_one (ps_ret (pv 4)))))), ?_⟩
    obtain ⟨⟨kvs, hd, hk⟩, hc, h6, ond⟩ := hO
    refine q_asgL (xs := own.map fun e => V.str e.1) (fun H1 e1 Q1 q1 => (ea_cons (ev_var rfl) ea_nil : EvA _ _ H [.ref d]) H1 e1 _ fun H2 e2 => ⟨d, kvs, rfl, ex_rd (e1.trans e2) hd, fun p np => ?_⟩) fun p H1 np e1 hp => ?_
    · rw [hk]
      exact q1 p _ (fresh_back e2 np) (e2.trans (Ex.new np)) upd_same
    · refine q_asg (v := .str "") ev_c fun H2 e2 => ?_
      have nod0 : (own.map fun e => V.str e.1).Nodup := by
        have h2 := ond
        unfold List.Nodup at *
        rw [List.pairwise_map] at h2 ⊢
        exact h2.imp fun hne he => hne (V.str.inj he)
      have hlen : Ev (tCB _ (tCons (tVar 3) tNil)) [some (.ref a), some (.int at_), some (.ref d), some (.ref p), some (.str ""), none, none, none] H2 (.int (own.map fun e => V.str e.1).length) := ev_cb (ea_cons (ev_var rfl) ea_nil) (rc_lenL (K := K) (sq_of (e2 _ _ hp)))
      rw [List.length_map] at hlen
      refine q_forR1 (n := if (own.length : Int) < 4 then (own.length : Int) else 4) (ea_cons (ev_cb (ea_cons ev_c (ea_cons hlen ea_nil)) rc_min) ea_nil) (by constructor <;> split <;> omega)
        (fun i σ' H' => Ex H H' ∧ ∃ xs z v5 v6 v7, σ' = [some (.ref a), some (.int at_), some (.ref d), some (.ref p), some (.str z), v5, v6, v7] ∧ H' p = some (.lst xs) ∧ xs.length + i = own.length ∧ (∀ x ∈ xs, ∃ e ∈ own, x = .str e.1) ∧ Known own (L z) ∧ z.length ≤ i ∧ xs.Nodup ∧ (L z).Nodup ∧ ∀ c ∈ L z, V.str (TX.T [c]) ∉ xs)
        (fun H3 e3 => ⟨(e1.trans e2).trans e3, _, "", none, none, none, rfl, (e2.trans e3) _ _ hp, by rw [List.length_map]; rfl, fun x hx => by
          obtain ⟨e, he, rfl⟩ := List.mem_map.mp hx
          exact ⟨e, he, rfl⟩, (fun c hc => nomatch hc : Known own []), Nat.zero_le _, nod0, (List.nodup_nil : ([] : List Nat).Nodup), (fun c hc => nomatch hc : ∀ c ∈ ([] : List Nat), _)⟩) ?_ ?_
      · rintro i σ' H' hi ⟨eH, xs, z, v5, v6, v7, rfl, hp', xl, xm, kz, zl, xnd, znd, zx⟩
        have hi4 : i < 4 ∧ (i : Int) < own.length := by
          split at hi <;> omega
        refine q_asg (v := .int (num ns (at_ + (i : Int)))) (ev_call (ea_cons (ev_var rfl) (ea_cons (ev_op (ev_var rfl) (ev_var rfl) rv_I0) ea_nil)) (spNum_v (ex_l eH hS) (by omega) (by omega))) fun H3 e3 => ?_
        have nn : 0 ≤ num ns (at_ + (i : Int)) ∧ num ns (at_ + (i : Int)) < 536870908 := mix_bd _ _
        generalize num ns (at_ + (i : Int)) = n at nn
        have xpos : 0 < xs.length := by omega
        have kb : (n / 8 % (xs.length : Int)).toNat < xs.length := by
          have := Int.emod_lt_of_pos (n / 8) (show (0 : Int) < xs.length by omega)
          have := Int.emod_nonneg (n / 8) (show (xs.length : Int) ≠ 0 by omega)
          omega
        have ke : n / 8 % (xs.length : Int) = (((n / 8 % (xs.length : Int)).toNat : Nat) : Int) := by
          have := Int.emod_nonneg (n / 8) (show (xs.length : Int) ≠ 0 by omega)
          omega
        obtain ⟨e, he, hy⟩ := xm _ (List.getElem_mem kb)
        have hy : xs[(n / 8 % (xs.length : Int)).toNat]? = some (.str e.1) := by rw [List.getElem?_eq_getElem kb, hy]
        obtain ⟨c, hc1, _⟩ := hc e he
        have inx : V.str (TX.T [c]) ∈ xs := by rw [← hc1]; exact List.mem_of_getElem? hy
        have cz : c ∉ L z := fun h => zx c h inx
        have outx : V.str (TX.T [c]) ∉ xs.eraseIdx (n / 8 % (xs.length : Int)).toNat := fun h => by
          obtain ⟨j, jne, hj⟩ := mem_erase_ne h
          have h1 := (List.getElem?_inj kb xnd).mp (hy.trans (by rw [hj, hc1]))
          exact jne h1.symm
        have hp3 := e3 _ _ hp'
        refine q_popAt (k := (n / 8 % (xs.length : Int)).toNat) hp3 (ev_var rfl) (by rw [← ke]; exact ev_op (ev_op (ev_var rfl) ev_c (rv_I ⟨by decide, by decide⟩)) (ev_cb (ea_cons (ev_var rfl) ea_nil) (rc_lenL (K := K) (sq_of hp3))) (rv_I (by show (0 : Int) < _; omega))) (by omega) hy fun H4 e4 => ?_
        have el : e.1.length = 1 := by rw [hc1, len_T]; rfl
        obtain ⟨y, ey, yl, yk, yc⟩ : ∃ y : Str, (if (if decide (0 < n % 8) = true then (1 : Int) else 0) = 1 then e.1 else ("" : Str)) = y ∧ y.length ≤ 1 ∧ Known own (L y) ∧ (L y = [] ∨ L y = [c]) := by
          cases hb : decide (0 < n % 8) with
          | true =>
            refine ⟨e.1, rfl, by omega, ?_, Or.inr (by rw [hc1, L_T])⟩
            rw [hc1, L_T]
            intro c2 hc2
            have : c2 = c := by simpa using hc2
            subst this
            obtain ⟨b, hb⟩ := fnd_mem he
            exact ⟨b, hc1 ▸ hb⟩
          | false => exact ⟨"", rfl, by decide +kernel, (fun c hc => nomatch hc : Known own []), Or.inl rfl⟩
        refine s_asg (v := .str (z ++ y)) (ev_op (ev_var rfl) (ev_is (ev_mulS (ev_var rfl) (ev_cb (ea_cons (ev_is (ev_op (ev_op (ev_var rfl) ev_c (rv_I (by show (0 : Int) < _; decide))) ev_c rv_I0) rfl) ea_nil) rc_int) (by split <;> decide) (by split <;> decide) (by omega)) (by rw [ey])) (rv_addS (show z.length + y.length ≤ 100000 by omega))) fun H5 e5 => ?_
        refine ⟨Ex.trans (Ex.mut (eH.trans (e3.trans e4)) np) e5, _, _, _, _, _, rfl, e5 _ _ upd_same, ?_, fun x hx => xm x (List.mem_of_mem_eraseIdx hx), ?_, ?_, xnd.sublist (List.eraseIdx_sublist _ _), ?_, ?_⟩
        · rw [List.length_eraseIdx_of_lt kb]
          omega
        · exact known_app kz yk
        · rw [PySem.Str.length_append]
          omega
        · rw [L_add, List.nodup_append]
          refine ⟨znd, ?_, fun a ha b hb => ?_⟩
          · rcases yc with h | h <;> rw [h] <;> simp
          · rcases yc with h | h
            · rw [h] at hb; cases hb
            · rw [h, List.mem_singleton] at hb
              subst hb
              exact fun e => cz (e ▸ ha)
        · intro a ha hx
          rw [L_add] at ha
          rcases List.mem_append.mp ha with h | h
          · exact zx a h (List.mem_of_mem_eraseIdx hx)
          · rcases yc with h2 | h2
            · rw [h2] at h; cases h
            · rw [h2, List.mem_singleton] at h
              subst h
              exact outx hx
      · rintro σ' H' ⟨eH, xs, z, v5, v6, v7, rfl, hp', xl, xm, kz, zl, xnd, znd, zx⟩
        refine s_ret (ev_var rfl) fun H3 e3 => kk z H3 kz (Nat.le_trans zl ?_) znd (eH.trans e3)
        split <;> omega

/-! ### rules, their condition's list told -/
def RuleQ (A : Ad) (C : Addr) (H : Hp) (x q : Addr) (c a k : Str) (ps : List (List Nat)) : Prop := ∃ dx o, H x = some (.ins C dx (rFlds o c a)) ∧ CondQ A.c_Condition H o q k ps
def EndQ (A : Ad) (H : Hp) (x q : Addr) (c a k f : Str) (ps : List (List Nat)) : Prop := ∃ dx o, H x = some (.ins A.c_Ending dx (eFlds o c a f)) ∧ CondQ A.c_Condition H o q k ps
theorem RuleQ.at {C x q : Addr} {H : Hp} {c a k : Str} {ps : List (List Nat)} (h : RuleQ A C H x q c a k ps) : RuleAt A C H x c a k ps := by
  obtain ⟨dx, o, h1, h2⟩ := h
  exact ⟨dx, o, h1, h2.at⟩
theorem EndQ.at {x q : Addr} {H : Hp} {c a k f : Str} {ps : List (List Nat)} (h : EndQ A H x q c a k f ps) : EndAt A H x c a k f ps := by
  obtain ⟨dx, o, h1, h2⟩ := h
  exact ⟨dx, o, h1, h2.at⟩
theorem RuleQ.mono {C x q : Addr} {H H' : Hp} {c a k : Str} {ps : List (List Nat)} (h : RuleQ A C H x q c a k ps) (e : Ex H H') : RuleQ A C H' x q c a k ps := by
  obtain ⟨dx, o, h1, h2⟩ := h
  exact ⟨dx, o, e _ _ h1, h2.mono e⟩
theorem EndQ.mono {x q : Addr} {H H' : Hp} {c a k f : Str} {ps : List (List Nat)} (h : EndQ A H x q c a k f ps) (e : Ex H H') : EndQ A H' x q c a k f ps := by
  obtain ⟨dx, o, h1, h2⟩ := h
  exact ⟨dx, o, e _ _ h1, h2.mono e⟩
theorem RuleQ.upd {C x q p : Addr} {H : Hp} {c a k : Str} {ps : List (List Nat)} {ys : List V} {u : HO} (h : RuleQ A C H x q c a k ps) (hp : H p = some (.lst ys)) (hn : q ≠ p) : RuleQ A C (upd H p u) x q c a k ps := by
  obtain ⟨dx, o, h1, h2⟩ := h
  obtain ⟨dy, ho⟩ := h2.ob
  refine ⟨dx, o, ?_, h2.upd (ne_of ho hp fun z => by cases z) hn⟩
  rw [upd_ne (ne_of h1 hp fun z => by cases z)]
  exact h1
theorem EndQ.upd {x q p : Addr} {H : Hp} {c a k f : Str} {ps : List (List Nat)} {ys : List V} {u : HO} (h : EndQ A H x q c a k f ps) (hp : H p = some (.lst ys)) (hn : q ≠ p) : EndQ A (upd H p u) x q c a k f ps := by
  obtain ⟨dx, o, h1, h2⟩ := h
  obtain ⟨dy, ho⟩ := h2.ob
  refine ⟨dx, o, ?_, h2.upd (ne_of ho hp fun z => by cases z) hn⟩
  rw [upd_ne (ne_of h1 hp fun z => by cases z)]
  exact h1

/-! ### making within the law -/
theorem made_ex {a dx C : Addr} {H2 H3 : Hp} (n1 : H2 a = none) (n2 : H2 dx = none) (n3 : dx ≠ a) (kp : Kept (upd (upd H2 dx (.own a)) a (.ins C dx [])) H3 a) : Ex H2 H3 := fun b o hb => kp b o (ne_of_none hb n1) (Ex.made n1 n2 n3 b o hb)
section
variable {σ : L2.St} {H : Hp} {t : TA} {p : Addr} {xs vs dvs : List V} {c a k f : Str} {ps : List (List Nat)} {D : Ends} {tz : TS}
theorem eg_makeR {C : Addr} (hC : RCls K C) (h : EvA t σ H [.str c, .str a, .str k]) (G : GoodR (.str c) (.str a) (.str k)) (sk : signs k) (lk : k.length ≤ 1000) (hk : conds (L k) = some ps) (hp : H p = some (.lst xs)) :
    EvG (fun H2 v => ∃ x q, v = .ref x ∧ RuleQ A C H2 x q c a k ps ∧ q ≠ p) (tMake C (spRInit K A) [] E0 t) σ H := fun H1 e Q q => h H1 e _ fun H2 e2 x dx hx hdx hne => by
  have G0 := G
  obtain ⟨c0, a0, k0, g1, g2, g3, g4, g5, g6, g7, _⟩ := G0
  cases g1
  cases g2
  refine ⟨x, dx, .str c, .str a, .str k, C, rfl, upd_same, hC, ⟨by omega, lets_signs g4⟩, ⟨by omega, lets_signs g6⟩, ⟨lk, sk⟩, fun _ c' a' k' ps' o qq H' nq ec ea ek h2 hq nox kp => ⟨rfl, ?_⟩, fun hB => absurd G hB⟩
  cases ec
  cases ea
  cases ek
  have hps : ps' = ps := Option.some.inj (hq.rd.symm.trans hk)
  subst hps
  refine q (.ref x) H' (e2.trans (made_ex hx hdx hne kp)) ⟨x, qq, rfl, ⟨dx, o, h2, hq⟩, fun e0 => ?_⟩
  have := (Ex.made hx hdx hne (o1 := .own x) (o2 := .ins C dx [])) p _ (e2 _ _ (e _ _ hp))
  rw [← e0, nq] at this
  cases this
theorem eg_makeE (T : Txt K mg A) (h : EvA t σ H vs) (hv : vs ++ dvs = [.str c, .str a, .str k, .str f]) (G : GoodR (.str c) (.str a) (.str k)) (F : GoodF (.str f)) (sf : signs f) (lf : f.length ≤ 1000) (sk : signs k) (lk : k.length ≤ 1000) (hk : conds (L k) = some ps) (hp : H p = some (.lst xs)) :
    EvG (fun H2 v => ∃ x q, v = .ref x ∧ EndQ A H2 x q c a k f ps ∧ q ≠ p) (tMake A.c_Ending (spEInit K A) dvs E0 t) σ H := fun H1 e Q q => h H1 e _ fun H2 e2 x dx hx hdx hne => by
  have G0 := G
  obtain ⟨c0, a0, k0, g1, g2, g3, g4, g5, g6, g7, _⟩ := G0
  cases g1
  cases g2
  rw [hv]
  refine ⟨x, dx, .str c, .str a, .str k, .str f, rfl, upd_same, ⟨by omega, lets_signs g4⟩, ⟨by omega, lets_signs g6⟩, ⟨lk, sk⟩, ⟨lf, sf⟩, fun _ _ c' a' k' f' ps' o qq H' nq ec ea ek ef h2 hq nox kp => ⟨rfl, ?_⟩, fun hB => absurd ⟨G, F⟩ hB⟩
  cases ec
  cases ea
  cases ek
  cases ef
  have hps : ps' = ps := Option.some.inj (hq.rd.symm.trans hk)
  subst hps
  refine q (.ref x) H' (e2.trans (made_ex hx hdx hne kp)) ⟨x, qq, rfl, ⟨dx, o, h2, hq⟩, fun e0 => ?_⟩
  have := (Ex.made hx hdx hne (o1 := .own x) (o2 := .ins A.c_Ending dx [])) p _ (e2 _ _ (e _ _ hp))
  rw [← e0, nq] at this
  cases this
theorem eg_makeR2 {C : Addr} (hC : RCls K C) (h : EvA t σ H [.str c, .str a, .str k]) (G : GoodR (.str c) (.str a) (.str k)) (sk : signs k) (lk : k.length ≤ 1000) (hk : conds (L k) = some ps) :
    EvG (fun H2 v => ∃ x q, v = .ref x ∧ RuleQ A C H2 x q c a k ps ∧ H q = none) (tMake C (spRInit K A) [] E0 t) σ H := fun H1 e Q q => h H1 e _ fun H2 e2 x dx hx hdx hne => by
  have G0 := G
  obtain ⟨c0, a0, k0, g1, g2, g3, g4, g5, g6, g7, _⟩ := G0
  cases g1
  cases g2
  refine ⟨x, dx, .str c, .str a, .str k, C, rfl, upd_same, hC, ⟨by omega, lets_signs g4⟩, ⟨by omega, lets_signs g6⟩, ⟨lk, sk⟩, fun _ c' a' k' ps' o qq H' nq ec ea ek h2 hq nox kp => ⟨rfl, ?_⟩, fun hB => absurd G hB⟩
  cases ec
  cases ea
  cases ek
  have hps : ps' = ps := Option.some.inj (hq.rd.symm.trans hk)
  subst hps
  refine q (.ref x) H' (e2.trans (made_ex hx hdx hne kp)) ⟨x, qq, rfl, ⟨dx, o, h2, hq⟩, ?_⟩
  cases hqq : H qq with
  | none => rfl
  | some o' =>
    have := (Ex.made hx hdx hne (o1 := .own x) (o2 := .ins C dx [])) qq o' (e2 _ _ (e _ _ hqq))
    rw [nq] at this
    cases this
theorem eg_makeE2 (T : Txt K mg A) (h : EvA t σ H vs) (hv : vs ++ dvs = [.str c, .str a, .str k, .str f]) (G : GoodR (.str c) (.str a) (.str k)) (F : GoodF (.str f)) (sf : signs f) (lf : f.length ≤ 1000) (sk : signs k) (lk : k.length ≤ 1000) (hk : conds (L k) = some ps) :
    EvG (fun H2 v => ∃ x q, v = .ref x ∧ EndQ A H2 x q c a k f ps ∧ H q = none) (tMake A.c_Ending (spEInit K A) dvs E0 t) σ H := fun H1 e Q q => h H1 e _ fun H2 e2 x dx hx hdx hne => by
  have G0 := G
  obtain ⟨c0, a0, k0, g1, g2, g3, g4, g5, g6, g7, _⟩ := G0
  cases g1
  cases g2
  rw [hv]
  refine ⟨x, dx, .str c, .str a, .str k, .str f, rfl, upd_same, ⟨by omega, lets_signs g4⟩, ⟨by omega, lets_signs g6⟩, ⟨lk, sk⟩, ⟨lf, sf⟩, fun _ _ c' a' k' f' ps' o qq H' nq ec ea ek ef h2 hq nox kp => ⟨rfl, ?_⟩, fun hB => absurd ⟨G, F⟩ hB⟩
  cases ec
  cases ea
  cases ek
  cases ef
  have hps : ps' = ps := Option.some.inj (hq.rd.symm.trans hk)
  subst hps
  refine q (.ref x) H' (e2.trans (made_ex hx hdx hne kp)) ⟨x, qq, rfl, ⟨dx, o, h2, hq⟩, ?_⟩
  cases hqq : H qq with
  | none => rfl
  | some o' =>
    have := (Ex.made hx hdx hne (o1 := .own x) (o2 := .ins A.c_Ending dx [])) qq o' (e2 _ _ (e _ _ hqq))
    rw [nq] at this
    cases this
/-- x = e; if t: x = e2 -/
theorem q_asgTwice {te te2 : TE} {u : TT} {b : Bool} {R : Hp → V → Prop} {i : Nat} (h : EvG R te σ H) (mo : ∀ H H' v, Ex H H' → R H v → R H' v) (ht : ∀ v H1, Ex H H1 → EvT u (σ.set i (some v)) H1 b) (h2 : b = true → ∀ v H1, Ex H H1 → EvG R te2 (σ.set i (some v)) H1)
    (kk : ∀ v H1, Ex H H1 → R H1 v → tz D (σ.set i (some v)) H1) : tSeq (tAsg te (gName i)) (tSeq (tIfS u (tAsg te2 (gName i)) tNext) tz) D σ H :=
  show te σ H _ from h H (Ex.refl H) _ fun v H1 e r => q_when (ht v H1 e) (fun hb H2 e2 => (h2 hb v H2 (e.trans e2)) H2 (Ex.refl H2) _ fun v' H3 e3 r' => by
    have := kk v' H3 ((e.trans e2).trans e3) r'
    show tz D ((σ.set i (some v)).set i (some v')) H3
    rw [List.set_set]
    exact this) fun hb H2 e2 => kk v H2 (e.trans e2) (mo _ _ _ e2 r)
theorem q_asgEG {te : TE} {R : Hp → V → Prop} {i : Nat} (h : EvG R te σ H) (kk : ∀ v H1, Ex H H1 → R H1 v → tz D (σ.set i (some v)) H1) : tSeq (tAsg te (gName i)) tz D σ H :=
  show te σ H _ from h H (Ex.refl H) _ fun v H1 e r => kk v H1 e r
end

/-! ### lawrules -/
/-- a rule's object, its condition's list told -/
def RObjF (A : Ad) (p : Addr) (Hb H : Hp) (e : Bool) (v : V) (r : RuleD) : Prop := ∃ x q, v = .ref x ∧ (if e = true then EndQ A H x q r.c r.a (txt r.ps) (TX.T r.g) (lst r.ps) else RuleQ A A.c_Beginning H x q r.c r.a (txt r.ps) (lst r.ps)) ∧ Good4 r.c r.a r.ps r.g ∧ Hb q = none ∧ q ≠ p
theorem RObjF.at {p : Addr} {Hb H : Hp} {e : Bool} {v : V} {r : RuleD} (h : RObjF A p Hb H e v r) : RObj A H e v r := by
  obtain ⟨x, q, rfl, h1, h2, _⟩ := h
  refine ⟨x, rfl, ?_, h2⟩
  cases e with
  | true => exact EndQ.at h1
  | false => exact RuleQ.at h1
theorem RObjF.mono {p : Addr} {Hb H H' : Hp} {e : Bool} {v : V} {r : RuleD} (h : RObjF A p Hb H e v r) (ex : Ex H H') : RObjF A p Hb H' e v r := by
  obtain ⟨x, q, rfl, h1, h2, h3⟩ := h
  refine ⟨x, q, rfl, ?_, h2, h3⟩
  cases e with
  | true => exact EndQ.mono h1 ex
  | false => exact RuleQ.mono h1 ex
theorem RObjF.upd {p y : Addr} {Hb H : Hp} {e : Bool} {v : V} {r : RuleD} {ys : List V} {u : HO} (h : RObjF A p Hb H e v r) (hy : H y = some (.lst ys)) (hn : Hb y ≠ none ∨ y = p) : RObjF A p Hb (upd H y u) e v r := by
  obtain ⟨x, q, rfl, h1, h2, h3, h4⟩ := h
  have nq : q ≠ y := by
    rcases hn with hn | rfl
    · exact fun e => hn (e ▸ h3)
    · exact h4
  refine ⟨x, q, rfl, ?_, h2, h3, h4⟩
  cases e with
  | true => exact EndQ.upd h1 hy nq
  | false => exact RuleQ.upd h1 hy nq
theorem eg_imp {R R' : Hp → V → Prop} {te : TE} {σ : L2.St} {H : Hp} (h : EvG R te σ H) (i : ∀ H v, R H v → R' H v) : EvG R' te σ H := fun H1 e Q q => h H1 e Q fun v H2 e2 r => q v H2 e2 (i _ _ r)
def spRules (A : Ad) : Sp := fun vs H Q _ => ∃ v b, vs = [v] ∧ ClsAt H v b ∧ ∀ p xs H', H p = none → H' p = some (.lst xs) → Pw (RObjF A p H H' b.1) xs b.2 → Ex H H' → Q (.ref p) H'
theorem eg_robj {te : TE} {σ : L2.St} {H H1 : Hp} {Dl : Addr} {ys : List V} {e : Bool} {r : RuleD} (G : Good4 r.c r.a r.ps r.g) (e1 : Ex H H1) (hD : H1 Dl = some (.lst ys))
    (h : EvG (fun H2 v => ∃ x q, v = .ref x ∧ (if e = true then EndQ A H2 x q r.c r.a (txt r.ps) (TX.T r.g) (lst r.ps) else RuleQ A A.c_Beginning H2 x q r.c r.a (txt r.ps) (lst r.ps)) ∧ H1 q = none) te σ H1) :
    EvG (fun H4 v => ∀ zs, RObjF A Dl H (upd H4 Dl (.lst zs)) e v r) te σ H1 := fun H2 e2 Q q => h H2 e2 _ fun v H3 e3 hv => q v H3 e3 fun zs => by
  obtain ⟨x, q, rfl, h1, h2⟩ := hv
  have nD : q ≠ Dl := fun e => by rw [e, hD] at h2; cases h2
  have h0 : RObjF A Dl H H3 e (.ref x) r := ⟨x, q, rfl, h1, G, fresh_back e1 h2, nD⟩
  exact h0.upd (e3 _ _ (e2 _ _ hD)) (Or.inr rfl)
theorem good_r {c b : Str} {ps : List (Str × Str)} {g : List Nat} {H : Hp} {xs : List V} (G : Good4 c b ps g) (hpl : PlGs H xs ps) : GoodR (.str c) (.str b) (.str (txt ps)) := ⟨c, b, _, rfl, rfl, rfl, G.c1, G.c4, G.a1, G.a6, G.ne, _, txt_conds hpl G.p3⟩
theorem ok_l_rules (T : Txt K mg A) : FnOk P w K mg base CX0 11 A.f_l_rules A.d_l_rules P_l_rules (spRules A) := by
  refine T.F_l_rules.ok sc_l_rules (fun vs H Q E h => ?_) (fun cdv A' outer s H vs Q E hr h => ?_)
  · obtain ⟨v, b, rfl, _⟩ := h
    rfl
  · obtain ⟨v, ⟨kd, rs⟩, rfl, hC, kk⟩ := h
    refine ⟨_, (pss_cons (ps_if (pt_cmpR op_eq (pe_ix ix_tup (pv 0) pe_int (fun _ _ => rfl)) pe_str (nomark _)) (pss_one (ps_ret (pe_lc (g := gTup K 4 (gCons (gName 1) (gCons (gName 2) (gCons (gName 3) (gCons (gName 4) gNil))))) (own := [("_law_cut", 1), ("_law_added", 2), ("_law_places", 3), ("_law_further", 4)]) (by rfl) sc_l_rules.nd (pi_list (pe_ix ix_tup (pv 0) pe_int (fun _ _ => rfl))) (blkOk_by (own := [("_law_cut", 1), ("_law_added", 2), ("_law_places", 3), ("_law_further", 4)]) (N := N_l_rules) (sc := defScope s_l_rules) (by decide +kernel)) (fun _ _ _ _ _ => (pg_tup (by rfl) (pgs_cons (pg_name (i := 1) sc_l_rules.nd rfl (Or.inl rfl)) (pgs_cons (pg_name (i := 2) sc_l_rules.nd rfl (Or.inl rfl)) (pgs_cons (pg_name (i := 3) sc_l_rules.nd rfl (Or.inl rfl)) (pgs_cons (pg_name (i := 4) sc_l_rules.nd rfl (Or.inl rfl)) pgs_nil)))))) (fun _ _ _ _ _ => pts_nil) (fun _ _ _ _ _ => (pe_make T.M_Ending (ok_Ending_init T) hr rfl T.g_Ending T.b_Ending_init .nil passL (pa_cons (pv 1) (pa_cons (pv 2) (pa_cons (pe_call (ok_l_written T) (hr.mono (by decide)) rfl T.g_l_written T.k_l_written T.b_l_written .nil pass0 (pa_cons (pv 3) pa_nil)) (pa_cons (pv 4) pa_nil))))))))) pss_nil)
      (pss_one (ps_ret (pe_lc (g := gTup K 4 (gCons (gName 1) (gCons (gName 2) (gCons (gName 3) (gCons (gName 4) gNil))))) (own := [("_law_cut", 1), ("_law_added", 2), ("_law_places", 3), ("_law_further", 4)]) (by rfl) sc_l_rules.nd (pi_list (pe_ix ix_tup (pv 0) pe_int (fun _ _ => rfl))) (blkOk_by (own := [("_law_cut", 1), ("_law_added", 2), ("_law_places", 3), ("_law_further", 4)]) (N := N_l_rules) (sc := defScope s_l_rules) (by decide +kernel)) (fun _ _ _ _ _ => (pg_tup (by rfl) (pgs_cons (pg_name (i := 1) sc_l_rules.nd rfl (Or.inl rfl)) (pgs_cons (pg_name (i := 2) sc_l_rules.nd rfl (Or.inl rfl)) (pgs_cons (pg_name (i := 3) sc_l_rules.nd rfl (Or.inl rfl)) (pgs_cons (pg_name (i := 4) sc_l_rules.nd rfl (Or.inl rfl)) pgs_nil)))))) (fun _ _ _ _ _ => pts_nil) (fun _ _ _ _ _ => (pe_make T.M_Beginning (ok_Beginning_init T) hr rfl T.g_Beginning T.b_Beginning_init .nil passL (pa_cons (pv 1) (pa_cons (pv 2) (pa_cons (pe_call (ok_l_written T) (hr.mono (by decide)) rfl T.g_l_written T.k_l_written T.b_l_written .nil pass0 (pa_cons (pv 3) pa_nil)) pa_nil))))))))), ?_⟩
    obtain ⟨T0, rl, xs, rfl, hT, hrl, hP, h6⟩ := hC
    have xl : xs.length = rs.length := hP.1
    have h6 : rs.length ≤ 6 := h6
    refine q_when (b := decide (kd = true)) (et_is (et_test (ev_op (ev_op (ev_var rfl) ev_c (rv_ixT (st_of hT) (atI_nat (j := 0) rfl))) ev_c (rv_eq rfl))) (kind_eq kd true)) (fun hk H1 e1 => ?_) fun hk H1 e1 => ?_
    · have hk' : kd = true := by simpa using hk
      subst hk'
      refine s_retLG (n := xs.length) (R := fun p i H2 v => ∀ r, rs[i]? = some r → RObjF A p H H2 true v r) (lcG (xs := xs) (fun p i H2 H3 v e hh r hr => (hh r hr).mono e)
        (es_v (ev_op (ev_var rfl) ev_c (rv_ixT (st_of (e1 _ _ hT)) (atI_nat (j := 1) rfl))) (sq_of (e1 _ _ hrl))) (by omega) fun i x H2 Dl ys e2 nD hD hx => ?_) fun p ys H2 np e2 hp hl hh => ?_
      · have hi : i < rs.length := xl ▸ (List.getElem?_eq_some_iff.mp hx).1
        have hr : rs[i]? = some (rs[i]) := List.getElem?_eq_getElem hi
        obtain ⟨hPa, G⟩ := hP.2 i x _ hx hr
        obtain ⟨Tp, pa, px, rfl, hTp, hpa, hpl⟩ := hPa.mono (e1.trans e2)
        refine ⟨[some (.ref T0), some (.str rs[i].c), some (.str rs[i].a), some (.ref pa), some (.str (TX.T rs[i].g))], fun Q1 q1 => ⟨Tp, _, rfl, st_of hTp, rfl, _, _, rfl, _, _, rfl, _, _, rfl, _, _, rfl, rfl, q1⟩, rfl, ?_⟩
        have tl := txt_len hpl G.p3
        have g3 := G.fu.1
        refine eg_imp (eg_robj (A := A) (e := true) (σ := [some (.ref T0), some (.str rs[i].c), some (.str rs[i].a), some (.ref pa), some (.str (TX.T rs[i].g))]) G (e1.trans e2) hD (eg_makeE2 T (dvs := []) (ea_cons (ev_var rfl) (ea_cons (ev_var rfl) (ea_cons (ev_call (ea_cons (ev_var rfl) ea_nil) (spWritten_v (sq_of hpa) hpl G.p3)) (ea_cons (ev_var rfl) ea_nil)))) rfl (good_r G hpl) ⟨_, rfl, by unfold isFur; rw [L_T]; exact G.fu⟩ (signs_fur G.fu) (by rw [len_T]; omega) tl.2 (by omega) (txt_conds hpl G.p3))) fun H4 v hv zs r' hr' => by
          rw [hr] at hr'
          cases hr'
          exact hv zs
      · exact kk p ys H2 (fresh_back e1 np) hp ⟨by rw [hl, xl], fun i x r h1 h2 => hh i x h1 r h2⟩ (e1.trans e2)
    · have hk' : kd = false := by simpa using hk
      subst hk'
      refine s_retLG (n := xs.length) (R := fun p i H2 v => ∀ r, rs[i]? = some r → RObjF A p H H2 false v r) (lcG (xs := xs) (fun p i H2 H3 v e hh r hr => (hh r hr).mono e)
        (es_v (ev_op (ev_var rfl) ev_c (rv_ixT (st_of (e1 _ _ hT)) (atI_nat (j := 1) rfl))) (sq_of (e1 _ _ hrl))) (by omega) fun i x H2 Dl ys e2 nD hD hx => ?_) fun p ys H2 np e2 hp hl hh => ?_
      · have hi : i < rs.length := xl ▸ (List.getElem?_eq_some_iff.mp hx).1
        have hr : rs[i]? = some (rs[i]) := List.getElem?_eq_getElem hi
        obtain ⟨hPa, G⟩ := hP.2 i x _ hx hr
        obtain ⟨Tp, pa, px, rfl, hTp, hpa, hpl⟩ := hPa.mono (e1.trans e2)
        refine ⟨[some (.ref T0), some (.str rs[i].c), some (.str rs[i].a), some (.ref pa), some (.str (TX.T rs[i].g))], fun Q1 q1 => ⟨Tp, _, rfl, st_of hTp, rfl, _, _, rfl, _, _, rfl, _, _, rfl, _, _, rfl, rfl, q1⟩, rfl, ?_⟩
        have tl := txt_len hpl G.p3
        refine eg_imp (eg_robj (A := A) (e := false) (σ := [some (.ref T0), some (.str rs[i].c), some (.str rs[i].a), some (.ref pa), some (.str (TX.T rs[i].g))]) G (e1.trans e2) hD (eg_makeR2 ⟨T.cl_Beginning, T.na_Beginning_condition, T.na_Beginning_cut, T.na_Beginning_added⟩ (ea_cons (ev_var rfl) (ea_cons (ev_var rfl) (ea_cons (ev_call (ea_cons (ev_var rfl) ea_nil) (spWritten_v (sq_of hpa) hpl G.p3)) ea_nil))) (good_r G hpl) tl.2 (by omega) (txt_conds hpl G.p3))) fun H4 v hv zs r' hr' => by
          rw [hr] at hr'
          cases hr'
          exact hv zs
      · exact kk p ys H2 (fresh_back e1 np) hp ⟨by rw [hl, xl], fun i x r h1 h2 => hh i x h1 r h2⟩ (e1.trans e2)

/-! ### lawbands -/
/-- the heap only grows -/
def Gr (Hb H : Hp) : Prop := ∀ b, H b = none → Hb b = none
theorem Gr.ex {Hb H H' : Hp} (g : Gr Hb H) (e : Ex H H') : Gr Hb H' := fun b h => g b (fresh_back e h)
theorem Gr.upd {Hb H : Hp} {p : Addr} {o : HO} (g : Gr Hb H) : Gr Hb (upd H p o) := fun b h => g b (by
  by_cases e : b = p
  · subst e; rw [upd_same] at h; cases h
  · rw [upd_ne e] at h; exact h)
theorem partsQ_upd {H : Hp} {v : V} {pa p : Addr} {c a : Str} {ps : List (Str × Str)} {g : List Nat} {u o : HO} (h : PartsQ H v pa c a ps g) (hp : H p = some u) (hu : ∀ xs, u ≠ .tup xs) (hn : pa ≠ p) : PartsQ (upd H p o) v pa c a ps g := by
  obtain ⟨T0, xs, rfl, h1, h2, h3⟩ := h
  have nt : ∀ {T1 : Addr} {l : List V}, H T1 = some (.tup l) → T1 ≠ p := fun h e => by
    rw [e, hp] at h
    cases h
    exact hu _ rfl
  refine ⟨T0, xs, rfl, by rw [upd_ne (nt h1)]; exact h1, by rw [upd_ne hn]; exact h2, h3.1, fun i x q a b => ?_⟩
  obtain ⟨T1, rfl, r1, r⟩ := h3.2 i x q a b
  exact ⟨T1, rfl, by rw [upd_ne (nt r1)]; exact r1, r⟩
/-- a rule's parts, their list of places fresh -/
def ItQ (Hb : Hp) (r0 : Addr) (H : Hp) (x : V) (r : RuleD) : Prop := ∃ pa, PartsQ H x pa r.c r.a r.ps r.g ∧ Hb pa = none ∧ pa ≠ r0 ∧ Good4 r.c r.a r.ps r.g
theorem ItQ.mono {Hb : Hp} {r0 : Addr} {H H' : Hp} {x : V} {r : RuleD} (h : ItQ Hb r0 H x r) (e : Ex H H') : ItQ Hb r0 H' x r := by
  obtain ⟨pa, h1, h2⟩ := h
  exact ⟨pa, h1.mono e, h2⟩
theorem ItQ.upd {Hb : Hp} {r0 p : Addr} {H : Hp} {x : V} {r : RuleD} {u o : HO} (h : ItQ Hb r0 H x r) (hp : H p = some u) (hu : ∀ xs, u ≠ .tup xs) (hn : Hb p ≠ none ∨ p = r0) : ItQ Hb r0 (upd H p o) x r := by
  obtain ⟨pa, h1, h2, h3, h4⟩ := h
  refine ⟨pa, partsQ_upd h1 hp hu ?_, h2, h3, h4⟩
  rcases hn with hn | rfl
  · exact fun e => hn (e ▸ h2)
  · exact h3
/-- a class as the law holds it, its lists fresh -/
def ClsQ (Hb H : Hp) (v : V) (b : BandD) : Prop := ∃ T0 rl xs, v = .ref T0 ∧ H T0 = some (.tup [.str (kindS b.1), .ref rl]) ∧ H rl = some (.lst xs) ∧ Hb rl = none ∧ Pw (ItQ Hb rl H) xs b.2 ∧ b.2.length ≤ 6
theorem ClsQ.mono {Hb H H' : Hp} {v : V} {b : BandD} (h : ClsQ Hb H v b) (e : Ex H H') : ClsQ Hb H' v b := by
  obtain ⟨T0, rl, xs, rfl, h1, h2, h3, h4, h5⟩ := h
  exact ⟨T0, rl, xs, rfl, e _ _ h1, e _ _ h2, h3, h4.imp fun x y r => r.mono e, h5⟩
theorem ClsQ.upd {Hb H : Hp} {p : Addr} {v : V} {b : BandD} {u o : HO} (h : ClsQ Hb H v b) (hp : H p = some u) (hu : ∀ xs, u ≠ .tup xs) (hn : Hb p ≠ none) : ClsQ Hb (upd H p o) v b := by
  obtain ⟨T0, rl, xs, rfl, h1, h2, h3, h4, h5⟩ := h
  have nT : T0 ≠ p := fun e => by
    rw [e, hp] at h1
    cases h1
    exact hu _ rfl
  exact ⟨T0, rl, xs, rfl, by rw [upd_ne nT]; exact h1, by rw [upd_ne (fun e : rl = p => hn (e ▸ h3))]; exact h2, h3, h4.imp fun x y r => r.upd hp hu (Or.inl hn), h5⟩
theorem ClsQ.at {Hb H : Hp} {v : V} {b : BandD} (h : ClsQ Hb H v b) : ClsAt H v b := by
  obtain ⟨T0, rl, xs, rfl, h1, h2, h3, h4, h5⟩ := h
  exact ⟨T0, rl, xs, rfl, h1, h2, h4.imp fun x r ⟨pa, q1, _, _, q2⟩ => ⟨q1.at, q2⟩, h5⟩
def OwnF (Hb H : Hp) (kvs : List (Key × V)) (own : OwnD) : Prop := kvs.map (fun kv => kV kv.1) = own.map (fun e => V.str e.1) ∧ ∀ n b, fnd own n = some b → ∃ v, valV kvs (.inr n) = some v ∧ ClsQ Hb H v b
theorem OwnF.mono {Hb H H' : Hp} {kvs : List (Key × V)} {own : OwnD} (h : OwnF Hb H kvs own) (e : Ex H H') : OwnF Hb H' kvs own := ⟨h.1, fun n b hb => by
  obtain ⟨v, h1, h2⟩ := h.2 n b hb
  exact ⟨v, h1, h2.mono e⟩⟩
theorem OwnF.upd {Hb H : Hp} {kvs : List (Key × V)} {own : OwnD} {p : Addr} {u o : HO} (h : OwnF Hb H kvs own) (hp : H p = some u) (hu : ∀ xs, u ≠ .tup xs) (hn : Hb p ≠ none) : OwnF Hb (upd H p o) kvs own := ⟨h.1, fun n b hb => by
  obtain ⟨v, h1, h2⟩ := h.2 n b hb
  exact ⟨v, h1, h2.upd hp hu hn⟩⟩
theorem fnd_none {own : OwnD} {n : Str} (h : n ∉ own.map (·.1)) : fnd own n = none := by
  unfold fnd
  rw [Option.map_eq_none_iff, List.find?_eq_none]
  intro e he hd
  exact h (List.mem_map.mpr ⟨e, he, of_decide_eq_true hd⟩)
theorem fnd_snoc {own : OwnD} {n : Str} {b : BandD} (h : fnd own n = none) (m : Str) : fnd (own ++ [(n, b)]) m = if n = m then some b else fnd own m := by
  unfold fnd at *
  rw [List.find?_append]
  by_cases e : n = m
  · subst e
    rw [if_pos rfl]
    rw [Option.map_eq_none_iff] at h
    rw [h]
    simp
  · rw [if_neg e]
    cases own.find? fun e => decide (e.1 = m) with
    | some x => rfl
    | none => simp [e]
theorem OwnF.put {Hb H : Hp} {kvs : List (Key × V)} {own : OwnD} {n : Str} {v : V} {b : BandD} (h : OwnF Hb H kvs own) (hn : n ∉ own.map (·.1)) (hv : ClsQ Hb H v b) : OwnF Hb H (putK kvs (.inr n) v) (own ++ [(n, b)]) := by
  have h0 : valV kvs (Sum.inr n : Key) = none := by
    cases hk : valV kvs (Sum.inr n : Key) with
    | none => rfl
    | some x =>
      obtain ⟨kv, hkv, ek⟩ := List.mem_map.mp (valV_in hk)
      have h1 : V.str n ∈ own.map fun e => V.str e.1 := by
        rw [← h.1]
        exact List.mem_map.mpr ⟨kv, hkv, by rw [ek]; rfl⟩
      obtain ⟨e, he, ee⟩ := List.mem_map.mp h1
      cases ee
      exact absurd (List.mem_map.mpr ⟨e, he, rfl⟩) hn
  refine ⟨?_, fun m c hc => ?_⟩
  · unfold putK
    rw [valV_any, h0, if_neg (by simp), List.map_append, List.map_append, h.1]
    rfl
  · rw [fnd_snoc (fnd_none hn)] at hc
    rw [valV_put]
    by_cases e : n = m
    · subst e
      rw [if_pos rfl] at hc
      cases hc
      exact ⟨v, if_pos rfl, hv⟩
    · rw [if_neg e] at hc
      rw [if_neg (fun h => e (by cases h; rfl))]
      exact h.2 m c hc
/-! names -/
def nmc (n : Int) : List Nat := (List.range (1 + n / 200 % 6).toNat).map fun (k : Nat) => gre.cps.toList.getD ((n + (2 * (n / 30 % 6) + 1) * (k : Int)) % 26).toNat 0
theorem nmc_big (n : Int) : ∀ c ∈ nmc n, 65 ≤ c ∧ c ≤ 90 := by
  intro c hc
  obtain ⟨j, _, rfl⟩ := List.mem_map.mp hc
  rw [furs_at]
  omega
theorem nmc_len (n : Int) : (nmc n).length ≤ 6 := by
  unfold nmc
  rw [List.length_map, List.length_range]
  omega
theorem nmc_nodup (n : Int) : (nmc n).Nodup := by
  unfold nmc List.Nodup
  rw [List.pairwise_map]
  refine List.Pairwise.imp_of_mem ?_ List.pairwise_lt_range
  intro i j hi hj hlt he
  have hj' := List.mem_range.mp hj
  rw [furs_at, furs_at] at he
  have h6 : j ≤ 5 := by omega
  have hq : n / 30 % 6 = 0 ∨ n / 30 % 6 = 1 ∨ n / 30 % 6 = 2 ∨ n / 30 % 6 = 3 ∨ n / 30 % 6 = 4 ∨ n / 30 % 6 = 5 := by omega
  clear hj hi hj'
  rcases hq with h | h | h | h | h | h <;> rw [h] at he <;> omega
/-! parts as data -/
def plP (p : Str × Str) : PyData := .tuple [.str p.1, .str p.2]
def partP (r : RuleD) : PyData := .tuple [.str r.c, .str r.a, .list (r.ps.map plP), .str (TX.T r.g)]
theorem strOk_signs {z : Str} (h : signs z) : PyData.strOk z = true := by
  unfold PyData.strOk
  unfold signs at h
  rw [← h, Array.all_toList]
theorem PlGs.dp {K : PySem.W.Frag} {H : Hp} {xs : List V} {ps : List (Str × Str)} (h : PlGs H xs ps) : DpAll K H xs (ps.map plP) := DpAll.of (by rw [h.1, List.length_map]) fun i v d hv hd => by
  rw [List.getElem?_map] at hd
  cases hp : ps[i]? with
  | none => rw [hp] at hd; cases hd
  | some p =>
    rw [hp] at hd
    cases hd
    obtain ⟨T0, rfl, h1, _⟩ := h.2 i v p hv hp
    exact .tup (st_of h1) (.cons (.str _) (.cons (.str _) .nil))
theorem ItQ.dp {K : PySem.W.Frag} {Hb H : Hp} {r0 : Addr} {x : V} {r : RuleD} (h : ItQ Hb r0 H x r) : Dp K H x (partP r) := by
  obtain ⟨pa, ⟨T0, xs, rfl, h1, h2, h3⟩, _⟩ := h
  exact .tup (st_of h1) (.cons (.str _) (.cons (.str _) (.cons (.lst (sq_of h2) h3.dp) (.cons (.str _) .nil))))
theorem canLay_all {ds : List PyData} (h : ∀ d ∈ ds, PyData.canLay0 d = true) : PyData.canLayAll0 ds = true := by
  induction ds with
  | nil => simp [PyData.canLayAll0]
  | cons d r ih =>
    simp only [PyData.canLayAll0, Bool.and_eq_true]
    exact ⟨h d List.mem_cons_self, ih fun x hx => h x (List.mem_cons_of_mem _ hx)⟩
theorem depth_all {ds : List PyData} {n : Nat} (h : ∀ d ∈ ds, d.depth ≤ n) : PyData.depthAll ds ≤ n := by
  induction ds with
  | nil => simp [PyData.depthAll]
  | cons d r ih =>
    simp only [PyData.depthAll]
    have h1 := h d List.mem_cons_self
    have h2 := ih fun x hx => h x (List.mem_cons_of_mem _ hx)
    omega
theorem part_lay {Hb H : Hp} {r0 : Addr} {x : V} {r : RuleD} (h : ItQ Hb r0 H x r) : PyData.canLay0 (partP r) = true ∧ (partP r).depth ≤ 10 := by
  obtain ⟨pa, ⟨T0, xs, rfl, h1, h2, h3⟩, _, _, G⟩ := h
  have hp : ∀ d ∈ r.ps.map plP, PyData.canLay0 d = true ∧ d.depth ≤ 1 := fun d hd => by
    obtain ⟨p, hp, rfl⟩ := List.mem_map.mp hd
    obtain ⟨i, hi, rfl⟩ := List.mem_iff_getElem.mp hp
    obtain ⟨T1, _, _, _, s1, _, _, l2, _⟩ := h3.2 i (xs[i]'(by rw [h3.1]; exact hi)) _ (List.getElem?_eq_getElem _) (List.getElem?_eq_getElem hi)
    simp [plP, PyData.canLay0, PyData.canLayAll0, PyData.depth, PyData.depthAll, strOk_signs s1, strOk_signs (lets_signs l2)]
  have c1 := canLay_all fun d hd => (hp d hd).1
  have c2 := depth_all fun d hd => (hp d hd).2
  refine ⟨?_, ?_⟩
  · simp [partP, PyData.canLay0, PyData.canLayAll0, c1, strOk_signs (lets_signs G.c1), strOk_signs (lets_signs G.a1), strOk_signs (signs_fur G.fu)]
  · simp only [partP, PyData.depth, PyData.depthAll]
    omega
theorem shaped_list {ds : List PyData} (h : ∀ d ∈ ds, PyData.canLay0 d = true ∧ d.depth ≤ 10) : SeqAt.shaped (.list ds) = true := by
  have c1 := canLay_all fun d hd => (h d hd).1
  have c2 := depth_all fun d hd => (h d hd).2
  simp [SeqAt.shaped, PyData.canLay0, c1, PyData.depth]
  omega
theorem strOk_low {c : Nat} (h : c ≤ 90) : PyData.strOk (TX.T [c]) = true := by
  refine strOk_signs ?_
  show [c].all (· < 1114112) = true
  simp
  omega
theorem evp_joinSortedL {K : PySem.W.Frag} {σ : L2.St} {H : Hp} {tb : TE} {cs : List Nat} (hb : EvL tb σ H ((cs.map fun c => TX.T [c]).map V.str)) (hl : cs.length < 64) (hn : cs.Nodup) :
    EvP (tM1 (rJoin K) (tC (.str "")) (tCB (rSortedS K) (tCons tb tNil))) σ H (fun v => ∃ g, v = .str (TX.T g) ∧ g.Perm cs ∧ g.Pairwise (· < ·)) := fun H1 e Q q =>
  ⟨⟨"", rfl⟩, hb H1 e _ fun p H2 _ e2 hp => ⟨p, cs.map fun c => TX.T [c], rfl, sq_of hp, by rw [List.length_map]; exact hl, fun ys a hy hs ha => by
    obtain ⟨g, rfl, hg, hr⟩ := sorted_perm hy hs hn
    have hgl := hg.length_eq
    have hsum : ((g.map fun c => TX.T [c]).map (·.length)).sum = g.length := by
      clear hg hr hgl hy hs
      induction g with
      | nil => rfl
      | cons c r ih =>
        rw [List.map_cons, List.map_cons, List.sum_cons, ih, List.length_cons, len_T]
        simp only [List.length_cons, List.length_nil]
        omega
    refine ⟨"", a, g.map fun c => TX.T [c], rfl, rfl, Or.inl (sq_of upd_same), by rw [emp_len, Nat.mul_zero, Nat.add_zero, hsum]; omega, ?_⟩
    exact q _ _ (e2.trans (Ex.new ha)) ⟨g, by rw [join_ones], hg, hr⟩⟩⟩
theorem cut_take (ws : List Str) (i : Nat) : cutV (ws.map V.str) none (some (i : Int)) = (ws.take i).map V.str := by
  unfold cutV
  rw [HT.sIx_nat]
  have e : HT.sIx (ws.map V.str).length 0 none = 0 := rfl
  rw [e, List.drop_zero, Nat.sub_zero, List.map_take, List.length_map]
  by_cases hi : i ≤ ws.length
  · rw [Nat.min_eq_left hi]
  · rw [Nat.min_eq_right (by omega), List.take_of_length_le (by rw [List.length_map]; exact Nat.le_refl _), List.take_of_length_le (by rw [List.length_map]; omega)]
theorem given_const (pl : List Nat) (b : Bool) : given pl.length (fun _ => b) (fun i => .str ((pl.map fun c => TX.T [c]).getD i "")) = (((if b = true then pl else []).map fun c => TX.T [c])).map V.str := by
  cases b with
  | true =>
    rw [given_all, if_pos rfl]
    apply List.ext_getElem
    · simp
    · intro i h1 h2
      simp at h1
      simp [List.getD, h1]
  | false =>
    unfold given
    simp
theorem q_forE {K : PySem.W.Frag} {σ : L2.St} {H : Hp} {D : Ends} {tu tz : TS} {ta : TA} {a : Addr} {xs : List V} {j1 j2 : Nat} (h : EvA ta σ H [.ref a]) (hx : SqL K H a xs) (Pv : Nat → L2.St → Hp → Prop) (h0 : ∀ H1, Ex H H1 → Pv 0 σ H1) (hl : ∀ i σ' H', i ≤ xs.length → Pv i σ' H' → SqL K H' a xs)
    (hs : ∀ i x σ' H0 H', xs[i]? = some x → Pv i σ' H0 → Ex H0 H' → tu { D with nx := Pv (i + 1), ct := Pv (i + 1), bk := tz D } ((σ'.set j1 (some (.int (i : Int)))).set j2 (some x)) H') (hd : ∀ σ' H', Pv xs.length σ' H' → tz D σ' H') :
    tSeq (tFor (iEnum K ta) (gTup K 2 (gCons (gName j1) (gCons (gName j2) gNil))) tu) tz D σ H := s_forE (D := { D with nx := tz D }) h hx Pv h0 hl hs hd
/-- what stands behind i names -/
structure BSt (Hb H : Hp) (np p d : Addr) (nms : List Nat) (i : Nat) (own : OwnD) (pl : List Nat) (kvs : List (Key × V)) : Prop where
  hn : H np = some (.lst ((nms.map fun c => TX.T [c]).map V.str))
  hp : H p = some (.lst ((pl.map fun c => TX.T [c]).map V.str))
  hd : H d = some (.dK kvs)
  of : OwnF Hb H kvs own
  na : own.map (·.1) = (nms.take i).map fun c => TX.T [c]
  su : ∀ c ∈ pl, c ∈ nms.take i
  nd : pl.Nodup
  dp : Deep own
theorem BSt.mono {Hb H H' : Hp} {np p d : Addr} {nms : List Nat} {i : Nat} {own : OwnD} {pl : List Nat} {kvs : List (Key × V)} (b : BSt Hb H np p d nms i own pl kvs) (e : Ex H H') : BSt Hb H' np p d nms i own pl kvs :=
  ⟨e _ _ b.hn, e _ _ b.hp, e _ _ b.hd, b.of.mono e, b.na, b.su, b.nd, b.dp⟩
theorem known_of {own : OwnD} {l g : List Nat} (h : own.map (·.1) = l.map fun c => TX.T [c]) (hg : ∀ c ∈ g, c ∈ l) : Known own g := fun c hc => by
  have h1 : TX.T [c] ∈ own.map (·.1) := by
    rw [h]
    exact List.mem_map.mpr ⟨c, hg c hc, rfl⟩
  obtain ⟨e, he, ee⟩ := List.mem_map.mp h1
  obtain ⟨b, hb⟩ := fnd_mem he
  exact ⟨b, ee ▸ hb⟩
theorem deep_snoc {own : OwnD} {n : Str} {b : BandD} (h : Deep own) (hn : fnd own n = none) (hb : ∀ r ∈ b.2, Known own r.g) : Deep (own ++ [(n, b)]) := fun m k rs r hf hr c hc => by
  have lift : ∀ {c}, (∃ b, fnd own (TX.T [c]) = some b) → ∃ b2, fnd (own ++ [(n, b)]) (TX.T [c]) = some b2 := fun ⟨b1, h1⟩ => by
    rw [fnd_snoc hn]
    split
    · exact ⟨_, rfl⟩
    · exact ⟨b1, h1⟩
  rw [fnd_snoc hn] at hf
  split at hf
  · cases hf
    exact lift (hb r hr c hc)
  · exact lift (h m k rs r hf hr c hc)
theorem kind_at {i : Int} (h0 : 0 ≤ i) (h1 : i < 4) : ∃ k : Bool, atI [V.str "ending", V.str "beginning", V.str "ending", V.str "ending"] i = some (.str (kindS k)) := by
  obtain ⟨v, hv, hm⟩ := at_mem (xs := [V.str "ending", V.str "beginning", V.str "ending", V.str "ending"]) h0 (by show i < 4; exact h1)
  simp only [List.mem_cons, List.not_mem_nil, or_false] at hm
  rcases hm with rfl | rfl | rfl | rfl
  · exact ⟨true, hv⟩
  · exact ⟨false, hv⟩
  · exact ⟨true, hv⟩
  · exact ⟨true, hv⟩
theorem Pw.snoc {α β : Type} {R : α → β → Prop} {xs : List α} {ys : List β} {x : α} {y : β} (h : Pw R xs ys) (hx : R x y) : Pw R (xs ++ [x]) (ys ++ [y]) := by
  refine ⟨by rw [List.length_append, List.length_append, h.1]; rfl, fun i a b ha hb => ?_⟩
  by_cases hi : i < xs.length
  · rw [List.getElem?_append_left hi] at ha
    rw [List.getElem?_append_left (h.1 ▸ hi)] at hb
    exact h.2 i a b ha hb
  · rw [List.getElem?_append_right (by omega)] at ha
    rw [List.getElem?_append_right (by rw [← h.1]; omega), ← h.1] at hb
    cases hk : i - xs.length with
    | zero =>
      rw [hk] at ha hb
      cases ha
      cases hb
      exact hx
    | succ n =>
      rw [hk] at ha
      simp at ha
theorem q_dput {σ : L2.St} {H : Hp} {D : Ends} {tz : TS} {td ty tt : TE} {kvs : List (Key × V)} {d : Addr} {k : Str} {xs : List V} (h : EvU tt σ H xs) (hd : Ev td σ H (.ref d)) (hk : Ev ty σ H (.str k)) (hdk : H d = some (.dK kvs)) (hl : kvs.length < 100000)
    (q : ∀ T0 H1, H T0 = none → Ex H H1 → H1 T0 = some (.tup xs) → tz D σ (upd H1 d (.dK (putK kvs (.inr k) (.ref T0))))) : tSeq (sDPut td ty tt) tz D σ H :=
  h H (Ex.refl H) _ fun T0 H1 n1 e1 h1 => hd H1 e1 _ fun H2 e2 => hk H2 (e1.trans e2) _ fun H3 e3 =>
    ⟨d, _, rfl, Or.inl ⟨kvs, .inr k, ((e1.trans e2).trans e3) _ _ hdk, rfl, sz_lt hl, rfl⟩, q T0 H3 n1 ((e1.trans e2).trans e3) ((e2.trans e3) _ _ h1)⟩
theorem et_eqDG {K : PySem.W.Frag} {σ : L2.St} {H : Hp} {ta tb : TE} {d e : PyData} (ha : EvG (fun H1 v => Dp K H1 v d) ta σ H) (hb : EvG (fun H1 v => Dp K H1 v e) tb σ H) (sd : SeqAt.shaped d = true) (se : SeqAt.shaped e = true) : EvT (tTest (tOp (rEqD K) ta tb)) σ H (PyData.eqv d e) := fun H1 e1 Q q =>
  ha H1 e1 _ fun v H2 e2 dv => hb H2 (e1.trans e2) _ fun u H3 e3 du => ⟨d, e, Dp.mono e3 _ _ dv, du, sd, se, _, rfl, q H3 (e2.trans e3)⟩
theorem DpAll.maps {K : PySem.W.Frag} {H : Hp} {v : Nat → V} {dd : Nat → PyData} : ∀ {l : List Nat}, (∀ i ∈ l, Dp K H (v i) (dd i)) → DpAll K H (l.map v) (l.map dd)
  | [], _ => .nil
  | i :: l, h => .cons (h i List.mem_cons_self) (DpAll.maps fun j hj => h j (List.mem_cons_of_mem _ hj))
def OwnV (H : Hp) (kvs : List (Key × V)) (own : OwnD) : Prop := ∀ n b, fnd own n = some b → ∃ v, valV kvs (.inr n) = some v ∧ ClsAt H v b
def spBands (K : PySem.W.Frag) : Sp := fun vs H Q _ => ∃ (a : Addr) (ns : List Int), vs = [.ref a] ∧ SqL K H a (ns.map V.int) ∧ ∀ d own kvs H', H d = none → H' d = some (.dK kvs) → OwnV H' kvs own →
  kvs.map (fun kv => kV kv.1) = own.map (fun e => V.str e.1) → (∀ e ∈ own, ∃ c, e.1 = TX.T [c] ∧ 65 ≤ c ∧ c ≤ 90) → own.length ≤ 6 → (own.map (·.1)).Nodup → Deep own → Low own → Ex H H' → Q (.ref d) H'
theorem ok_l_bands (T : Txt K mg A) : FnOk P w K mg base CX0 5 A.f_l_bands A.d_l_bands P_l_bands (spBands K) := by
  refine T.F_l_bands.ok sc_l_bands (fun vs H Q E h => ?_) (fun cdv A' outer s H vs Q E hr h => ?_)
  · obtain ⟨a, ns, rfl, _⟩ := h
    rfl
  · obtain ⟨a, ns, rfl, hS, kk⟩ := h
    refine ⟨_, (pss_cons (ps_set (i := 1) sc_l_bands.nd rfl (Or.inr rfl) pe_str)
      (pss_cons (ps_set (i := 2) sc_l_bands.nd rfl (Or.inr rfl) (pe_call (ok_l_number T) (hr.mono (by decide)) rfl T.g_l_number T.k_l_number T.b_l_number .nil pass0 (pa_cons (pv 0) (pa_cons pe_int pa_nil))))
      (pss_cons (ps_setLc (i := 3) (own := [("_law_k", 6)]) (by rfl) sc_l_bands.nd rfl rfl (sw_true rfl rfl rfl (by decide +kernel)) (pi_range1 rfl T.n_range (pa_cons (pe_op op_add pe_int (pe_op op_mod (pe_op op_fdiv (pv 2) pe_int) pe_int)) pa_nil)) (blkOk_by (own := [("_law_k", 6)]) (N := N_l_bands) (sc := defScope s_l_bands) (by decide +kernel)) (fun _ _ _ _ _ => (pg_name (i := 6) sc_l_bands.nd rfl (Or.inl rfl))) (fun _ _ _ _ _ => pts_nil) (fun _ _ _ _ _ => (pe_ix ix_str (pv 1) (pe_op op_mod (pe_op op_add (pv 2) (pe_op op_mul (pe_op op_add (pe_op op_mul pe_int (pe_op op_mod (pe_op op_fdiv (pv 2) pe_int) pe_int)) pe_int) (pv 6))) pe_int) (fun _ _ => rfl))))
      (pss_cons (ps_set (i := 4) sc_l_bands.nd rfl (Or.inl rfl) (pe_lst pa_nil))
      (pss_cons (ps_set (i := 5) sc_l_bands.nd rfl (Or.inl rfl) pe_dnewK)
      (pss_cons (ps_for PassesOwn.never rfl (pi_enum (by rfl) T.n_enumerate (pa_cons (pv 3) pa_nil)) (pg_tup (by rfl) (pgs_cons (pg_name (i := 6) sc_l_bands.nd rfl (Or.inr rfl)) (pgs_cons (pg_name (i := 7) sc_l_bands.nd rfl (Or.inl rfl)) pgs_nil)))
      (pss_cons (ps_set (i := 8) sc_l_bands.nd rfl (Or.inl rfl) (pe_call (ok_l_number T) (hr.mono (by decide)) rfl T.g_l_number T.k_l_number T.b_l_number .nil pass0 (pa_cons (pv 0) (pa_cons (pe_op op_add pe_int (pv 6)) pa_nil))))
      (pss_cons (ps_set (i := 9) sc_l_bands.nd rfl (Or.inl rfl) (pe_ix ix_list (pe_lst (pa_cons pe_str (pa_cons pe_str (pa_cons pe_str (pa_cons pe_str pa_nil))))) (pe_op op_mod (pv 8) pe_int) (fun _ _ => rfl)))
      (pss_cons (ps_set (i := 10) sc_l_bands.nd rfl (Or.inl rfl) (pe_lst pa_nil))
      (pss_cons (ps_for PassesOwn.never rfl (pi_range1 rfl T.n_range (pa_cons (pe_ix ix_list (pe_lst (pa_cons pe_int (pa_cons pe_int (pa_cons (pe_op op_add pe_int (pe_op op_mod (pe_op op_fdiv (pv 8) pe_int) pe_int)) pa_nil)))) (pe_op op_mod (pe_op op_fdiv (pv 8) pe_int) pe_int) (fun _ _ => rfl)) pa_nil)) (pg_name (i := 11) sc_l_bands.nd rfl (Or.inr rfl))
      (pss_cons (ps_setLc (i := 12) (own := [("_law_other", 14)]) (by rfl) sc_l_bands.nd rfl rfl (sw_true rfl rfl rfl (by decide +kernel)) (pi_list (pv 4)) (blkOk_by (own := [("_law_other", 14)]) (N := N_l_bands) (sc := defScope s_l_bands) (by decide +kernel)) (fun _ _ _ _ _ => (pg_name (i := 14) sc_l_bands.nd rfl (Or.inl rfl))) (fun _ _ _ _ _ => pts_one (pt_cmpR op_gt (pe_op op_mod (pe_op op_fdiv (pe_call (ok_l_number T) (hr.mono (by decide)) rfl T.g_l_number T.k_l_number T.b_l_number .nil pass0 (pa_cons (pv 0) (pa_cons (pe_op op_add (pe_op op_add pe_int (pe_op op_mul pe_int (pv 6))) (pv 11)) pa_nil))) pe_int) pe_int) pe_int (nomark _))) (fun _ _ _ _ _ => (pv 14)))
      (pss_cons (ps_set (i := 13) sc_l_bands.nd rfl (Or.inl rfl) (pe_ifExp (PW.pt (pw_and (pt_cmpR op_eq (pv 9) pe_str (nomark _)) (pw_and1 (pt_cmpR op_gt (pe_op op_mod (pe_op op_fdiv (pv 8) pe_int) pe_int) pe_int (nomark _))))) (pe_join pe_str (pe_callB cr_sortedS (by rfl) T.n_sorted (by decide +kernel) (pa_cons (pe_slice sl_list (pv 12) po_none (po_some pe_int)) pa_nil))) pe_str))
      (pss_one (ps_expr (pe_bm PySem.F.plainAttrs_list PySem.F.slot_list_append PySem.F.type_list_append mt_append (pv 10) (pa_cons (pe_call (ok_l_light T) hr rfl T.g_l_light T.k_l_light T.b_l_light .nil pass0 (pa_cons (pv 0) (pa_cons (pe_op op_add (pe_op op_mul pe_int (pv 6)) (pe_op op_mul pe_int (pv 11))) (pa_cons (pv 13) pa_nil)))) pa_nil)))))))
      (pss_cons (ps_dput (hu_of hr) (pv 5) (pv 7) (pe_tup (pa_cons (pv 9) (pa_cons (pv 10) pa_nil))) rfl)
      (pss_one (ps_if (PW.pt (pw_and (pt_cmpR op_eq (pv 9) pe_str (nomark _)) (pw_and1 (pt_cmpR (show OpR _ (compareOp .Eq) (rEqD K) from op_eqD hr.units) (pe_lc (own := [("_law_rule", 15)]) (by rfl) sc_l_bands.nd (pi_list (pv 10)) (blkOk_by (own := [("_law_rule", 15)]) (N := N_l_bands) (sc := defScope s_l_bands) (by decide +kernel)) (fun _ _ _ _ _ => (pg_name (i := 15) sc_l_bands.nd rfl (Or.inl rfl))) (fun _ _ _ _ _ => pts_one (pt_cmpR op_ne (pe_ix (ix_tupK (K := K) rfl) (pv 15) pe_int (fun _ _ => rfl)) pe_str (nomark _))) (fun _ _ _ _ _ => (pv 15))) (pe_lst pa_nil) (nomark _))))) (pss_one (ps_expr (pe_bm PySem.F.plainAttrs_list PySem.F.slot_list_append PySem.F.type_list_append mt_append (pv 4) (pa_cons (pv 7) pa_nil)))) pss_nil))))))))
      (pss_one (ps_ret (pv 5))))))))), ?_⟩
    refine q_asg (v := .str gre) ev_c fun H1 e1 => ?_
    refine q_asg (v := .int (num ns 900)) (ev_call (ea_cons (ev_var rfl) (ea_cons ev_c ea_nil)) (spNum_v (ex_l e1 hS) (by omega) (by omega))) fun H2 e2 => ?_
    have nn : 0 ≤ num ns 900 ∧ num ns 900 < 536870908 := mix_bd _ _
    generalize num ns 900 = n at nn
    refine q_asgL (xs := ((nmc n).map fun c => TX.T [c]).map V.str) (el_is (el_lcR1 (fun _ => true) (fun k => .str (sgn gre ((n + (2 * (n / 30 % 6) + 1) * (k : Int)) % 26))) (ea_cons (ev_op ev_c (ev_op (ev_op (ev_var rfl) ev_c (rv_I ⟨by decide, by decide⟩)) ev_c (rv_I (by show (0 : Int) < _; decide))) rv_I0) ea_nil) ⟨by omega, by omega⟩ (fun _ => rfl)
      (fun k H5 e5 hj => et_yes)
      (fun k H5 e5 hj _ => ev_sgn (ev_var rfl) (ev_op (ev_op (ev_var rfl) (ev_op (ev_op (ev_op ev_c (ev_op (ev_op (ev_var rfl) ev_c (rv_I ⟨by decide, by decide⟩)) ev_c (rv_I (by show (0 : Int) < _; decide))) (rv_I (.inl ⟨by omega, by omega⟩))) ev_c rv_I0) (ev_var rfl) (rv_I (.inl ⟨by omega, by omega⟩))) rv_I0) ev_c (rv_I (by show (0 : Int) < _; decide)))
        (by rw [gre_len]; decide) (Int.emod_nonneg _ (by decide)) (by rw [gre_list]; exact Int.emod_lt_of_pos _ (by decide)))) ?_) fun np H3 nnp e3 h3 => ?_
    · rw [given_all]
      unfold nmc
      rw [List.map_map, List.map_map]
      rfl
    · have nl := nmc_len n
      have nb := nmc_big n
      have nnd := nmc_nodup n
      generalize nmc n = nms at *
      refine q_asgL (xs := []) (el_lst ea_nil (by show 0 ≤ 100000; decide)) fun p H4 npp e4 h4 => ?_
      refine q_asgV (R := fun H5 v => ∃ d, v = .ref d ∧ H4 d = none ∧ H5 d = some (.dK [])) (fun H5 e5 Q5 q5 dd ndd => q5 _ _ (Ex.new ndd) ⟨dd, rfl, fresh_back e5 ndd, upd_same⟩) fun v Hb e5 hv => ?_
      obtain ⟨d, rfl, nd4, hd5⟩ := hv
      have e45 := e4.trans e5
      have e03 := (e1.trans e2).trans e3
      have eHb := e03.trans e45
      have np0 : H p = none := fresh_back e03 npp
      have nd0 : H d = none := fresh_back (e03.trans e4) nd4
      have hp5 : Hb p = some (.lst []) := e5 _ _ h4
      have hn5 : Hb np = some (.lst ((nms.map fun c => TX.T [c]).map V.str)) := e45 _ _ h3
      have npd : np ≠ d := fun e => by rw [← e, e4 _ _ h3] at nd4; cases nd4
      have ppd : p ≠ d := fun e => by rw [← e, h4] at nd4; cases nd4
      have npp' : np ≠ p := fun e => by rw [← e, h3] at npp; cases npp
      have pB : Hb p ≠ none := by rw [hp5]; simp
      have dB : Hb d ≠ none := by rw [hd5]; simp
      refine q_forE (ea_cons (ev_var rfl) ea_nil) (sq_of hn5) (fun i σ' H' => Ex H H' ∧ Gr Hb H' ∧ ∃ own pl kvs v6 v7 v8 v9 v10 v11 v12 v13 v14 v15, σ' = [some (.ref a), some (.str gre), some (.int n), some (.ref np), some (.ref p), some (.ref d), v6, v7, v8, v9, v10, v11, v12, v13, v14, v15] ∧ BSt Hb H' np p d nms i own pl kvs)
        (fun H6 e6 => ⟨eHb.trans e6, fun b h => fresh_back e6 h, [], [], [], none, none, none, none, none, none, none, none, none, none, rfl, ⟨e6 _ _ hn5, e6 _ _ hp5, e6 _ _ hd5, ⟨rfl, fun _ _ h => nomatch h⟩, rfl, (fun c h => nomatch h), List.nodup_nil, (fun _ _ _ _ h => nomatch h)⟩⟩)
        (fun i σ' H' _ h => by
          obtain ⟨_, _, own, pl, kvs, v6, v7, v8, v9, v10, v11, v12, v13, v14, v15, _, B⟩ := h
          exact sq_of B.hn) ?_ ?_
      · rintro i x σ' H0 H6 hx ⟨eH, gr, own, pl, kvs, v6, v7, v8, v9, v10, v11, v12, v13, v14, v15, rfl, B⟩ e0
        rw [List.getElem?_map, List.getElem?_map] at hx
        cases hc : nms[i]? with
        | none => rw [hc] at hx; cases hx
        | some c =>
          rw [hc] at hx
          cases hx
          have ci : i < nms.length := (List.getElem?_eq_some_iff.mp hc).1
          refine q_sl (σ' := [some (.ref a), some (.str gre), some (.int n), some (.ref np), some (.ref p), some (.ref d), some (.int (i : Int)), some (.str (TX.T [c])), v8, v9, v10, v11, v12, v13, v14, v15]) rfl ?_
          have eH6 := eH.trans e0
          refine q_asg (v := .int (num ns (901 + (i : Int)))) (ev_call (ea_cons (ev_var rfl) (ea_cons (ev_op ev_c (ev_var rfl) rv_I0) ea_nil)) (spNum_v (ex_l eH6 hS) (by omega) (by omega))) fun H7 e7 => ?_
          have mm : 0 ≤ num ns (901 + (i : Int)) ∧ num ns (901 + (i : Int)) < 536870908 := mix_bd _ _
          generalize num ns (901 + (i : Int)) = m at mm
          obtain ⟨kd, hkd⟩ := kind_at (i := m % 4) (Int.emod_nonneg _ (by decide)) (Int.emod_lt_of_pos _ (by decide))
          refine q_asg (v := .str (kindS kd)) (ev_opL1 (el_lst (ea_cons ev_c (ea_cons ev_c (ea_cons ev_c (ea_cons ev_c ea_nil)))) (by show 4 ≤ 100000; decide)) (fun H2 e2 => ev_op (ev_var rfl) ev_c (rv_I (by show (0 : Int) < _; decide))) (fun p H2 hp e2 => rv_ixL (sq_of hp) hkd)) fun H8 e8 => ?_
          have e68 := e7.trans e8
          have B8 := B.mono (e0.trans e68)
          have eH8 := eH6.trans e68
          have gr8 := (gr.ex e0).ex e68
          refine q_asgL (xs := []) (el_lst ea_nil (by show 0 ≤ 100000; decide)) fun r H9 nr e9 hr9 => ?_
          have nr0 : H r = none := fresh_back eH8 nr
          have rB : Hb r = none := gr8 r nr
          have pll : pl.length ≤ 6 := Nat.le_trans (sub_len pl nms B.nd fun x hx => List.mem_of_mem_take (B.su x hx)) nl
          obtain ⟨ct, hct, ct1, ct6⟩ : ∃ t : Int, atI [V.int 1, V.int 2, V.int (1 + m / 64 % 6)] (m / 4 % 3) = some (.int t) ∧ 1 ≤ t ∧ t ≤ 6 := by
            have h3 : m / 4 % 3 = 0 ∨ m / 4 % 3 = 1 ∨ m / 4 % 3 = 2 := by omega
            rcases h3 with h3 | h3 | h3
            · rw [h3]; exact ⟨1, rfl, by omega, by omega⟩
            · rw [h3]; exact ⟨2, rfl, by omega, by omega⟩
            · rw [h3]; exact ⟨1 + m / 64 % 6, rfl, by omega, by omega⟩
          refine q_forR1 (n := ct) (ea_cons (ev_opL1 (el_lst (ea_cons ev_c (ea_cons ev_c (ea_cons (ev_op ev_c (ev_op (ev_op (ev_var rfl) ev_c (rv_I ⟨by decide, by decide⟩)) ev_c (rv_I (by show (0 : Int) < _; decide))) rv_I0) ea_nil))) (by show 3 ≤ 100000; decide)) (fun H2 e2 => ev_op (ev_op (ev_var rfl) ev_c (rv_I ⟨by decide, by decide⟩)) ev_c (rv_I (by show (0 : Int) < _; decide))) (fun p H2 hp e2 => rv_ixL (sq_of hp) hct)) ea_nil) ⟨by omega, by omega⟩
            (fun j σ' H'' => Ex H8 H'' ∧ Gr Hb H'' ∧ ∃ rs xs v11 v12 v13 v14 v15, σ' = [some (.ref a), some (.str gre), some (.int n), some (.ref np), some (.ref p), some (.ref d), some (.int (i : Int)), some (.str (TX.T [c])), some (.int m), some (.str (kindS kd)), some (.ref r), v11, v12, v13, v14, v15] ∧ H'' r = some (.lst xs) ∧ Pw (ItQ Hb r H'') xs rs ∧ rs.length = j ∧ ∀ q ∈ rs, ∀ c2 ∈ q.g, c2 ∈ pl)
            (fun H10 e10 => ⟨e9.trans e10, (gr8.ex e9).ex e10, [], [], v11, v12, v13, v14, v15, rfl, e10 _ _ hr9, ⟨rfl, fun i x y h => by simp at h⟩, rfl, fun q h => nomatch h⟩) ?_ ?_
          · rintro j σ' H10 hj ⟨e80, gr10, rs, xs, v11, v12, v13, v14, v15, rfl, hr10, hP, hl, hg⟩
            have B10 := B8.mono e80
            have eH10 := eH8.trans e80
            refine q_sl (σ' := [some (.ref a), some (.str gre), some (.int n), some (.ref np), some (.ref p), some (.ref d), some (.int (i : Int)), some (.str (TX.T [c])), some (.int m), some (.str (kindS kd)), some (.ref r), some (.int (j : Int)), v12, v13, v14, v15]) rfl ?_
            refine q_asgL (xs := ((if decide (0 < num ns (910 + 6 * (i : Int) + (j : Int)) / 3 % 3) = true then pl else []).map fun c => TX.T [c]).map V.str) (el_is (el_lcL (fun _ => decide (0 < num ns (910 + 6 * (i : Int) + (j : Int)) / 3 % 3)) (fun i2 => .str ((pl.map fun c => TX.T [c]).getD i2 "")) (ev_var rfl) (sq_of B10.hp) (by rw [List.length_map, List.length_map]; omega) (fun _ => rfl)
              (fun i2 x2 H11 e11 hx2 => ?_) (fun i2 x2 H11 e11 hx2 _ => ?_)) (by rw [List.length_map, List.length_map]; exact given_const pl _)) fun sp H11 nsp e11 hsp => ?_
            · exact et_test (ev_is (ev_op (ev_op (ev_op (ev_call (ea_cons (ev_var rfl) (ea_cons (ev_op (ev_op ev_c (ev_op ev_c (ev_var rfl) (rv_I (.inl ⟨by omega, by omega⟩))) rv_I0) (ev_var rfl) rv_I0) ea_nil)) (spNum_v (ex_l (eH10.trans e11) hS) (by omega) (by omega))) ev_c (rv_I ⟨by decide, by decide⟩)) ev_c (rv_I (by show (0 : Int) < _; decide))) ev_c rv_I0) rfl)
            · rw [List.getElem?_map] at hx2
              cases hy : (pl.map fun c => TX.T [c])[i2]? with
              | none => rw [hy] at hx2; cases hx2
              | some y =>
                rw [hy] at hx2
                cases hx2
                rw [List.getD_eq_getElem?_getD, hy]
                exact ev_var rfl
            · obtain ⟨zs, ez, zsub, znd⟩ : ∃ zs : List Nat, (if decide (0 < num ns (910 + 6 * (i : Int) + (j : Int)) / 3 % 3) = true then pl else []) = zs ∧ (∀ c ∈ zs, c ∈ pl) ∧ zs.Nodup := by
                refine ⟨_, rfl, ?_⟩
                split
                · exact ⟨fun c h => h, B.nd⟩
                · exact ⟨(fun c h => nomatch h), List.nodup_nil⟩
              rw [ez] at hsp
              refine q_asgV (R := fun _ v => ∃ g, v = .str (TX.T g) ∧ Fur g ∧ ∀ c ∈ g, c ∈ pl) (eg_if (c := decide (kd = true) && decide (1 < m / 16 % 4)) (et_and (et_is (et_test (ev_op (ev_var rfl) ev_c (rv_eq rfl))) (kind_eq kd true)) fun _ => et_test (ev_is (ev_op (ev_op (ev_op (ev_var rfl) ev_c (rv_I ⟨by decide, by decide⟩)) ev_c (rv_I (by show (0 : Int) < _; decide))) ev_c rv_I0) rfl))
                (fun _ H12 e12 Q12 q12 => ?_) (fun _ => eg_v ev_c fun _ _ => ⟨[], rfl, ⟨Nat.zero_le _, (fun c h => nomatch h), List.Pairwise.nil⟩, (fun c h => nomatch h)⟩)) fun v H12 e12 hv => ?_
              · refine evp_joinSortedL (cs := zs.take 3) (el_is (el_sl (ev_var rfl) eo_none (eo_some ev_c) (sq_of hsp)) ?_) (by rw [List.length_take]; omega) (List.Nodup.sublist (List.take_sublist _ _) znd) H12 e12 Q12 fun v H13 e13 hv => ?_
                · have := cut_take (zs.map fun c => TX.T [c]) 3
                  rw [← List.map_take] at this
                  exact this
                · obtain ⟨g, rfl, hpm, hpw⟩ := hv
                  have gz : ∀ c ∈ g, c ∈ pl := fun c hc => zsub c (List.mem_of_mem_take (hpm.mem_iff.mp hc))
                  refine q12 _ H13 e13 ⟨g, rfl, ⟨?_, fun c hc => nb c (List.mem_of_mem_take (B.su c (gz c hc))), hpw⟩, gz⟩
                  rw [hpm.length_eq, List.length_take]
                  omega
              · obtain ⟨g, rfl, hF, hgp⟩ := hv
                have e1012 := e11.trans e12
                have hr12 := e1012 _ _ hr10
                have xl : xs.length = rs.length := hP.1
                refine s_appG (P2 := fun H2 v => ∃ pa c2 b2 ps, PartsQ H2 v pa c2 b2 ps g ∧ H12 pa = none ∧ Good4 c2 b2 ps g) (l := r) hr12 (ev_var rfl) (fun H13 e13 Q13 q13 => ?_) (by omega) fun v H14 e14 hv => ?_
                · refine (ea_cons (ev_var rfl) (ea_cons (ev_op (ev_op ev_c (ev_var rfl) (rv_I (.inl ⟨by omega, by omega⟩))) (ev_op ev_c (ev_var rfl) (rv_I (.inl ⟨by omega, by omega⟩))) rv_I0) (ea_cons (ev_var rfl) ea_nil)) : EvA _ _ H12 [.ref a, .int (100 * (i : Int) + 14 * (j : Int)), .str (TX.T g)]) H13 e13 _ fun H14 e14 => ⟨a, ns, _, g, rfl, ex_l (((eH10.trans e1012).trans e13).trans e14) hS, by omega, by omega, hF, fun v pa c2 b2 ps H15 hpq npa G e15 => q13 v H15 (e14.trans e15) ⟨pa, c2, b2, ps, hpq, fresh_back (e13.trans e14) npa, G⟩⟩
                · obtain ⟨pa, c2, b2, ps, hpq, npa, G⟩ := hv
                  have hr14 := e14 _ _ hr12
                  have npr : pa ≠ r := fun e => by rw [e, hr12] at npa; cases npa
                  have gr12 := gr10.ex e1012
                  refine ⟨Ex.mut ((e80.trans e1012).trans e14) nr, (gr12.ex e14).upd, rs ++ [⟨c2, b2, ps, g⟩], xs ++ [v], _, _, _, _, _, rfl, upd_same, ?_, by rw [List.length_append, hl]; rfl, fun q hq => ?_⟩
                  · exact Pw.snoc ((hP.imp fun x y h => (h.mono (e1012.trans e14)).upd hr14 (fun _ => nofun) (Or.inr rfl))) ⟨pa, partsQ_upd hpq hr14 (fun _ => nofun) npr, gr12 _ npa, npr, G⟩
                  · rcases List.mem_append.mp hq with hq | hq
                    · exact hg q hq
                    · rw [List.mem_singleton] at hq
                      subst hq
                      exact hgp
          · rintro σ' H10 ⟨e80, gr10, rs, xs, v11, v12, v13, v14, v15, rfl, hr10, hP, hl, hg⟩
            have B10 := B8.mono e80
            have eH10 := eH8.trans e80
            have xl : xs.length = rs.length := hP.1
            have rs6 : rs.length ≤ 6 := by omega
            have nin : TX.T [c] ∉ own.map (·.1) := by
              rw [B.na]
              intro h
              obtain ⟨c2, hc2, e2⟩ := List.mem_map.mp h
              have e3 : c2 = c := by have := T_inj e2; simpa using this
              subst e3
              have hdr : c2 ∈ nms.drop i := List.mem_of_getElem? (i := 0) (by rw [List.getElem?_drop]; exact hc)
              have h1 := nnd
              rw [← List.take_append_drop i nms] at h1
              exact (List.nodup_append.mp h1).2.2 c2 hc2 c2 hdr rfl
            have ol : own.length ≤ 6 := by
              have := congrArg List.length B.na
              rw [List.length_map, List.length_map, List.length_take] at this
              omega
            have kl : kvs.length ≤ 6 := by
              have := congrArg List.length B.of.1
              rw [List.length_map, List.length_map] at this
              omega
            refine q_dput (eu_tup (ea_cons (ev_var rfl) (ea_cons (ev_var rfl) ea_nil)) (by show 2 ≤ 100000; decide)) (ev_var rfl) (ev_var rfl) B10.hd (by omega) fun T0 H11 nT e11 hT0 => ?_
            have B11 := B10.mono e11
            have hd11 := B11.hd
            have nTd : T0 ≠ d := fun e => by rw [e, hd11] at hT0; cases hT0
            have nrd : r ≠ d := fun e => by rw [e, B8.hd] at nr; cases nr
            have hc11 : ClsQ Hb H11 (.ref T0) (kd, rs) := ⟨T0, r, xs, rfl, hT0, e11 _ _ hr10, rB, hP.imp fun x y h => h.mono e11, rs6⟩
            have of12 : OwnF Hb (upd H11 d (.dK (putK kvs (.inr (TX.T [c])) (.ref T0)))) (putK kvs (.inr (TX.T [c])) (.ref T0)) (own ++ [(TX.T [c], (kd, rs))]) := (B11.of.upd hd11 (fun _ => nofun) dB).put nin (hc11.upd hd11 (fun _ => nofun) dB)
            have eH12 : Ex H (upd H11 d (.dK (putK kvs (.inr (TX.T [c])) (.ref T0)))) := Ex.mut (eH10.trans e11) nd0
            have gr12 : Gr Hb (upd H11 d (.dK (putK kvs (.inr (TX.T [c])) (.ref T0)))) := (gr10.ex e11).upd
            have hr12 : (upd H11 d (.dK (putK kvs (.inr (TX.T [c])) (.ref T0)))) r = some (.lst xs) := by rw [upd_ne nrd]; exact e11 _ _ hr10
            have hP12 : Pw (ItQ Hb r (upd H11 d (.dK (putK kvs (.inr (TX.T [c])) (.ref T0))))) xs rs := hP.imp fun x y h => (h.mono e11).upd hd11 (fun _ => nofun) (Or.inl dB)
            have hn12 : (upd H11 d (.dK (putK kvs (.inr (TX.T [c])) (.ref T0)))) np = some (.lst ((nms.map fun c => TX.T [c]).map V.str)) := by rw [upd_ne npd]; exact B11.hn
            have hp12 : (upd H11 d (.dK (putK kvs (.inr (TX.T [c])) (.ref T0)))) p = some (.lst ((pl.map fun c => TX.T [c]).map V.str)) := by rw [upd_ne ppd]; exact B11.hp
            have hd12 : (upd H11 d (.dK (putK kvs (.inr (TX.T [c])) (.ref T0)))) d = some (.dK (putK kvs (.inr (TX.T [c])) (.ref T0))) := upd_same
            generalize upd H11 d (.dK (putK kvs (.inr (TX.T [c])) (.ref T0))) = H12 at *
            generalize putK kvs (.inr (TX.T [c])) (.ref T0) = kvs2 at *
            have fn := fnd_none nin
            have tk : nms.take (i + 1) = nms.take i ++ [c] := by rw [List.take_add_one, hc]; rfl
            have na2 : (own ++ [(TX.T [c], (kd, rs))]).map (·.1) = (nms.take (i + 1)).map fun c => TX.T [c] := by
              rw [tk, List.map_append, List.map_append, B.na]
              rfl
            have dp2 : Deep (own ++ [(TX.T [c], (kd, rs))]) := deep_snoc B.dp fn fun q hq => known_of B.na fun c2 hc2 => B.su c2 (hg q hq c2 hc2)
            have su2 : ∀ c2 ∈ pl, c2 ∈ nms.take (i + 1) := fun c2 h => by
              rw [tk]
              exact List.mem_append_left _ (B.su c2 h)
            have cn : c ∉ pl := fun h => by
              have h1 := B.su c h
              refine nin ?_
              rw [B.na]
              exact List.mem_map.mpr ⟨c, h1, rfl⟩
            have lay : ∀ d ∈ ((List.range rs.length).filter fun i => !decide (V.str (TX.T (rs.getD i ⟨"", "", [], []⟩).g) = V.str "")).map fun i => partP (rs.getD i ⟨"", "", [], []⟩), PyData.canLay0 d = true ∧ d.depth ≤ 10 := fun d hd => by
              obtain ⟨i2, hi2, rfl⟩ := List.mem_map.mp hd
              have hlt := List.mem_range.mp (List.mem_filter.mp hi2).1
              rw [List.getD_eq_getElem?_getD, List.getElem?_eq_getElem hlt]
              exact part_lay (hP12.2 i2 (xs[i2]'(by omega)) _ (List.getElem?_eq_getElem _) (List.getElem?_eq_getElem hlt))
            refine s_when (b := decide (kd = true) && _) (et_and (et_is (et_test (ev_op (ev_var rfl) ev_c (rv_eq rfl))) (kind_eq kd true)) fun _ => et_eqDG (K := K) (d := .list (((List.range rs.length).filter fun i => !decide (V.str (TX.T (rs.getD i ⟨"", "", [], []⟩).g) = V.str "")).map fun i => partP (rs.getD i ⟨"", "", [], []⟩))) (e := .list [])
              (fun H13 e13 Q13 q13 => ?_) (fun H13 e13 Q13 q13 => (el_lst ea_nil (by show 0 ≤ 100000; decide) : EvL _ _ H12 []) H13 e13 _ fun q H14 _ e14 h14 => q13 _ H14 e14 (.lst (sq_of h14) .nil)) (shaped_list lay) (shaped_list fun d h => nomatch h)) (fun _ H13 e13 => ?_) fun _ H13 e13 => ?_
            · refine (el_lcL (xs := xs) (fun i => !decide (V.str (TX.T (rs.getD i ⟨"", "", [], []⟩).g) = V.str "")) (fun i => xs.getD i .non) (ev_var rfl) (sq_of hr12) (by omega) (fun _ => rfl) (fun i2 x2 H14 e14 hx2 => ?_) (fun i2 x2 H14 e14 hx2 _ => ?_)) H13 e13 _ fun q H14 _ e14 h14 => q13 _ H14 e14 ?_
              · have hlt : i2 < rs.length := xl ▸ (List.getElem?_eq_some_iff.mp hx2).1
                have hrx := List.getElem?_eq_getElem hlt
                obtain ⟨pa, ⟨T1, _, rfl, h1, _⟩, _⟩ := hP12.2 i2 x2 _ hx2 hrx
                rw [List.getD_eq_getElem?_getD, hrx]
                exact et_test (ev_op (ev_op (ev_var rfl) ev_c (rv_ixT (st_of (e14 _ _ h1)) (atI_nat (j := 3) rfl))) ev_c (rv_ne rfl))
              · rw [List.getD_eq_getElem?_getD, hx2]
                exact ev_var rfl
              · refine .lst (sq_of h14) ?_
                unfold given
                rw [xl]
                refine DpAll.maps fun i2 hi2 => ?_
                have hlt := List.mem_range.mp (List.mem_filter.mp hi2).1
                rw [List.getD_eq_getElem?_getD, List.getD_eq_getElem?_getD, List.getElem?_eq_getElem hlt, List.getElem?_eq_getElem (show i2 < xs.length by omega)]
                exact Dp.mono (e13.trans e14) _ _ (hP12.2 i2 _ _ (List.getElem?_eq_getElem (show i2 < xs.length by omega)) (List.getElem?_eq_getElem hlt)).dp
            · refine s_appG (P2 := fun _ v => v = .str (TX.T [c])) (l := p) (e13 _ _ hp12) (ev_var rfl) (eg_v (ev_var rfl) fun _ _ => rfl) (by rw [List.length_map, List.length_map]; omega) fun v H14 e14 hv => ?_
              subst hv
              have hp14 := (e13.trans e14) _ _ hp12
              refine ⟨Ex.mut ((eH12.trans e13).trans e14) np0, ((gr12.ex e13).ex e14).upd, own ++ [(TX.T [c], (kd, rs))], pl ++ [c], kvs2, _, _, _, _, _, _, _, _, _, _, rfl, ⟨?_, ?_, ?_, ((of12.mono (e13.trans e14)).upd hp14 (fun _ => nofun) pB), na2, ?_, ?_, dp2⟩⟩
              · rw [upd_ne npp']; exact (e13.trans e14) _ _ hn12
              · rw [upd_same, List.map_append, List.map_append]; rfl
              · rw [upd_ne ppd.symm]; exact (e13.trans e14) _ _ hd12
              · intro c2 h2
                rcases List.mem_append.mp h2 with h2 | h2
                · exact su2 c2 h2
                · rw [tk]; exact List.mem_append_right _ h2
              · rw [List.nodup_append]
                exact ⟨B.nd, by simp, fun x hx y hy => by
                  rw [List.mem_singleton] at hy
                  subst hy
                  exact fun e => cn (e ▸ hx)⟩
            · exact ⟨eH12.trans e13, gr12.ex e13, own ++ [(TX.T [c], (kd, rs))], pl, kvs2, _, _, _, _, _, _, _, _, _, _, rfl, ⟨e13 _ _ hn12, e13 _ _ hp12, e13 _ _ hd12, of12.mono e13, na2, su2, B.nd, dp2⟩⟩
      · rintro σ' H6 ⟨eH, gr, own, pl, kvs, v6, v7, v8, v9, v10, v11, v12, v13, v14, v15, rfl, B⟩
        rw [List.length_map, List.length_map] at B
        have na : own.map (·.1) = nms.map fun c => TX.T [c] := by rw [B.na, List.take_length]
        have nam : ∀ e ∈ own, ∃ c, e.1 = TX.T [c] ∧ 65 ≤ c ∧ c ≤ 90 := fun e he => by
          have h1 : e.1 ∈ own.map (·.1) := List.mem_map.mpr ⟨e, he, rfl⟩
          rw [na] at h1
          obtain ⟨c, hc, ec⟩ := List.mem_map.mp h1
          exact ⟨c, ec.symm, nb c hc⟩
        refine s_ret (ev_var rfl) fun H7 e7 => kk d own kvs H7 nd0 (e7 _ _ B.hd) (fun n2 b hb => ?_) B.of.1 nam ?_ ?_ B.dp (fun c b hb => ?_) (eH.trans e7)
        · obtain ⟨v, h1, h2⟩ := B.of.2 n2 b hb
          exact ⟨v, h1, (h2.mono e7).at⟩
        · have := congrArg List.length na
          rw [List.length_map, List.length_map] at this
          omega
        · rw [na]
          unfold List.Nodup at *
          rw [List.pairwise_map]
          exact nnd.imp fun hne he => hne (by have := T_inj he; simpa using this)
        · unfold fnd at hb
          cases hf : own.find? fun e => decide (e.1 = TX.T [c]) with
          | none => rw [hf] at hb; cases hb
          | some e =>
            have h1 := List.find?_some hf
            obtain ⟨c2, h2, h3, h4⟩ := nam e (List.mem_of_find?_eq_some hf)
            have h5 : e.1 = TX.T [c] := of_decide_eq_true h1
            have h6 : c2 = c := by have := T_inj (h2.symm.trans h5); simpa using this
            subst h6
            exact strOk_low h4

/-! ### small things of the law -/
theorem fnd_at : ∀ {own : OwnD} {i : Nat} {e : Str × BandD}, (own.map (·.1)).Nodup → own[i]? = some e → fnd own e.1 = some e.2
  | [], _, _, _, h => by simp at h
  | x :: r, 0, e, _, h => by
    cases h
    simp [fnd]
  | x :: r, i + 1, e, hn, h => by
    have h' : r[i]? = some e := h
    rw [List.map_cons, List.nodup_cons] at hn
    have ne : x.1 ≠ e.1 := fun q => hn.1 (q ▸ List.mem_map.mpr ⟨e, List.mem_of_getElem? h', rfl⟩)
    have := fnd_at hn.2 h'
    unfold fnd at *
    rw [List.find?_cons, decide_eq_false ne]
    exact this
theorem cls_txt {H : Hp} {v : V} {b : BandD} (h : ClsAt H v b) : ∀ r ∈ b.2, (txt r.ps).length ≤ 36 ∧ signs (txt r.ps) ∧ Good4 r.c r.a r.ps r.g := fun r hr => by
  obtain ⟨T0, rl, xs, rfl, _, _, hP, _⟩ := h
  obtain ⟨i, hi, rfl⟩ := List.mem_iff_getElem.mp hr
  obtain ⟨⟨T1, pa, ys, _, _, _, hpl⟩, G⟩ := hP.2 i (xs[i]'(by rw [hP.1]; exact hi)) _ (List.getElem?_eq_getElem _) (List.getElem?_eq_getElem hi)
  have := txt_len hpl G.p3
  exact ⟨this.1, this.2, G⟩
theorem OwnV.mono {H H' : Hp} {kvs : List (Key × V)} {own : OwnD} (h : OwnV H kvs own) (e : Ex H H') : OwnV H' kvs own := fun n b hb => by
  obtain ⟨v, k1, k2⟩ := h n b hb
  exact ⟨v, k1, k2.mono e⟩
/-- a comprehension over a range, its items told by the heap -/
theorem lcGR {σ : L2.St} {H : Hp} {te : TE} {ta : TA} {vs : List Nat} {n j : Nat} {R : Addr → Nat → Hp → V → Prop} (mo : ∀ p i H H' v, Ex H H' → R p i H v → R p i H' v) (h : EvA ta σ H [.int (n : Int)]) (hz : n ≤ 40000) (hw : ∀ x, wipe ((wipe σ vs).set j (some x)) vs = wipe σ vs)
    (he : ∀ (i : Nat) H1 Dl ys, Ex H H1 → H Dl = none → H1 Dl = some (.lst ys) → i < n → EvG (fun H4 v => ∀ zs, R Dl i (upd H4 Dl (.lst zs)) v) te ((wipe σ vs).set j (some (.int (i : Int)))) H1) :
    EvLG R n (tLc (iRng1 ta) (gName j) tYes te vs) σ H := fun H0 e Q q =>
  h H0 e _ fun H1 e1 => ⟨(n : Int), rfl, by omega, by omega, fun Dl hD =>
    lc_range (lo := 0) (n := (n : Int).toNat) (Cg R H1 Dl) ⟨hD, Ex.new hD, [], upd_same, rfl, fun j y h => by simp at h⟩ (fun i H' hi p => by
      have e0 : (0 : Int) + (i : Int) = (i : Int) := Int.zero_add _
      show wipe ((wipe σ vs).set j (some (.int ((0 : Int) + (i : Int))))) vs = wipe σ vs ∧ tYes ((wipe σ vs).set j (some (.int ((0 : Int) + (i : Int))))) H' fun b H3 => if b = true then te ((wipe σ vs).set j (some (.int ((0 : Int) + (i : Int))))) H3 fun y H4 => ∃ acc, H4 Dl = some (.lst acc) ∧ acc.length < sizeLine ∧ Cg R H1 Dl (i + 1) (upd H4 Dl (.lst (acc ++ [y]))) else Cg R H1 Dl (i + 1) H3
      rw [e0]
      obtain ⟨p1, p2, ys, p3, p4, p5⟩ := p
      refine ⟨hw _, ?_⟩
      show te _ H' fun y H4 => ∃ acc, H4 Dl = some (.lst acc) ∧ acc.length < sizeLine ∧ Cg R H1 Dl (i + 1) (upd H4 Dl (.lst (acc ++ [y])))
      refine he i H' Dl ys ((e.trans e1).trans p2) (fresh_back (e.trans e1) p1) p3 (by omega) H' (Ex.refl _) _ fun v H4 e4 pv => ⟨ys, e4 _ _ p3, sz_lt (by omega), p1, Ex.mut (p2.trans e4) p1, ys ++ [v], upd_same, by rw [List.length_append, p4]; rfl, fun j y hj zs => ?_⟩
      rw [upd_upd]
      rcases Nat.lt_or_ge j ys.length with hlt | hge
      · rw [List.getElem?_append_left hlt] at hj
        exact mo _ _ _ _ _ (Ex.both e4) (p5 j y hj zs)
      · have hj2 : j = ys.length := by
          have := (List.getElem?_eq_some_iff.mp hj).1
          rw [List.length_append] at this
          have h1 : [v].length = 1 := rfl
          omega
        subst hj2
        rw [List.getElem?_append_right (Nat.le_refl _), Nat.sub_self] at hj
        cases hj
        rw [p4]
        exact pv zs)
      (fun H' p => by
        obtain ⟨p1, p2, ys, p3, p4, p5⟩ := p
        refine q Dl ys H' (fresh_back e1 p1) (e1.trans p2) p3 (by omega) fun j y hj => ?_
        have := p5 j y hj ys
        rw [updSelf p3] at this
        exact this)⟩

/-! ### rows of the law -/
/-! rows, shown -/
structure RowOk (r : Row) : Prop where
  l : r.1.length ≤ 16
  s : ∀ c ∈ r.1, small c = true
  e : r.2.1.length ≤ 2
  ps : ∀ p, p ∈ r.2.1 ∨ r.2.2 = some p → PyData.strOk (TX.T [p.1]) = true ∧ p.2 < 6
def Lts (own : OwnD) : Prop := ∀ n k rs r, fnd own n = some (k, rs) → r ∈ rs → ∀ c ∈ L r.a, small c = true
theorem step_small {e : Bool} {w : List Nat} {r : RuleD} {s : List Nat} (h : stepR e w r = some s) (hw : ∀ c ∈ w, small c = true) (ha : ∀ c ∈ L r.a, small c = true) : ∀ c ∈ s, small c = true := by
  unfold stepR usedL at h
  split at h
  · unfold useE short at h
    split at h
    · split at h
      · cases h
        intro c hc
        rcases List.mem_append.mp hc with hc | hc
        · exact hw c (List.mem_of_mem_take hc)
        · exact ha c hc
      · cases h
    · cases h
  · unfold useB short at h
    split at h
    · split at h
      · cases h
        intro c hc
        rcases List.mem_append.mp hc with hc | hc
        · exact ha c hc
        · exact hw c (List.mem_of_mem_drop hc)
      · cases h
    · cases h
theorem steps_ok {own : OwnD} {e : Bool} {w cs : List Nat} {t : List Nat × Pair} (h : t ∈ stepsD own e w cs) (hl : Low own) (six : ∀ n b, fnd own n = some b → b.2.length ≤ 6) (lt : Lts own) (hw : ∀ c ∈ w, small c = true) :
    t.1.length ≤ 16 ∧ (∀ c ∈ t.1, small c = true) ∧ PyData.strOk (TX.T [t.2.1]) = true ∧ t.2.2 < 6 := by
  obtain ⟨_, rs, r, hf, hr, hq⟩ := steps_mem h
  have h6 := six _ _ hf
  have hlt := (List.getElem?_eq_some_iff.mp hr).1
  exact ⟨stepR_short hq, step_small hq hw (lt _ _ _ _ hf (List.mem_of_getElem? hr)), hl _ _ hf, Nat.lt_of_lt_of_le hlt h6⟩
theorem made_ok {own : OwnD} {w cs : List Nat} (hl : Low own) (six : ∀ n b, fnd own n = some b → b.2.length ≤ 6) (lt : Lts own) (w16 : w.length ≤ 16) (hw : ∀ c ∈ w, small c = true) : ∀ r ∈ madeD own w cs, RowOk r := fun r h => by
  have hE : ∀ x ∈ endedD own w cs, x.1.length ≤ 16 ∧ (∀ c ∈ x.1, small c = true) ∧ x.2.length ≤ 2 ∧ ∀ p ∈ x.2, PyData.strOk (TX.T [p.1]) = true ∧ p.2 < 6 := fun x hx => by
    unfold endedD at hx
    rcases List.mem_cons.mp hx with rfl | hx
    · exact ⟨w16, hw, Nat.zero_le _, fun p h => nomatch h⟩
    · obtain ⟨l, hl1, h2⟩ := List.mem_flatten.mp hx
      obtain ⟨s, hs, rfl⟩ := List.mem_map.mp hl1
      obtain ⟨a1, a2, a3, a4⟩ := steps_ok hs hl six lt hw
      unfold endR at h2
      rcases List.mem_cons.mp h2 with rfl | h3
      · refine ⟨a1, a2, by simp, fun p hp => ?_⟩
        have hp : p = s.2 := by simpa using hp
        rw [hp]
        exact ⟨a3, a4⟩
      · obtain ⟨t, ht, rfl⟩ := List.mem_map.mp h3
        obtain ⟨b1, b2, b3, b4⟩ := steps_ok ht hl six lt a2
        refine ⟨b1, b2, by simp, fun p hp => ?_⟩
        have hp : p = s.2 ∨ p = t.2 := by simpa using hp
        rcases hp with rfl | rfl
        · exact ⟨a3, a4⟩
        · exact ⟨b3, b4⟩
  have h1 : r ∈ rowsD own w cs := (List.mergeSort_perm _ _).mem_iff.mp h
  unfold rowsD at h1
  obtain ⟨l, hl1, h2⟩ := List.mem_flatten.mp h1
  obtain ⟨x, hx, rfl⟩ := List.mem_map.mp hl1
  obtain ⟨c1, c2, c3, c4⟩ := hE x hx
  unfold rowsR at h2
  rcases List.mem_cons.mp h2 with rfl | h3
  · exact ⟨c1, c2, c3, fun p hp => by
      rcases hp with hp | hp
      · exact c4 p hp
      · cases hp⟩
  · obtain ⟨t, ht, rfl⟩ := List.mem_map.mp h3
    obtain ⟨b1, b2, b3, b4⟩ := steps_ok ht hl six lt c2
    exact ⟨b1, b2, c3, fun p hp => by
      rcases hp with hp | hp
      · exact c4 p hp
      · cases hp
        exact ⟨b3, b4⟩⟩
theorem int6 : ∀ j : Nat, j < 6 → (PyData.shown (.int (j : Int))).length ≤ 13 ∧ PyData.weight (.int (j : Int)) ≤ 3 ∧ PyData.showable (.int (j : Int)) = true := by
  intro j hj
  have h : j = 0 ∨ j = 1 ∨ j = 2 ∨ j = 3 ∨ j = 4 ∨ j = 5 := by omega
  rcases h with rfl | rfl | rfl | rfl | rfl | rfl <;> refine ⟨?_, ?_, ?_⟩ <;> (first | decide +kernel | (simp [PyData.shown, PyData.weight, PyData.showable]; done) | (simp only [PyData.shown, PyData.weight, PyData.showable]; decide +kernel))
/-- what is asked of data that is to be shown -/
structure Shw (d : PyData) (dep wt : Nat) : Prop where
  c : d.canLay0 = true
  s : d.showable = true
  n : d.hasDict = false
  i : d.intsShort 13 = true
  dp : d.depth ≤ dep
  w : d.weight ≤ wt
theorem shw_str {z : Str} {n : Nat} (h : signs z) (hl : z.length ≤ n) : Shw (.str z) 0 n := ⟨by simp only [PyData.canLay0]; exact strOk_signs h, by simp [PyData.showable], by simp [PyData.hasDict], by simp [PyData.intsShort], by simp [PyData.depth], by simp only [PyData.weight]; exact hl⟩
theorem shw_strT {z : Str} {n : Nat} (h : PyData.strOk z = true) (hl : z.length ≤ n) : Shw (.str z) 0 n := ⟨by simp only [PyData.canLay0]; exact h, by simp [PyData.showable], by simp [PyData.hasDict], by simp [PyData.intsShort], by simp [PyData.depth], by simp only [PyData.weight]; exact hl⟩
theorem shw_int {j : Nat} (h : j < 6) : Shw (.int (j : Int)) 0 3 := ⟨by simp [PyData.canLay0], (int6 j h).2.2, by simp [PyData.hasDict], by simp only [PyData.intsShort]; exact decide_eq_true (int6 j h).1, by simp [PyData.depth], (int6 j h).2.1⟩
theorem shw_none : Shw .none 0 0 := ⟨by simp [PyData.canLay0], by simp [PyData.showable], by simp [PyData.hasDict], by simp [PyData.intsShort], by simp [PyData.depth], by simp [PyData.weight]⟩
structure ShwA (ds : List PyData) (dep wt : Nat) : Prop where
  c : PyData.canLayAll0 ds = true
  s : PyData.showableAll ds = true
  n : PyData.hasDictAll ds = false
  i : PyData.intsShortAll 13 ds = true
  d : PyData.depthAll ds ≤ dep
  w : PyData.weightAll ds ≤ wt
theorem shwA_nil {n : Nat} : ShwA [] n 0 := ⟨by simp [PyData.canLayAll0], by simp [PyData.showableAll], by simp [PyData.hasDictAll], by simp [PyData.intsShortAll], by simp [PyData.depthAll], by simp [PyData.weightAll]⟩
theorem shwA_cons {d : PyData} {ds : List PyData} {n m a b : Nat} (h : Shw d n a) (h2 : ShwA ds m b) : ShwA (d :: ds) (max n m) (a + 1 + b) := ⟨by simp [PyData.canLayAll0, h.c, h2.c], by simp [PyData.showableAll, h.s, h2.s], by simp [PyData.hasDictAll, h.n, h2.n], by simp [PyData.intsShortAll, h.i, h2.i], by
    have h3 := h.dp
    have h4 := h2.d
    simp only [PyData.depthAll]
    omega, by
    have h3 := h.w
    have h4 := h2.w
    simp only [PyData.weightAll]
    omega⟩
theorem shw_tup {ds : List PyData} {n a : Nat} (h : ShwA ds n a) : Shw (.tuple ds) (n + 1) a := ⟨by simp only [PyData.canLay0]; exact h.c, by simp only [PyData.showable]; exact h.s, by simp only [PyData.hasDict]; exact h.n, by simp only [PyData.intsShort]; exact h.i, by
    have := h.d
    simp only [PyData.depth]
    omega, by simp only [PyData.weight]; exact h.w⟩
theorem shw_lst {ds : List PyData} {n a : Nat} (h : ShwA ds n a) : Shw (.list ds) (n + 1) a := ⟨by simp only [PyData.canLay0]; exact h.c, by simp only [PyData.showable]; exact h.s, by simp only [PyData.hasDict]; exact h.n, by simp only [PyData.intsShort]; exact h.i, by
    have := h.d
    simp only [PyData.depth]
    omega, by simp only [PyData.weight]; exact h.w⟩
theorem Shw.le {d : PyData} {n m a b : Nat} (h : Shw d n a) (h1 : n ≤ m) (h2 : a ≤ b) : Shw d m b := ⟨h.c, h.s, h.n, h.i, Nat.le_trans h.dp h1, Nat.le_trans h.w h2⟩
theorem shwA_map {α : Type} {f : α → PyData} {n a : Nat} : ∀ {l : List α}, (∀ x ∈ l, Shw (f x) n a) → ShwA (l.map f) n ((a + 1) * l.length)
  | [], _ => shwA_nil
  | x :: l, h => by
    have h1 := shwA_cons (h x List.mem_cons_self) (shwA_map fun y hy => h y (List.mem_cons_of_mem _ hy))
    refine ⟨h1.c, h1.s, h1.n, h1.i, Nat.le_trans h1.d (by omega), Nat.le_trans h1.w ?_⟩
    rw [List.length_cons, Nat.mul_succ]
    omega
theorem shw_pair {p : Pair} (h : PyData.strOk (TX.T [p.1]) = true ∧ p.2 < 6) : Shw (pairP p) 1 6 :=
  (shw_tup (shwA_cons (shw_strT h.1 (show (TX.T [p.1]).length ≤ 1 by rw [len_T]; exact Nat.le_refl _)) (shwA_cons (shw_int h.2) (shwA_nil (n := 0))))).le (by omega) (by omega)
theorem shw_row {stem : Str} {r : Row} (hs : signs stem) (h16 : stem.length ≤ 16) (h : RowOk r) : Shw (rowP stem r) 4 70 := by
  have hb : Shw (bP r.2.2) 1 6 := by
    cases hr : r.2.2 with
    | none => exact shw_none.le (by omega) (by omega)
    | some p => exact shw_pair (h.ps p (Or.inr hr))
  have hm : Shw (.tuple (r.2.1.map pairP)) 2 14 := by
    have h1 := shw_tup (shwA_map (l := r.2.1) (f := pairP) fun p hp => shw_pair (h.ps p (Or.inl hp)))
    have := h.e
    exact h1.le (by omega) (by omega)
  have hw : signs (TX.T r.1) := lets_signs (by
    show (L (TX.T r.1)).all small = true
    rw [L_T, List.all_eq_true]
    exact h.s)
  exact (shw_tup (shwA_cons (shw_str hw (show (TX.T r.1).length ≤ 16 by rw [len_T]; exact h.l)) (shwA_cons (shw_tup (shwA_cons (shw_str hs h16) (shwA_cons hb (shwA_cons hm (shwA_nil (n := 0)))))) (shwA_nil (n := 0))))).le (by omega) (by omega)
theorem shw_rows {stem : Str} {rows : List Row} (hs : signs stem) (h16 : stem.length ≤ 16) (h : ∀ r ∈ rows, RowOk r) (hl : rows.length ≤ 11425) : (PyData.list (rows.map (rowP stem))).showable = true ∧ (PyData.list (rows.map (rowP stem))).hasDict = false ∧ (PyData.list (rows.map (rowP stem))).depth ≤ 60 ∧ (PyData.list (rows.map (rowP stem))).shown.length ≤ sizeLine := by
  have h1 := shw_lst (shwA_map (l := rows) (f := rowP stem) fun r hr => shw_row hs h16 (h r hr))
  have hd := h1.dp
  have hw := h1.w
  refine ⟨h1.s, h1.n, by omega, Nat.le_trans (PyProof.Rows.shown_le13 ?_ h1.i) (by decide)⟩
  unfold PyData.layable0
  rw [h1.c, decide_eq_true (by omega), decide_eq_true (by omega)]
  rfl

/-! ### k06math -/
/-- all rules of some classes of a kind -/
def pairsD (own : OwnD) (cs : List Nat) (e : Bool) : List Pair := (cs.map fun c => match fnd own (TX.T [c]) with
  | some (k, rs) => if k = e then (List.range rs.length).map fun j => ((c, j) : Pair) else []
  | none => []).flatten
/-- all rows of endings -/
def endsOf (own : OwnD) (p : Pair) : List (List Pair) := [p] :: (pairsD own (furD own p) true).map fun q => [p, q]
def someD (own : OwnD) (cs : List Nat) : List (List Pair) := [] :: ((pairsD own cs true).map (endsOf own)).flatten
abbrev Mk := List Pair × Option Pair
def withB (bs : List (Option Pair)) (es : List Pair) : List Mk := bs.map fun b => (es, b)
def begD (own : OwnD) (cs : List Nat) : List (Option Pair) := none :: (pairsD own cs false).map some
def allD (own : OwnD) (cs : List Nat) : List Mk := ((someD own cs).map (withB (begD own cs))).flatten
def rulesAt (own : OwnD) (p : Pair) : Option RuleD := match fnd own (TX.T [p.1]) with
  | some (_, rs) => rs[p.2]?
  | none => none
def step1 (own : OwnD) (e : Bool) (p : Pair) (w : List Nat) : Option (List Nat) := (rulesAt own p).bind (stepR e w)
def walkE (own : OwnD) (w : List Nat) : List Pair → Option (List Nat)
  | [] => some w
  | p :: r => (step1 own true p w).bind fun q => walkE own q r
def walkB (own : OwnD) (w : List Nat) : Option Pair → Option (List Nat)
  | none => some w
  | some p => step1 own false p w
def walkD (own : OwnD) (w : List Nat) (m : Mk) : Option (List Nat) := (walkE own w m.1).bind fun q => walkB own q m.2
theorem flat_fm {α β γ δ : Type} {F : α → List β} {f : β → Option γ} {g : α → Option δ} {G : δ → List γ} : ∀ {l : List α}, (∀ a ∈ l, (F a).filterMap f = ((g a).map G).getD []) → ((l.map F).flatten).filterMap f = ((l.filterMap g).map G).flatten
  | [], _ => rfl
  | a :: l, h => by
    have ih := flat_fm (l := l) fun b hb => h b (List.mem_cons_of_mem _ hb)
    have h1 := h a List.mem_cons_self
    rw [List.map_cons, List.flatten_cons, List.filterMap_append, ih, h1]
    cases hg : g a with
    | none => rw [List.filterMap_cons_none hg]; rfl
    | some d => rw [List.filterMap_cons_some hg]; rfl
/-- what the steps tell, by trying all rules -/
theorem steps_all (own : OwnD) (e : Bool) (w cs : List Nat) : stepsD own e w cs = (pairsD own cs e).filterMap fun p => (step1 own e p w).map fun q => (q, p) := by
  unfold stepsD pairsD
  rw [List.filterMap_flatten, List.map_map]
  congr 1
  refine List.map_congr_left fun c _ => ?_
  unfold per
  show _ = List.filterMap _ (match fnd own (TX.T [c]) with | some (k, rs) => _ | none => _)
  cases hf : fnd own (TX.T [c]) with
  | none => rfl
  | some b =>
    obtain ⟨k, rs⟩ := b
    dsimp only
    by_cases hk : k = e
    · rw [if_pos hk, if_pos hk]
      unfold inn
      rw [List.filterMap_map]
      congr 1
      funext j
      show _ = (step1 own e (c, j) w).map fun q => (q, ((c, j) : Pair))
      unfold step1 rulesAt
      rw [hf]
    · rw [if_neg hk, if_neg hk]
      rfl
theorem ended_all (own : OwnD) (w cs : List Nat) : endedD own w cs = (someD own cs).filterMap fun es => (walkE own w es).map fun q => (q, es) := by
  unfold endedD someD
  have e0 : (fun es => (walkE own w es).map fun q => (q, es)) [] = some (w, []) := rfl
  rw [List.filterMap_cons_some (f := fun es => (walkE own w es).map fun q => (q, es)) e0, steps_all]
  congr 1
  refine (flat_fm (g := fun p => (step1 own true p w).map fun q => (q, p)) (G := endR own) fun p _ => ?_).symm
  unfold endsOf
  cases hs : step1 own true p w with
  | none =>
    rw [List.filterMap_cons_none (by simp [walkE, hs])]
    simp [List.filterMap_map, Function.comp_def, walkE, hs]
  | some q =>
    rw [List.filterMap_cons_some (b := (q, [p])) (by simp [walkE, hs])]
    show (q, [p]) :: _ = endR own (q, p)
    unfold endR
    congr 1
    rw [steps_all, List.filterMap_map, List.map_filterMap]
    congr 1
    funext t
    simp only [Function.comp_apply, walkE, hs, Option.bind_some]
    cases step1 own true t q <;> rfl
theorem rows_all (own : OwnD) (w cs : List Nat) : rowsD own w cs = (allD own cs).filterMap fun m => (walkD own w m).map fun q => ((q, m.1, m.2) : Row) := by
  unfold rowsD allD
  rw [ended_all]
  refine (flat_fm (g := fun es => (walkE own w es).map fun q => (q, es)) (G := rowsR own cs) fun es _ => ?_).symm
  unfold withB begD
  cases hs : walkE own w es with
  | none =>
    rw [List.map_cons, List.filterMap_cons_none (by simp [walkD, hs])]
    simp [List.filterMap_map, Function.comp_def, walkD, hs]
  | some q =>
    rw [List.map_cons, List.filterMap_cons_some (b := ((q, es, none) : Row)) (by simp [walkD, hs, walkB])]
    show (q, es, none) :: _ = rowsR own cs (q, es)
    unfold rowsR
    congr 1
    rw [steps_all, List.filterMap_map, List.filterMap_map, List.map_filterMap]
    congr 1
    funext t
    simp only [Function.comp_apply, walkD, hs, walkB, Option.bind_some]
    cases step1 own false t q <;> rfl
/-! what stands there -/
theorem mem_pairs {own : OwnD} {cs : List Nat} {e : Bool} {p : Pair} : p ∈ pairsD own cs e ↔ p.1 ∈ cs ∧ ∃ rs, fnd own (TX.T [p.1]) = some (e, rs) ∧ p.2 < rs.length := by
  unfold pairsD
  rw [List.mem_flatten]
  constructor
  · rintro ⟨l, hl, hp⟩
    obtain ⟨c, hc, rfl⟩ := List.mem_map.mp hl
    cases hf : fnd own (TX.T [c]) with
    | none => rw [hf] at hp; cases hp
    | some b =>
      obtain ⟨k, rs⟩ := b
      rw [hf] at hp
      dsimp only at hp
      by_cases hk : k = e
      · rw [if_pos hk] at hp
        obtain ⟨j, hj, rfl⟩ := List.mem_map.mp hp
        exact ⟨hc, rs, by rw [hf, hk], List.mem_range.mp hj⟩
      · rw [if_neg hk] at hp
        cases hp
  · rintro ⟨hc, rs, hf, hl⟩
    refine ⟨_, List.mem_map.mpr ⟨p.1, hc, rfl⟩, ?_⟩
    rw [hf]
    dsimp only
    rw [if_pos rfl]
    exact List.mem_map.mpr ⟨p.2, List.mem_range.mpr hl, rfl⟩
theorem mem_some {own : OwnD} {cs : List Nat} {es : List Pair} : es ∈ someD own cs ↔ es = [] ∨ ∃ p ∈ pairsD own cs true, es ∈ endsOf own p := by
  unfold someD
  rw [List.mem_cons, List.mem_flatten]
  constructor
  · rintro (h | ⟨l, hl, he⟩)
    · exact .inl h
    · obtain ⟨p, hp, rfl⟩ := List.mem_map.mp hl
      exact .inr ⟨p, hp, he⟩
  · rintro (h | ⟨p, hp, he⟩)
    · exact .inl h
    · exact .inr ⟨_, List.mem_map.mpr ⟨p, hp, rfl⟩, he⟩
theorem ends_head {own : OwnD} {p : Pair} {es : List Pair} (h : es ∈ endsOf own p) : ∃ r, es = p :: r := by
  unfold endsOf at h
  rcases List.mem_cons.mp h with rfl | h
  · exact ⟨[], rfl⟩
  · obtain ⟨q, _, rfl⟩ := List.mem_map.mp h
    exact ⟨[q], rfl⟩
theorem mem_beg {own : OwnD} {cs : List Nat} {b : Option Pair} : b ∈ begD own cs ↔ ∀ p, b = some p → p ∈ pairsD own cs false := by
  unfold begD
  rw [List.mem_cons]
  constructor
  · rintro (rfl | h) p hp
    · cases hp
    · obtain ⟨q, hq, rfl⟩ := List.mem_map.mp h
      cases hp
      exact hq
  · intro h
    cases b with
    | none => exact .inl rfl
    | some p => exact .inr (List.mem_map.mpr ⟨p, h p rfl, rfl⟩)
theorem mem_all {own : OwnD} {cs : List Nat} {m : Mk} : m ∈ allD own cs ↔ m.1 ∈ someD own cs ∧ m.2 ∈ begD own cs := by
  unfold allD
  rw [List.mem_flatten]
  constructor
  · rintro ⟨l, hl, hm⟩
    obtain ⟨es, he, rfl⟩ := List.mem_map.mp hl
    obtain ⟨b, hb, rfl⟩ := List.mem_map.mp hm
    exact ⟨he, hb⟩
  · rintro ⟨h1, h2⟩
    exact ⟨_, List.mem_map.mpr ⟨m.1, h1, rfl⟩, List.mem_map.mpr ⟨m.2, h2, rfl⟩⟩
/-! each once -/
theorem nodup_map_inj {α β : Type} {f : α → β} {l : List α} (h : ∀ a b, f a = f b → a = b) (hn : l.Nodup) : (l.map f).Nodup := by
  unfold List.Nodup at *
  rw [List.pairwise_map]
  exact hn.imp fun hne he => hne (h _ _ he)
theorem nodup_flat {α β : Type} {F : α → List β} {l : List α} (hl : l.Nodup) (h1 : ∀ a ∈ l, (F a).Nodup) (h2 : ∀ a b x, x ∈ F a → x ∈ F b → a = b) : ((l.map F).flatten).Nodup := by
  unfold List.Nodup at *
  rw [List.pairwise_flatten]
  refine ⟨fun x hx => ?_, ?_⟩
  · obtain ⟨a, ha, rfl⟩ := List.mem_map.mp hx
    exact h1 a ha
  · rw [List.pairwise_map]
    exact hl.imp (fun {a b} hne => by
      intro x hx y hy e
      exact hne (h2 a b x hx (e ▸ hy)))
theorem pairs_nodup {own : OwnD} {cs : List Nat} (e : Bool) (h : cs.Nodup) : (pairsD own cs e).Nodup := by
  unfold pairsD
  refine nodup_flat h (fun c _ => ?_) fun a b x ha hb => ?_
  · split
    · split
      · exact nodup_map_inj (fun a b h => (Prod.mk.inj h).2) List.nodup_range
      · exact List.nodup_nil
    · exact List.nodup_nil
  · have key : ∀ c : Nat, x ∈ (match fnd own (TX.T [c]) with | some (k, rs) => if k = e then (List.range rs.length).map fun j => ((c, j) : Pair) else [] | none => []) → x.1 = c := fun c hc => by
      split at hc
      · split at hc
        · obtain ⟨j, _, rfl⟩ := List.mem_map.mp hc
          rfl
        · cases hc
      · cases hc
    exact (key a ha).symm.trans (key b hb)
theorem some_nodup {own : OwnD} {cs : List Nat} (h : cs.Nodup) (hf : ∀ p, (furD own p).Nodup) : (someD own cs).Nodup := by
  unfold someD
  refine List.nodup_cons.mpr ⟨fun hm => ?_, nodup_flat (pairs_nodup true h) (fun p _ => ?_) fun a b x ha hb => ?_⟩
  · obtain ⟨l, hl, he⟩ := List.mem_flatten.mp hm
    obtain ⟨p, _, rfl⟩ := List.mem_map.mp hl
    obtain ⟨r, e⟩ := ends_head he
    cases e
  · unfold endsOf
    refine List.nodup_cons.mpr ⟨fun hm => ?_, nodup_map_inj (fun a b h => by simpa using h) (pairs_nodup true (hf p))⟩
    obtain ⟨q, _, e⟩ := List.mem_map.mp hm
    cases e
  · obtain ⟨r, rfl⟩ := ends_head ha
    obtain ⟨r2, e⟩ := ends_head hb
    exact (List.cons.inj e).1
theorem beg_nodup {own : OwnD} {cs : List Nat} (h : cs.Nodup) : (begD own cs).Nodup := by
  unfold begD
  refine List.nodup_cons.mpr ⟨fun hm => ?_, nodup_map_inj (fun a b h => Option.some.inj h) (pairs_nodup false h)⟩
  obtain ⟨q, _, e⟩ := List.mem_map.mp hm
  cases e
theorem all_nodup {own : OwnD} {cs : List Nat} (h : cs.Nodup) (hf : ∀ p, (furD own p).Nodup) : (allD own cs).Nodup := by
  unfold allD
  refine nodup_flat (some_nodup h hf) (fun es _ => ?_) fun a b x ha hb => ?_
  · exact nodup_map_inj (fun a b h => (Prod.mk.inj h).2) (beg_nodup h)
  · obtain ⟨_, _, rfl⟩ := List.mem_map.mp ha
    obtain ⟨_, _, e⟩ := List.mem_map.mp hb
    exact (congrArg Prod.fst e).symm
/-- the makings that are told -/
theorem rows_makes (own : OwnD) (w cs : List Nat) : (rowsD own w cs).map Prod.snd = (allD own cs).filter fun m => (walkD own w m).isSome := by
  rw [rows_all, List.map_filterMap]
  induction allD own cs with
  | nil => rfl
  | cons m l ih =>
    cases hw : walkD own w m with
    | none => rw [List.filterMap_cons_none (by rw [hw]; rfl), List.filter_cons_of_neg (by rw [hw]; decide), ih]
    | some q => rw [List.filterMap_cons_some (b := m) (by rw [hw]; rfl), List.filter_cons_of_pos (by rw [hw]; rfl), ih]
theorem rows_nodupK {own : OwnD} {w cs : List Nat} (h : cs.Nodup) (hf : ∀ p, (furD own p).Nodup) : ((rowsD own w cs).map Prod.snd).Nodup := by
  rw [rows_makes]
  exact (all_nodup h hf).sublist List.filter_sublist
theorem mem_rows {own : OwnD} {w cs : List Nat} {r : Row} : r ∈ rowsD own w cs ↔ r.2 ∈ allD own cs ∧ walkD own w r.2 = some r.1 := by
  rw [rows_all, List.mem_filterMap]
  constructor
  · rintro ⟨m, hm, e⟩
    obtain ⟨q, hq, rfl⟩ := Option.map_eq_some_iff.mp e
    exact ⟨hm, hq⟩
  · rintro ⟨hm, hq⟩
    exact ⟨r.2, hm, by rw [hq]; rfl⟩
theorem nodup_of_mapS {α β : Type} {f : α → β} {l : List α} (h : (l.map f).Nodup) : l.Nodup := by
  unfold List.Nodup at *
  rw [List.pairwise_map] at h
  exact h.imp fun hne he => hne (by rw [he])
/-! the order tells rows apart -/
theorem toks_pairs : ∀ (a b : List Pair) (x y : List (Int ⊕ List Nat)), PySem.W.keyToksAll (a.map pairP) ++ x = PySem.W.keyToksAll (b.map pairP) ++ y → a = b ∧ x = y
  | [], [], x, y, h => ⟨rfl, by simpa [PySem.W.keyToksAll] using h⟩
  | [], q :: b, x, y, h => by simp [PySem.W.keyToksAll] at h
  | p :: a, [], x, y, h => by simp [PySem.W.keyToksAll] at h
  | p :: a, q :: b, x, y, h => by
    simp only [List.map_cons, PySem.W.keyToksAll, pairP, PySem.W.keyToks, List.cons_append, List.append_assoc, List.nil_append, List.cons.injEq, Sum.inl.injEq, Sum.inr.injEq, true_and, and_true] at h
    obtain ⟨h1, h2, h3⟩ := h
    obtain ⟨h4, h5⟩ := toks_pairs a b x y h3
    have e1 : p.1 = q.1 := by
      have := h1
      simpa using this
    have e2 : p.2 = q.2 := by omega
    exact ⟨by rw [h4, show p = q from Prod.ext e1 e2], h5⟩
theorem toks_b : ∀ (a b : Option Pair), PySem.W.keyToks (bK a) ++ [Sum.inl 0] = PySem.W.keyToks (bK b) ++ [Sum.inl (0 : Int)] → a = b
  | none, none, _ => rfl
  | none, some q, h => by simp [bK, pairP, PySem.W.keyToks, PySem.W.keyToksAll] at h
  | some p, none, h => by simp [bK, pairP, PySem.W.keyToks, PySem.W.keyToksAll] at h
  | some p, some q, h => by
    simp only [bK, pairP, PySem.W.keyToks, PySem.W.keyToksAll, List.cons_append, List.append_assoc, List.nil_append, List.cons.injEq, Sum.inl.injEq, Sum.inr.injEq, true_and, and_true] at h
    obtain ⟨h1, h2⟩ := h
    have e1 : p.1 = q.1 := by
      have := h1
      simpa using this
    have e2 : p.2 = q.2 := by omega
    rw [show p = q from Prod.ext e1 e2]
theorem toks_key {a b : Row} (h : PySem.W.keyToks (keyP a) = PySem.W.keyToks (keyP b)) : a = b := by
  simp only [keyP, PySem.W.keyToks, PySem.W.keyToksAll, List.cons_append, List.append_assoc, List.nil_append, List.cons.injEq, Sum.inr.injEq, true_and] at h
  obtain ⟨h1, h2⟩ := h
  obtain ⟨h3, h4⟩ := toks_pairs _ _ _ _ h2
  rw [List.cons.injEq] at h4
  have h5 := toks_b _ _ h4.2
  have e1 : a.1 = b.1 := h1
  exact Prod.ext e1 (Prod.ext h3 h5)
abbrev rowLe : Row → Row → Bool := PySem.W.dataLe false keyP
theorem row_anti {a b : Row} (h1 : rowLe a b = true) (h2 : rowLe b a = true) : a = b := by
  have h1' : (!(PyProof.Rows.lexLt PyProof.Rows.itemOrd (PySem.W.keyToks (keyP b)) (PySem.W.keyToks (keyP a)))) = true := h1
  have h2' : (!(PyProof.Rows.lexLt PyProof.Rows.itemOrd (PySem.W.keyToks (keyP a)) (PySem.W.keyToks (keyP b)))) = true := h2
  rw [Bool.not_eq_true'] at h1' h2'
  exact toks_key (PyProof.Rows.lex_total _ _ h2' h1')
theorem rows_sorted (l : List Row) : (l.mergeSort rowLe).Pairwise fun a b => rowLe a b = true :=
  have t := PySem.W.sortLe_total (PyProof.Rows.listOrd PyProof.Rows.itemOrd) false (fun b : Row => PySem.W.keyToks (keyP b))
  List.pairwise_mergeSort t.trans (fun a b => by rw [Bool.or_eq_true]; exact t.total a b) l
theorem sorted_one {l m : List Row} (hl : l.Pairwise fun a b => rowLe a b = true) (hm : m.Pairwise fun a b => rowLe a b = true) (hp : l.Perm m) : l = m :=
  List.Perm.eq_of_pairwise (fun a b _ _ h1 h2 => row_anti h1 h2) hl hm hp
theorem made_perm (own : OwnD) (w cs : List Nat) : (madeD own w cs).Perm (rowsD own w cs) := List.mergeSort_perm _ _
/-- by the names in another order, the same -/
theorem made_other {own : OwnD} {w cs ds : List Nat} (h1 : cs.Nodup) (h2 : ds.Nodup) (hf : ∀ p, (furD own p).Nodup) (hm : ∀ c, c ∈ cs ↔ c ∈ ds) : madeD own w cs = madeD own w ds := by
  refine sorted_one (rows_sorted _) (rows_sorted _) ((made_perm _ _ _).trans (.trans ?_ (made_perm _ _ _).symm))
  refine (List.perm_ext_iff_of_nodup (nodup_of_mapS (rows_nodupK h1 hf)) (nodup_of_mapS (rows_nodupK h2 hf))).mpr fun r => ?_
  have hp : ∀ e p, p ∈ pairsD own cs e ↔ p ∈ pairsD own ds e := fun e p => by rw [mem_pairs, mem_pairs, hm]
  rw [mem_rows, mem_rows, mem_all, mem_all, mem_some, mem_some, mem_beg, mem_beg]
  simp only [hp]
/-- a making names a class at the stem -/
def namesNot (c : Nat) (m : Mk) : Bool := decide (∀ p, m.1.head? = some p → p.1 ≠ c) && decide (∀ p, m.2 = some p → p.1 ≠ c)
/-- without a class -/
theorem made_without {own : OwnD} {w cs : List Nat} (h1 : cs.Nodup) (hf : ∀ p, (furD own p).Nodup) (c : Nat) : madeD own w (cs.filter fun d => !decide (d = c)) = (madeD own w cs).filter fun r => namesNot c r.2 := by
  have h2 : (cs.filter fun d => !decide (d = c)).Nodup := h1.sublist List.filter_sublist
  refine sorted_one (rows_sorted _) ((rows_sorted _).sublist List.filter_sublist) ((made_perm _ _ _).trans (.trans ?_ ((made_perm own w cs).filter _).symm))
  refine (List.perm_ext_iff_of_nodup (nodup_of_mapS (rows_nodupK h2 hf)) ((nodup_of_mapS (rows_nodupK h1 hf)).sublist List.filter_sublist)).mpr fun r => ?_
  have hp : ∀ e p, p ∈ pairsD own (cs.filter fun d => !decide (d = c)) e ↔ p ∈ pairsD own cs e ∧ p.1 ≠ c := fun e p => by
    rw [mem_pairs, mem_pairs, List.mem_filter]
    simp only [Bool.not_eq_true', decide_eq_false_iff_not]
    constructor
    · rintro ⟨⟨a, b⟩, d⟩
      exact ⟨⟨a, d⟩, b⟩
    · rintro ⟨⟨a, d⟩, b⟩
      exact ⟨⟨a, b⟩, d⟩
  rw [List.mem_filter, mem_rows, mem_rows, mem_all, mem_all, mem_some, mem_some, mem_beg, mem_beg]
  unfold namesNot
  rw [Bool.and_eq_true, decide_eq_true_eq, decide_eq_true_eq]
  simp only [hp]
  constructor
  · rintro ⟨⟨h3, h4⟩, h5⟩
    refine ⟨⟨⟨?_, fun p e => (h4 p e).1⟩, h5⟩, fun p e => ?_, fun p e => (h4 p e).2⟩
    · rcases h3 with h3 | ⟨p, ⟨hp1, _⟩, he⟩
      · exact .inl h3
      · exact .inr ⟨p, hp1, he⟩
    · rcases h3 with h3 | ⟨q, ⟨_, hq2⟩, he⟩
      · rw [h3] at e; cases e
      · obtain ⟨r2, er⟩ := ends_head he
        rw [er] at e
        cases e
        exact hq2
  · rintro ⟨⟨⟨h3, h4⟩, h5⟩, h6, h7⟩
    refine ⟨⟨?_, fun p e => ⟨h4 p e, h7 p e⟩⟩, h5⟩
    rcases h3 with h3 | ⟨p, hp1, he⟩
    · exact .inl h3
    · obtain ⟨r2, er⟩ := ends_head he
      exact .inr ⟨p, ⟨hp1, h6 p (by rw [er]; rfl)⟩, he⟩

/-! ### k06own -/
/-- a new list that reads as these data -/
def EvLD (K : PySem.W.Frag) (te : TE) (σ : L2.St) (H : Hp) (ds : List PyData) : Prop := ∀ H1, Ex H H1 → ∀ Q : VK, (∀ p xs H2, H1 p = none → Ex H1 H2 → H2 p = some (.lst xs) → DpAll K H2 xs ds → Q (.ref p) H2) → te σ H1 Q
section
variable {σ : L2.St} {H : Hp} {te ta tb tl : TE} {ds es : List PyData} {D : Ends} {tz : TS}
theorem eld_lg {R : Addr → Nat → Hp → V → Prop} {n : Nat} (h : EvLG R n te σ H) (hn : n = ds.length) (i : ∀ p j H v d, R p j H v → ds[j]? = some d → Dp K H v d) : EvLD K te σ H ds := fun H1 e Q q =>
  h H1 e _ fun p xs H2 np e2 hp hl hr => q p xs H2 np e2 hp (DpAll.of (by rw [hl, hn]) fun j v d h1 h2 => i p j H2 v d (hr j v h1) h2)
theorem eld_lst {ta : TA} (h : EvAR ta σ H fun vs H1 => DpAll K H1 vs ds) (hl : ds.length ≤ 1000) : EvLD K (tLst ta) σ H ds := fun H1 e Q q =>
  h H1 e _ fun vs H2 e2 d => ⟨sz_of (by rw [d.len]; omega), fun p np => q p vs _ (fresh_back e2 np) (e2.trans (Ex.new np)) upd_same (DpAll.mono (Ex.new np) _ _ d)⟩
theorem DpAll.app {H : Hp} : ∀ {xs ys : List V} {ds es : List PyData}, DpAll K H xs ds → DpAll K H ys es → DpAll K H (xs ++ ys) (ds ++ es)
  | _, _, _, _, .nil, h => h
  | _, _, _, _, .cons h1 h2, h => .cons h1 (DpAll.app h2 h)
theorem eld_catV {p : Addr} {xs : List V} (ha : Ev ta σ H (.ref p)) (hp : H p = some (.lst xs)) (hd : DpAll K H xs ds) (hb : EvLD K tb σ H es) (hz : ds.length + es.length ≤ 100000) : EvLD K (tOp rCat ta tb) σ H (ds ++ es) := fun H1 e Q q =>
  ha H1 e _ fun H2 e2 => hb H2 (e.trans e2) _ fun p2 ys H3 np2 e3 hp2 dy => ⟨p, p2, xs, ys, rfl, rfl, ((e.trans e2).trans e3) _ _ hp, hp2, sz_of (by rw [hd.len, dy.len]; exact hz), fun l nl =>
    q l _ _ (fresh_back (e2.trans e3) nl) ((e2.trans e3).trans (Ex.new nl)) upd_same (DpAll.mono (Ex.new nl) _ _ (DpAll.app (DpAll.mono ((e.trans e2).trans e3) _ _ hd) dy))⟩
theorem eld_cat (ha : EvLD K ta σ H ds) (hb : EvLD K tb σ H es) (hz : ds.length + es.length ≤ 100000) : EvLD K (tOp rCat ta tb) σ H (ds ++ es) := fun H1 e Q q =>
  ha H1 e _ fun p xs H2 np e2 hp dx => hb H2 (e.trans e2) _ fun p2 ys H3 np2 e3 hp2 dy => ⟨p, p2, xs, ys, rfl, rfl, e3 _ _ hp, hp2, sz_of (by rw [dx.len, dy.len]; exact hz), fun l nl =>
    q l _ _ (fresh_back (e2.trans e3) nl) ((e2.trans e3).trans (Ex.new nl)) upd_same (DpAll.mono (Ex.new nl) _ _ (DpAll.app (DpAll.mono e3 _ _ dx) dy))⟩
theorem q_asgLD {j : Nat} (h : EvLD K te σ H ds) (k : ∀ p xs H1, H p = none → Ex H H1 → H1 p = some (.lst xs) → DpAll K H1 xs ds → tz D (σ.set j (some (.ref p))) H1) : tSeq (tAsg te (gName j)) tz D σ H := h H (Ex.refl H) _ k
theorem s_asgLD {j : Nat} (h : EvLD K te σ H ds) (k : ∀ p xs H1, H p = none → Ex H H1 → H1 p = some (.lst xs) → DpAll K H1 xs ds → D.nx (σ.set j (some (.ref p))) H1) : tAsg te (gName j) D σ H := h H (Ex.refl H) _ k
/-- a list, not told whether new, that reads as these data -/
def EvSD (K : PySem.W.Frag) (te : TE) (σ : L2.St) (H : Hp) (ds : List PyData) : Prop := ∀ H1, Ex H H1 → ∀ Q : VK, (∀ p xs H2, Ex H1 H2 → H2 p = some (.lst xs) → DpAll K H2 xs ds → Q (.ref p) H2) → te σ H1 Q
theorem EvLD.sd (h : EvLD K te σ H ds) : EvSD K te σ H ds := fun H1 e Q q => h H1 e Q fun p xs H2 _ e2 hp dx => q p xs H2 e2 hp dx
theorem esd_v {p : Addr} {xs : List V} (h : Ev te σ H (.ref p)) (hp : H p = some (.lst xs)) (hd : DpAll K H xs ds) : EvSD K te σ H ds := fun H1 e Q q => h H1 e _ fun H2 e2 => q p xs H2 e2 ((e.trans e2) _ _ hp) (DpAll.mono (e.trans e2) _ _ hd)
/-- a comprehension over such a list -/
theorem lcD {g : TG} {vs : List Nat} (h : EvSD K tl σ H ds) (hl : es.length = ds.length) (hz : ds.length ≤ 40000) (ne : noLs es = true)
    (he : ∀ (i : Nat) (d e : PyData) (v : V) (H1 : Hp) (Dl : Addr) (ys : List V), Ex H H1 → H Dl = none → H1 Dl = some (.lst ys) → ds[i]? = some d → es[i]? = some e → Dp K H1 v d →
      ∃ σ2, (∀ Q : L2.St → Hp → Prop, Q σ2 H1 → g v (wipe σ vs) H1 Q) ∧ wipe σ2 vs = wipe σ vs ∧ EvG (fun H4 v => Dp K H4 v e) te σ2 H1) : EvLD K (tLc (iList K tl) g tYes te vs) σ H es := fun H0 e Q q =>
  h H0 e _ fun a xs H1 e1 ha dx => ⟨a, rfl, ⟨xs, sq_of ha⟩, fun Dl hD =>
    lc_list (xs := xs) (fun i H' => H1 Dl = none ∧ Ex H1 H' ∧ ∃ ys, H' Dl = some (.lst ys) ∧ DpAll K H' ys (es.take i)) ⟨hD, Ex.new hD, [], upd_same, by rw [List.take_zero]; exact .nil⟩ (fun i H' _ p => sq_of (p.2.1 _ _ ha)) (fun i x H' hi p => by
      obtain ⟨p1, p2, ys, p3, p4⟩ := p
      have il : i < xs.length := (List.getElem?_eq_some_iff.mp hi).1
      have xl := dx.len
      obtain ⟨d, hd, dv⟩ := dx.get hi
      obtain ⟨e2, he2⟩ : ∃ e2, es[i]? = some e2 := ⟨_, List.getElem?_eq_getElem (by omega)⟩
      obtain ⟨σ2, g2, w2, ev⟩ := he i d e2 x H' Dl ys ((e.trans e1).trans p2) (fresh_back (e.trans e1) p1) p3 hd he2 (Dp.mono p2 _ _ dv)
      have yl : ys.length ≤ i := by rw [p4.len, List.length_take]; exact Nat.min_le_left _ _
      refine g2 _ ⟨w2, ?_⟩
      show te σ2 H' fun y H4 => ∃ acc, H4 Dl = some (.lst acc) ∧ acc.length < sizeLine ∧ _
      refine ev H' (Ex.refl _) _ fun v H4 e4 dv4 => ⟨ys, e4 _ _ p3, sz_lt (by omega), p1, Ex.mut (p2.trans e4) p1, ys ++ [v], upd_same, ?_⟩
      have tk : es.take (i + 1) = es.take i ++ [e2] := by rw [List.take_add_one, he2]; rfl
      have nn : noLs (es.take i ++ [e2]) = true := by rw [← tk]; exact noLs_of fun d hd => noLs_mem ne (List.mem_of_mem_take hd)
      rw [tk]
      exact DpAll.updL (e4 _ _ p3) _ _ nn (DpAll.snoc (DpAll.mono e4 _ _ p4) dv4))
      (fun H' p => by
        obtain ⟨p1, p2, ys, p3, p4⟩ := p
        rw [dx.len, ← hl, List.take_length] at p4
        exact q Dl ys H' (fresh_back e1 p1) (e1.trans p2) p3 p4)⟩
where
  noLs_mem : ∀ {l : List PyData} {d : PyData}, noLs l = true → d ∈ l → noL d = true
  | x :: l, d, h, hd => by
    rw [noLs, Bool.and_eq_true] at h
    rcases List.mem_cons.mp hd with rfl | hd
    · exact h.1
    · exact noLs_mem h.2 hd
end
theorem pairs_len {own : OwnD} {cs : List Nat} {e : Bool} (six : ∀ n b, fnd own n = some b → b.2.length ≤ 6) : (pairsD own cs e).length ≤ 6 * cs.length := by
  unfold pairsD
  refine flat_len fun c _ => ?_
  split
  · rename_i k rs hf
    split
    · rw [List.length_map, List.length_range]
      exact six _ _ hf
    · exact Nat.zero_le _
  · exact Nat.zero_le _
def spPairs (K : PySem.W.Frag) : Sp := fun vs H Q _ => ∃ d z e own, vs = [.ref d, .str z, .str (kindS e)] ∧ OwnAt H d own ∧ Known own (L z) ∧ z.length ≤ 4 ∧
  ∀ p xs H', H p = none → H' p = some (.lst xs) → DpAll K H' xs ((pairsD own (L z) e).map pairP) → Ex H H' → Q (.ref p) H'
theorem ok_l_pairs (T : Txt K mg A) : FnOk P w K mg base CX0 1 A.f_l_pairs A.d_l_pairs P_l_pairs (spPairs K) := by
  refine T.F_l_pairs.ok sc_l_pairs (fun vs H Q E h => ?_) (fun cdv A' outer s H vs Q E hr h => ?_)
  · obtain ⟨d, z, e, own, rfl, _⟩ := h
    rfl
  · obtain ⟨d, z, e, own, rfl, hB, hK, hz, k⟩ := h
    refine ⟨_, (pss_cons (ps_set (i := 3) sc_l_pairs.nd rfl (Or.inl rfl) (pe_lst pa_nil))
      (pss_cons (ps_for PassesOwn.never rfl (pi_str (pv 1)) (pg_name (i := 4) sc_l_pairs.nd rfl (Or.inr rfl))
      (pss_one (ps_if (pt_cmpR op_eq (pe_ix ix_tup (pe_dget (hu_of hr) (pv 0) (pv 4) (fun _ _ => rfl)) pe_int (fun _ _ => rfl)) (pv 2) (nomark _)) (pss_one (ps_set (i := 3) sc_l_pairs.nd rfl (Or.inl rfl) (pe_op op_cat (pv 3) (pe_lc (own := [("_law_number_here", 5)]) (by rfl) sc_l_pairs.nd (pi_range1 rfl T.n_range (pa_cons (pe_callB call_len_seq (by rfl) T.n_len PySem.boot_len (pa_cons (pe_ix ix_tup (pe_dget (hu_of hr) (pv 0) (pv 4) (fun _ _ => rfl)) pe_int (fun _ _ => rfl)) pa_nil)) pa_nil)) (blkOk_by (own := [("_law_number_here", 5)]) (N := N_l_pairs) (sc := defScope s_l_pairs) (by decide +kernel)) (fun _ _ _ _ _ => (pg_name (i := 5) sc_l_pairs.nd rfl (Or.inl rfl))) (fun _ _ _ _ _ => pts_nil) (fun _ _ _ _ _ => (pe_tup (pa_cons (pv 4) (pa_cons (pv 5) pa_nil)))))))) pss_nil)))
      (pss_one (ps_ret (pv 3))))), ?_⟩
    have six := hB.six
    have hzl := len_L z
    obtain ⟨kvs, hd, hO⟩ := hB
    refine q_asgLD (K := K) (eld_lst (ds := []) ear_nilD (by show 0 ≤ 1000; decide)) fun p xs H0 np e0 hp0 dx0 => ?_
    refine q_forS (w := z) (ev_var rfl) (fun i σ' H' => Ex H H' ∧ ∃ p xs v4 v5, σ' = [some (.ref d), some (.str z), some (.str (kindS e)), some (.ref p), v4, v5] ∧ H p = none ∧ H' p = some (.lst xs) ∧ DpAll K H' xs ((pairsD own ((L z).take i) e).map pairP))
      (fun H1 e1 => ⟨e0.trans e1, p, xs, none, none, rfl, np, e1 _ _ hp0, DpAll.mono e1 _ _ dx0⟩) ?_ ?_
    · rintro i c σ' H' hc ⟨eH, p, xs, v4, v5, rfl, np, hp, dx⟩
      obtain ⟨⟨k2, rs⟩, hf⟩ := hK c (List.mem_of_getElem? hc)
      obtain ⟨ov, hv, o, rl, rxs, rfl, ho, hrl, hR, r6⟩ := hO _ _ hf
      have tk : pairsD own ((L z).take (i + 1)) e = pairsD own ((L z).take i) e ++ (if k2 = e then (List.range rs.length).map fun j => ((c, j) : Pair) else []) := by
        unfold pairsD
        rw [List.take_add_one, hc, List.map_append, List.flatten_append]
        congr 1
        simp [hf]
      have get : ∀ {H1 : Hp} {σ : L2.St}, Ex H H1 → σ[0]? = some (some (.ref d)) → σ[4]? = some (some (.str (TX.T [c]))) → Ev (tDGet (tVar 0) (tVar 4)) σ H1 (.ref o) := fun ex h0 h4 => ev_dget (ev_var h0) (ev_var h4) (ex_rd ex hd) hv
      refine s_when (b := decide (k2 = e)) (et_is (et_test (ev_op (ev_op (get eH rfl rfl) ev_c (rv_ixT (st_of (eH _ _ ho)) (atI_nat (j := 0) rfl))) (ev_var rfl) (rv_eq rfl))) (kind_eq k2 e)) (fun hk H1 e1 => ?_) fun hk H1 e1 => ?_
      · have hk' : k2 = e := by simpa using hk
        have e01 := eH.trans e1
        have rxl : rxs.length = rs.length := hR.1
        have r6' : rs.length ≤ 6 := r6
        have pl := pairs_len (own := own) (cs := (L z).take i) (e := e) six
        have tl4 : ((L z).take i).length ≤ 4 := by rw [List.length_take]; omega
        rw [tk, if_pos hk', List.map_append]
        refine s_asgLD (eld_catV (es := ((List.range rs.length).map fun j => ((c, j) : Pair)).map pairP) (ev_var rfl) (e1 _ _ hp) (DpAll.mono e1 _ _ dx) (eld_lg (R := fun _ j H v => Dp K H v (pairP (c, j))) (n := rs.length) (lcGR (n := rs.length) (fun p i H H' v e h => Dp.mono e _ _ h) ?_ (by omega) (fun _ => rfl) fun j H2 Dl ys e2 nD hD hj => ?_) (by rw [List.length_map, List.length_map, List.length_range]) fun p j H v d h1 h2 => ?_) (by rw [List.length_map, List.length_map, List.length_map, List.length_range]; omega)) fun p2 xs2 H2 np2 e2 hp2 dx2 => ?_
        · exact ea_cons (ev_is (ev_cb (ea_cons (ev_op (get e01 rfl rfl) ev_c (rv_ixT (st_of (e01 _ _ ho)) (atI_nat (j := 1) rfl))) ea_nil) (rc_lenL (K := K) (sq_of (e01 _ _ hrl)))) (by rw [rxl])) ea_nil
        · exact eg_dpUpd (eg_tupD (ds := [.str (TX.T [c]), .int (j : Int)]) (ear_vD (ev_var rfl) (.str _) (ear_vD (ev_var rfl) (.int _) ear_nilD)) (by show 2 ≤ 1000; decide)) rfl hD
        · rw [List.getElem?_map, List.getElem?_map] at h2
          have hj : j < rs.length := by
            rcases Nat.lt_or_ge j rs.length with h | h
            · exact h
            · rw [List.getElem?_eq_none (by rw [List.length_range]; exact h)] at h2
              cases h2
          rw [List.getElem?_range hj] at h2
          cases h2
          exact h1
        · exact ⟨e01.trans e2, p2, xs2, _, _, rfl, fresh_back e01 np2, hp2, dx2⟩
      · rw [tk, if_neg (by simpa using hk), List.append_nil]
        exact ⟨eH.trans e1, p, xs, _, _, rfl, np, e1 _ _ hp, DpAll.mono e1 _ _ dx⟩
    · rintro σ' H' ⟨eH, p, xs, v4, v5, rfl, np, hp, dx⟩
      rw [List.take_length] at dx
      refine s_ret (ev_var rfl) fun H1 e1 => k p xs H1 np (e1 _ _ hp) (DpAll.mono e1 _ _ dx) (eH.trans e1)
/-! all makings that the classes let -/
def endsP (es : List Pair) : PyData := .tuple (es.map pairP)
def mkP (stem : Str) (m : Mk) : PyData := .tuple [.str stem, bP m.2, .tuple (m.1.map pairP)]
theorem noL_endsP (l : List (List Pair)) : noLs (l.map endsP) = true := noLs_of fun d hd => by
  obtain ⟨s, _, rfl⟩ := List.mem_map.mp hd
  simp [endsP, noL, noL_pairs]
theorem noL_mk (stem : Str) (m : Mk) : noL (mkP stem m) = true := by simp [mkP, noL, noLs, noL_pairs, noL_b]
theorem noL_mks (stem : Str) (l : List Mk) : noLs (l.map (mkP stem)) = true := noLs_of fun d hd => by
  obtain ⟨s, _, rfl⟩ := List.mem_map.mp hd
  exact noL_mk stem s
theorem o_fur3 {H : Hp} {d : Addr} {own : OwnD} (h : OwnAt H d own) (p : Pair) : Fur (furD own p) := by
  unfold furD
  split
  · rename_i rs hf
    obtain ⟨kvs, _, h2⟩ := h
    obtain ⟨o, _, T0, rl, xs, _, _, _, hR, _⟩ := h2 _ _ hf
    split
    · rename_i r hr
      have hi : p.2 < xs.length := by rw [hR.1]; exact (List.getElem?_eq_some_iff.mp hr).1
      exact (hR.2 _ _ _ (List.getElem?_eq_getElem hi) hr).2.fu
    · exact ⟨Nat.zero_le _, fun c h => (nomatch h), List.Pairwise.nil⟩
  · exact ⟨Nat.zero_le _, fun c h => (nomatch h), List.Pairwise.nil⟩
theorem fur_nodup {g : List Nat} (h : Fur g) : g.Nodup := h.2.2.imp fun a => Nat.ne_of_lt a
theorem ends_len {H : Hp} {d : Addr} {own : OwnD} (h : OwnAt H d own) (p : Pair) : (endsOf own p).length ≤ 19 := by
  unfold endsOf
  have h1 := pairs_len (own := own) (cs := furD own p) (e := true) h.six
  have h2 := (o_fur3 h p).1
  rw [List.length_cons, List.length_map]
  omega
theorem pre_len {H : Hp} {d : Addr} {own : OwnD} (h : OwnAt H d own) {ps : List Pair} (hp : ps.length ≤ 24) : (([] : List Pair) :: (ps.map (endsOf own)).flatten).length ≤ 457 := by
  have h1 := flat_len (l := ps) (f := endsOf own) (n := 19) fun p _ => ends_len h p
  rw [List.length_cons]
  omega
theorem beg_len {own : OwnD} {cs : List Nat} (six : ∀ n b, fnd own n = some b → b.2.length ≤ 6) (h : cs.length ≤ 4) : (begD own cs).length ≤ 25 := by
  unfold begD
  have h1 := pairs_len (own := own) (cs := cs) (e := false) six
  rw [List.length_cons, List.length_map]
  omega
def spAll (K : PySem.W.Frag) : Sp := fun vs H Q _ => ∃ d w z own, vs = [.ref d, .str w, .str z] ∧ OwnAt H d own ∧ Deep own ∧ Known own (L z) ∧ z.length ≤ 4 ∧
  ∀ p xs H', H p = none → H' p = some (.lst xs) → DpAll K H' xs ((allD own (L z)).map (mkP w)) → Ex H H' → Q (.ref p) H'
theorem ok_l_all (T : Txt K mg A) : FnOk P w K mg base CX0 2 A.f_l_all A.d_l_all P_l_all (spAll K) := by
  refine T.F_l_all.ok sc_l_all (fun vs H Q E h => ?_) (fun cdv A' outer s H vs Q E hr h => ?_)
  · obtain ⟨d, w, z, own, rfl, _⟩ := h
    rfl
  · obtain ⟨d, w, z, own, rfl, hB, hDp, hK, hz, k⟩ := h
    refine ⟨_, (pss_cons (ps_set (i := 3) sc_l_all.nd rfl (Or.inl rfl) (pe_lst (pa_cons (pe_tup pa_nil) pa_nil)))
      (pss_cons (ps_for PassesOwn.never rfl (pi_list (pe_call (ok_l_pairs T) hr rfl T.g_l_pairs T.k_l_pairs T.b_l_pairs .nil pass0 (pa_cons (pv 0) (pa_cons (pv 2) (pa_cons pe_str pa_nil))))) (pg_name (i := 4) sc_l_all.nd rfl (Or.inr rfl))
      (pss_cons (ps_expr (pe_bm PySem.F.plainAttrs_list PySem.F.slot_list_append PySem.F.type_list_append mt_append (pv 3) (pa_cons (pe_tup (pa_cons (pv 4) pa_nil)) pa_nil)))
      (pss_cons (ps_set (i := 5) sc_l_all.nd rfl (Or.inl rfl) (pe_ix ix_tup (pe_ix ix_list (pe_ix ix_tup (pe_dget (hu_of hr) (pv 0) (pe_ix ix_tup (pv 4) pe_int (fun _ _ => rfl)) (fun _ _ => rfl)) pe_int (fun _ _ => rfl)) (pe_ix ix_tup (pv 4) pe_int (fun _ _ => rfl)) (fun _ _ => rfl)) pe_int (fun _ _ => rfl)))
      (pss_one (ps_set (i := 3) sc_l_all.nd rfl (Or.inl rfl) (pe_op op_cat (pv 3) (pe_lc (own := [("_law_behind", 8)]) (by rfl) sc_l_all.nd (pi_list (pe_call (ok_l_pairs T) hr rfl T.g_l_pairs T.k_l_pairs T.b_l_pairs .nil pass0 (pa_cons (pv 0) (pa_cons (pv 5) (pa_cons pe_str pa_nil))))) (blkOk_by (own := [("_law_behind", 8)]) (N := N_l_all) (sc := defScope s_l_all) (by decide +kernel)) (fun _ _ _ _ _ => (pg_name (i := 8) sc_l_all.nd rfl (Or.inl rfl))) (fun _ _ _ _ _ => pts_nil) (fun _ _ _ _ _ => (pe_tup (pa_cons (pv 4) (pa_cons (pv 8) pa_nil)))))))))))
      (pss_cons (ps_set (i := 6) sc_l_all.nd rfl (Or.inl rfl) (pe_lst pa_nil))
      (pss_cons (ps_for PassesOwn.never rfl (pi_list (pv 3)) (pg_name (i := 7) sc_l_all.nd rfl (Or.inr rfl))
      (pss_one (ps_set (i := 6) sc_l_all.nd rfl (Or.inl rfl) (pe_op op_cat (pv 6) (pe_lc (own := [("_law_beginning", 9)]) (by rfl) sc_l_all.nd (pi_list (pe_op op_cat (pe_lst (pa_cons pe_non pa_nil)) (pe_call (ok_l_pairs T) hr rfl T.g_l_pairs T.k_l_pairs T.b_l_pairs .nil pass0 (pa_cons (pv 0) (pa_cons (pv 2) (pa_cons pe_str pa_nil)))))) (blkOk_by (own := [("_law_beginning", 9)]) (N := N_l_all) (sc := defScope s_l_all) (by decide +kernel)) (fun _ _ _ _ _ => (pg_name (i := 9) sc_l_all.nd rfl (Or.inl rfl))) (fun _ _ _ _ _ => pts_nil) (fun _ _ _ _ _ => (pe_tup (pa_cons (pv 1) (pa_cons (pv 9) (pa_cons (pv 7) pa_nil))))))))))
      (pss_one (ps_ret (pv 6))))))), ?_⟩
    have six := hB.six
    have hzl := len_L z
    have pl4 := pairs_len (own := own) (cs := L z) (e := true) six
    refine q_asgLD (K := K) (ds := [([] : List Pair)].map endsP) (eld_lst (ear_gD (eg_tupD ear_nilD (by show 0 ≤ 1000; decide)) ear_nilD) (by show 1 ≤ 1000; decide)) fun p xs H0 np e0 hp0 dx0 => ?_
    refine q_forC (ea_cons (ev_var rfl) (ea_cons (ev_var rfl) (ea_cons ev_c ea_nil))) fun H1 e1 => ⟨d, z, true, own, rfl, hB.mono (e0.trans e1), hK, hz, fun pu us H2 npu hpu du e2 => ?_⟩
    have e02 := (e0.trans e1).trans e2
    have npu0 : H pu = none := fresh_back (e0.trans e1) npu
    refine s_forL ev_c (sq_of hpu) (fun i σ' H' => Ex H H' ∧ H' pu = some (.lst us) ∧ DpAll K H' us ((pairsD own (L z) true).map pairP) ∧ ∃ p xs v4 v5 v6 v7 v8 v9, σ' = [some (.ref d), some (.str w), some (.str z), some (.ref p), v4, v5, v6, v7, v8, v9] ∧ H p = none ∧ p ≠ pu ∧ H' p = some (.lst xs) ∧
        DpAll K H' xs ((([] : List Pair) :: (((pairsD own (L z) true).take i).map (endsOf own)).flatten).map endsP))
      (fun H3 e3 => ⟨e02.trans e3, e3 _ _ hpu, DpAll.mono e3 _ _ du, p, xs, none, none, none, none, none, none, rfl, np, (fun h => by rw [← h, e1 _ _ hp0] at npu; cases npu), e3 _ _ (e2 _ _ (e1 _ _ hp0)), DpAll.mono ((e1.trans e2).trans e3) _ _ dx0⟩) (fun i σ' H' _ h => sq_of h.2.1) ?_ ?_
    · rintro i x σ' H' hx ⟨eH, hpu', du', p, xs, v4, v5, v6, v7, v8, v9, rfl, np, npu2, hp, dx⟩
      obtain ⟨ds, hds, dxx⟩ := du'.get hx
      rw [List.getElem?_map] at hds
      cases hs : (pairsD own (L z) true)[i]? with
      | none => rw [hs] at hds; cases hds
      | some s =>
        rw [hs] at hds
        cases hds
        obtain ⟨hc, rs, hf, hj⟩ := mem_pairs.mp (List.mem_of_getElem? hs)
        have tk : ((pairsD own (L z) true).take (i + 1)).map (endsOf own) = ((pairsD own (L z) true).take i).map (endsOf own) ++ [endsOf own s] := by
          rw [List.take_add_one, hs, List.map_append]
          rfl
        have tl : ((pairsD own (L z) true).take i).length ≤ 24 := by
          rw [List.length_take]
          omega
        have xl : xs.length ≤ 457 := by
          rw [dx.len, List.length_map]
          exact pre_len hB tl
        have dxx0 := dxx
        obtain ⟨Tf, fv, rfl, hTf, dfv⟩ := dxx.tupI
        obtain ⟨n1, fr, rfl, dn1, dfr⟩ := dfv.consI
        obtain ⟨j1, fr2, rfl, dj1, dfr2⟩ := dfr.consI
        obtain rfl := dfr2.nilI
        obtain rfl := dn1.strI
        obtain rfl := dj1.intI
        refine q_sl (tz := tSeq _ _) (σ' := [some (.ref d), some (.str w), some (.str z), some (.ref p), some (.ref Tf), v5, v6, v7, v8, v9]) rfl ?_
        refine q_appG (P2 := fun H1 v => Dp K H1 v (endsP [s])) (l := p) hp (ev_var rfl) (eg_tupD (ds := [pairP s]) (ear_vD (ev_var rfl) dxx0 ear_nilD) (by show 1 ≤ 1000; decide)) (by omega) fun v H3 e3 dv => ?_
        have hp3' := e3 _ _ hp
        have e3u : Ex H (upd H3 p (.lst (xs ++ [v]))) := Ex.mut (eH.trans e3) np
        have hpu3 : (upd H3 p (.lst (xs ++ [v]))) pu = some (.lst us) := by rw [upd_ne npu2.symm]; exact e3 _ _ hpu'
        have du3 : DpAll K (upd H3 p (.lst (xs ++ [v]))) us ((pairsD own (L z) true).map pairP) := DpAll.updL hp3' _ _ (noL_pairs _) (DpAll.mono e3 _ _ du')
        have hp3 : (upd H3 p (.lst (xs ++ [v]))) p = some (.lst (xs ++ [v])) := upd_same
        have hTf3 : SqT K (upd H3 p (.lst (xs ++ [v]))) Tf [.str (TX.T [s.1]), .int (s.2 : Int)] := sqT_upd hp3' (ex_t e3 hTf)
        have df3 : Dp K (upd H3 p (.lst (xs ++ [v]))) (.ref Tf) (pairP s) := Dp.updL hp3' _ _ (noL_pair _) (Dp.mono e3 _ _ dxx0)
        have dx3 : DpAll K (upd H3 p (.lst (xs ++ [v]))) (xs ++ [v]) (((([] : List Pair) :: (((pairsD own (L z) true).take i).map (endsOf own)).flatten) ++ [[s]]).map endsP) := by
          rw [List.map_append]
          exact DpAll.snoc (DpAll.updL hp3' _ _ (noL_endsP _) (DpAll.mono e3 _ _ dx)) (Dp.updL hp3' _ _ (by simp [endsP, noL, noLs, noL_pair]) dv)
        have hB3 := hB.mono e3u
        have npu4 : pu ≠ p := npu2.symm
        generalize upd H3 p (.lst (xs ++ [v])) = H4 at *
        have yl : (xs ++ [v]).length ≤ 458 := by rw [List.length_append]; show xs.length + 1 ≤ 458; omega
        have dxl := dx3.len
        generalize xs ++ [v] = ys at *
        obtain ⟨kvs, hd4, hO⟩ := hB3
        obtain ⟨ov, hv, o, rl, rxs, rfl, ho, hrl, hR, r6⟩ := hO _ _ hf
        have hri : s.2 < rxs.length := by rw [hR.1]; exact hj
        have hrx := List.getElem?_eq_getElem hri
        obtain ⟨hPa, G⟩ := hR.2 s.2 _ _ hrx (List.getElem?_eq_getElem hj)
        generalize rxs[s.2] = rx at hrx hPa
        obtain ⟨Tp, pa, px, rfl, hTp, hpa, hpl⟩ := hPa
        have fd : furD own s = rs[s.2].g := by
          unfold furD
          rw [hf]
          show (match rs[s.2]? with | some r => r.g | none => []) = _
          rw [List.getElem?_eq_getElem hj]
        have g3 := G.fu.1
        have kg : Known own rs[s.2].g := hDp _ _ _ _ hf (List.getElem_mem hj)
        refine q_asg (v := .str (TX.T rs[s.2].g)) (ev_op (ev_op (ev_op (ev_dget (ev_var rfl) (ev_op (ev_var rfl) ev_c (rv_ixT hTf3 (atI_nat (j := 0) rfl))) hd4 hv) ev_c (rv_ixT (st_of ho) (atI_nat (j := 1) rfl))) (ev_op (ev_var rfl) ev_c (rv_ixT hTf3 (atI_nat (j := 1) rfl))) (rv_ixL (sq_of hrl) (atI_nat hrx))) ev_c (rv_ixT (st_of hTp) (atI_nat (j := 3) rfl))) fun H5 e5 => ?_
        have e45 := e5
        have h19 := ends_len hB s
        refine s_asgLD (K := K) (ds := ((([] : List Pair) :: (((pairsD own (L z) true).take i).map (endsOf own)).flatten) ++ [[s]]).map endsP ++ ((pairsD own (furD own s) true).map fun q => [s, q]).map endsP) (eld_catV (ev_var rfl) (e5 _ _ hp3) (DpAll.mono e5 _ _ dx3)
          (lcD (ds := (pairsD own (furD own s) true).map pairP) (EvLD.sd fun H6 e6 Q6 q6 => (ea_cons (ev_var rfl) (ea_cons (ev_var rfl) (ea_cons ev_c ea_nil)) : EvA _ _ H5 [.ref d, .str (TX.T rs[s.2].g), .str "ending"]) H6 e6 _ fun H7 e7 => ⟨d, TX.T rs[s.2].g, true, own, rfl, hB.mono (e3u.trans (e5.trans (e6.trans e7))), by rw [L_T]; exact kg, by rw [TX.len_T]; omega, fun p6 xs6 H8 np6 hp6 dx6 e8 => q6 p6 xs6 H8 (fresh_back e7 np6) (e7.trans e8) hp6 (by rw [fd]; rw [L_T] at dx6; exact dx6)⟩)
            (by rw [List.length_map, List.length_map, List.length_map]) (by have := pairs_len (own := own) (cs := furD own s) (e := true) six; have := (o_fur3 hB s).1; rw [List.length_map]; omega) (noL_endsP _) fun i6 d6 e6 v6' H6 Dl ys6 ex6 nD hD hd6 he6 dv6 => ?_) ?_) fun p2 xs2 H6 np2 e6 hp2 dx2 => ?_
        · rw [List.getElem?_map] at hd6 he6
          rw [List.getElem?_map] at he6
          obtain ⟨q, hq, rfl⟩ := Option.map_eq_some_iff.mp hd6
          rw [hq] at he6
          cases he6
          exact ⟨_, fun Q q => q, rfl, eg_tupD (ds := [pairP s, pairP q]) (ear_vD (ev_var rfl) (Dp.mono (e5.trans ex6) _ _ df3) (ear_vD (ev_var rfl) dv6 ear_nilD)) (by show 2 ≤ 1000; decide)⟩
        · unfold endsOf at h19
          rw [List.length_cons, List.length_map] at h19
          rw [← dxl, List.length_map, List.length_map]
          omega
        · refine ⟨(e3u.trans e5).trans e6, (e5.trans e6) _ _ hpu3, DpAll.mono (e5.trans e6) _ _ du3, p2, xs2, _, _, _, _, _, _, rfl, fresh_back (e3u.trans e5) np2, (fun h => by rw [h, e5 _ _ hpu3] at np2; cases np2), hp2, ?_⟩
          have el : (([] : List Pair) :: (((pairsD own (L z) true).take (i + 1)).map (endsOf own)).flatten).map endsP = ((([] : List Pair) :: (((pairsD own (L z) true).take i).map (endsOf own)).flatten) ++ [[s]]).map endsP ++ ((pairsD own (furD own s) true).map fun q => [s, q]).map endsP := by
            rw [tk, List.flatten_append, List.flatten_singleton, ← List.map_append]
            unfold endsOf
            simp
          rw [el]
          exact dx2
    · rintro σ' H' ⟨eH, hpu', du', p, xs, v4, v5, v6, v7, v8, v9, rfl, np, npu2, hp, dx⟩
      have ul : us.length = (pairsD own (L z) true).length := by rw [du'.len, List.length_map]
      rw [ul, List.take_length] at dx
      have dx : DpAll K H' xs ((someD own (L z)).map endsP) := dx
      have sl : (someD own (L z)).length ≤ 457 := pre_len hB (by omega)
      have bl := beg_len (own := own) (cs := L z) six (by omega)
      refine q_asgLD (K := K) (eld_lst (ds := []) ear_nilD (by show 0 ≤ 1000; decide)) fun pf xf H1 npf e1 hpf dxf => ?_
      have xfl : ∀ i, (((someD own (L z)).take i).map (withB (begD own (L z)))).flatten.length ≤ 11425 := fun i => by
        have h1 := flat_len (l := (someD own (L z)).take i) (f := withB (begD own (L z))) (n := 25) fun es _ => by unfold withB; rw [List.length_map]; exact bl
        have h2 : ((someD own (L z)).take i).length ≤ 457 := by rw [List.length_take]; omega
        omega
      refine q_forL (ev_var rfl) (sq_of (e1 _ _ hp)) (fun i σ' H' => Ex H H' ∧ H' p = some (.lst xs) ∧ DpAll K H' xs ((someD own (L z)).map endsP) ∧ ∃ pf xf v4 v5 v7 v8 v9, σ' = [some (.ref d), some (.str w), some (.str z), some (.ref p), v4, v5, some (.ref pf), v7, v8, v9] ∧ H pf = none ∧ H' pf = some (.lst xf) ∧
          DpAll K H' xf ((((someD own (L z)).take i).map (withB (begD own (L z)))).flatten.map (mkP w)))
        (fun H2 e2 => ⟨eH.trans (e1.trans e2), (e1.trans e2) _ _ hp, DpAll.mono (e1.trans e2) _ _ dx, pf, xf, _, _, _, _, _, rfl, fresh_back eH npf, e2 _ _ hpf, DpAll.mono e2 _ _ dxf⟩) (fun i σ' H' _ h => sq_of h.2.1) ?_ ?_
      · rintro i x σ' H2 hx ⟨eH2, hp2, dx2, pf, xf, v4, v5, v7, v8, v9, rfl, npf, hpf, dxf⟩
        obtain ⟨ds, hds, dxx⟩ := dx2.get hx
        rw [List.getElem?_map] at hds
        obtain ⟨es, hes, rfl⟩ := Option.map_eq_some_iff.mp hds
        have tk : ((someD own (L z)).take (i + 1)).map (withB (begD own (L z))) = ((someD own (L z)).take i).map (withB (begD own (L z))) ++ [withB (begD own (L z)) es] := by
          rw [List.take_add_one, hes, List.map_append]
          rfl
        have l1 := xfl i
        have l2 : (withB (begD own (L z)) es).length ≤ 25 := by unfold withB; rw [List.length_map]; exact bl
        refine q_sl (tz := tAsg _ _) (σ' := [some (.ref d), some (.str w), some (.str z), some (.ref p), v4, v5, some (.ref pf), some x, v8, v9]) rfl ?_
        refine s_asgLD (K := K) (ds := (((someD own (L z)).take i).map (withB (begD own (L z)))).flatten.map (mkP w) ++ (withB (begD own (L z)) es).map (mkP w)) (eld_catV (ev_var rfl) hpf dxf
          (lcD (ds := (begD own (L z)).map bP) (EvLD.sd <| ds_of (eld_cat (ds := [.none]) (es := (pairsD own (L z) false).map pairP) (eld_lst (ear_vD ev_c .non ear_nilD) (by show 1 ≤ 1000; decide)) (fun H6 e6 Q6 q6 => (ea_cons (ev_var rfl) (ea_cons (ev_var rfl) (ea_cons ev_c ea_nil)) : EvA _ _ H2 [.ref d, .str z, .str "beginning"]) H6 e6 _ fun H7 e7 => ⟨d, z, false, own, rfl, hB.mono (eH2.trans (e6.trans e7)), hK, hz, fun p6 xs6 H8 np6 hp6 dx6 e8 => q6 p6 xs6 H8 (fresh_back e7 np6) (e7.trans e8) hp6 dx6⟩) (by have := pairs_len (own := own) (cs := L z) (e := false) six; show 1 + _ ≤ _; rw [List.length_map]; omega)) (by unfold begD; rw [List.map_cons, List.map_map]; rfl))
            (by unfold withB; rw [List.length_map, List.length_map, List.length_map]) (by rw [List.length_map]; omega) (noL_mks _ _) fun i6 d6 e6 v6' H6 Dl ys6 ex6 nD hD hd6 he6 dv6 => ?_) (by rw [List.length_map, List.length_map]; omega)) fun p2 xs2 H6 np2 e6 hp6 dx6 => ?_
        · unfold withB at he6
          rw [List.getElem?_map] at hd6 he6
          rw [List.getElem?_map] at he6
          obtain ⟨b, hb, rfl⟩ := Option.map_eq_some_iff.mp hd6
          rw [hb] at he6
          cases he6
          exact ⟨_, fun Q q => q, rfl, eg_tupD (ds := [.str w, bP b, .tuple (es.map pairP)]) (ear_vD (ev_var rfl) (.str _) (ear_vD (ev_var rfl) dv6 (ear_vD (ev_var rfl) (Dp.mono ex6 _ _ dxx) ear_nilD))) (by show 3 ≤ 1000; decide)⟩
        · refine ⟨eH2.trans e6, e6 _ _ hp2, DpAll.mono e6 _ _ dx2, p2, xs2, _, _, _, _, _, rfl, fresh_back eH2 np2, hp6, ?_⟩
          rw [tk, List.flatten_append, List.flatten_singleton, List.map_append]
          exact dx6
      · rintro σ' H2 ⟨eH2, hp2, dx2, pf, xf, v4, v5, v7, v8, v9, rfl, npf, hpf, dxf⟩
        have ul : xs.length = (someD own (L z)).length := by rw [dx2.len, List.length_map]
        rw [ul, List.take_length] at dxf
        refine s_ret (ev_var rfl) fun H3 e3 => k pf xf H3 npf (e3 _ _ hpf) (DpAll.mono e3 _ _ dxf) (eH2.trans e3)
where
  ds_of {K : PySem.W.Frag} {te : TE} {σ : L2.St} {H : Hp} {ds es : List PyData} (h : EvLD K te σ H ds) (e : ds = es) : EvLD K te σ H es := e ▸ h
/-! a making's word -/
def OkP (own : OwnD) (e : Bool) (p : Pair) : Prop := ∃ rs, fnd own (TX.T [p.1]) = some (e, rs) ∧ p.2 < rs.length
theorem all_ok {own : OwnD} {cs : List Nat} {m : Mk} (h : m ∈ allD own cs) : (∀ p ∈ m.1, OkP own true p) ∧ ∀ p, m.2 = some p → OkP own false p := by
  obtain ⟨h1, h2⟩ := mem_all.mp h
  refine ⟨fun p hp => ?_, fun p e => (mem_pairs.mp (mem_beg.mp h2 p e)).2⟩
  rcases mem_some.mp h1 with h1 | ⟨q, hq, he⟩
  · rw [h1] at hp
    cases hp
  · unfold endsOf at he
    rcases List.mem_cons.mp he with he | he
    · rw [he, List.mem_singleton] at hp
      subst hp
      exact (mem_pairs.mp hq).2
    · obtain ⟨t, ht, e⟩ := List.mem_map.mp he
      rw [← e] at hp
      rcases List.mem_cons.mp hp with rfl | hp
      · exact (mem_pairs.mp hq).2
      · rw [List.mem_singleton] at hp
        subst hp
        exact (mem_pairs.mp ht).2
theorem walkE_snoc (own : OwnD) (p : Pair) : ∀ (es : List Pair) (w : List Nat), walkE own w (es ++ [p]) = (walkE own w es).bind (step1 own true p)
  | [], w => by
    show (step1 own true p w).bind (fun q => some q) = step1 own true p w
    cases step1 own true p w <;> rfl
  | q :: es, w => by
    show (step1 own true q w).bind (fun v => walkE own v (es ++ [p])) = ((step1 own true q w).bind fun v => walkE own v es).bind (step1 own true p)
    cases step1 own true q w with
    | none => rfl
    | some v => exact walkE_snoc own p es v
theorem step1_short {own : OwnD} {e : Bool} {p : Pair} {w q : List Nat} (h : step1 own e p w = some q) : q.length ≤ 16 := by
  unfold step1 at h
  obtain ⟨r, _, hr⟩ := Option.bind_eq_some_iff.mp h
  exact stepR_short hr
theorem walkE_short {own : OwnD} {es : List Pair} {w q : List Nat} (hw : w.length ≤ 16) (h : walkE own w es = some q) : q.length ≤ 16 := by
  induction es generalizing w with
  | nil => cases h; exact hw
  | cons p r ih =>
    obtain ⟨v, hv, hq⟩ := Option.bind_eq_some_iff.mp h
    exact ih (step1_short hv) hq
theorem oV_non (o : Option (List Nat)) : (!decide (oV o = V.non)) = o.isSome := by
  cases o with
  | none => rfl
  | some q => simp [oV]
/-- a rule used, as the law holds it -/
theorem ev_used (T : Txt K mg A) {d : Addr} {own : OwnD} {e : Bool} {p : Pair} {q : List Nat} {H Hb : Hp} {σ : L2.St} {td ty tj tw : TE} {EE : XK} (hB : OwnAt Hb d own) (ex : Ex Hb H) (ok : OkP own e p) (hq : q.length ≤ 16) (h1 : Ev td σ H (.ref d)) (h2 : Ev ty σ H (.str (TX.T [p.1]))) (h3 : Ev tj σ H (.int (p.2 : Int))) (h4 : Ev tw σ H (.str (TX.T q))) :
    Ev (tCall spUsed [] EE (tCons (tOp (rIxL K) (tOp (rIxT K) (tDGet td ty) (tC (.int 1))) tj) (tCons tw (tCons (tC (.bl e)) tNil)))) σ H (oV (step1 own e p q)) := by
  obtain ⟨rs, hf, hj⟩ := ok
  obtain ⟨kvs, hd, hO⟩ := hB.mono ex
  obtain ⟨ov, hv, o, rl, rxs, rfl, ho, hrl, hR, r6⟩ := hO _ _ hf
  have hri : p.2 < rxs.length := by rw [hR.1]; exact hj
  have hrx := List.getElem?_eq_getElem hri
  obtain ⟨hPa, G⟩ := hR.2 p.2 _ _ hrx (List.getElem?_eq_getElem hj)
  have es : step1 own e p q = usedL e (L rs[p.2].c) (L rs[p.2].a) (lst rs[p.2].ps) q := by
    unfold step1 rulesAt
    rw [hf]
    show (rs[p.2]?.bind (stepR e q)) = _
    rw [List.getElem?_eq_getElem hj]
    rfl
  have sp := spUsed_v (e := e) hPa G (z := TX.T q) (by rw [TX.len_T]; exact hq)
  rw [L_T, ← es] at sp
  exact ev_call (ea_cons (ev_op (ev_op (ev_dget h1 h2 hd hv) ev_c (rv_ixT (st_of ho) (atI_nat (j := 1) rfl))) h3 (rv_ixL (sq_of hrl) (atI_nat hrx))) (ea_cons h4 (ea_cons ev_c ea_nil))) sp
def spWalked (K : PySem.W.Frag) : Sp := fun vs H Q _ => ∃ d v w m own, vs = [.ref d, v] ∧ OwnAt H d own ∧ Dp K H v (mkP w m) ∧ (∀ p ∈ m.1, OkP own true p) ∧ (∀ p, m.2 = some p → OkP own false p) ∧ w.length ≤ 16 ∧
  ∀ H', Ex H H' → Q (oV (walkD own (L w) m)) H'
theorem ok_l_walked (T : Txt K mg A) : FnOk P w K mg base CX0 3 A.f_l_walked A.d_l_walked P_l_walked (spWalked K) := by
  refine T.F_l_walked.ok sc_l_walked (fun vs H Q E h => ?_) (fun cdv A' outer s H vs Q E hr h => ?_)
  · obtain ⟨d, v, w, m, own, rfl, _⟩ := h
    rfl
  · obtain ⟨d, v, w, m, own, rfl, hB, hm, ok1, ok2, w16, k⟩ := h
    refine ⟨_, (pss_cons (ps_set (i := 2) sc_l_walked.nd rfl (Or.inl rfl) (pe_ix ix_tup (pv 1) pe_int (fun _ _ => rfl)))
      (pss_cons (ps_for PassesOwn.never rfl (pi_tup (pe_ix ix_tup (pv 1) pe_int (fun _ _ => rfl))) (pg_tup (by rfl) (pgs_cons (pg_name (i := 3) sc_l_walked.nd rfl (Or.inl rfl)) (pgs_cons (pg_name (i := 4) sc_l_walked.nd rfl (Or.inl rfl)) pgs_nil)))
      (pss_one (ps_if (pt_cmpR op_notN (pv 2) pe_non (nomark _)) (pss_one (ps_set (i := 2) sc_l_walked.nd rfl (Or.inl rfl) (pe_call (ok_l_used T) hr rfl T.g_l_used T.k_l_used T.b_l_used .nil pass0 (pa_cons (pe_ix ix_list (pe_ix ix_tup (pe_dget (hu_of hr) (pv 0) (pv 3) (fun _ _ => rfl)) pe_int (fun _ _ => rfl)) (pv 4) (fun _ _ => rfl)) (pa_cons (pv 2) (pa_cons pe_bl pa_nil)))))) pss_nil)))
      (pss_cons (ps_if (PW.pt (pw_and (pt_cmpR op_notN (pv 2) pe_non (nomark _)) (pw_and1 (pt_cmpR op_notN (pe_ix ix_tup (pv 1) pe_int (fun _ _ => rfl)) pe_non (nomark _))))) (pss_one (ps_set (i := 2) sc_l_walked.nd rfl (Or.inl rfl) (pe_call (ok_l_used T) hr rfl T.g_l_used T.k_l_used T.b_l_used .nil pass0 (pa_cons (pe_ix ix_list (pe_ix ix_tup (pe_dget (hu_of hr) (pv 0) (pe_ix ix_tup (pe_ix ix_tup (pv 1) pe_int (fun _ _ => rfl)) pe_int (fun _ _ => rfl)) (fun _ _ => rfl)) pe_int (fun _ _ => rfl)) (pe_ix ix_tup (pe_ix ix_tup (pv 1) pe_int (fun _ _ => rfl)) pe_int (fun _ _ => rfl)) (fun _ _ => rfl)) (pa_cons (pv 2) (pa_cons pe_bl pa_nil)))))) pss_nil)
      (pss_one (ps_ret (pv 2)))))), ?_⟩
    have w16' : (L w).length ≤ 16 := w16
    obtain ⟨Tm, xm, rfl, hTm, dxm⟩ := hm.tupI
    obtain ⟨s1, x2, rfl, ds1, d2⟩ := dxm.consI
    obtain ⟨b1, x3, rfl, db1, d3⟩ := d2.consI
    obtain ⟨e1, x4, rfl, de1, d4⟩ := d3.consI
    obtain rfl := d4.nilI
    obtain rfl := ds1.strI
    obtain ⟨Te, ex, rfl, hTe, dex⟩ := de1.tupI
    refine q_asg (v := oV (walkE own (L w) (m.1.take 0))) (ev_is (ev_op (ev_var rfl) ev_c (rv_ixT hTm (atI_nat (j := 0) rfl))) (by show V.str w = V.str (TX.T (L w)); rw [T_L])) fun H0 e0 => ?_
    refine q_forT (ev_op (ev_var rfl) ev_c (rv_ixT (ex_t e0 hTm) (atI_nat (j := 2) rfl))) (ex_t e0 hTe) (fun i σ' H' => Ex H H' ∧ ∃ v3 v4, σ' = [some (.ref d), some (.ref Tm), some (oV (walkE own (L w) (m.1.take i))), v3, v4])
      (fun H1 e1 => ⟨e0.trans e1, none, none, rfl⟩) (fun i σ' H' _ h => ex_t h.1 hTe) ?_ ?_
    · rintro i x σ' H' hx ⟨eH, v3, v4, rfl⟩
      obtain ⟨ds, hds, dxx⟩ := dex.get hx
      rw [List.getElem?_map] at hds
      obtain ⟨p, hp, rfl⟩ := Option.map_eq_some_iff.mp hds
      obtain ⟨Tf, fv, rfl, hTf, dfv⟩ := dxx.tupI
      obtain ⟨n1, fr, rfl, dn1, dfr⟩ := dfv.consI
      obtain ⟨j1, fr2, rfl, dj1, dfr2⟩ := dfr.consI
      obtain rfl := dfr2.nilI
      obtain rfl := dn1.strI
      obtain rfl := dj1.intI
      have tk : m.1.take (i + 1) = m.1.take i ++ [p] := by rw [List.take_add_one, hp]; rfl
      have okp := ok1 p (List.mem_of_getElem? hp)
      refine ⟨Tf, _, rfl, ex_t eH hTf, rfl, _, _, rfl, _, [], rfl, rfl, ?_⟩
      refine q_sl (tz := tIfS _ _ _) (σ' := [some (.ref d), some (.ref Tm), some (oV (walkE own (L w) (m.1.take i))), some (.str (TX.T [p.1])), some (.int (p.2 : Int))]) rfl ?_
      refine s_when (b := (walkE own (L w) (m.1.take i)).isSome) (et_is (et_test (ev_op (ev_var rfl) ev_c rv_notN)) (oV_non _)) (fun hs H1 e1 => ?_) fun hn H1 e1 => ?_
      · obtain ⟨q, hq⟩ := Option.isSome_iff_exists.mp hs
        rw [tk, walkE_snoc, hq]
        refine s_asg (v := oV (step1 own true p q)) (ev_used T hB (eH.trans e1) okp (walkE_short w16' hq) (ev_var rfl) (ev_var rfl) (ev_var rfl) (ev_var rfl)) fun H2 e2 => ?_
        exact ⟨eH.trans (e1.trans e2), _, _, rfl⟩
      · have hq : walkE own (L w) (m.1.take i) = none := by simpa using hn
        rw [tk, walkE_snoc, hq]
        exact ⟨eH.trans e1, _, _, rfl⟩
    · rintro σ' H' ⟨eH, v3, v4, rfl⟩
      have ul : ex.length = m.1.length := by rw [dex.len, List.length_map]
      rw [ul, List.take_length]
      have tt : (!decide (b1 = V.non)) = m.2.isSome := by
        cases hb : m.2 with
        | none =>
          rw [hb] at db1
          rw [db1.nonI]
          rfl
        | some p =>
          rw [hb] at db1
          obtain ⟨a, ys, rfl, _, _⟩ := db1.tupI
          rfl
      refine q_when (b := (walkE own (L w) m.1).isSome && m.2.isSome) (et_and (et_is (et_test (ev_op (ev_var rfl) ev_c rv_notN)) (oV_non _)) fun _ => et_is (et_test (ev_op (ev_op (ev_var rfl) ev_c (rv_ixT (ex_t eH hTm) (atI_nat (j := 1) rfl))) ev_c rv_notN)) tt) (fun hs H1 e1 => ?_) fun hn H1 e1 => ?_
      · rw [Bool.and_eq_true] at hs
        obtain ⟨q, hq⟩ := Option.isSome_iff_exists.mp hs.1
        obtain ⟨p, hp⟩ := Option.isSome_iff_exists.mp hs.2
        have db1 : Dp K H b1 (pairP p) := by
          have := db1
          rw [hp] at this
          exact this
        obtain ⟨Tf, fv, rfl, hTf, dfv⟩ := db1.tupI
        obtain ⟨n1, fr, rfl, dn1, dfr⟩ := dfv.consI
        obtain ⟨j1, fr2, rfl, dj1, dfr2⟩ := dfr.consI
        obtain rfl := dfr2.nilI
        obtain rfl := dn1.strI
        obtain rfl := dj1.intI
        rw [hq]
        have e01 := eH.trans e1
        have getb : ∀ {H3 : Hp} {σ : L2.St}, Ex H H3 → σ[1]? = some (some (.ref Tm)) → Ev (tOp (rIxT K) (tVar 1) (tC (.int 1))) σ H3 (.ref Tf) := fun ex h1 => ev_op (ev_var h1) ev_c (rv_ixT (ex_t ex hTm) (atI_nat (j := 1) rfl))
        refine q_asg (v := oV (step1 own false p q)) (ev_used T hB e01 (ok2 p hp) (walkE_short w16' hq) (ev_var rfl) (ev_op (getb e01 rfl) ev_c (rv_ixT (ex_t e01 hTf) (atI_nat (j := 0) rfl))) (ev_op (getb e01 rfl) ev_c (rv_ixT (ex_t e01 hTf) (atI_nat (j := 1) rfl))) (ev_var rfl)) fun H2 e2 => ?_
        refine s_ret (ev_var rfl) fun H3 e3 => ?_
        have : walkD own (L w) m = step1 own false p q := by
          unfold walkD
          rw [hq, hp]
          rfl
        rw [← this]
        exact k H3 (e01.trans (e2.trans e3))
      · refine s_ret (ev_var rfl) fun H3 e3 => ?_
        have : walkD own (L w) m = walkE own (L w) m.1 := by
          unfold walkD
          cases hq : walkE own (L w) m.1 with
          | none => rfl
          | some q =>
            rw [hq] at hn
            have hb : m.2 = none := by simpa using hn
            rw [hb]
            rfl
        rw [← this]
        exact k H3 (eH.trans (e1.trans e3))

/-! ### k06told -/
/-- a making as a key -/
def pK (p : Pair) : NestedKey := .tup [.text (TX.T [p.1]), .num (p.2 : Int)]
def bKk : Option Pair → NestedKey | none => .none | some p => pK p
def mkK (st : Str) (m : Mk) : NestedKey := .tup [.text st, bKk m.2, .tup (m.1.map pK)]
theorem pK_datas : ∀ l : List Pair, NestedKey.datas (l.map pK) = l.map pairP
  | [] => rfl
  | p :: l => by
    show (pK p).data :: NestedKey.datas (l.map pK) = pairP p :: l.map pairP
    rw [pK_datas l]
    rfl
theorem mkK_data (st : Str) (m : Mk) : (mkK st m).data = mkP st m := by
  have hb : (bKk m.2).data = bP m.2 := by cases m.2 <;> rfl
  show PyData.tuple [.str st, (bKk m.2).data, .tuple (NestedKey.datas (m.1.map pK))] = _
  rw [hb, pK_datas]
  rfl
theorem pK_depth : ∀ l : List Pair, NestedKey.depthAll (l.map pK) ≤ 1
  | [] => by show 0 ≤ 1; omega
  | p :: l => by
    show max (pK p).depth (NestedKey.depthAll (l.map pK)) ≤ 1
    have h1 := pK_depth l
    have h2 : (pK p).depth = 1 := rfl
    omega
theorem mkK_depth (st : Str) (m : Mk) : (mkK st m).depth ≤ 8 := by
  have h1 := pK_depth m.1
  have h2 : (bKk m.2).depth ≤ 1 := by cases m.2 <;> (first | exact Nat.le_refl _ | exact Nat.zero_le _)
  show max 0 (max (bKk m.2).depth (max (NestedKey.depthAll (m.1.map pK) + 1) 0)) + 1 ≤ 8
  omega
theorem pK_inj {p q : Pair} (h : pK p = pK q) : p = q := by
  have h1 : TX.T [p.1] = TX.T [q.1] ∧ (p.2 : Int) = (q.2 : Int) := by simpa [pK] using h
  have e1 := T_inj h1.1
  exact Prod.ext (by simpa using e1) (by omega)
theorem mkK_inj {st : Str} {m n : Mk} (h : mkK st m = mkK st n) : m = n := by
  have h1 : bKk m.2 = bKk n.2 ∧ m.1.map pK = n.1.map pK := by simpa [mkK] using h
  have e1 : m.1 = n.1 := (List.map_inj_right fun a b h => pK_inj h).mp h1.2
  have e2 : m.2 = n.2 := by
    have h2 := h1.1
    cases hm : m.2 with
    | none =>
      cases hn : n.2 with
      | none => rfl
      | some q =>
        rw [hm, hn] at h2
        cases h2
    | some p =>
      cases hn : n.2 with
      | none =>
        rw [hm, hn] at h2
        cases h2
      | some q =>
        rw [hm, hn] at h2
        rw [pK_inj h2]
  exact Prod.ext e1 e2
/-- a row as a key and its value -/
def kv (st : Str) (r : Row) : NestedKey × V := (mkK st r.2, .str (TX.T r.1))
def entP (st : Str) (r : Row) : PyData := .tuple [mkP st r.2, .str (TX.T r.1)]
theorem noL_ents (st : Str) (l : List Row) : noLs (l.map (entP st)) = true := noLs_of fun d hd => by
  obtain ⟨s, _, rfl⟩ := List.mem_map.mp hd
  simp [entP, noL, noLs, noL_mk]
def prj (x : NRow) : NestedKey × V := (x.1, x.2.2)
theorem ents_of {H : Hp} {st : Str} : ∀ {rows : List Row} {ys : List V}, DpAll K H ys (rows.map (entP st)) →
    ∃ (ps : List Addr) (xs : List NRow), ys = ps.map V.ref ∧ Paired (fun p (x : NRow) => SqT K H p [.ref x.2.1, x.2.2]) ps xs ∧ (∀ x ∈ xs, NKey K H x.1 x.2.1) ∧ xs.map prj = rows.map (kv st)
  | [], _, h => by
    cases h
    exact ⟨[], [], rfl, .nil, (fun _ h => nomatch h), rfl⟩
  | r :: rows, _, h => by
    obtain ⟨v, ys, rfl, h1, h2⟩ := h.consI
    obtain ⟨ps, xs, rfl, hp, hk, e⟩ := ents_of h2
    obtain ⟨a, us, rfl, hT, hd⟩ := h1.tupI
    obtain ⟨u1, u2, rfl, d1, d2⟩ := hd.consI
    obtain ⟨u3, u4, rfl, d3, d4⟩ := d2.consI
    obtain rfl := d4.nilI
    obtain rfl := d3.strI
    have d1' := d1
    obtain ⟨b, _, rfl, _, _⟩ := d1.tupI
    refine ⟨a :: ps, (mkK st r.2, b, .str (TX.T r.1)) :: xs, rfl, .cons hT hp, fun x hx => ?_, by rw [List.map_cons, List.map_cons, e]; rfl⟩
    rcases List.mem_cons.mp hx with rfl | hx
    · exact ⟨by rw [mkK_data]; exact d1', mkK_depth _ _⟩
    · exact hk x hx
theorem keys_prj {xs : List NRow} {rows : List Row} {st : Str} (h : xs.map prj = rows.map (kv st)) : xs.map (·.1) = (rows.map Prod.snd).map (mkK st) := by
  have := congrArg (List.map Prod.fst) h
  rw [List.map_map, List.map_map] at this
  rw [List.map_map]
  exact this
theorem valN_at : ∀ {ys : List NRow} {y : NRow}, (ys.map (·.1)).Nodup → y ∈ ys → valN ys y.1 = some y.2.2
  | [], _, _, h => nomatch h
  | x :: ys, y, hn, h => by
    rw [List.map_cons, List.nodup_cons] at hn
    rcases List.mem_cons.mp h with rfl | h
    · simp [valN]
    · have ne : x.1 ≠ y.1 := fun e => hn.1 (e ▸ List.mem_map.mpr ⟨y, h, rfl⟩)
      have := valN_at hn.2 h
      unfold valN at *
      rw [List.find?_cons, decide_eq_false ne]
      exact this
theorem prj_mem {xs : List NRow} {rows : List Row} {st : Str} (h : xs.map prj = rows.map (kv st)) {r : Row} (hr : r ∈ rows) : ∃ x ∈ xs, prj x = kv st r := by
  have : kv st r ∈ xs.map prj := by rw [h]; exact List.mem_map.mpr ⟨r, hr, rfl⟩
  obtain ⟨x, hx, e⟩ := List.mem_map.mp this
  exact ⟨x, hx, e⟩
theorem prj_back {xs : List NRow} {rows : List Row} {st : Str} (h : xs.map prj = rows.map (kv st)) {x : NRow} (hx : x ∈ xs) : ∃ r ∈ rows, prj x = kv st r := by
  have : prj x ∈ rows.map (kv st) := by rw [← h]; exact List.mem_map.mpr ⟨x, hx, rfl⟩
  obtain ⟨r, hr, e⟩ := List.mem_map.mp this
  exact ⟨r, hr, e.symm⟩
/-! data stays while such a dict grows -/
theorem sqT_updN {H : Hp} {P : Program} {w : World} {l a : Addr} {ys : List NRow} {xs : List V} {o : HO} (hl : H l = some (NDo P w l ys)) (h : SqT K H a xs) : SqT K (upd H l o) a xs := by
  rcases h with h | h
  · refine Or.inl ?_
    rcases h with h | ⟨u, h⟩
    · exact Or.inl (by rw [upd_ne (ne_of h hl fun z => by cases z)]; exact h)
    · exact Or.inr ⟨u, by rw [upd_ne (ne_of h hl fun z => by cases z)]; exact h⟩
  · exact Or.inr h
mutual
theorem Dp.updN {H : Hp} {P : Program} {w : World} {l : Addr} {ys : List NRow} {o : HO} (hl : H l = some (NDo P w l ys)) : ∀ (d : PyData) (v : V), noL d = true → Dp K H v d → Dp K (upd H l o) v d
  | .none, _, _, h => by cases h; exact .non
  | .bool b, _, _, h => by cases h; exact .bl b
  | .int i, _, _, h => by cases h; exact .int i
  | .str x, _, _, h => by cases h; exact .str x
  | .list ds, _, n, _ => by cases n
  | .tuple ds, _, n, h => by
    cases h with
    | tup h1 h2 => exact .tup (sqT_updN hl h1) (DpAll.updN hl ds _ (by simpa only [noL] using n) h2)
  | .dict kvs, _, n, _ => by cases n
theorem DpAll.updN {H : Hp} {P : Program} {w : World} {l : Addr} {ys : List NRow} {o : HO} (hl : H l = some (NDo P w l ys)) : ∀ (ds : List PyData) (vs : List V), noLs ds = true → DpAll K H vs ds → DpAll K (upd H l o) vs ds
  | [], _, _, h => by cases h; exact .nil
  | d :: ds, _, n, h => by
    rw [noLs, Bool.and_eq_true] at n
    cases h with
    | cons h1 h2 => exact .cons (Dp.updN hl d _ n.1 h1) (DpAll.updN hl ds _ n.2 h2)
end
theorem take_snoc {α β : Type} {f : α → Option β} {l : List α} {i : Nat} {x : α} (h : l[i]? = some x) : (l.take (i + 1)).filterMap f = (l.take i).filterMap f ++ (f x).toList := by
  rw [List.take_add_one, h, List.filterMap_append]
  rfl
theorem none_all {own : OwnD} {cs : List Nat} : (([], none) : Mk) ∈ allD own cs := mem_all.mpr ⟨mem_some.mpr (.inl rfl), mem_beg.mpr fun p h => nomatch h⟩
theorem all_len {H : Hp} {d : Addr} {own : OwnD} (h : OwnAt H d own) {cs : List Nat} (hz : cs.length ≤ 4) : (allD own cs).length ≤ 11425 := by
  unfold allD
  have six := h.six
  have bl := beg_len (own := own) (cs := cs) six hz
  have pl := pairs_len (own := own) (cs := cs) (e := true) six
  have sl : (someD own cs).length ≤ 457 := pre_len h (by omega)
  have h1 := flat_len (l := someD own cs) (f := withB (begD own cs)) (n := 25) fun es _ => by unfold withB; rw [List.length_map]; exact bl
  omega
theorem ev_nget {P : Program} {w : World} {H : Hp} {σ : L2.St} {tdv ty : TE} {td : Addr} {rows : List NRow} {k : NestedKey} (hT : NDAt P w K H td rows) (h : Ev tdv σ H (.ref td)) (hk : EvG (fun H1 v => Dp K H1 v k.data) ty σ H) (tup : ∀ (H : Hp) (v : V), Dp K H v k.data → ∃ b, v = .ref b) (dep : k.depth ≤ 8) :
    Ev (tNGet1 P w K tdv ty) σ H ((valN rows k).getD .non) := fun H1 e Q q => h H1 e _ fun H2 e2 => ⟨td, rows, rfl, hT.mono (e.trans e2), hk H2 (e.trans e2) _ fun v H3 e3 dv => by
  obtain ⟨b, rfl⟩ := tup _ _ dv
  exact ⟨k, b, rfl, hT.mono ((e.trans e2).trans e3), ⟨dv, dep⟩, q H3 (e2.trans e3)⟩⟩
abbrev rowF (own : OwnD) (w : List Nat) : Mk → Option Row := fun m => (walkD own w m).map fun q => ((q, m.1, m.2) : Row)
def spTold (A : Ad) (K : PySem.W.Frag) : Sp := fun vs H Q _ => ∃ bd d st z own, vs = [.ref bd, .ref d, .str st, .str z] ∧ BandsAt A H bd own ∧ OwnAt H d own ∧ Deep own ∧ Known own (L z) ∧ (L z).Nodup ∧ z.length ≤ 4 ∧ st.length ≤ 16 ∧
  ∀ p xs H', H p = none → H' p = some (.lst xs) → DpAll K H' xs ((madeD own (L st) (L z)).map (rowP st)) → Ex H H' → Q (.ref p) H'
theorem ok_l_told (T : Txt K mg A) : FnOk P w K mg base CX0 7 A.f_l_told A.d_l_told P_l_told (spTold A K) := by
  refine T.F_l_told.ok sc_l_told (fun vs H Q E h => ?_) (fun cdv A' outer s H vs Q E hr h => ?_)
  · obtain ⟨bd, d, st, z, own, rfl, _⟩ := h
    rfl
  · obtain ⟨bd, d, st, z, own, rfl, hBA, hOA, hDp, hK, hN, hz, s16, k⟩ := h
    refine ⟨_, (pss_cons (ps_set (i := 4) sc_l_told.nd rfl (Or.inl rfl) (pe_call (ok_made T) hr rfl T.g_made T.k_made T.b_made .nil pass0 (pa_cons (pv 0) (pa_cons (pv 2) (pa_cons (pv 3) pa_nil)))))
      (pss_cons (ps_set (i := 5) sc_l_told.nd rfl (Or.inl rfl) (pe_callTy (call_dictN (by rfl) hr.units) (by rfl) T.n_dict (by decide +kernel) (pa_cons (pe_lc (g := gTup K 2 (gCons (gName 8) (gCons (gName 7) gNil))) (own := [("_law_word", 8), ("_law_making", 7)]) (by rfl) sc_l_told.nd (pi_list (pv 4)) (blkOk_by (own := [("_law_word", 8), ("_law_making", 7)]) (N := N_l_told) (sc := defScope s_l_told) (by decide +kernel)) (fun _ _ _ _ _ => (pg_tup (by rfl) (pgs_cons (pg_name (i := 8) sc_l_told.nd rfl (Or.inl rfl)) (pgs_cons (pg_name (i := 7) sc_l_told.nd rfl (Or.inl rfl)) pgs_nil)))) (fun _ _ _ _ _ => pts_nil) (fun _ _ _ _ _ => (pe_tup (pa_cons (pv 7) (pa_cons (pv 8) pa_nil))))) pa_nil)))
      (pss_cons (ps_set (i := 6) sc_l_told.nd rfl (Or.inl rfl) pe_dnewN)
      (pss_cons (ps_for PassesOwn.never rfl (pi_list (pe_call (ok_l_all T) (hr.mono (by decide)) rfl T.g_l_all T.k_l_all T.b_l_all .nil pass0 (pa_cons (pv 1) (pa_cons (pv 2) (pa_cons (pv 3) pa_nil))))) (pg_name (i := 7) sc_l_told.nd rfl (Or.inl rfl))
      (pss_cons (ps_set (i := 8) sc_l_told.nd rfl (Or.inl rfl) (pe_call (ok_l_walked T) (hr.mono (by decide)) rfl T.g_l_walked T.k_l_walked T.b_l_walked .nil pass0 (pa_cons (pv 1) (pa_cons (pv 7) pa_nil))))
      (pss_one (ps_if (pt_cmpR op_notN (pv 8) pe_non (nomark _)) (pss_one (ps_nput hr.units (pv 6) (pv 7) (pv 8) rfl)) pss_nil))))
      (pss_cons (ps_if (PW.pt (pw_or (pt_cmpR op_ne (pe_callB call_len_seq (by rfl) T.n_len PySem.boot_len (pa_cons (pv 4) pa_nil)) (pe_callB call_lenN (by rfl) T.n_len PySem.boot_len (pa_cons (pv 5) pa_nil)) (nomark _)) (pw_or (pt_cmpR (op_neN hr.units) (pv 5) (pv 6) (nomark _)) (pw_or1 (pt_cmpR op_ne (pe_nget1 hr.units (pv 5) (pe_tup (pa_cons (pv 2) (pa_cons pe_non (pa_cons (pe_tup pa_nil) pa_nil)))) ⟨rfl, rfl, rfl, rfl⟩) (pv 2) (nomark _)))))) (pss_one (ps_ret pe_non)) pss_nil)
      (pss_one (ps_ret (pv 4)))))))), ?_⟩
    have fn : ∀ p, (furD own p).Nodup := fun p => fur_nodup (o_fur3 hOA p)
    have nodK : ((rowsD own (L st) (L z)).map Prod.snd).Nodup := rows_nodupK hN fn
    have nodM : ((madeD own (L st) (L z)).map Prod.snd).Nodup := ((made_perm own (L st) (L z)).map Prod.snd).nodup_iff.mpr nodK
    have ml : (madeD own (L st) (L z)).length ≤ 11425 := by
      unfold madeD
      rw [List.length_mergeSort]
      exact rows_len hBA (by show (L z).length ≤ 4; exact hz)
    refine q_asgC (ea_cons (ev_var rfl) (ea_cons (ev_var rfl) (ea_cons (ev_var rfl) ea_nil))) fun H0 e0 => ⟨bd, st, z, own, rfl, hBA.mono e0, hDp, hK, hz, s16, fun p xs H1 np hp dx e1 => ?_⟩
    have e01 := e0.trans e1
    have np0 : H p = none := fresh_back e0 np
    -- the told ones, by their makings
    refine q_asgV (R := fun H3 v => ∃ td rows, v = .ref td ∧ NDAt P w K H3 td rows ∧ rows.map prj = (madeD own (L st) (L z)).map (kv st)) (fun H2 e2 Q2 q2 => ?_) fun v H2 e2 hv => ?_
    · show tCons _ tNil _ H2 _
      refine (lcD (es := (madeD own (L st) (L z)).map (entP st)) (ds := (madeD own (L st) (L z)).map (rowP st)) (esd_v (ev_var rfl) hp dx) (by rw [List.length_map, List.length_map]) (by rw [List.length_map]; omega) (noL_ents _ _) fun i d1 e1' v H3 Dl ys ex nD hD hd he dv => ?_ : EvLD K _ _ H1 _) H2 e2 _ fun pl ys H3 npl e3 hpl dy => ?_
      · rw [List.getElem?_map] at hd he
        obtain ⟨r, hr, rfl⟩ := Option.map_eq_some_iff.mp hd
        rw [hr] at he
        cases he
        obtain ⟨Tx, xv, rfl, hTx, dxv⟩ := dv.tupI
        obtain ⟨w1, xr, rfl, dw1, dxr⟩ := dxv.consI
        obtain ⟨mk, xr2, rfl, dmk, dxr2⟩ := dxr.consI
        obtain rfl := dxr2.nilI
        obtain rfl := dw1.strI
        exact ⟨[some (.ref bd), some (.ref d), some (.str st), some (.str z), some (.ref p), none, none, some mk, some (.str (TX.T r.1))], fun Q1 q1 => ⟨Tx, _, rfl, hTx, rfl, _, _, rfl, _, _, rfl, rfl, q1⟩, rfl,
          eg_tupD (ds := [mkP st r.2, .str (TX.T r.1)]) (ear_vD (ev_var rfl) dmk (ear_vD (ev_var rfl) (.str _) ear_nilD)) (by show 2 ≤ 1000; decide)⟩
      · obtain ⟨ps, rows, rfl, hpr, hk, ep⟩ := ents_of dy
        have lr : rows.length = (madeD own (L st) (L z)).length := by
          have := congrArg List.length ep
          rw [List.length_map, List.length_map] at this
          exact this
        refine ⟨pl, ps, rows, rfl, sq_of hpl, hpr, hk, ?_, by omega, fun t nt => q2 _ _ (e3.trans (Ex.new nt)) ⟨t, rows, rfl, ⟨upd_same, fun x hx => (hk x hx).mono (Ex.new nt)⟩, ep⟩⟩
        rw [keys_prj ep]
        exact nodup_map_inj (fun a b h => mkK_inj h) nodM
    · obtain ⟨td, rows, rfl, hT, ep⟩ := hv
      have e02 := e01.trans e2
      have hp2 := e2 _ _ hp
      have dx2 := DpAll.mono e2 _ _ dx
      -- the due ones
      refine q_asgV (R := fun H4 v => ∃ du, v = .ref du ∧ H2 du = none ∧ NDAt P w K H4 du []) (fun H3 e3 Q3 q3 => fun du ndu => q3 _ _ (Ex.new ndu) ⟨du, rfl, fresh_back e3 ndu, ⟨upd_same, fun x h => nomatch h⟩⟩) fun v H3 e3 hv => ?_
      obtain ⟨du, rfl, ndu, hU⟩ := hv
      refine q_forC (ea_cons (ev_var rfl) (ea_cons (ev_var rfl) (ea_cons (ev_var rfl) ea_nil))) fun H4 e4 => ⟨d, st, z, own, rfl, hOA.mono (e02.trans (e3.trans e4)), hDp, hK, hz, fun pu us H5 npu hpu dus e5 => ?_⟩
      have e25 := (e3.trans e4).trans e5
      have hU5 := (hU.mono e4).mono e5
      have duu : du ≠ pu := fun h => by rw [← h, (hU.mono e4).at_] at npu; cases npu
      have anod := all_nodup hN fn
      refine s_forL ev_c (sq_of hpu) (fun i σ' H' => Ex H2 H' ∧ H' pu = some (.lst us) ∧ DpAll K H' us ((allD own (L z)).map (mkP st)) ∧ ∃ ys v7 v8, σ' = [some (.ref bd), some (.ref d), some (.str st), some (.str z), some (.ref p), some (.ref td), some (.ref du), v7, v8] ∧ NDAt P w K H' du ys ∧
          ys.map prj = (((allD own (L z)).take i).filterMap (rowF own (L st))).map (kv st))
        (fun H6 e6 => ⟨e25.trans e6, e6 _ _ hpu, DpAll.mono e6 _ _ dus, [], none, none, rfl, hU5.mono e6, rfl⟩) (fun i σ' H' _ h => sq_of h.2.1) ?_ ?_
      · rintro i x σ' H' hx ⟨eH, hpu', dus', ys, v7, v8, rfl, hY, ey⟩
        obtain ⟨dm, hdm, dx1⟩ := dus'.get hx
        rw [List.getElem?_map] at hdm
        obtain ⟨m, hm, rfl⟩ := Option.map_eq_some_iff.mp hdm
        have am : m ∈ allD own (L z) := List.mem_of_getElem? hm
        have e0H := e02.trans eH
        have okm := all_ok am
        have al := all_len hOA (cs := L z) (by show (L z).length ≤ 4; exact hz)
        have tk := take_snoc (f := rowF own (L st)) hm
        refine q_sl (tz := tSeq _ _) (σ' := [some (.ref bd), some (.ref d), some (.str st), some (.str z), some (.ref p), some (.ref td), some (.ref du), some x, v8]) rfl ?_
        refine q_asgC (ea_cons (ev_var rfl) (ea_cons (ev_var rfl) ea_nil)) fun H6 e6 => ⟨d, x, st, m, own, rfl, hOA.mono (e0H.trans e6), Dp.mono e6 _ _ dx1, okm.1, okm.2, s16, fun H7 e7 => ?_⟩
        have e67 := e6.trans e7
        refine s_when (b := (walkD own (L st) m).isSome) (et_is (et_test (ev_op (ev_var rfl) ev_c rv_notN)) (oV_non _)) (fun hs H8 e8 => ?_) fun hn H8 e8 => ?_
        · obtain ⟨q, hq⟩ := Option.isSome_iff_exists.mp hs
          have e68 := e67.trans e8
          have dx8 := Dp.mono e68 _ _ dx1
          obtain ⟨b, _, rfl, _, _⟩ := dx1.tupI
          have hY8 := hY.mono e68
          have rf : rowF own (L st) m = some (q, m.1, m.2) := by
            show (walkD own (L st) m).map _ = _
            rw [hq]
            rfl
          have new : mkK st m ∉ ys.map (·.1) := by
            rw [keys_prj ey]
            intro h
            obtain ⟨m2, hm2, e⟩ := List.mem_map.mp h
            obtain rfl := mkK_inj e
            obtain ⟨r, hr, er⟩ := List.mem_map.mp hm2
            obtain ⟨m3, hm3, e3⟩ := List.mem_filterMap.mp hr
            have : m3 = r.2 := by
              obtain ⟨_, _, rfl⟩ := Option.map_eq_some_iff.mp e3
              rfl
            rw [this, er] at hm3
            obtain ⟨j, hj, ej⟩ := List.mem_iff_getElem.mp hm3
            rw [List.length_take] at hj
            rw [List.getElem_take] at ej
            obtain ⟨hi, ei⟩ := List.getElem?_eq_some_iff.mp hm
            have := (List.getElem?_inj (j := j) hi anod).mp (by rw [hm, List.getElem?_eq_getElem (by omega), ej])
            omega
          have yl : ys.length ≤ 11425 := by
            have h1 := congrArg List.length ey
            rw [List.length_map, List.length_map] at h1
            have h2 := List.length_filterMap_le (rowF own (L st)) ((allD own (L z)).take i)
            rw [List.length_take] at h2
            omega
          refine ⟨_, rfl, _, rfl, _, rfl, du, ys, mkK st m, b, rfl, rfl, hY8, ⟨by rw [mkK_data]; exact dx8, mkK_depth _ _⟩, new, by omega, ?_⟩
          have hd8 := hY8.at_
          refine ⟨Ex.mut (eH.trans e68) ndu, by rw [upd_ne duu.symm]; exact e68 _ _ hpu', DpAll.updN hd8 _ _ (noL_mks _ _) (DpAll.mono e68 _ _ dus'), ys ++ [(mkK st m, b, oV (walkD own (L st) m))], _, _, rfl, ⟨upd_same, fun y hy => ?_⟩, ?_⟩
          · rcases List.mem_append.mp hy with hy | hy
            · have := hY8.keys y hy
              exact ⟨Dp.updN hd8 _ _ (noL_key2 _) this.1, this.2⟩
            · rw [List.mem_singleton] at hy
              subst hy
              exact ⟨Dp.updN hd8 _ _ (noL_key2 _) (by rw [mkK_data]; exact dx8), mkK_depth _ _⟩
          · rw [tk, rf, List.map_append, List.map_append, ey, hq]
            rfl
        · have hq : walkD own (L st) m = none := by simpa using hn
          have rf : rowF own (L st) m = none := by
            show (walkD own (L st) m).map _ = _
            rw [hq]
            rfl
          have e68 := e67.trans e8
          refine ⟨eH.trans e68, e68 _ _ hpu', DpAll.mono e68 _ _ dus', ys, _, _, rfl, hY.mono e68, ?_⟩
          rw [tk, rf, ey]
          simp
      · rintro σ' H' ⟨eH, hpu', dus', ys, v7, v8, rfl, hY, ey⟩
        have ul : us.length = (allD own (L z)).length := by rw [dus'.len, List.length_map]
        rw [ul, List.take_length] at ey
        have ey : ys.map prj = (rowsD own (L st) (L z)).map (kv st) := by rw [rows_all]; exact ey
        have hT' := hT.mono eH
        have hp' := eH _ _ hp2
        have dx' := DpAll.mono eH _ _ dx2
        have pe := made_perm own (L st) (L z)
        have lr : rows.length = (madeD own (L st) (L z)).length := by
          have := congrArg List.length ep
          rw [List.length_map, List.length_map] at this
          exact this
        have ly : ys.length = (rowsD own (L st) (L z)).length := by
          have := congrArg List.length ey
          rw [List.length_map, List.length_map] at this
          exact this
        have lx : xs.length = rows.length := by rw [dx'.len, List.length_map, lr]
        have nodY : (ys.map (·.1)).Nodup := by
          rw [keys_prj ey]
          exact nodup_map_inj (fun a b h => mkK_inj h) nodK
        have nodR : (rows.map (·.1)).Nodup := by
          rw [keys_prj ep]
          exact nodup_map_inj (fun a b h => mkK_inj h) nodM
        have self : valN rows (mkK st ([], none)) = some (.str st) := by
          have hr : ((L st, [], none) : Row) ∈ madeD own (L st) (L z) := pe.mem_iff.mpr (mem_rows.mpr ⟨none_all, rfl⟩)
          obtain ⟨x, hx, e⟩ := prj_mem ep hr
          have e1 : x.1 = mkK st ([], none) := congrArg Prod.fst e
          have e2 : x.2.2 = .str (TX.T (L st)) := congrArg Prod.snd e
          have := valN_at nodR hx
          rw [e1, e2, T_L] at this
          exact this
        have hits : ∀ x ∈ rows, ∃ z, x.2.2 = .str z ∧ valN ys x.1 = some (.str z) := fun x hx => by
          obtain ⟨r, hr, e⟩ := prj_back ep hx
          have e1 : x.1 = mkK st r.2 := congrArg Prod.fst e
          have e2 : x.2.2 = .str (TX.T r.1) := congrArg Prod.snd e
          obtain ⟨y, hy, e'⟩ := prj_mem ey (pe.mem_iff.mp hr)
          have f1 : y.1 = mkK st r.2 := congrArg Prod.fst e'
          have f2 : y.2.2 = .str (TX.T r.1) := congrArg Prod.snd e'
          have := valN_at nodY hy
          rw [f1, f2] at this
          exact ⟨_, e2, by rw [e1]; exact this⟩
        refine q_when (b := false) (et_is (et_or (a := false) (b := false) (et_is (et_test (ev_op (ev_cb (ea_cons (ev_var rfl) ea_nil) (rc_lenL (K := K) (sq_of hp'))) (ev_cb (ea_cons (ev_var rfl) ea_nil) (rc_val (z := .int rows.length) fun H1 e Q q => ⟨td, rows, rfl, hT'.mono e, q⟩)) (rv_ne rfl))) (by rw [lx]; simp)) fun _ =>
            et_is (et_or (a := false) (b := false) (et_test (ev_op (ev_var rfl) (ev_var rfl) (fun H1 e Q q => ⟨td, du, rows, ys, rfl, rfl, hT'.mono e, hY.mono e, by rw [lr, ly]; exact pe.length_eq, hits, q H1 (Ex.refl _)⟩))) fun _ =>
              et_is (et_test (ev_op (ev_is (ev_nget (k := mkK st ([], none)) hT' (ev_var rfl) (by rw [mkK_data]; exact eg_tupD (ds := [.str st, .none, .tuple []]) (ear_vD (ev_var rfl) (.str _) (ear_vD ev_c .non (ear_gD (eg_tupD ear_nilD (by show 0 ≤ 1000; decide)) ear_nilD))) (by show 3 ≤ 1000; decide)) (fun H v dv => by rw [mkK_data] at dv; obtain ⟨b, _, rfl, _, _⟩ := dv.tupI; exact ⟨b, rfl⟩) (mkK_depth _ _)) (by rw [self]; rfl)) (ev_var rfl) (rv_ne (x := .str st) (y := .str st) rfl))) (by simp)) rfl) rfl) (fun h => by cases h) fun _ H1 e1 => ?_
        refine s_ret (ev_var rfl) fun H3 e3 => k p xs H3 np0 ((e1.trans e3) _ _ hp') (DpAll.mono (e1.trans e3) _ _ dx') (e02.trans (eH.trans (e1.trans e3)))

/-! ### k06names -/
/-- a tuple that reads as these data -/
def EvTD (K : PySem.W.Frag) (te : TE) (σ : L2.St) (H : Hp) (ds : List PyData) : Prop := ∀ H1, Ex H H1 → ∀ Q : VK, (∀ p xs H2, Ex H1 H2 → SqT K H2 p xs → DpAll K H2 xs ds → Q (.ref p) H2) → te σ H1 Q
theorem sIx_one (n d : Nat) : HT.sIx n d (some (1 : Int)) = min 1 n := HT.sIx_nat n d 1
/-- t[:1] -/
theorem etd_first {σ : L2.St} {H : Hp} {te : TE} {T0 : Addr} {xs : List V} {ds : List PyData} (h : Ev te σ H (.ref T0)) (hT : SqT K H T0 xs) (hd : DpAll K H xs ds) : EvTD K (L2.tSl (rSlA K) te tNoPart (tPart (tC (.int 1)))) σ H (ds.take 1) := fun H1 e Q q =>
  h H1 e _ fun H2 e2 => ⟨1, rfl, T0, xs, rfl, ex_t (e.trans e2) hT, fun hw => by
    have h1 : min 1 xs.length = xs.length := by
      have := hw.2
      rw [sIx_one] at this
      exact this
    have hl := hd.len
    have : ds.take 1 = ds := List.take_of_length_le (by omega)
    rw [this] at q
    exact q T0 xs H2 e2 (ex_t (e.trans e2) hT) (DpAll.mono (e.trans e2) _ _ hd), fun hw p np => by
    have ec : cutV xs none (some (1 : Int)) = xs.take 1 := by
      unfold cutV
      rw [sIx_one, HT.sIx_none, List.drop_zero, Nat.sub_zero]
      rcases Nat.le_total 1 xs.length with h | h
      · rw [Nat.min_eq_left h]
      · rw [Nat.min_eq_right h, List.take_of_length_le (Nat.le_refl _), List.take_of_length_le h]
    rw [ec]
    exact q p _ _ (e2.trans (Ex.new np)) (st_of upd_same) (DpAll.mono ((e.trans e2).trans (Ex.new np)) _ _ (DpAll.takeN 1 hd))⟩
where
  DpAll.takeN {H : Hp} : ∀ (n : Nat) {xs : List V} {ds : List PyData}, DpAll K H xs ds → DpAll K H (xs.take n) (ds.take n)
  | 0, _, _, _ => by rw [List.take_zero, List.take_zero]; exact .nil
  | n + 1, _, _, .nil => by rw [List.take_nil, List.take_nil]; exact .nil
  | n + 1, _, _, .cons h1 h2 => by rw [List.take_succ_cons, List.take_succ_cons]; exact .cons h1 (DpAll.takeN n h2)
def spNot (K : PySem.W.Frag) : Sp := fun vs H Q _ => ∃ v st m c, vs = [v, .str (TX.T [c])] ∧ Dp K H v (mkP st m) ∧ ∀ H', Ex H H' → Q (.bl (namesNot c m)) H'
theorem ok_l_names_not (T : Txt K mg A) : FnOk P w K mg base CX0 1 A.f_l_names_not A.d_l_names_not P_l_names_not (spNot K) := by
  refine T.F_l_names_not.ok sc_l_names_not (fun vs H Q E h => ?_) (fun cdv A' outer s H vs Q E hr h => ?_)
  · obtain ⟨v, st, m, c, rfl, _⟩ := h
    rfl
  · obtain ⟨v, st, m, c, rfl, hm, k⟩ := h
    refine ⟨_, (pss_cons (ps_setLc (i := 2) (own := [("_law_pair", 3)]) (by rfl) sc_l_names_not.nd rfl rfl (sw_true rfl rfl rfl (by decide +kernel)) (pi_tup (pe_slice sl_tupA (pe_ix ix_tup (pv 0) pe_int (fun _ _ => rfl)) po_none (po_some pe_int))) (blkOk_by (own := [("_law_pair", 3)]) (N := N_l_names_not) (sc := defScope s_l_names_not) (by decide +kernel)) (fun _ _ _ _ _ => (pg_name (i := 3) sc_l_names_not.nd rfl (Or.inl rfl))) (fun _ _ _ _ _ => pts_nil) (fun _ _ _ _ _ => (pe_ix (ix_tupK (K := K) rfl) (pv 3) pe_int (fun _ _ => rfl))))
      (pss_one (ps_ret (pe_and (pe_cmpR op_notIn_seq (pv 1) (pv 2) (by rfl)) (pe_one (pe_or (pe_cmpR op_isN (pe_ix ix_tup (pv 0) pe_int (fun _ _ => rfl)) pe_non (nomark _)) (pe_one (pe_cmpR op_ne (pe_ix ix_tup (pe_ix ix_tup (pv 0) pe_int (fun _ _ => rfl)) pe_int (fun _ _ => rfl)) (pv 1) (nomark _))))))))), ?_⟩
    obtain ⟨Tm, xm, rfl, hTm, dxm⟩ := hm.tupI
    obtain ⟨s1, x2, rfl, ds1, d2⟩ := dxm.consI
    obtain ⟨b1, x3, rfl, db1, d3⟩ := d2.consI
    obtain ⟨e1, x4, rfl, de1, d4⟩ := d3.consI
    obtain rfl := d4.nilI
    obtain ⟨Te, ex, rfl, hTe, dex⟩ := de1.tupI
    refine q_asgV (R := fun H3 v => ∃ p, v = .ref p ∧ H3 p = some (.lst ((m.1.take 1).map fun p => V.str (TX.T [p.1])))) (fun H0 e0 Q0 q0 => ?_) fun v H2 e2 hv => ?_
    · have hs : EvTD K (L2.tSl (rSlA K) (tOp (rIxT K) (tVar 0) (tC (.int 2))) tNoPart (tPart (tC (.int 1)))) [some (.ref Tm), some (.str (TX.T [c])), none, none] H0 ((m.1.map pairP).take 1) := etd_first (ev_op (ev_var rfl) ev_c (rv_ixT (ex_t e0 hTm) (atI_nat (j := 2) rfl))) (ex_t e0 hTe) (DpAll.mono e0 _ _ dex)
      refine hs H0 (Ex.refl _) _ fun p xs H1 e1 hp dx => ⟨p, rfl, ⟨xs, hp⟩, fun Dl nD => ?_⟩
      refine lc_tup (xs := xs) (fun i H' => H1 Dl = none ∧ Ex H1 H' ∧ H' Dl = some (.lst (((m.1.take 1).take i).map fun p => V.str (TX.T [p.1])))) ⟨nD, Ex.new nD, by rw [List.take_zero]; exact upd_same⟩ (fun i H' _ h => ex_t h.2.1 hp) (fun i x H' hi h => ?_) fun H' h => ?_
      · obtain ⟨p1, p2, p3⟩ := h
        obtain ⟨d, hd, dv⟩ := dx.get hi
        rw [← List.map_take, List.getElem?_map] at hd
        obtain ⟨pr, hpr, rfl⟩ := Option.map_eq_some_iff.mp hd
        obtain ⟨Tf, fv, rfl, hTf, dfv⟩ := dv.tupI
        obtain ⟨n1, fr, rfl, dn1, dfr⟩ := dfv.consI
        obtain rfl := dn1.strI
        refine ⟨rfl, ?_⟩
        show tOp (rIxT K) (tVar 3) (tC (.int 0)) [none, none, none, some (.ref Tf)] H' fun y H4 => ∃ acc, H4 Dl = some (.lst acc) ∧ acc.length < sizeLine ∧ _
        have hv : Ev (tOp (rIxT K) (tVar 3) (tC (.int 0))) [none, none, none, some (.ref Tf)] H' (.str (TX.T [pr.1])) := ev_op (ev_var rfl) ev_c (rv_ixT (ex_t p2 hTf) (atI_nat (j := 0) rfl))
        refine hv H' (Ex.refl _) _ fun H4 e4 => ⟨_, e4 _ _ p3, sz_lt (by rw [List.length_map, List.length_take, List.length_take]; omega), p1, Ex.mut (p2.trans e4) p1, ?_⟩
        have tk : (m.1.take 1).take (i + 1) = (m.1.take 1).take i ++ [pr] := by rw [List.take_add_one (l := m.1.take 1), hpr]; rfl
        rw [upd_same, tk, List.map_append]
        rfl
      · obtain ⟨p1, p2, p3⟩ := h
        have : xs.length = (m.1.take 1).length := by rw [dx.len, ← List.map_take, List.length_map]
        rw [this, List.take_length] at p3
        exact q0 _ _ (e1.trans p2) ⟨Dl, rfl, p3⟩
    · obtain ⟨p, rfl, hp⟩ := hv
      have hb : b1 = .non ∧ m.2 = none ∨ ∃ pr Tb xb, m.2 = some pr ∧ b1 = .ref Tb ∧ SqT K H Tb (.str (TX.T [pr.1]) :: xb) := by
        cases hb : m.2 with
        | none => rw [hb] at db1; exact .inl ⟨db1.nonI, rfl⟩
        | some pr =>
          rw [hb] at db1
          obtain ⟨Tf, fv, rfl, hTf, dfv⟩ := (show Dp K H b1 (pairP pr) from db1).tupI
          obtain ⟨n1, fr, rfl, dn1, dfr⟩ := dfv.consI
          obtain rfl := dn1.strI
          exact .inr ⟨pr, Tf, fr, rfl, rfl, hTf⟩
      have hin : (!inV (.str (TX.T [c])) ((m.1.take 1).map fun p => V.str (TX.T [p.1]))) = decide (∀ p, m.1.head? = some p → p.1 ≠ c) := by
        cases hm1 : m.1 with
        | nil => simp [inV]
        | cons q r =>
          have : (eqV (V.str (TX.T [q.1])) (.str (TX.T [c]))) = decide (q.1 = c) := by
            rw [Bool.eq_iff_iff]
            simp only [eqV, beq_iff_eq, decide_eq_true_eq]
            exact ⟨fun h => by simpa using T_inj h, fun h => by rw [h]⟩
          simp [inV, this]
      have hsec : Ev (tOrV (tOp (fun x y H Q => y = .non ∧ Q (.bl (decide (x = .non))) H) (tOp (rIxT K) (tVar 0) (tC (.int 1))) (tC .non)) (tOp rNe (tOp (rIxT K) (tOp (rIxT K) (tVar 0) (tC (.int 1))) (tC (.int 0))) (tVar 1))) [some (.ref Tm), some (.str (TX.T [c])), some (.ref p), none] H2 (.bl (decide (∀ p, m.2 = some p → p.1 ≠ c))) := by
        have g1 : ∀ {H3 : Hp}, Ex H2 H3 → Ev (tOp (rIxT K) (tVar 0) (tC (.int 1))) [some (.ref Tm), some (.str (TX.T [c])), some (.ref p), none] H3 b1 := fun e3 => ev_op (ev_var rfl) ev_c (rv_ixT (ex_t (e2.trans e3) hTm) (atI_nat (j := 1) rfl))
        rcases hb with ⟨rfl, hn⟩ | ⟨pr, Tb, xb, hs, rfl, hTb⟩
        · exact ev_is (ev_orV (a := true) (b := true) (ev_op (g1 (Ex.refl _)) ev_c rv_isN) (fun h => by cases h)) (by rw [hn]; simp)
        · refine ev_is (ev_orV (a := false) (b := !decide (V.str (TX.T [pr.1]) = V.str (TX.T [c]))) (ev_op (g1 (Ex.refl _)) ev_c rv_isN) fun _ => ev_op (ev_op (g1 (Ex.refl _)) ev_c (rv_ixT (ex_t e2 hTb) (atI_nat (j := 0) rfl))) (ev_var rfl) (rv_ne rfl)) ?_
          rw [hs]
          congr 1
          rw [Bool.eq_iff_iff]
          rw [Bool.false_or, Bool.not_eq_true', decide_eq_false_iff_not, decide_eq_true_eq]
          refine ⟨fun h p e e2 => h ?_, fun h e => h pr rfl (by simpa using (T_inj (V.str.inj e) : [pr.1] = [c]))⟩
          cases e
          rw [e2]
      refine s_ret (v := .bl (namesNot c m)) (ev_andV (ev_is (ev_op (ev_var rfl) (ev_var rfl) (fun H1 e Q q => ⟨p, _, rfl, Or.inl (sq_of (e _ _ hp)), rfl, by rw [List.all_map]; exact List.all_eq_true.mpr fun _ _ => rfl, q H1 (Ex.refl _)⟩)) (by rw [← hin]; rfl)) fun _ => hsec) fun H3 e3 => k H3 (e2.trans e3)

/-! ### k06many -/
/-! what is built stays while a dict grows -/
theorem CondAt.updK {C p y : Addr} {u o : HO} {H : Hp} {z : Str} {ps : List (List Nat)} (c : CondAt C H p z ps) (hy : H y = some u) (h1 : ∀ xs, u ≠ .lst xs) (h2 : ∀ C dx fs, u ≠ .ins C dx fs) : CondAt C (upd H y o) p z ps := by
  obtain ⟨⟨dx, q, k1, k2⟩, r⟩ := c
  refine ⟨⟨dx, q, ?_, ?_⟩, r⟩
  · rw [upd_ne (fun e => by rw [e, hy] at k1; exact h2 _ _ _ (Option.some.inj k1))]
    exact k1
  · rw [upd_ne (fun e => by rw [e, hy] at k2; exact h1 _ (Option.some.inj k2))]
    exact k2
theorem RObj.updK {y : Addr} {u o : HO} {H : Hp} {e : Bool} {v : V} {r : RuleD} (h : RObj A H e v r) (hy : H y = some u) (h1 : ∀ xs, u ≠ .lst xs) (h2 : ∀ C dx fs, u ≠ .ins C dx fs) : RObj A (upd H y o) e v r := by
  obtain ⟨x, rfl, k1, k2⟩ := h
  refine ⟨x, rfl, ?_, k2⟩
  cases e with
  | true =>
    obtain ⟨dx, c, k3, k4⟩ := k1
    exact ⟨dx, c, by rw [upd_ne (fun e => by rw [e, hy] at k3; exact h2 _ _ _ (Option.some.inj k3))]; exact k3, k4.updK hy h1 h2⟩
  | false =>
    obtain ⟨dx, c, k3, k4⟩ := k1
    exact ⟨dx, c, by rw [upd_ne (fun e => by rw [e, hy] at k3; exact h2 _ _ _ (Option.some.inj k3))]; exact k3, k4.updK hy h1 h2⟩
theorem BandAt.updK {y a : Addr} {u o : HO} {H : Hp} {b : BandD} (h : BandAt A H a b) (hy : H y = some u) (h1 : ∀ xs, u ≠ .lst xs) (h2 : ∀ C dx fs, u ≠ .ins C dx fs) : BandAt A (upd H y o) a b := by
  obtain ⟨dx, rl, xs, k1, k2, k3, k4⟩ := h
  refine ⟨dx, rl, xs, ?_, ?_, k3.imp fun v r k => k.updK hy h1 h2, k4⟩
  · rw [upd_ne (fun e => by rw [e, hy] at k1; exact h2 _ _ _ (Option.some.inj k1))]
    exact k1
  · rw [upd_ne (fun e => by rw [e, hy] at k2; exact h1 _ (Option.some.inj k2))]
    exact k2
theorem putK_length (kvs : List (Key × V)) (k : Key) (v : V) : (putK kvs k v).length ≤ kvs.length + 1 := by
  unfold putK
  split
  · rw [List.length_map]; omega
  · rw [List.length_append]; exact Nat.le_refl _
def BanV (A : Ad) (H : Hp) (kvs : List (Key × V)) (own : OwnD) : Prop := ∀ n b, fnd own n = some b → ∃ o, valV kvs (.inr n) = some (.ref o) ∧ BandAt A H o b
theorem BanV.mono {H H' : Hp} {kvs : List (Key × V)} {own : OwnD} (h : BanV A H kvs own) (e : Ex H H') : BanV A H' kvs own := fun n b hb => by
  obtain ⟨v, h1, h2⟩ := h n b hb
  exact ⟨v, h1, h2.mono e⟩
theorem BanV.updK {y : Addr} {ks : List (Key × V)} {o : HO} {H : Hp} {kvs : List (Key × V)} {own : OwnD} (h : BanV A H kvs own) (hy : H y = some (.dK ks)) : BanV A (upd H y o) kvs own := fun n b hb => by
  obtain ⟨v, h1, h2⟩ := h n b hb
  exact ⟨v, h1, h2.updK hy (fun _ z => by cases z) fun _ _ _ z => by cases z⟩
theorem BanV.put {H : Hp} {kvs : List (Key × V)} {own : OwnD} {n : Str} {o : Addr} {b : BandD} (h : BanV A H kvs own) (hn : n ∉ own.map (·.1)) (hv : BandAt A H o b) : BanV A H (putK kvs (.inr n) (.ref o)) (own ++ [(n, b)]) := fun m c hc => by
  rw [fnd_snoc (fnd_none hn)] at hc
  rw [valV_put]
  by_cases e : n = m
  · subst e
    rw [if_pos rfl] at hc
    cases hc
    exact ⟨o, if_pos rfl, hv⟩
  · rw [if_neg e] at hc
    rw [if_neg (fun h => e (by cases h; rfl))]
    exact h m c hc
section
variable {σ : L2.St} {H : Hp} {te ts : TE} {D : Ends} {tz : TS}
/-- a comprehension over a text's signs, its items told by the heap -/
theorem lcGS {w : Str} {vs : List Nat} {j : Nat} {R : Addr → Nat → Hp → V → Prop} (mo : ∀ p i H H' v, Ex H H' → R p i H v → R p i H' v) (h : Ev ts σ H (.str w)) (hz : w.cps.size ≤ 40000) (hw : ∀ x, wipe ((wipe σ vs).set j (some x)) vs = wipe σ vs)
    (he : ∀ (i c : Nat) H1 Dl ys, Ex H H1 → H Dl = none → H1 Dl = some (.lst ys) → (L w)[i]? = some c → EvG (fun H4 v => ∀ zs, R Dl i (upd H4 Dl (.lst zs)) v) te ((wipe σ vs).set j (some (.str (TX.T [c])))) H1) :
    EvLG R w.cps.size (tLc (iStr ts) (gName j) tYes te vs) σ H := fun H0 e Q q =>
  h H0 e _ fun H1 e1 => ⟨w, rfl, fun Dl hD =>
    lc_it (walk_str (z := w)) (Cg R H1 Dl) ⟨hD, Ex.new hD, [], upd_same, rfl, fun j y h => by simp at h⟩ (fun _ _ _ _ => True.intro) (fun i x H' H'' hi p y => by
      obtain ⟨rfl, c, hc, rfl⟩ := y
      obtain ⟨p1, p2, ys, p3, p4, p5⟩ := p
      have hc' : (L w)[i]? = some c := by
        show w.cps.toList[i]? = some c
        rw [Array.getElem?_toList]
        exact hc
      refine ⟨hw _, ?_⟩
      show te ((wipe σ vs).set j (some (.str (TX.T [c])))) H'' fun y H4 => ∃ acc, H4 Dl = some (.lst acc) ∧ acc.length < sizeLine ∧ Cg R H1 Dl (i + 1) (upd H4 Dl (.lst (acc ++ [y])))
      refine he i c H'' Dl ys ((e.trans e1).trans p2) (fresh_back (e.trans e1) p1) p3 hc' H'' (Ex.refl _) _ fun v H4 e4 pv => ⟨ys, e4 _ _ p3, sz_lt (by omega), p1, Ex.mut (p2.trans e4) p1, ys ++ [v], upd_same, by rw [List.length_append, p4]; rfl, fun j y hj zs => ?_⟩
      rw [upd_upd]
      rcases Nat.lt_or_ge j ys.length with hlt | hge
      · rw [List.getElem?_append_left hlt] at hj
        exact mo _ _ _ _ _ (Ex.both e4) (p5 j y hj zs)
      · have hj2 : j = ys.length := by
          have := (List.getElem?_eq_some_iff.mp hj).1
          rw [List.length_append] at this
          have h1 : [v].length = 1 := rfl
          omega
        subst hj2
        rw [List.getElem?_append_right (Nat.le_refl _), Nat.sub_self] at hj
        cases hj
        rw [p4]
        exact pv zs)
      (fun H' p => by
        obtain ⟨p1, p2, ys, p3, p4, p5⟩ := p
        refine q Dl ys H' (fresh_back e1 p1) (e1.trans p2) p3 p4 fun j y hj => ?_
        have := p5 j y hj ys
        rw [updSelf p3] at this
        exact this)⟩
/-- a Band of a new list of rules -/
theorem eg_bandL {K : PySem.W.Frag} {R : Addr → Nat → Hp → V → Prop} {n : Nat} {e : Bool} {rs : List RuleD} {k : Str} (hk : k = kindS e) (h : EvLG R n te σ H) (cv : ∀ p xs H1, xs.length = n → (∀ i x, xs[i]? = some x → R p i H1 x) → Pw (RObj A H1 e) xs rs) (h6 : rs.length ≤ 6) :
    EvG (fun H2 v => ∃ o, v = .ref o ∧ BandAt A H2 o (e, rs)) (tMake A.c_Band (spBInit A K) [] E0 (tCons (tC (.str k)) (tCons te tNil))) σ H := fun H1 e1 Q q => h H1 e1 _ fun p xs H2 np e2 hp hl hR => fun x dx hx hdx hne => by
  subst hk
  have em := Ex.made hx hdx hne (o1 := .own x) (o2 := .ins A.c_Band dx [])
  have hP := cv p xs H2 hl hR
  refine ⟨x, dx, p, xs, e, rs, rfl, upd_same, sq_of (em _ _ hp), hP.imp fun v r k => k.mono em, h6, fun qq H' nq hx' hq nqx kp => ⟨rfl, ?_⟩⟩
  have em2 := made_ex hx hdx hne kp
  exact q (.ref x) H' (e2.trans em2) ⟨x, rfl, dx, qq, xs, hx', hq, hP.imp fun v r k => k.mono em2, h6⟩
/-- d[y] = a new thing, the last step -/
theorem s_dputG {td ty tt : TE} {R : Hp → V → Prop} {kvs : List (Key × V)} {d : Addr} {k : Str} (h : EvG R tt σ H) (mo : ∀ H H' v, Ex H H' → R H v → R H' v) (hd : Ev td σ H (.ref d)) (hk : Ev ty σ H (.str k)) (hdk : H d = some (.dK kvs)) (hl : kvs.length < 100000)
    (q : ∀ v H1, Ex H H1 → R H1 v → D.nx σ (upd H1 d (.dK (putK kvs (.inr k) v)))) : sDPut td ty tt D σ H :=
  h H (Ex.refl H) _ fun v H1 e1 h1 => hd H1 e1 _ fun H2 e2 => hk H2 (e1.trans e2) _ fun H3 e3 =>
    ⟨d, _, rfl, Or.inl ⟨kvs, .inr k, ((e1.trans e2).trans e3) _ _ hdk, rfl, sz_lt hl, rfl⟩, q v H3 ((e1.trans e2).trans e3) (mo _ _ _ (e2.trans e3) h1)⟩
end
/-! the classes -/
def rG (c : Nat) : RuleD := ⟨"", TX.T [c], [], []⟩
def rK (c : Nat) : RuleD := ⟨"", TX.T [c, 110], [], [78, 79, 80]⟩
def rN (c : Nat) : RuleD := ⟨"", TX.T [c], [(".", alph)], []⟩
def sg6 : List Nat := [97, 101, 105, 115, 116, 111]
def manyO : OwnD := [(TX.T [71], false, sg6.map rG), (TX.T [75], true, sg6.map rK), (TX.T [76], true, sg6.map rK), (TX.T [77], true, sg6.map rK), (TX.T [78], true, sg6.map rN), (TX.T [79], true, sg6.map rN), (TX.T [80], true, sg6.map rN)]
theorem many_len : (rowsD manyO (L "tea") (L "KLMG")).length = 2401 := by decide +kernel
theorem fnd_in {own : OwnD} {n : Str} {b : BandD} (h : fnd own n = some b) : (n, b) ∈ own := by
  unfold fnd at h
  obtain ⟨e, he, rfl⟩ := Option.map_eq_some_iff.mp h
  have := List.find?_some he
  have hn : e.1 = n := of_decide_eq_true this
  rw [← hn]
  exact List.mem_of_find?_eq_some he
theorem many_deep : Deep manyO := fun n k rs r hf hr c hc => by
  have all : (manyO.all fun e => e.2.2.all fun r => r.g.all fun c => (fnd manyO (TX.T [c])).isSome) = true := by decide +kernel
  have h1 := List.all_eq_true.mp all _ (fnd_in hf)
  exact Option.isSome_iff_exists.mp (List.all_eq_true.mp (List.all_eq_true.mp h1 r hr) c hc)
theorem many_known : Known manyO (L "KLMG") := fun c hc => by
  have all : ((L "KLMG").all fun c => (fnd manyO (TX.T [c])).isSome) = true := by decide +kernel
  exact Option.isSome_iff_exists.mp (List.all_eq_true.mp all c hc)
theorem many_fur : ∀ p, (furD manyO p).Nodup := fun p => by
  unfold furD
  split
  · rename_i rs hf
    split
    · rename_i r hr
      have all : (manyO.all fun e => e.2.2.all fun r => decide r.g.Nodup) = true := by decide +kernel
      have h1 := List.all_eq_true.mp all _ (fnd_in hf)
      exact of_decide_eq_true (List.all_eq_true.mp h1 r (List.mem_of_getElem? hr))
    · exact List.Pairwise.nil
  · exact List.Pairwise.nil
instance decGood4 (c a : Str) (ps : List (Str × Str)) (g : List Nat) : Decidable (lets c = true ∧ c.length ≤ 4 ∧ lets a = true ∧ a.length ≤ 6 ∧ c ≠ a ∧ ps.length ≤ 3 ∧ Fur g) := inferInstance
instance decSigns (z : Str) : Decidable (signs z) := by unfold signs; infer_instance
def goodB (r : RuleD) : Bool := decide (lets r.c = true ∧ r.c.length ≤ 4 ∧ lets r.a = true ∧ r.a.length ≤ 6 ∧ r.c ≠ r.a ∧ r.ps.length ≤ 3 ∧ Fur r.g) && decide (conds (L (txt r.ps)) = some (lst r.ps)) && decide (signs (txt r.ps)) && decide ((txt r.ps).length ≤ 1000)
theorem good_of {r : RuleD} (h : goodB r = true) : Good4 r.c r.a r.ps r.g ∧ conds (L (txt r.ps)) = some (lst r.ps) ∧ signs (txt r.ps) ∧ (txt r.ps).length ≤ 1000 := by
  unfold goodB at h
  simp only [Bool.and_eq_true, decide_eq_true_eq] at h
  obtain ⟨⟨⟨⟨a, b, c, d, e, f, g⟩, h1⟩, h2⟩, h3⟩ := h
  exact ⟨⟨a, b, c, d, e, f, g⟩, h1, h2, h3⟩
theorem goodR_of {r : RuleD} (G : Good4 r.c r.a r.ps r.g) (hc : conds (L (txt r.ps)) = some (lst r.ps)) : GoodR (.str r.c) (.str r.a) (.str (txt r.ps)) := ⟨r.c, r.a, _, rfl, rfl, rfl, G.c1, G.c4, G.a1, G.a6, G.ne, _, hc⟩
/-- the makings alone, as keys -/
theorem keys_of {H : Hp} {st : Str} : ∀ {rows : List Row} {ys : List V}, DpAll K H ys (rows.map fun r => mkP st r.2) →
    ∃ ks : List (NestedKey × Addr), ys = ks.map (fun p => V.ref p.2) ∧ (∀ p ∈ ks, NKey K H p.1 p.2) ∧ ks.map (·.1) = rows.map fun r => mkK st r.2
  | [], _, h => by
    cases h
    exact ⟨[], rfl, (fun _ h => nomatch h), rfl⟩
  | r :: rows, _, h => by
    obtain ⟨v, ys, rfl, h1, h2⟩ := h.consI
    obtain ⟨ks, rfl, hk, e⟩ := keys_of h2
    have h1' := h1
    obtain ⟨b, _, rfl, _, _⟩ := h1.tupI
    refine ⟨(mkK st r.2, b) :: ks, rfl, fun x hx => ?_, by rw [List.map_cons, List.map_cons, e]⟩
    rcases List.mem_cons.mp hx with rfl | hx
    · exact ⟨by rw [mkK_data]; exact h1', mkK_depth _ _⟩
    · exact hk x hx
theorem noL_mkr (stem : Str) (l : List Row) : noLs (l.map fun r => mkP stem r.2) = true := noLs_of fun d hd => by
  obtain ⟨s, _, rfl⟩ := List.mem_map.mp hd
  exact noL_mk stem s.2
def spManyR : Sp := fun vs H Q _ => vs = [] ∧ ∀ H', Ex H H' → Q (.bl true) H'
theorem ok_l_many_right (T : Txt K mg A) : FnOk P w K mg base CX0 11 A.f_l_many_right A.d_l_many_right P_l_many_right spManyR := by
  refine T.F_l_many_right.ok sc_l_many_right (fun vs H Q E h => ?_) (fun cdv A' outer s H vs Q E hr h => ?_)
  · obtain ⟨rfl, _⟩ := h
    rfl
  · obtain ⟨rfl, k⟩ := h
    refine ⟨_, (pss_cons (ps_set (i := 0) sc_l_many_right.nd rfl (Or.inl rfl) pe_str)
      (pss_cons (ps_set (i := 1) sc_l_many_right.nd rfl (Or.inl rfl) (pe_disp (pps_cons pe_str (pe_make T.M_Band (ok_Band_init T) (hr.mono (by decide)) rfl T.g_Band T.b_Band_init .nil pass0 (pa_cons pe_str (pa_cons (pe_lc (own := [("_law_sign", 4)]) (by rfl) sc_l_many_right.nd (pi_str (pv 0)) (blkOk_by (own := [("_law_sign", 4)]) (N := N_l_many_right) (sc := defScope s_l_many_right) (by decide +kernel)) (fun _ _ _ _ _ => (pg_name (i := 4) sc_l_many_right.nd rfl (Or.inl rfl))) (fun _ _ _ _ _ => pts_nil) (fun _ _ _ _ _ => (pe_make T.M_Beginning (ok_Beginning_init T) hr rfl T.g_Beginning T.b_Beginning_init .nil passL (pa_cons pe_str (pa_cons (pv 4) (pa_cons pe_str pa_nil)))))) pa_nil))) pps_nil) (by rfl) (by rfl) (by simp) (by decide)))
      (pss_cons (ps_for PassesOwn.never rfl (pi_str pe_str) (pg_name (i := 2) sc_l_many_right.nd rfl (Or.inl rfl))
      (pss_one (ps_dput (hu_of hr) (pv 1) (pv 2) (pe_make T.M_Band (ok_Band_init T) (hr.mono (by decide)) rfl T.g_Band T.b_Band_init .nil pass0 (pa_cons pe_str (pa_cons (pe_lc (own := [("_law_sign", 4)]) (by rfl) sc_l_many_right.nd (pi_str (pv 0)) (blkOk_by (own := [("_law_sign", 4)]) (N := N_l_many_right) (sc := defScope s_l_many_right) (by decide +kernel)) (fun _ _ _ _ _ => (pg_name (i := 4) sc_l_many_right.nd rfl (Or.inl rfl))) (fun _ _ _ _ _ => pts_nil) (fun _ _ _ _ _ => (pe_make T.M_Ending (ok_Ending_init T) hr rfl T.g_Ending T.b_Ending_init .nil passL (pa_cons pe_str (pa_cons (pe_op op_add_str (pv 4) pe_str) (pa_cons pe_str (pa_cons pe_str pa_nil))))))) pa_nil))) rfl)))
      (pss_cons (ps_for PassesOwn.never rfl (pi_str pe_str) (pg_name (i := 2) sc_l_many_right.nd rfl (Or.inl rfl))
      (pss_one (ps_dput (hu_of hr) (pv 1) (pv 2) (pe_make T.M_Band (ok_Band_init T) (hr.mono (by decide)) rfl T.g_Band T.b_Band_init .nil pass0 (pa_cons pe_str (pa_cons (pe_lc (own := [("_law_sign", 4)]) (by rfl) sc_l_many_right.nd (pi_str (pv 0)) (blkOk_by (own := [("_law_sign", 4)]) (N := N_l_many_right) (sc := defScope s_l_many_right) (by decide +kernel)) (fun _ _ _ _ _ => (pg_name (i := 4) sc_l_many_right.nd rfl (Or.inl rfl))) (fun _ _ _ _ _ => pts_nil) (fun _ _ _ _ _ => (pe_make T.M_Ending (ok_Ending_init T) hr rfl T.g_Ending T.bd_Ending_init.choose_spec.2 T.bd_Ending_init.choose_spec.1 passL (pa_cons pe_str (pa_cons (pv 4) (pa_cons pe_str pa_nil)))))) pa_nil))) rfl)))
      (pss_cons (ps_set (i := 3) sc_l_many_right.nd rfl (Or.inl rfl) (pe_call (ok_made T) (hr.mono (by decide)) rfl T.g_made T.k_made T.b_made .nil pass0 (pa_cons (pv 1) (pa_cons pe_str (pa_cons pe_str pa_nil)))))
      (pss_one (ps_ret (pe_and (pe_cmpR op_eq (pe_callB call_len_seq (by rfl) T.n_len PySem.boot_len (pa_cons (pv 3) pa_nil)) pe_int (nomark _)) (pe_one (pe_cmpR op_eq (pe_lenSetN (by rfl) hr.units (by rfl) T.n_len (by rfl) T.n_set (pe_lc (g := gTup K 2 (gCons (gName 5) (gCons (gName 6) gNil))) (own := [("_law_word", 5), ("_law_making", 6)]) (by rfl) sc_l_many_right.nd (pi_list (pv 3)) (blkOk_by (own := [("_law_word", 5), ("_law_making", 6)]) (N := N_l_many_right) (sc := defScope s_l_many_right) (by decide +kernel)) (fun _ _ _ _ _ => (pg_tup (by rfl) (pgs_cons (pg_name (i := 5) sc_l_many_right.nd rfl (Or.inl rfl)) (pgs_cons (pg_name (i := 6) sc_l_many_right.nd rfl (Or.inl rfl)) pgs_nil)))) (fun _ _ _ _ _ => pts_nil) (fun _ _ _ _ _ => (pv 6)))) pe_int (nomark _))))))))))), ?_⟩
    have eS : L "aeisto" = sg6 := by decide +kernel
    have zS : ("aeisto" : Str).cps.size = 6 := by decide +kernel
    have eK : L "KLM" = [75, 76, 77] := by decide +kernel
    have eN : L "NOP" = [78, 79, 80] := by decide +kernel
    have eG : ("G" : Str) = TX.T [71] := by decide +kernel
    -- the rules of a class
    have rules : ∀ {f : Nat → RuleD} {e : Bool}, (∀ c ∈ sg6, goodB (f c) = true) → ∀ {H0 : Hp} {σ : L2.St} {te : TE} {v : List Nat} {j : Nat}, Ev (tVar 0) σ H0 (.str "aeisto") → (∀ x, wipe ((wipe σ v).set j (some x)) v = wipe σ v) →
        (∀ c ∈ sg6, ∀ H1, Ex H0 H1 → EvG (fun H2 v => ∃ x q, v = .ref x ∧ (if e = true then EndQ A H2 x q (f c).c (f c).a (txt (f c).ps) (TX.T (f c).g) (lst (f c).ps) else RuleQ A A.c_Beginning H2 x q (f c).c (f c).a (txt (f c).ps) (lst (f c).ps)) ∧ H1 q = none) te ((wipe σ v).set j (some (.str (TX.T [c])))) H1) →
        EvLG (fun _ i H2 v => ∀ c, sg6[i]? = some c → RObj A H2 e v (f c)) ("aeisto" : Str).cps.size (tLc (iStr (tVar 0)) (gName j) tYes te v) σ H0 := fun {f e} good {H0 σ te v j} h hw he =>
      lcGS (fun p i H H' v e h c hc => (h c hc).mono e) h (by rw [zS]; decide) hw fun i c H1 Dl ys e1 nD hD hc => by
        rw [eS] at hc
        have mc := List.mem_of_getElem? hc
        have G := (good_of (good c mc)).1
        exact eg_imp (eg_robj (A := A) (e := e) (r := f c) G e1 hD (he c mc H1 e1)) fun H4 v hv zs c' hc' => by
          rw [hc] at hc'
          cases hc'
          exact (hv zs).at
    have pw : ∀ {f : Nat → RuleD} {e : Bool} (xs : List V) (H1 : Hp), xs.length = ("aeisto" : Str).cps.size → (∀ i x, xs[i]? = some x → ∀ c, sg6[i]? = some c → RObj A H1 e x (f c)) → Pw (RObj A H1 e) xs (sg6.map f) := fun {f e} xs H1 hl hh => ⟨by rw [hl, zS]; rfl, fun i x r h1 h2 => by
      rw [List.getElem?_map] at h2
      obtain ⟨c, hc, rfl⟩ := Option.map_eq_some_iff.mp h2
      exact hh i x h1 c hc⟩
    have gG : ∀ c ∈ sg6, goodB (rG c) = true := by decide +kernel
    have gK : ∀ c ∈ sg6, goodB (rK c) = true := by decide +kernel
    have gN : ∀ c ∈ sg6, goodB (rN c) = true := by decide +kernel
    -- the class of beginnings
    refine q_asg (v := .str "aeisto") ev_c fun H0 e0 => ?_
    refine q_asgV (R := fun H3 v => ∃ d kvs, v = .ref d ∧ H0 d = none ∧ H3 d = some (.dK kvs) ∧ kvs.length ≤ 1 ∧ BanV A H3 kvs (manyO.take 1)) (fun H1 e1 Q1 q1 => ?_) fun v H1 e1 hv => ?_
    · dsimp only [tDisp, tPairs, tC]
      intro d nd
      have ed : Ex H1 (upd H1 d (.dK [])) := Ex.new nd
      refine (eg_bandL (A := A) (K := K) (e := false) (rs := sg6.map rG) (by decide +kernel) (rules (f := rG) (e := false) gG (ev_var rfl) (fun _ => rfl) fun c hc H2 e2 => ?_) (fun p xs H1 hl hh => pw xs H1 hl hh) (by decide) : EvG _ _ _ (upd H1 d (.dK []))) _ (Ex.refl _) _ fun v H2 e2 hv => ?_
      · have g := good_of (gG c hc)
        exact eg_makeR2 ⟨T.cl_Beginning, T.na_Beginning_condition, T.na_Beginning_cut, T.na_Beginning_added⟩ (ea_cons ev_c (ea_cons (ev_var rfl) (ea_cons ev_c ea_nil))) (goodR_of g.1 g.2.1) g.2.2.1 g.2.2.2 g.2.1
      · obtain ⟨o, rfl, hB⟩ := hv
        have hd2 := e2 d _ upd_same
        refine ⟨hd2, [(.inr "G", .ref o)], rfl, Nat.le_of_ble_eq_true rfl, ?_⟩
        have h0 : BanV A H2 [] [] := fun n b hb => by cases hb
        have h1 := (h0.put (n := "G") (b := (false, sg6.map rG)) (fun h => nomatch h) hB).updK (o := .dK (mergeK [] [(.inr "G", .ref o)])) hd2
        rw [eG] at h1
        refine q1 _ _ (Ex.mut (ed.trans e2) nd) ⟨d, _, rfl, fresh_back e1 nd, upd_same, Nat.le_of_ble_eq_true rfl, ?_⟩
        rw [eG]
        exact h1
    · obtain ⟨d, kvs, rfl, nd, hd, kl, hV⟩ := hv
      have nd0 : H d = none := fresh_back e0 nd
      have stK : ∀ i c, [75, 76, 77][i]? = some c → manyO.take (i + 1 + 1) = manyO.take (i + 1) ++ [(TX.T [c], true, sg6.map rK)] ∧ TX.T [c] ∉ (manyO.take (i + 1)).map (·.1) := fun i c h => by
        match i, h with
        | 0, h => cases h; exact ⟨rfl, by decide +kernel⟩
        | 1, h => cases h; exact ⟨rfl, by decide +kernel⟩
        | 2, h => cases h; exact ⟨rfl, by decide +kernel⟩
        | n + 3, h => cases h
      have stN : ∀ i c, [78, 79, 80][i]? = some c → manyO.take (i + 1 + 4) = manyO.take (i + 4) ++ [(TX.T [c], true, sg6.map rN)] ∧ TX.T [c] ∉ (manyO.take (i + 4)).map (·.1) := fun i c h => by
        match i, h with
        | 0, h => cases h; exact ⟨rfl, by decide +kernel⟩
        | 1, h => cases h; exact ⟨rfl, by decide +kernel⟩
        | 2, h => cases h; exact ⟨rfl, by decide +kernel⟩
        | n + 3, h => cases h
      have nn : ∀ c ∈ sg6, TX.T [c] ++ ("n" : Str) = TX.T [c, 110] := by decide +kernel
      have n2 : ∀ c ∈ sg6, (TX.T [c]).length + ("n" : Str).length ≤ 100000 := by decide +kernel
      have nop : ("NOP" : Str) = TX.T [78, 79, 80] := by decide +kernel
      have t0 : ("" : Str) = TX.T [] := by decide +kernel
      have x0 : txt [] = "" := by decide +kernel
      have x1 : txt [((".", alph) : Str × Str)] = "." := by decide +kernel
      have f3 : GoodF (.str (TX.T [78, 79, 80])) := ⟨_, rfl, by unfold isFur; decide +kernel⟩
      have f0 : GoodF (.str (TX.T [])) := ⟨_, rfl, by unfold isFur; decide +kernel⟩
      refine q_forS (w := "KLM") ev_c (fun i σ' H' => Ex H H' ∧ ∃ kvs v2, σ' = [some (.str "aeisto"), some (.ref d), v2, none, none, none, none] ∧ H' d = some (.dK kvs) ∧ kvs.length ≤ i + 1 ∧ BanV A H' kvs (manyO.take (i + 1)))
        (fun H2 e2 => ⟨e0.trans (e1.trans e2), kvs, none, rfl, e2 _ _ hd, kl, hV.mono e2⟩) ?_ ?_
      · rintro i c σ' H' hc ⟨eH, kvs, v2, rfl, hd, kl, hV⟩
        rw [eK] at hc
        obtain ⟨s1, s2⟩ := stK i c hc
        have i3 : i < 3 := (List.getElem?_eq_some_iff.mp hc).1
        refine s_dputG (R := fun H2 v => ∃ o, v = .ref o ∧ BandAt A H2 o (true, sg6.map rK)) (k := TX.T [c]) (eg_bandL (A := A) (K := K) (e := true) (rs := sg6.map rK) (by decide +kernel) (rules (f := rK) (e := true) gK (ev_var rfl) (fun _ => rfl) fun c hc H2 e2 => ?_) (fun p xs H1 hl hh => pw xs H1 hl hh) (by decide))
          (fun H H' v e h => by obtain ⟨o, rfl, h⟩ := h; exact ⟨o, rfl, h.mono e⟩) (ev_var rfl) (ev_var rfl) hd (by omega) fun v H1 e1 hv => ?_
        · have g := good_of (gK c hc)
          exact eg_makeE2 T (dvs := []) (c := "") (a := TX.T [c, 110]) (k := txt (rK c).ps) (f := TX.T [78, 79, 80]) (ea_cons ev_c (ea_cons (ev_is (ev_op (ev_var rfl) ev_c (rv_addS (n2 c hc))) (by rw [nn c hc])) (ea_cons (ev_is ev_c (by show V.str "" = V.str (txt []); rw [x0])) (ea_cons (ev_is ev_c (by rw [nop])) ea_nil)))) rfl (goodR_of g.1 g.2.1) f3 (by decide +kernel) (by decide +kernel) g.2.2.1 g.2.2.2 g.2.1
        · obtain ⟨o, rfl, hB⟩ := hv
          have hd1 := e1 _ _ hd
          refine ⟨Ex.mut (eH.trans e1) nd0, _, _, rfl, upd_same, ?_, ?_⟩
          · have := putK_length kvs (.inr (TX.T [c]) : Key) (.ref o)
            omega
          · rw [s1]
            exact (((hV.mono e1).put s2 hB).updK hd1)
      · rintro σ' H' ⟨eH, kvs, v2, rfl, hd, kl, hV⟩
        rw [eK] at kl hV
        refine q_forS (w := "NOP") ev_c (fun i σ' H' => Ex H H' ∧ ∃ kvs v2, σ' = [some (.str "aeisto"), some (.ref d), v2, none, none, none, none] ∧ H' d = some (.dK kvs) ∧ kvs.length ≤ i + 4 ∧ BanV A H' kvs (manyO.take (i + 4)))
          (fun H2 e2 => ⟨eH.trans e2, kvs, v2, rfl, e2 _ _ hd, kl, hV.mono e2⟩) ?_ ?_
        · rintro i c σ' H' hc ⟨eH, kvs, v2, rfl, hd, kl, hV⟩
          rw [eN] at hc
          obtain ⟨s1, s2⟩ := stN i c hc
          have i3 : i < 3 := (List.getElem?_eq_some_iff.mp hc).1
          refine s_dputG (R := fun H2 v => ∃ o, v = .ref o ∧ BandAt A H2 o (true, sg6.map rN)) (k := TX.T [c]) (eg_bandL (A := A) (K := K) (e := true) (rs := sg6.map rN) (by decide +kernel) (rules (f := rN) (e := true) gN (ev_var rfl) (fun _ => rfl) fun c hc H2 e2 => ?_) (fun p xs H1 hl hh => pw xs H1 hl hh) (by decide))
            (fun H H' v e h => by obtain ⟨o, rfl, h⟩ := h; exact ⟨o, rfl, h.mono e⟩) (ev_var rfl) (ev_var rfl) hd (by omega) fun v H1 e1 hv => ?_
          · have g := good_of (gN c hc)
            exact eg_makeE2 T (dvs := [.str ""]) (c := "") (a := TX.T [c]) (k := txt (rN c).ps) (f := TX.T []) (ea_cons ev_c (ea_cons (ev_var rfl) (ea_cons (ev_is ev_c (by show V.str "." = V.str (txt [(".", alph)]); rw [x1])) ea_nil))) (by rw [← t0]; rfl) (goodR_of g.1 g.2.1) f0 (by decide +kernel) (by decide +kernel) g.2.2.1 g.2.2.2 g.2.1
          · obtain ⟨o, rfl, hB⟩ := hv
            have hd1 := e1 _ _ hd
            refine ⟨Ex.mut (eH.trans e1) nd0, _, _, rfl, upd_same, ?_, ?_⟩
            · have := putK_length kvs (.inr (TX.T [c]) : Key) (.ref o)
              omega
            · rw [s1]
              exact (((hV.mono e1).put s2 hB).updK hd1)
        · rintro σ' H' ⟨eH, kvs, v2, rfl, hd, kl, hV⟩
          rw [eN] at hV
          have hV : BanV A H' kvs manyO := hV
          have pe := made_perm manyO (L "tea") (L "KLMG")
          have ml : (madeD manyO (L "tea") (L "KLMG")).length = 2401 := pe.length_eq.trans many_len
          refine q_asgC (ea_cons (ev_var rfl) (ea_cons ev_c (ea_cons ev_c ea_nil))) fun H1 e1 => ⟨d, "tea", "KLMG", manyO, rfl, ⟨kvs, Or.inl (e1 _ _ hd), hV.mono e1⟩, many_deep, many_known, by decide +kernel, by decide +kernel, fun p xs H2 np hp dx e2 => ?_⟩
          have xl : xs.length = 2401 := by rw [dx.len, List.length_map, ml]
          refine s_ret (v := .bl true) (ev_andV (a := true) (b := true) (ev_is (ev_op (ev_cb (ea_cons (ev_var rfl) ea_nil) (rc_lenL (K := K) (sq_of hp))) ev_c (rv_eq rfl)) (by rw [xl]; rfl)) fun _ => ev_is (ev_op (x := .int 2401) (fun H3 e3 Q3 q3 => ?_) ev_c (rv_eq rfl)) (by simp)) fun H3 e3 => k H3 (eH.trans (e1.trans (e2.trans e3)))
          refine (lcD (es := (madeD manyO (L "tea") (L "KLMG")).map fun r => mkP "tea" r.2) (ds := (madeD manyO (L "tea") (L "KLMG")).map (rowP "tea")) (esd_v (ev_var rfl) hp dx) (by rw [List.length_map, List.length_map]) (by rw [List.length_map]; omega) (noL_mkr _ _) fun i d1 e1' v H3 Dl ys ex nD hD hd he dv => ?_ : EvLD K _ _ H2 _) H3 e3 _ fun pl ys H4 npl e4 hpl dy => ?_
          · rw [List.getElem?_map] at hd he
            obtain ⟨r, hr, rfl⟩ := Option.map_eq_some_iff.mp hd
            rw [hr] at he
            cases he
            obtain ⟨Tx, xv, rfl, hTx, dxv⟩ := dv.tupI
            obtain ⟨w1, xr, rfl, dw1, dxr⟩ := dxv.consI
            obtain ⟨mk, xr2, rfl, dmk, dxr2⟩ := dxr.consI
            obtain rfl := dxr2.nilI
            exact ⟨[some (.str "aeisto"), some (.ref d), v2, some (.ref p), none, some w1, some mk], fun Q1 q1 => ⟨Tx, _, rfl, hTx, rfl, _, _, rfl, _, _, rfl, rfl, q1⟩, rfl, eg_v (ev_var rfl) fun H5 e5 => Dp.mono e5 _ _ dmk⟩
          · obtain ⟨ks, rfl, hk, ek⟩ := keys_of dy
            have kl : ks.length = 2401 := by
              have := congrArg List.length ek
              rw [List.length_map, List.length_map, ml] at this
              exact this
            refine ⟨pl, ks, rfl, sq_of hpl, hk, by omega, ?_, ?_⟩
            · rw [ek]
              have nodK : ((rowsD manyO (L "tea") (L "KLMG")).map Prod.snd).Nodup := rows_nodupK (by decide +kernel) many_fur
              have nodM : ((madeD manyO (L "tea") (L "KLMG")).map Prod.snd).Nodup := (pe.map Prod.snd).nodup_iff.mpr nodK
              have := nodup_map_inj (f := mkK "tea") (fun a b h => mkK_inj h) nodM
              rw [List.map_map] at this
              exact this
            · rw [kl]
              exact q3 H4 e4

/-! ### k06law -/
/-! a Band of a class's own rules, its lists fresh -/
theorem RObjF.updG {p y : Addr} {Hb H : Hp} {e : Bool} {v : V} {r : RuleD} {u o : HO} (h : RObjF A p Hb H e v r) (hy : H y = some u) (hu : ∀ C dx fs, u ≠ .ins C dx fs) (hn : Hb y ≠ none ∨ y = p) : RObjF A p Hb (L2.upd H y o) e v r := by
  obtain ⟨x, q, rfl, h1, h2, h3, h4⟩ := h
  have nq : q ≠ y := by
    rcases hn with hn | rfl
    · exact fun e => hn (e ▸ h3)
    · exact h4
  have ni : ∀ {x C dx : Addr} {fs}, H x = some (.ins C dx fs) → x ≠ y := fun h e => by
    rw [e, hy] at h
    cases h
    exact hu _ _ _ rfl
  refine ⟨x, q, rfl, ?_, h2, h3, h4⟩
  cases e with
  | true =>
    obtain ⟨dx, o2, k1, k2⟩ := h1
    obtain ⟨dy, ho⟩ := k2.ob
    exact ⟨dx, o2, by rw [upd_ne (ni k1)]; exact k1, k2.upd (ni ho) nq⟩
  | false =>
    obtain ⟨dx, o2, k1, k2⟩ := h1
    obtain ⟨dy, ho⟩ := k2.ob
    exact ⟨dx, o2, by rw [upd_ne (ni k1)]; exact k1, k2.upd (ni ho) nq⟩
def BandQ (A : Ad) (Hb H : Hp) (o : Addr) (b : BandD) : Prop := ∃ dx rl xs, H o = some (.ins A.c_Band dx (bFlds b.1 rl)) ∧ H rl = some (.lst xs) ∧ Hb rl = none ∧ Pw (fun v r => ∃ p, RObjF A p Hb H b.1 v r) xs b.2 ∧ b.2.length ≤ 6
theorem BandQ.mono {Hb H H' : Hp} {o : Addr} {b : BandD} (h : BandQ A Hb H o b) (e : Ex H H') : BandQ A Hb H' o b := by
  obtain ⟨dx, rl, xs, h1, h2, h3, h4, h5⟩ := h
  exact ⟨dx, rl, xs, e _ _ h1, e _ _ h2, h3, h4.imp fun v r ⟨p, k⟩ => ⟨p, k.mono e⟩, h5⟩
theorem BandQ.upd {Hb H : Hp} {o y : Addr} {b : BandD} {u u2 : HO} (h : BandQ A Hb H o b) (hy : H y = some u) (hu : ∀ C dx fs, u ≠ .ins C dx fs) (hn : Hb y ≠ none) : BandQ A Hb (upd H y u2) o b := by
  obtain ⟨dx, rl, xs, h1, h2, h3, h4, h5⟩ := h
  have no : o ≠ y := fun e => by
    rw [e, hy] at h1
    cases h1
    exact hu _ _ _ rfl
  exact ⟨dx, rl, xs, by rw [upd_ne no]; exact h1, by rw [upd_ne (fun e : rl = y => hn (e ▸ h3))]; exact h2, h3, h4.imp fun v r ⟨p, k⟩ => ⟨p, k.updG hy hu (Or.inl hn)⟩, h5⟩
theorem BandQ.at {Hb H : Hp} {o : Addr} {b : BandD} (h : BandQ A Hb H o b) : BandAt A H o b := by
  obtain ⟨dx, rl, xs, h1, h2, h3, h4, h5⟩ := h
  exact ⟨dx, rl, xs, h1, h2, h4.imp fun v r ⟨p, k⟩ => k.at, h5⟩
theorem ClsAt.updK {H : Hp} {d : Addr} {u o : HO} {v : V} {b : BandD} (h : ClsAt H v b) (hd : H d = some u) (h1 : ∀ xs, u ≠ .tup xs) (h2 : ∀ xs, u ≠ .lst xs) : ClsAt (upd H d o) v b := by
  have nt : ∀ {T1 : Addr} {l : List V}, H T1 = some (.tup l) → T1 ≠ d := fun h e => by
    rw [e, hd] at h
    cases h
    exact h1 _ rfl
  have nl : ∀ {T1 : Addr} {l : List V}, H T1 = some (.lst l) → T1 ≠ d := fun h e => by
    rw [e, hd] at h
    cases h
    exact h2 _ rfl
  obtain ⟨T0, rl, xs, rfl, k1, k2, k3, k4⟩ := h
  refine ⟨T0, rl, xs, rfl, by rw [upd_ne (nt k1)]; exact k1, by rw [upd_ne (nl k2)]; exact k2, k3.imp fun x r ⟨⟨T2, pa, ys, ex, j1, j2, j3⟩, G⟩ => ⟨⟨T2, pa, ys, ex, by rw [upd_ne (nt j1)]; exact j1, by rw [upd_ne (nl j2)]; exact j2, j3.1, fun i x q a b => ?_⟩, G⟩, k4⟩
  obtain ⟨T3, rfl, r1, r⟩ := j3.2 i x q a b
  exact ⟨T3, rfl, by rw [upd_ne (nt r1)]; exact r1, r⟩
theorem OwnV.updK {H : Hp} {d : Addr} {u o : HO} {kvs : List (Key × V)} {own : OwnD} (h : OwnV H kvs own) (hd : H d = some u) (h1 : ∀ xs, u ≠ .tup xs) (h2 : ∀ xs, u ≠ .lst xs) : OwnV (upd H d o) kvs own := fun n b hb => by
  obtain ⟨v, k1, k2⟩ := h n b hb
  exact ⟨v, k1, k2.updK hd h1 h2⟩
/-- a pair of the dict that is to come -/
def PQ (A : Ad) (K : PySem.W.Frag) (H : Hp) (v : V) (e : Str × BandD) : Prop := ∃ t o, v = .ref t ∧ SqT K H t [.str e.1, .ref o] ∧ BandAt A H o e.2
def PF (A : Ad) (K : PySem.W.Frag) (Dl : Addr) (H : Hp) (v : V) (e : Str × BandD) : Prop := ∃ t o Hb, v = .ref t ∧ SqT K H t [.str e.1, .ref o] ∧ BandQ A Hb H o e.2 ∧ Hb Dl ≠ none
theorem PF.at {Dl : Addr} {H : Hp} {v : V} {e : Str × BandD} (h : PF A K Dl H v e) : PQ A K H v e := by
  obtain ⟨t, o, Hb, rfl, h1, h2, _⟩ := h
  exact ⟨t, o, rfl, h1, h2.at⟩
theorem PF.mono {Dl : Addr} {H H' : Hp} {v : V} {e : Str × BandD} (h : PF A K Dl H v e) (ex : Ex H H') : PF A K Dl H' v e := by
  obtain ⟨t, o, Hb, rfl, h1, h2, h3⟩ := h
  exact ⟨t, o, Hb, rfl, ex_t ex h1, h2.mono ex, h3⟩
theorem pairs_of {H : Hp} : ∀ {own : OwnD} {xs : List V}, xs.length = own.length → (∀ (i : Nat) x e, xs[i]? = some x → own[i]? = some e → PQ A K H x e) →
    ∃ (ps : List Addr) (kvs : List (Key × V)), xs = ps.map V.ref ∧ Paired (fun p kv => SqT K H p [kV kv.1, kv.2]) ps kvs ∧ Pw (fun (kv : Key × V) (e : Str × BandD) => kv.1 = .inr e.1 ∧ ∃ o, kv.2 = .ref o ∧ BandAt A H o e.2) kvs own
  | [], xs, h, _ => by
    rw [List.length_nil] at h
    obtain rfl := List.length_eq_zero_iff.mp h
    exact ⟨[], [], rfl, .nil, rfl, fun i x e h => by simp at h⟩
  | e :: own, [], h, _ => by cases h
  | e :: own, x :: xs, h, q => by
    obtain ⟨t, o, rfl, h1, h2⟩ := q 0 x e rfl rfl
    obtain ⟨ps, kvs, rfl, h3, h4⟩ := pairs_of (own := own) (xs := xs) (by simpa using h) fun i x e h1 h2 => q (i + 1) x e (by simpa using h1) (by simpa using h2)
    refine ⟨t :: ps, (.inr e.1, .ref o) :: kvs, rfl, .cons h1 h3, by rw [List.length_cons, List.length_cons, h4.1], fun i kv e' g1 g2 => ?_⟩
    cases i with
    | zero =>
      cases g1
      cases g2
      exact ⟨rfl, o, rfl, h2⟩
    | succ i => exact h4.2 i kv e' (by simpa using g1) (by simpa using g2)
theorem BanV.merge {H : Hp} : ∀ {more : List (Key × V)} {own1 own0 : OwnD} {kvs : List (Key × V)}, BanV A H kvs own0 → Pw (fun (kv : Key × V) (e : Str × BandD) => kv.1 = .inr e.1 ∧ ∃ o, kv.2 = .ref o ∧ BandAt A H o e.2) more own1 →
    ((own0 ++ own1).map (·.1)).Nodup → BanV A H (mergeK kvs more) (own0 ++ own1)
  | [], own1, own0, kvs, h, p, _ => by
    obtain rfl := List.length_eq_zero_iff.mp p.1.symm
    rw [List.append_nil]
    exact h
  | kv :: more, [], _, _, _, p, _ => by cases p.1
  | kv :: more, e :: own1, own0, kvs, h, p, nd => by
    obtain ⟨k1, o, k2, k3⟩ := p.2 0 kv e rfl rfl
    have ne : e.1 ∉ own0.map (·.1) := by
      rw [List.map_append, List.map_cons] at nd
      intro hm
      exact (List.nodup_append.mp nd).2.2 _ hm _ List.mem_cons_self rfl
    have e0 : own0 ++ e :: own1 = (own0 ++ [(e.1, e.2)]) ++ own1 := by rw [List.append_assoc]; rfl
    have h2 := h.put ne k3
    show BanV A H (mergeK (putK kvs kv.1 kv.2) more) _
    rw [k1, k2, e0]
    refine BanV.merge h2 ⟨by have := p.1; simpa using this, fun i x y a b => p.2 (i + 1) x y (by simpa using a) (by simpa using b)⟩ ?_
    rw [← e0]
    exact nd
/-- a comprehension over the keys of a held dict, its items told by the heap -/
theorem lcGK {σ : L2.St} {H : Hp} {te td : TE} {vs : List Nat} {j : Nat} {d : Addr} {od : Obj} {kvs : List (Key × V)} {R : Addr → Nat → Hp → V → Prop} (mo : ∀ p i H H' v, Ex H H' → R p i H v → R p i H' v) (h : Ev td σ H (.ref d)) (hd : H d = some (.frz od (.dK kvs))) (hz : kvs.length ≤ 40000) (hw : ∀ x, wipe ((wipe σ vs).set j (some x)) vs = wipe σ vs)
    (he : ∀ (i : Nat) kv H1 Dl ys, Ex H H1 → H Dl = none → H1 Dl = some (.lst ys) → kvs[i]? = some kv → EvG (fun H4 v => ∀ zs, R Dl i (upd H4 Dl (.lst zs)) v) te ((wipe σ vs).set j (some (kV kv.1))) H1) :
    EvLG R kvs.length (tLc (iKeys td) (gName j) tYes te vs) σ H := fun H0 e Q q =>
  h H0 e _ fun H1 e1 => ⟨d, od, rfl, Or.inl ⟨kvs, (e.trans e1) _ _ hd, fun Dl hD =>
    lc_it walk_keys (Cg R H1 Dl) ⟨hD, Ex.new hD, [], upd_same, rfl, fun j y h => by simp at h⟩ (fun i H' _ p => p.2.1 _ _ ((e.trans e1) _ _ hd)) (fun i x H' H'' hi p y => by
      obtain ⟨rfl, k, v, hkv, rfl⟩ := y
      obtain ⟨p1, p2, ys, p3, p4, p5⟩ := p
      refine ⟨hw _, ?_⟩
      show te ((wipe σ vs).set j (some (kV k))) H'' fun y H4 => ∃ acc, H4 Dl = some (.lst acc) ∧ acc.length < sizeLine ∧ Cg R H1 Dl (i + 1) (upd H4 Dl (.lst (acc ++ [y])))
      refine he i (k, v) H'' Dl ys ((e.trans e1).trans p2) (fresh_back (e.trans e1) p1) p3 hkv H'' (Ex.refl _) _ fun v H4 e4 pv => ⟨ys, e4 _ _ p3, sz_lt (by omega), p1, Ex.mut (p2.trans e4) p1, ys ++ [v], upd_same, by rw [List.length_append, p4]; rfl, fun j y hj zs => ?_⟩
      rw [upd_upd]
      rcases Nat.lt_or_ge j ys.length with hlt | hge
      · rw [List.getElem?_append_left hlt] at hj
        exact mo _ _ _ _ _ (Ex.both e4) (p5 j y hj zs)
      · have hj2 : j = ys.length := by
          have := (List.getElem?_eq_some_iff.mp hj).1
          rw [List.length_append] at this
          have h1 : [v].length = 1 := rfl
          omega
        subst hj2
        rw [List.getElem?_append_right (Nat.le_refl _), Nat.sub_self] at hj
        cases hj
        rw [p4]
        exact pv zs)
      (fun H' p => by
        obtain ⟨p1, p2, ys, p3, p4, p5⟩ := p
        refine q Dl ys H' (fresh_back e1 p1) (e1.trans p2) p3 p4 fun j y hj => ?_
        have := p5 j y hj ys
        rw [updSelf p3] at this
        exact this)⟩⟩
theorem q_forRn {σ : L2.St} {H : Hp} {D : Ends} {tu tz : TS} {ta : TA} {j : Nat} {n : Int} (h : EvA ta σ H [.int n]) (hn : -100000 ≤ n ∧ n ≤ 100000) (Pv : Nat → L2.St → Hp → Prop) (h0 : ∀ H1, Ex H H1 → Pv 0 σ H1)
    (hs : ∀ (i : Nat) σ' H', (i : Int) < n → Pv i σ' H' → tu { D with nx := Pv (i + 1), ct := Pv (i + 1), bk := tz D } (σ'.set j (some (.int (i : Int)))) H') (hd : ∀ σ' H', Pv n.toNat σ' H' → tz D σ' H') : tSeq (tFor (iRng1 ta) (gName j) tu) tz D σ H :=
  h H (Ex.refl H) _ fun H1 e => ⟨n, rfl, by omega, by omega, for_range (D := { D with nx := tz D }) (lo := 0) (n := n.toNat) Pv (h0 H1 e) (fun i σ' H' hi p => by
    have e0 : (0 : Int) + (i : Int) = (i : Int) := Int.zero_add _
    show tu { D with nx := Pv (i + 1), ct := Pv (i + 1), bk := tz D } (σ'.set j (some (.int ((0 : Int) + (i : Int))))) H'
    rw [e0]
    exact hs i σ' H' (by omega) p) hd⟩
theorem et_neE {σ : L2.St} {H : Hp} {ta tb : TE} {d e : PyData} (ha : EvG (fun H1 v => Dp K H1 v d) ta σ H) (hb : EvG (fun H1 v => Dp K H1 v e) tb σ H) (sd : SeqAt.shaped d = true) (se : SeqAt.shaped e = true) : EvT (tTest (tOp (rNeD K) ta tb)) σ H (!(PyData.eqv d e)) := fun H1 e1 Q q =>
  ha H1 e1 _ fun v H2 e2 hd => hb H2 (e1.trans e2) _ fun w H3 e3 he => ⟨d, e, Dp.mono e3 _ _ hd, he, sd, se, ⟨_, rfl, q H3 (e2.trans e3)⟩⟩
/-- z.replace(x, "") of one sign -/
theorem repl_filter (c : Nat) : ∀ l : List Nat, PySem.StrLaws.replL [c] [] l = l.filter fun d => !decide (d = c)
  | [] => PySem.StrLaws.replL_nil
  | a :: r => by
    by_cases e : a = c
    · subst e
      rw [PySem.StrLaws.replL_hit (by simp) (by simp)]
      show [] ++ PySem.StrLaws.replL [a] [] r = _
      rw [repl_filter a r]
      simp
    · rw [PySem.StrLaws.replL_miss (by simpa using e), repl_filter c r, List.filter_cons]
      simp [e]
theorem repl_one (z : Str) (c : Nat) : Txt.replace z (TX.T [c]) "" = TX.T ((L z).filter fun d => !decide (d = c)) := by
  have h : L (Txt.replace z (TX.T [c]) "") = PySem.StrLaws.replL (L (TX.T [c])) (L "") (L z) := PySem.StrLaws.replace_list (Nat.le_refl 1)
  have e0 : L "" = [] := by decide +kernel
  rw [e0, L_T, repl_filter] at h
  rw [← h, T_L]
/-- rows that are let through -/
theorem dps_given {H : Hp} {st : Str} {rows : List Row} {xs : List V} {f : Nat → Bool} {p : Row → Bool} (h : DpAll K H xs (rows.map (rowP st))) (hf : ∀ i r, rows[i]? = some r → f i = p r) :
    DpAll K H (given xs.length f fun i => xs.getD i .non) ((rows.filter p).map (rowP st)) := by
  have xl : xs.length = rows.length := by rw [h.len, List.length_map]
  have rr : rows = (List.range rows.length).map fun i => rows.getD i ([], [], none) := by
    apply List.ext_getElem?
    intro i
    rw [List.getElem?_map]
    rcases Nat.lt_or_ge i rows.length with hi | hi
    · rw [List.getElem?_range hi, List.getElem?_eq_getElem hi]
      show _ = some (rows.getD i _)
      rw [List.getD_eq_getElem?_getD, List.getElem?_eq_getElem hi]
      rfl
    · rw [List.getElem?_eq_none hi, List.getElem?_eq_none (by rw [List.length_range]; exact hi)]
      rfl
  have e : (rows.filter p).map (rowP st) = ((List.range xs.length).filter f).map fun i => rowP st (rows.getD i ([], [], none)) := by
    have h1 : rows.filter p = ((List.range xs.length).filter f).map fun i => rows.getD i ([], [], none) := by
      conv => lhs; rw [rr]
      rw [List.filter_map, xl]
      congr 1
      apply List.filter_congr
      intro i hi
      have hi := List.mem_range.mp hi
      have := hf i _ (List.getElem?_eq_getElem hi)
      rw [this]
      show p (rows.getD i _) = _
      rw [List.getD_eq_getElem?_getD, List.getElem?_eq_getElem hi]
      rfl
    rw [h1, List.map_map]
    rfl
  rw [e]
  unfold given
  refine DpAll.maps fun i hi => ?_
  have hi := List.mem_range.mp (List.mem_filter.mp hi).1
  obtain ⟨d, hd, dv⟩ := h.get (List.getElem?_eq_getElem hi)
  rw [List.getElem?_map] at hd
  obtain ⟨r, hr, rfl⟩ := Option.map_eq_some_iff.mp hd
  rw [List.getD_eq_getElem?_getD, List.getD_eq_getElem?_getD, hr, List.getElem?_eq_getElem hi]
  exact dv
def spLaw (K : PySem.W.Frag) : Sp := fun vs H Q _ => ∃ (a : Addr) (ns : List Int), vs = [.ref a] ∧ SqL K H a (ns.map V.int) ∧ ns.length ≤ 63 ∧ ∀ H', Q (.bl true) H'
theorem ok_law (T : Txt K mg A) : FnOk P w K mg base CX0 12 A.f_law A.d_law P_law (spLaw K) := by
  refine T.F_law.ok sc_law (fun vs H Q E h => ?_) (fun cdv A' outer s H vs Q E hr h => ?_)
  · obtain ⟨a, ns, rfl, _⟩ := h
    rfl
  · obtain ⟨a, ns, rfl, hS, h63, kk⟩ := h
    refine ⟨_, (pss_cons (ps_set (i := 1) sc_law.nd rfl (Or.inr rfl) (pe_call (ok_l_bands T) (hr.mono (by decide)) rfl T.g_l_bands T.k_l_bands T.b_l_bands .nil pass0 (pa_cons (pv 0) pa_nil)))
      (pss_cons (ps_set (i := 2) sc_law.nd rfl (Or.inl rfl) (pe_lock (pe_callTy (call_dictP (by rfl)) (by rfl) T.n_dict (by decide +kernel) (pa_cons (pe_lc (own := [("_law_name", 7)]) (by rfl) sc_law.nd (pi_keys (pv 1)) (blkOk_by (own := [("_law_name", 7)]) (N := N_law) (sc := defScope s_law) (by decide +kernel)) (fun _ _ _ _ _ => (pg_name (i := 7) sc_law.nd rfl (Or.inl rfl))) (fun _ _ _ _ _ => pts_nil) (fun _ _ _ _ _ => (pe_tup (pa_cons (pv 7) (pa_cons (pe_make T.M_Band (ok_Band_init T) (hr.mono (by decide)) rfl T.g_Band T.b_Band_init .nil pass0 (pa_cons (pe_ix (ix_tupK (K := K) rfl) (pe_dget (hu_of hr) (pv 1) (pv 7) (fun _ _ => rfl)) pe_int (fun _ _ => rfl)) (pa_cons (pe_call (ok_l_rules T) hr rfl T.g_l_rules T.k_l_rules T.b_l_rules .nil pass0 (pa_cons (pe_dget (hu_of hr) (pv 1) (pv 7) (fun _ _ => rfl)) pa_nil)) pa_nil))) pa_nil))))) pa_nil))))
      (pss_cons (ps_for1 PassesOwn.never rfl (pi1_range rfl T.n_range (by decide) (by decide)) (pg_name (i := 3) sc_law.nd rfl (Or.inl rfl))
      (psst_cons (PST.of (ps_par (i := 4) (j := 5) (by rfl) sc_law.nd rfl rfl (by decide) rfl rfl (pa_cons (pe_call (ok_l_stem T) (hr.mono (by decide)) rfl T.g_l_stem T.k_l_stem T.b_l_stem .nil pass0 (pa_cons (pv 0) (pa_cons (pe_op op_add pe_int (pe_op op_mul pe_int (pv 3))) pa_nil))) (pa_cons (pe_call (ok_l_named T) (hr.mono (by decide)) rfl T.g_l_named T.k_l_named T.b_l_named .nil pass0 (pa_cons (pv 0) (pa_cons (pe_op op_add pe_int (pe_op op_mul pe_int (pv 3))) (pa_cons (pv 1) pa_nil)))) pa_nil)) (by rfl)))
      (psst_cons (PST.of (ps_set (i := 6) sc_law.nd rfl (Or.inl rfl) (pe_call (ok_l_told T) (hr.mono (by decide)) rfl T.g_l_told T.k_l_told T.b_l_told .nil pass0 (pa_cons (pv 2) (pa_cons (pv 1) (pa_cons (pv 4) (pa_cons (pv 5) pa_nil)))))))
      (psst_cons (PST.of (ps_if (PW.pt (pw_or (pt_cmpR op_isN (pv 6) pe_non (nomark _)) (pw_or1 (pt_cmpR (show OpR _ (compareOp .NotEq) (rNeD K) from op_neD hr.units) (pe_call (ok_made T) (hr.mono (by decide)) rfl T.g_made T.k_made T.b_made .nil pass0 (pa_cons (pv 2) (pa_cons (pv 4) (pa_cons (pe_revS (pv 5)) pa_nil)))) (pv 6) (nomark _))))) (pss_one (ps_ret pe_bl)) pss_nil))
      (psst_cons (pst_forRepl (kz := 5) (kx := 7) (ky := 8) PassesOwn.never rfl sc_law.nd rfl (Or.inl rfl) rfl rfl rfl rfl (Or.inl rfl) (by decide) (by decide) (by decide) (by decide) (by rfl) (by rfl) (by rfl) (by rfl) (Or.inl rfl) (fun _ => rfl)
      (pss_one (ps_if (pt_cmpR (show OpR _ (compareOp .NotEq) (rNeD K) from op_neD hr.units) (pe_call (ok_made T) (hr.mono (by decide)) rfl T.g_made T.k_made T.b_made .nil pass0 (pa_cons (pv 2) (pa_cons (pv 4) (pa_cons (pv 8) pa_nil)))) (pe_lc (own := [("_law_row", 9)]) (by rfl) sc_law.nd (pi_list (pv 6)) (blkOk_by (own := [("_law_row", 9)]) (N := N_law) (sc := defScope s_law) (by decide +kernel)) (fun _ _ _ _ _ => (pg_name (i := 9) sc_law.nd rfl (Or.inl rfl))) (fun _ _ _ _ _ => pts_one (pt_val (pe_call (ok_l_names_not T) (hr.mono (by decide)) rfl T.g_l_names_not T.k_l_names_not T.b_l_names_not .nil pass0 (pa_cons (pe_ix (ix_tupK (K := K) rfl) (pv 9) pe_int (fun _ _ => rfl)) (pa_cons (pv 7) pa_nil))))) (fun _ _ _ _ _ => (pv 9))) (nomark _)) (pss_one (ps_ret pe_bl)) pss_nil))) psst_nl)))))
      (pss_one (ps_ret (pe_or (pe_cmpR op_ne (pe_op op_mod (pe_call (ok_l_number T) (hr.mono (by decide)) rfl T.g_l_number T.k_l_number T.b_l_number .nil pass0 (pa_cons (pv 0) (pa_cons pe_int pa_nil))) pe_int) pe_int (nomark _)) (pe_one (pe_call0 (ok_l_many_right T) hr rfl T.g_l_many_right T.k_l_many_right T.b_l_many_right .nil pass0)))))))), ?_⟩
    refine q_asgC (ea_cons (ev_var rfl) ea_nil) fun H0 e0 => ⟨a, ns, rfl, ex_l e0 hS, fun d own kvs H1 nd hd hV hK nam o6 ond hDp hLow e1 => ?_⟩
    have e01 := e0.trans e1
    have kl : kvs.length = own.length := by
      have := congrArg List.length hK
      rw [List.length_map, List.length_map] at this
      exact this
    have hOA : OwnAt H1 d own := ⟨kvs, Or.inl hd, hV⟩
    have hOK : OwnK H1 d own := ⟨⟨kvs, Or.inl hd, hK⟩, nam, o6, ond⟩
    have six := hOA.six
    have lts : Lts own := fun n k rs r hf hr c hc => by
      obtain ⟨v, _, hC⟩ := hV n _ hf
      have G := (cls_txt hC r hr).2.2
      have := G.a1
      unfold lets at this
      exact List.all_eq_true.mp this c hc
    -- the dict of Bands
    refine q_asgV (R := fun H3 v => ∃ bd, v = .ref bd ∧ BandsAt A H3 bd own) (fun H2 e2 Q2 q2 => ?_) fun v H2 e2 hv => ?_
    · have hd2 := e2 _ _ hd
      refine ⟨d, .dK kvs, hd2, True.intro, fun od => ?_⟩
      have hVL : OwnV (upd H2 d (.frz od (.dK kvs))) kvs own := (hV.mono e2).updK hd2 (fun _ => nofun) fun _ => nofun
      have hdL : (upd H2 d (.frz od (.dK kvs))) d = some (.frz od (.dK kvs)) := upd_same
      have back : upd (upd H2 d (.frz od (.dK kvs))) d (.dK kvs) = H2 := by rw [upd_upd, updSelf hd2]
      generalize upd H2 d (.frz od (.dK kvs)) = HL at *
      have hlc : EvLG (fun Dl i H v => ∀ e, own[i]? = some e → PF A K Dl H v e) kvs.length (tLc (iKeys (tVar 1)) (gName 7) tYes (tTup (tCons (tVar 7) (tCons (tMake A.c_Band (spBInit A K) [] E0 (tCons (tOp (rIxT K) (tDGet (tVar 1) (tVar 7)) (tC (.int 0))) (tCons (tCall (spRules A) [] E0 (tCons (tDGet (tVar 1) (tVar 7)) tNil)) tNil))) tNil))) [7]) [some (.ref a), some (.ref d), none, none, none, none, none, none, none, none] HL := by
        refine lcGK (fun p i H H' v e h x hx => (h x hx).mono e) (ev_var rfl) hdL (by omega) (fun _ => rfl) fun i kv H3 Dl ys e3 nD hD hkv => ?_
        have hi : (own.map fun e => V.str e.1)[i]? = some (kV kv.1) := by
          rw [← hK, List.getElem?_map, hkv]
          rfl
        rw [List.getElem?_map] at hi
        obtain ⟨⟨n, b⟩, he, ek⟩ := Option.map_eq_some_iff.mp hi
        have ek : kV kv.1 = .str n := ek.symm
        rw [ek]
        have hf : fnd own n = some b := fnd_at ond he
        obtain ⟨ov, hval, hC⟩ := hVL.mono e3 n b hf
        have hC0 := hC
        obtain ⟨T0, rl0, xs0, rfl, hT0, _, _, h6⟩ := hC0
        have hd3 : H3 d = some (.frz od (.dK kvs)) := e3 _ _ hdL
        have get : ∀ {H' : Hp}, Ex H3 H' → Ev (tDGet (tVar 1) (tVar 7)) [some (.ref a), some (.ref d), none, none, none, none, none, some (.str n), none, none] H' (.ref T0) := fun e => ev_dget (ev_var rfl) (ev_var rfl) (Or.inr ⟨od, e _ _ hd3⟩) hval
        have hb : EvG (fun H' v => ∃ o Hb, v = .ref o ∧ BandQ A Hb H' o b ∧ Hb Dl ≠ none) (tMake A.c_Band (spBInit A K) [] E0 (tCons (tOp (rIxT K) (tDGet (tVar 1) (tVar 7)) (tC (.int 0))) (tCons (tCall (spRules A) [] E0 (tCons (tDGet (tVar 1) (tVar 7)) tNil)) tNil))) [some (.ref a), some (.ref d), none, none, none, none, none, some (.str n), none, none] H3 := fun H4 e4 Q q => by
          refine (ev_op (get (Ex.refl _)) ev_c (rv_ixT (st_of hT0) (atI_nat (j := 0) rfl)) : Ev _ _ H3 (.str (kindS b.1))) H4 e4 _ fun H5 e5 => ?_
          show tCall (spRules A) [] E0 (tCons (tDGet (tVar 1) (tVar 7)) tNil) _ H5 _
          show tCons (tDGet (tVar 1) (tVar 7)) tNil _ H5 _
          refine (ea_cons (get (Ex.refl _)) ea_nil : EvA _ _ H3 [.ref T0]) H5 (e4.trans e5) _ fun H6 e6 => ⟨_, b, rfl, hC.mono ((e4.trans e5).trans e6), fun p xs H7 np hp hP e7 => ?_⟩
          intro x dx hx hdx hne
          have em := Ex.made hx hdx hne (o1 := .own x) (o2 := .ins A.c_Band dx [])
          refine ⟨x, dx, p, xs, b.1, b.2, rfl, upd_same, sq_of (em _ _ hp), hP.imp fun v r k => (k.mono em).at, h6, fun qq H' nq hx' hq nqx kp => ⟨rfl, ?_⟩⟩
          have em2 := made_ex hx hdx hne kp
          refine q (.ref x) H' (((e5.trans e6).trans e7).trans em2) ⟨x, H6, rfl, ⟨dx, qq, xs, hx', hq, fresh_back (e7.trans em) nq, hP.imp fun v r k => ⟨p, k.mono em2⟩, h6⟩, ?_⟩
          rw [((e4.trans e5).trans e6) _ _ hD]
          simp
        intro H4 e4 Q q
        show tCons (tVar 7) (tCons (tMake A.c_Band (spBInit A K) [] E0 _) tNil) _ H4 _
        refine (ev_var rfl : Ev (tVar 7) _ H3 (.str n)) H4 e4 _ fun H5 e5 => ?_
        show tMake A.c_Band (spBInit A K) [] E0 _ _ H5 _
        refine hb H5 (e4.trans e5) _ fun v H6 e6 hv => ⟨sz_of (by show 2 ≤ 100000; decide), fun p np => q (.ref p) _ ((e5.trans e6).trans (Ex.new np)) fun zs e he' => ?_⟩
        rw [he] at he'
        cases he'
        obtain ⟨o, Hb, rfl, hB, hn⟩ := hv
        have hD6 := ((e4.trans e5).trans e6) _ _ hD
        have pD : p ≠ Dl := fun e => by rw [e, hD6] at np; cases np
        refine ⟨p, o, Hb, rfl, st_of (by rw [upd_ne pD]; exact upd_same), (hB.mono (Ex.new np)).upd (y := Dl) (u := .lst ys) (by rw [upd_ne pD.symm]; exact hD6) (fun _ _ _ => nofun) hn, hn⟩
      show tCons (tLc _ _ _ _ _) tNil _ HL _
      refine hlc HL (Ex.refl _) _ fun p xs H3 np e3 hp hl hR => ?_
      obtain ⟨ps, bvs, rfl, hpr, hpw⟩ := pairs_of (A := A) (K := K) (H := H3) (own := own) (xs := xs) (hl.trans kl) fun i x e h1 h2 => (hR i x h1 e h2).at
      refine ⟨p, ps, bvs, rfl, sq_of hp, hpr, fun bd nbd => ⟨?_, ?_⟩⟩
      · rw [upd_ne (fun e => by rw [← e, e3 _ _ hdL] at nbd; cases nbd)]
        exact e3 _ _ hdL
      · have dbd : d ≠ bd := fun e => by rw [← e, e3 _ _ hdL] at nbd; cases nbd
        have eB : Ex H2 (upd (upd H3 bd (.dK (mergeK [] bvs))) d (.dK kvs)) := by
          have := Ex.both (D := d) (o := .dK kvs) (e3.trans (Ex.new (o := .dK (mergeK [] bvs)) nbd))
          rw [back] at this
          exact this
        have h0 : BanV A H3 [] [] := fun n b hb => by cases hb
        have hm := BanV.merge h0 hpw (by simpa using ond)
        refine q2 _ _ eB ⟨bd, rfl, mergeK [] bvs, Or.inl (by rw [upd_ne dbd.symm]; exact upd_same), fun n b hb => ?_⟩
        obtain ⟨o, k1, k2⟩ := hm n b hb
        exact ⟨o, k1, (k2.mono (Ex.new nbd)).updK (y := d) (u := .frz od (.dK kvs)) (by rw [upd_ne dbd]; exact e3 _ _ hdL) (fun _ => nofun) fun _ _ _ => nofun⟩
    · obtain ⟨bd, rfl, hBA⟩ := hv
      have e02 := e01.trans e2
      have hOA := hOA.mono e2
      have hOK := hOK.mono e2
      have fn : ∀ p, (furD own p).Nodup := fun p => fur_nodup (o_fur3 hOA p)
      refine q_forRn (ta := tCons (tC (.int 2)) tNil) (n := 2) (ea_cons ev_c ea_nil) (by omega) (fun _ σ' H' => Ex H2 H' ∧ ∃ v3 v4 v5 v6 v7 v8 v9, σ' = [some (.ref a), some (.ref d), some (.ref bd), v3, v4, v5, v6, v7, v8, v9])
        (fun H3 e3 => ⟨e3, none, none, none, none, none, none, none, rfl⟩) ?_ ?_
      · rintro i σ' H3 hi ⟨e3, v3, v4, v5, v6, v7, v8, v9, rfl⟩
        have e03 := e02.trans e3
        have i2 : i < 2 := by omega
        refine q_sl (σ' := [some (.ref a), some (.ref d), some (.ref bd), some (.int (i : Int)), v4, v5, v6, v7, v8, v9]) rfl ?_
        show tCall (spStem K) [] _ _ _ H3 _
        refine (ea_cons (ev_var rfl) (ea_cons (ev_is (ev_op ev_c (ev_op ev_c (ev_var rfl) (rv_I (.inl ⟨by omega, by omega⟩))) rv_I0) rfl) ea_nil) : EvA _ _ H3 [.ref a, .int (950 + 20 * (i : Int))]) H3 (Ex.refl _) _ fun H4 e4 => ⟨a, ns, _, rfl, ex_l (e03.trans e4) hS, by omega, by omega, fun st H5 st16 lst e5 => ?_⟩
        show tCall (spNamed K) [] _ _ _ H5 _
        have e35 := e4.trans e5
        refine (ea_cons (ev_var rfl) (ea_cons (ev_is (ev_op ev_c (ev_op ev_c (ev_var rfl) (rv_I (.inl ⟨by omega, by omega⟩))) rv_I0) rfl) (ea_cons (ev_var rfl) ea_nil)) : EvA _ _ H5 [.ref a, .int (1010 + 5 * (i : Int)), .ref d]) H5 (Ex.refl _) _ fun H6 e6 => ⟨a, d, ns, _, own, rfl, ex_l (e03.trans (e35.trans e6)) hS, by omega, by omega, hOK.mono (e3.trans (e35.trans e6)), fun z H7 kn z4 zn e7 => ?_⟩
        refine ⟨_, _, rfl, ?_⟩
        have e27 := e3.trans (e35.trans (e6.trans e7))
        have w16 : (L st).length ≤ 16 := st16
        have zl : (L z).length ≤ 4 := z4
        have rok : ∀ cs, ∀ r ∈ madeD own (L st) cs, RowOk r := fun cs => made_ok (cs := cs) hLow six lts w16 (fun c hc => List.all_eq_true.mp lst c hc)
        have lay : ∀ l : List Row, (∀ r ∈ l, RowOk r) → ∀ d ∈ l.map (rowP st), PyData.canLay0 d = true ∧ d.depth ≤ 10 := fun l h d hd => by
          obtain ⟨r, hr, rfl⟩ := List.mem_map.mp hd
          have := shw_row (lets_signs lst) st16 (h r hr)
          exact ⟨this.c, by have := this.dp; omega⟩
        have eqr : ∀ l : List Row, (∀ r ∈ l, RowOk r) → PyData.eqv (.list (l.map (rowP st))) (.list (l.map (rowP st))) = true := fun l h => SeqAt.eqv_refl _ (by
          simp only [PyData.canLay0]
          exact canLay_all fun d hd => (lay l h d hd).1)
        have call : ∀ {H' : Hp} {σ : L2.St} {te : TE} (cs : List Nat), Ex H2 H' → Ev (tVar 2) σ H' (.ref bd) → Ev (tVar 4) σ H' (.str st) → Ev te σ H' (.str (TX.T cs)) → Known own cs → cs.length ≤ 4 →
            EvG (fun H1 v => Dp K H1 v (.list ((madeD own (L st) cs).map (rowP st)))) (tCall (spMade A K) [] E0 (tCons (tVar 2) (tCons (tVar 4) (tCons te tNil)))) σ H' := fun {H' σ te} cs ex h1 h2 h3 kn4 cl H1 e1 Q q =>
          (ea_cons h1 (ea_cons h2 (ea_cons h3 ea_nil)) : EvA _ σ H' [.ref bd, .str st, .str (TX.T cs)]) H1 e1 _ fun H4 e4 => ⟨bd, st, TX.T cs, own, rfl, hBA.mono (ex.trans (e1.trans e4)), hDp, by rw [L_T]; exact kn4, by rw [TX.len_T]; exact cl, st16, fun p2 xs2 H5 np2 hp2 dx2 e5 =>
            q (.ref p2) H5 (e4.trans e5) (.lst (sq_of hp2) (by rw [L_T] at dx2; exact dx2))⟩
        refine q_asgC (ea_cons (ev_var rfl) (ea_cons (ev_var rfl) (ea_cons (ev_var rfl) (ea_cons (ev_var rfl) ea_nil)))) fun H8 e8 => ⟨bd, d, st, z, own, rfl, hBA.mono (e27.trans e8), hOA.mono (e27.trans e8), hDp, kn, zn, z4, st16, fun p xs H9 np hp dx e9 => ?_⟩
        have e29 := e27.trans (e8.trans e9)
        have ml : (madeD own (L st) (L z)).length ≤ 11425 := by
          unfold madeD
          rw [List.length_mergeSort]
          exact rows_len hBA zl
        have xl : xs.length = (madeD own (L st) (L z)).length := by rw [dx.len, List.length_map]
        have rev : madeD own (L st) (L z).reverse = madeD own (L st) (L z) := made_other ((List.reverse_perm (L z)).nodup_iff.mpr zn) zn fn fun c => List.mem_reverse
        have c1 := call (H' := H9) (σ := [some (.ref a), some (.ref d), some (.ref bd), some (.int (i : Int)), some (.str st), some (.str z), some (.ref p), v7, v8, v9]) (te := tRevS (tVar 5)) (L z).reverse e29 (ev_var rfl) (ev_var rfl) (fun H1 e Q q => (ev_var rfl : Ev (tVar 5) [some (.ref a), some (.ref d), some (.ref bd), some (.int (i : Int)), some (.str st), some (.str z), some (.ref p), v7, v8, v9] H9 (.str z)) H1 e _ fun H4 e4 => ⟨L z, by rw [T_L], zl, q H4 e4⟩) (fun c hc => kn c (List.mem_reverse.mp hc)) (by rw [List.length_reverse]; exact zl)
        rw [rev] at c1
        refine q_when (b := false) (et_is (et_or (a := false) (b := false) (et_is (et_test (ev_op (ev_var rfl) ev_c rv_isN)) (by simp)) fun _ => et_is (et_neE c1 (eg_v (ev_var rfl) fun H1 e => .lst (sq_of (e _ _ hp)) (DpAll.mono e _ _ dx)) (shaped_list (lay _ (rok _))) (shaped_list (lay _ (rok _)))) (by rw [eqr _ (rok _)]; rfl)) rfl) (fun h => by cases h) fun _ H10 e10 => ?_
        refine q_forS (w := z) (ev_var rfl) (fun _ σ' H' => Ex H9 H' ∧ ∃ v7 v8 v9, σ' = [some (.ref a), some (.ref d), some (.ref bd), some (.int (i : Int)), some (.str st), some (.str z), some (.ref p), v7, v8, v9])
          (fun H11 e11 => ⟨e10.trans e11, _, _, _, rfl⟩) ?_ ?_
        · rintro j c σ' H11 hc ⟨e11, v7, v8, v9, rfl⟩
          refine q_sl (tz := tSeq _ _) (σ' := [some (.ref a), some (.ref d), some (.ref bd), some (.int (i : Int)), some (.str st), some (.str z), some (.ref p), some (.str (TX.T [c])), v8, v9]) rfl ?_
          have eL0 : L "" = [] := by decide +kernel
          have ne0 : TX.T [c] ≠ "" := fun h => by
            have := congrArg L h
            rw [L_T, eL0] at this
            cases this
          refine ⟨z, TX.T [c], rfl, rfl, by omega, ne0, ?_⟩
          rw [repl_one]
          have hp11 := e11 _ _ hp
          have dx11 := DpAll.mono e11 _ _ dx
          have fk : Known own ((L z).filter fun d => !decide (d = c)) := fun x hx => kn x (List.mem_filter.mp hx).1
          have fl : ((L z).filter fun d => !decide (d = c)).length ≤ 4 := Nat.le_trans (List.length_filter_le _ _) zl
          have c2 := call (H' := H11) (σ := [some (.ref a), some (.ref d), some (.ref bd), some (.int (i : Int)), some (.str st), some (.str z), some (.ref p), some (.str (TX.T [c])), some (.str (TX.T ((L z).filter fun d => !decide (d = c)))), v9]) (te := tVar 8) _ (e29.trans e11) (ev_var rfl) (ev_var rfl) (ev_var rfl) fk fl
          rw [made_without zn fn c] at c2
          have rok2 : ∀ r ∈ (madeD own (L st) (L z)).filter fun r => namesNot c r.2, RowOk r := fun r hr => rok _ r (List.mem_filter.mp hr).1
          have c3 : EvG (fun H1 v => Dp K H1 v (.list (((madeD own (L st) (L z)).filter fun r => namesNot c r.2).map (rowP st)))) (tLc (iList K (tVar 6)) (gName 9) (tB (tCall (spNot K) [] E0 (tCons (tOp (rIxT K) (tVar 9) (tC (.int 1))) (tCons (tVar 7) tNil)))) (tVar 9) [9]) [some (.ref a), some (.ref d), some (.ref bd), some (.int (i : Int)), some (.str st), some (.str z), some (.ref p), some (.str (TX.T [c])), some (.str (TX.T ((L z).filter fun d => !decide (d = c)))), v9] H11 := fun H12 e12 Q12 q12 => by
            refine el_lcL (K := K) (fun i => match (madeD own (L st) (L z))[i]? with | some r => namesNot c r.2 | none => false) (fun i => xs.getD i .non) (ev_var rfl) (sq_of hp11) (by omega) (fun _ => rfl) (fun i2 x2 H13 e13 hx2 => ?_) (fun i2 x2 H13 e13 hx2 _ => ev_is (ev_var rfl) (by rw [List.getD_eq_getElem?_getD, hx2]; rfl)) H12 e12 _ fun p2 H13 np2 e13 hp2 => q12 _ H13 e13 (.lst (sq_of hp2) (dps_given (DpAll.mono (e12.trans e13) _ _ dx11) fun i r hr => by show (match (madeD own (L st) (L z))[i]? with | some r => namesNot c r.2 | none => false) = _; rw [hr]))
            obtain ⟨d0, hd0, dv⟩ := dx11.get hx2
            rw [List.getElem?_map] at hd0
            obtain ⟨r, hr, rfl⟩ := Option.map_eq_some_iff.mp hd0
            obtain ⟨Tx, xv, rfl, hTx, dxv⟩ := dv.tupI
            obtain ⟨w1, xr, rfl, dw1, dxr⟩ := dxv.consI
            obtain ⟨mk, xr2, rfl, dmk, dxr2⟩ := dxr.consI
            obtain rfl := dxr2.nilI
            exact et_is (et_B (ev_call (ea_cons (ev_op (ev_var rfl) ev_c (rv_ixT (ex_t e13 hTx) (atI_nat (j := 1) rfl))) (ea_cons (ev_var rfl) ea_nil)) (fun H4 e4 Q4 q4 E4 => ⟨mk, st, r.2, c, rfl, Dp.mono (e13.trans e4) _ _ dmk, q4⟩))) (by rw [hr])
          refine s_when (b := false) (et_is (et_neE c2 c3 (shaped_list (lay _ rok2)) (shaped_list (lay _ rok2))) (by rw [eqr _ rok2]; rfl)) (fun h => by cases h) fun _ H12 e12 => ⟨e11.trans e12, _, _, _, rfl⟩
        · rintro σ' H11 ⟨e11, v7, v8, v9, rfl⟩
          exact ⟨e29.trans e11, _, _, _, _, _, _, _, rfl⟩
      · rintro σ' H3 ⟨e3, v3, v4, v5, v6, v7, v8, v9, rfl⟩
        refine s_ret (v := .bl true) (ev_is (ev_orV (b := true) (ev_op (x := .int (num ns 1030 % 20)) (ev_op (x := .int (num ns 1030)) (ev_call (ea_cons (ev_var rfl) (ea_cons ev_c ea_nil)) (fun H4 e4 Q4 q4 E4 => ⟨a, ns, 1030, rfl, ex_l ((e02.trans e3).trans e4) hS, by omega, by omega, q4⟩)) ev_c (rv_I (by show (0 : Int) < _; decide))) ev_c (rv_ne rfl)) fun _ => ev_call ea_nil (fun H4 e4 Q4 q4 E4 => ⟨rfl, q4⟩)) (by rw [Bool.or_true])) fun H4 e4 => kk H4

end
theorem all_mk {l : PySem.W.OpenLaw} {w : World} {K : PySem.W.Frag} {h : Heap} {mg : Str → Option Value} {fa : Addr} (X : K.In h) (G : h.Ns mainGlobals mg) (hfa : mg "law" = some (.ref fa))
    {t_LETTERS : Tok}
    {t_MOST_IN_BRACKETS : Tok}
    {t_MOST_PLACES : Tok}
    {t_GREAT_LETTERS : Tok}
    {t_MOST_CUT : Tok}
    {t_MOST_ADDED : Tok}
    {t_MOST_FURTHER : Tok}
    {t_MOST_LETTERS : Tok}
    {t_ENDING : Tok}
    {t_BEGINNING : Tok}
    {c_BadRule : Addr}
    {c_Condition : Addr}
    {c_Rule : Addr}
    {c_Ending : Addr}
    {c_Beginning : Addr}
    {c_Band : Addr}
    {f_are_letters : Addr} {od_are_letters an_are_letters : Option Addr} {sl_are_letters : Array (Option Value)} {oc_are_letters kV_are_letters dc_are_letters pm_are_letters cd_are_letters ct_are_letters : Value}
    {f_all_but : Addr} {od_all_but an_all_but : Option Addr} {sl_all_but : Array (Option Value)} {oc_all_but kV_all_but dc_all_but pm_all_but cd_all_but ct_all_but : Value}
    {f_is_bracketed : Addr} {od_is_bracketed an_is_bracketed : Option Addr} {sl_is_bracketed : Array (Option Value)} {oc_is_bracketed kV_is_bracketed dc_is_bracketed pm_is_bracketed cd_is_bracketed ct_is_bracketed : Value}
    {f_read_brackets : Addr} {od_read_brackets an_read_brackets : Option Addr} {sl_read_brackets : Array (Option Value)} {oc_read_brackets kV_read_brackets dc_read_brackets pm_read_brackets cd_read_brackets ct_read_brackets : Value}
    {f_read_place : Addr} {od_read_place an_read_place : Option Addr} {sl_read_place : Array (Option Value)} {oc_read_place kV_read_place dc_read_place pm_read_place cd_read_place ct_read_place : Value}
    {f_read_places : Addr} {od_read_places an_read_places : Option Addr} {sl_read_places : Array (Option Value)} {oc_read_places kV_read_places dc_read_places pm_read_places cd_read_places ct_read_places : Value}
    {f_are_let : Addr} {od_are_let an_are_let : Option Addr} {sl_are_let : Array (Option Value)} {oc_are_let kV_are_let dc_are_let pm_are_let cd_are_let ct_are_let : Value}
    {f_Condition_init : Addr} {od_Condition_init an_Condition_init : Option Addr} {sl_Condition_init : Array (Option Value)} {oc_Condition_init kV_Condition_init dc_Condition_init pm_Condition_init cd_Condition_init ct_Condition_init : Value}
    {f_Condition_ends : Addr} {od_Condition_ends an_Condition_ends : Option Addr} {sl_Condition_ends : Array (Option Value)} {oc_Condition_ends kV_Condition_ends dc_Condition_ends pm_Condition_ends cd_Condition_ends ct_Condition_ends : Value}
    {f_Condition_begins : Addr} {od_Condition_begins an_Condition_begins : Option Addr} {sl_Condition_begins : Array (Option Value)} {oc_Condition_begins kV_Condition_begins dc_Condition_begins pm_Condition_begins cd_Condition_begins ct_Condition_begins : Value}
    {f_are_names : Addr} {od_are_names an_are_names : Option Addr} {sl_are_names : Array (Option Value)} {oc_are_names kV_are_names dc_are_names pm_are_names cd_are_names ct_are_names : Value}
    {f_need_letters : Addr} {od_need_letters an_need_letters : Option Addr} {sl_need_letters : Array (Option Value)} {oc_need_letters kV_need_letters dc_need_letters pm_need_letters cd_need_letters ct_need_letters : Value}
    {f_need_further_names : Addr} {od_need_further_names an_need_further_names : Option Addr} {sl_need_further_names : Array (Option Value)} {oc_need_further_names kV_need_further_names dc_need_further_names pm_need_further_names cd_need_further_names ct_need_further_names : Value}
    {f_short_enough : Addr} {od_short_enough an_short_enough : Option Addr} {sl_short_enough : Array (Option Value)} {oc_short_enough kV_short_enough dc_short_enough pm_short_enough cd_short_enough ct_short_enough : Value}
    {f_written : Addr} {od_written an_written : Option Addr} {sl_written : Array (Option Value)} {oc_written kV_written dc_written pm_written cd_written ct_written : Value}
    {f_Rule_init : Addr} {od_Rule_init an_Rule_init : Option Addr} {sl_Rule_init : Array (Option Value)} {oc_Rule_init kV_Rule_init dc_Rule_init pm_Rule_init cd_Rule_init ct_Rule_init : Value}
    {f_Rule_use : Addr} {od_Rule_use an_Rule_use : Option Addr} {sl_Rule_use : Array (Option Value)} {oc_Rule_use kV_Rule_use dc_Rule_use pm_Rule_use cd_Rule_use ct_Rule_use : Value}
    {f_Rule_text : Addr} {od_Rule_text an_Rule_text : Option Addr} {sl_Rule_text : Array (Option Value)} {oc_Rule_text kV_Rule_text dc_Rule_text pm_Rule_text cd_Rule_text ct_Rule_text : Value}
    {f_Ending_init : Addr} {od_Ending_init an_Ending_init : Option Addr} {sl_Ending_init : Array (Option Value)} {oc_Ending_init kV_Ending_init dc_Ending_init pm_Ending_init cd_Ending_init ct_Ending_init : Value}
    {dt_Ending_init : Addr} {dq_Ending_init : Value} {dz_Ending_init : Option Addr} {dn_Ending_init : Nat} {dy_Ending_init : Array (Option Value)} {dk0_Ending_init : Tok}
    {f_Ending_use : Addr} {od_Ending_use an_Ending_use : Option Addr} {sl_Ending_use : Array (Option Value)} {oc_Ending_use kV_Ending_use dc_Ending_use pm_Ending_use cd_Ending_use ct_Ending_use : Value}
    {f_Ending_text : Addr} {od_Ending_text an_Ending_text : Option Addr} {sl_Ending_text : Array (Option Value)} {oc_Ending_text kV_Ending_text dc_Ending_text pm_Ending_text cd_Ending_text ct_Ending_text : Value}
    {f_Beginning_init : Addr} {od_Beginning_init an_Beginning_init : Option Addr} {sl_Beginning_init : Array (Option Value)} {oc_Beginning_init kV_Beginning_init dc_Beginning_init pm_Beginning_init cd_Beginning_init ct_Beginning_init : Value}
    {f_Beginning_use : Addr} {od_Beginning_use an_Beginning_use : Option Addr} {sl_Beginning_use : Array (Option Value)} {oc_Beginning_use kV_Beginning_use dc_Beginning_use pm_Beginning_use cd_Beginning_use ct_Beginning_use : Value}
    {f_Beginning_text : Addr} {od_Beginning_text an_Beginning_text : Option Addr} {sl_Beginning_text : Array (Option Value)} {oc_Beginning_text kV_Beginning_text dc_Beginning_text pm_Beginning_text cd_Beginning_text ct_Beginning_text : Value}
    {f_Band_init : Addr} {od_Band_init an_Band_init : Option Addr} {sl_Band_init : Array (Option Value)} {oc_Band_init kV_Band_init dc_Band_init pm_Band_init cd_Band_init ct_Band_init : Value}
    {f_used : Addr} {od_used an_used : Option Addr} {sl_used : Array (Option Value)} {oc_used kV_used dc_used pm_used cd_used ct_used : Value}
    {f_ended : Addr} {od_ended an_ended : Option Addr} {sl_ended : Array (Option Value)} {oc_ended kV_ended dc_ended pm_ended cd_ended ct_ended : Value}
    {f_order : Addr} {od_order an_order : Option Addr} {sl_order : Array (Option Value)} {oc_order kV_order dc_order pm_order cd_order ct_order : Value}
    {f_made : Addr} {od_made an_made : Option Addr} {sl_made : Array (Option Value)} {oc_made kV_made dc_made pm_made cd_made ct_made : Value}
    {f_l_mixed : Addr} {od_l_mixed an_l_mixed : Option Addr} {sl_l_mixed : Array (Option Value)} {oc_l_mixed kV_l_mixed dc_l_mixed pm_l_mixed cd_l_mixed ct_l_mixed : Value}
    {f_l_number : Addr} {od_l_number an_l_number : Option Addr} {sl_l_number : Array (Option Value)} {oc_l_number kV_l_number dc_l_number pm_l_number cd_l_number ct_l_number : Value}
    {f_l_letters : Addr} {od_l_letters an_l_letters : Option Addr} {sl_l_letters : Array (Option Value)} {oc_l_letters kV_l_letters dc_l_letters pm_l_letters cd_l_letters ct_l_letters : Value}
    {f_l_condition : Addr} {od_l_condition an_l_condition : Option Addr} {sl_l_condition : Array (Option Value)} {oc_l_condition kV_l_condition dc_l_condition pm_l_condition cd_l_condition ct_l_condition : Value}
    {f_l_written : Addr} {od_l_written an_l_written : Option Addr} {sl_l_written : Array (Option Value)} {oc_l_written kV_l_written dc_l_written pm_l_written cd_l_written ct_l_written : Value}
    {f_l_fits : Addr} {od_l_fits an_l_fits : Option Addr} {sl_l_fits : Array (Option Value)} {oc_l_fits kV_l_fits dc_l_fits pm_l_fits cd_l_fits ct_l_fits : Value}
    {f_l_used : Addr} {od_l_used an_l_used : Option Addr} {sl_l_used : Array (Option Value)} {oc_l_used kV_l_used dc_l_used pm_l_used cd_l_used ct_l_used : Value}
    {f_l_light : Addr} {od_l_light an_l_light : Option Addr} {sl_l_light : Array (Option Value)} {oc_l_light kV_l_light dc_l_light pm_l_light cd_l_light ct_l_light : Value}
    {f_l_bands : Addr} {od_l_bands an_l_bands : Option Addr} {sl_l_bands : Array (Option Value)} {oc_l_bands kV_l_bands dc_l_bands pm_l_bands cd_l_bands ct_l_bands : Value}
    {f_l_rules : Addr} {od_l_rules an_l_rules : Option Addr} {sl_l_rules : Array (Option Value)} {oc_l_rules kV_l_rules dc_l_rules pm_l_rules cd_l_rules ct_l_rules : Value}
    {f_l_stem : Addr} {od_l_stem an_l_stem : Option Addr} {sl_l_stem : Array (Option Value)} {oc_l_stem kV_l_stem dc_l_stem pm_l_stem cd_l_stem ct_l_stem : Value}
    {f_l_named : Addr} {od_l_named an_l_named : Option Addr} {sl_l_named : Array (Option Value)} {oc_l_named kV_l_named dc_l_named pm_l_named cd_l_named ct_l_named : Value}
    {f_l_pairs : Addr} {od_l_pairs an_l_pairs : Option Addr} {sl_l_pairs : Array (Option Value)} {oc_l_pairs kV_l_pairs dc_l_pairs pm_l_pairs cd_l_pairs ct_l_pairs : Value}
    {f_l_all : Addr} {od_l_all an_l_all : Option Addr} {sl_l_all : Array (Option Value)} {oc_l_all kV_l_all dc_l_all pm_l_all cd_l_all ct_l_all : Value}
    {f_l_walked : Addr} {od_l_walked an_l_walked : Option Addr} {sl_l_walked : Array (Option Value)} {oc_l_walked kV_l_walked dc_l_walked pm_l_walked cd_l_walked ct_l_walked : Value}
    {f_l_told : Addr} {od_l_told an_l_told : Option Addr} {sl_l_told : Array (Option Value)} {oc_l_told kV_l_told dc_l_told pm_l_told cd_l_told ct_l_told : Value}
    {f_l_names_not : Addr} {od_l_names_not an_l_names_not : Option Addr} {sl_l_names_not : Array (Option Value)} {oc_l_names_not kV_l_names_not dc_l_names_not pm_l_names_not cd_l_names_not ct_l_names_not : Value}
    {f_l_many_right : Addr} {od_l_many_right an_l_many_right : Option Addr} {sl_l_many_right : Array (Option Value)} {oc_l_many_right kV_l_many_right dc_l_many_right pm_l_many_right cd_l_many_right ct_l_many_right : Value}
    {f_law : Addr} {od_law an_law : Option Addr} {sl_law : Array (Option Value)} {oc_law kV_law dc_law pm_law cd_law ct_law : Value}
    (h_n_isinstance : PySem.W.nsIn K mainGlobals "isinstance" = some none)
    (h_n_str : PySem.W.nsIn K mainGlobals "str" = some none)
    (h_n_len : PySem.W.nsIn K mainGlobals "len" = some none)
    (h_n_set : PySem.W.nsIn K mainGlobals "set" = some none)
    (h_n_all : PySem.W.nsIn K mainGlobals "all" = some none)
    (h_n_zip : PySem.W.nsIn K mainGlobals "zip" = some none)
    (h_n_range : PySem.W.nsIn K mainGlobals "range" = some none)
    (h_n_enumerate : PySem.W.nsIn K mainGlobals "enumerate" = some none)
    (h_n_sorted : PySem.W.nsIn K mainGlobals "sorted" = some none)
    (h_n_list : PySem.W.nsIn K mainGlobals "list" = some none)
    (h_n_min : PySem.W.nsIn K mainGlobals "min" = some none)
    (h_n_int : PySem.W.nsIn K mainGlobals "int" = some none)
    (h_n_dict : PySem.W.nsIn K mainGlobals "dict" = some none)
    (h_g_LETTERS : PySem.W.nsIn K mainGlobals "LETTERS" = some (some (.str "abcdefghijklmnopqrstuvwxyz" t_LETTERS)))
    (h_g_MOST_IN_BRACKETS : PySem.W.nsIn K mainGlobals "MOST_IN_BRACKETS" = some (some (.int 8 t_MOST_IN_BRACKETS)))
    (h_g_MOST_PLACES : PySem.W.nsIn K mainGlobals "MOST_PLACES" = some (some (.int 3 t_MOST_PLACES)))
    (h_g_GREAT_LETTERS : PySem.W.nsIn K mainGlobals "GREAT_LETTERS" = some (some (.str "ABCDEFGHIJKLMNOPQRSTUVWXYZ" t_GREAT_LETTERS)))
    (h_g_MOST_CUT : PySem.W.nsIn K mainGlobals "MOST_CUT" = some (some (.int 4 t_MOST_CUT)))
    (h_g_MOST_ADDED : PySem.W.nsIn K mainGlobals "MOST_ADDED" = some (some (.int 6 t_MOST_ADDED)))
    (h_g_MOST_FURTHER : PySem.W.nsIn K mainGlobals "MOST_FURTHER" = some (some (.int 3 t_MOST_FURTHER)))
    (h_g_MOST_LETTERS : PySem.W.nsIn K mainGlobals "MOST_LETTERS" = some (some (.int 16 t_MOST_LETTERS)))
    (h_g_ENDING : PySem.W.nsIn K mainGlobals "ENDING" = some (some (.str "ending" t_ENDING)))
    (h_g_BEGINNING : PySem.W.nsIn K mainGlobals "BEGINNING" = some (some (.str "beginning" t_BEGINNING)))
    (h_g_BadRule : PySem.W.nsIn K mainGlobals "BadRule" = some (some (.ref c_BadRule)))
    (h_x_BadRule : PySem.W.excIn K c_BadRule [.type "ValueError", .type "Exception", .type "BaseException", .type "object"] "ValueError.__new__" = true)
    (h_k_BadRule : PySem.W.keepIn K (.ref c_BadRule) = true)
    (h_s_BadRule : PySem.W.subIn K (.ref c_BadRule) (.type "BaseException") = some true)
    (h_t_BadRule : PySem.W.typeIn K (.ref c_BadRule) = some (.type "type"))
    (h_ga_BadRule : PySem.W.findIn K (.ref c_BadRule) "__getattribute__" = some (some (.builtin "BaseException.__getattribute__")))
    (h_gg_BadRule : PySem.W.findIn K (.ref c_BadRule) "__getattr__" = some none)
    (h_hd_BadRule : PySem.W.hasDictIn K c_BadRule = true)
    (h_cl_BadRule : PySem.W.findIn K (.ref c_BadRule) "__class__" = some (some (.builtin "object.__class__")))
    (h_hm_BadRule : PySem.W.mroIn K c_BadRule (.type "object") = some true)
    (h_i_BadRule_BadRule : PySem.W.kitOne K (.ref c_BadRule) (.ref c_BadRule) = some true)
    (h_i_BadRule_ValueError : PySem.W.kitOne K (.ref c_BadRule) (.type "ValueError") = some true)
    (h_gd : PySem.W.specialIn K (.builtin "object.__class__") "__get__" = some (some (.builtin "getset_descriptor.__get__")))
    (h_tk : PySem.W.takesIn K (.builtin "object.__class__") = some true)
    (h_g_Condition : PySem.W.nsIn K mainGlobals "Condition" = some (some (.ref c_Condition)))
    (h_pg_Condition : PySem.W.plainGet K c_Condition Str.empty = true)
    (h_hd_Condition : PySem.W.hasDictIn K c_Condition = true)
    (h_po_Condition : PySem.W.plainOver K c_Condition = true)
    (h_sa_Condition : PySem.W.findIn K (.ref c_Condition) "__setattr__" = some (some (.builtin "object.__setattr__")))
    (h_mk_Condition : PySem.W.makesIn K c_Condition = true)
    (h_kc_Condition : PySem.W.keepIn K (.ref c_Condition) = true)
    (h_g_Rule : PySem.W.nsIn K mainGlobals "Rule" = some (some (.ref c_Rule)))
    (h_pg_Rule : PySem.W.plainGet K c_Rule Str.empty = true)
    (h_hd_Rule : PySem.W.hasDictIn K c_Rule = true)
    (h_po_Rule : PySem.W.plainOver K c_Rule = true)
    (h_sa_Rule : PySem.W.findIn K (.ref c_Rule) "__setattr__" = some (some (.builtin "object.__setattr__")))
    (h_mk_Rule : PySem.W.makesIn K c_Rule = true)
    (h_kc_Rule : PySem.W.keepIn K (.ref c_Rule) = true)
    (h_g_Ending : PySem.W.nsIn K mainGlobals "Ending" = some (some (.ref c_Ending)))
    (h_pg_Ending : PySem.W.plainGet K c_Ending Str.empty = true)
    (h_hd_Ending : PySem.W.hasDictIn K c_Ending = true)
    (h_po_Ending : PySem.W.plainOver K c_Ending = true)
    (h_sa_Ending : PySem.W.findIn K (.ref c_Ending) "__setattr__" = some (some (.builtin "object.__setattr__")))
    (h_mk_Ending : PySem.W.makesIn K c_Ending = true)
    (h_kc_Ending : PySem.W.keepIn K (.ref c_Ending) = true)
    (h_g_Beginning : PySem.W.nsIn K mainGlobals "Beginning" = some (some (.ref c_Beginning)))
    (h_pg_Beginning : PySem.W.plainGet K c_Beginning Str.empty = true)
    (h_hd_Beginning : PySem.W.hasDictIn K c_Beginning = true)
    (h_po_Beginning : PySem.W.plainOver K c_Beginning = true)
    (h_sa_Beginning : PySem.W.findIn K (.ref c_Beginning) "__setattr__" = some (some (.builtin "object.__setattr__")))
    (h_mk_Beginning : PySem.W.makesIn K c_Beginning = true)
    (h_kc_Beginning : PySem.W.keepIn K (.ref c_Beginning) = true)
    (h_g_Band : PySem.W.nsIn K mainGlobals "Band" = some (some (.ref c_Band)))
    (h_pg_Band : PySem.W.plainGet K c_Band Str.empty = true)
    (h_hd_Band : PySem.W.hasDictIn K c_Band = true)
    (h_po_Band : PySem.W.plainOver K c_Band = true)
    (h_sa_Band : PySem.W.findIn K (.ref c_Band) "__setattr__" = some (some (.builtin "object.__setattr__")))
    (h_mk_Band : PySem.W.makesIn K c_Band = true)
    (h_kc_Band : PySem.W.keepIn K (.ref c_Band) = true)
    (h_na_Beginning_condition : PySem.W.findIn K (.ref c_Beginning) "condition" = some none)
    (h_na_Beginning_cut : PySem.W.findIn K (.ref c_Beginning) "cut" = some none)
    (h_na_Beginning_added : PySem.W.findIn K (.ref c_Beginning) "added" = some none)
    (h_na_Ending_condition : PySem.W.findIn K (.ref c_Ending) "condition" = some none)
    (h_na_Ending_cut : PySem.W.findIn K (.ref c_Ending) "cut" = some none)
    (h_na_Ending_added : PySem.W.findIn K (.ref c_Ending) "added" = some none)
    (h_na_Rule_condition : PySem.W.findIn K (.ref c_Rule) "condition" = some none)
    (h_na_Rule_cut : PySem.W.findIn K (.ref c_Rule) "cut" = some none)
    (h_na_Rule_added : PySem.W.findIn K (.ref c_Rule) "added" = some none)
    (h_na_Ending_further : PySem.W.findIn K (.ref c_Ending) "further" = some none)
    (h_na_Band_kind : PySem.W.findIn K (.ref c_Band) "kind" = some none)
    (h_na_Band_rules : PySem.W.findIn K (.ref c_Band) "rules" = some none)
    (h_na_Condition_places : PySem.W.findIn K (.ref c_Condition) "places" = some none)
    (h_na_Condition_told : PySem.W.findIn K (.ref c_Condition) "told" = some none)
    (h_rd_Rule : PySem.W.readsIn K c_Rule (.type "type") = true)
    (h_sg_Rule : PySem.W.specialIn K (.ref c_Rule) "__getattribute__" = some (some (.builtin "type.__getattribute__")))
    (h_g_are_letters : PySem.W.nsIn K mainGlobals "are_letters" = some (some (.ref f_are_letters)))
    (h_l_are_letters : K.lookup f_are_letters = some ⟨oc_are_letters, od_are_letters, .func (PySem.W.fnOf "are_letters" "are_letters" (defArgs s_are_letters) (defBody s_are_letters) (defScope s_are_letters) .none kV_are_letters dc_are_letters pm_are_letters an_are_letters cd_are_letters ct_are_letters), sl_are_letters⟩)
    (h_c_are_letters : PySem.W.codeIn K cd_are_letters "are_letters" = true)
    (h_k_are_letters : PySem.W.keepIn K (.ref f_are_letters) = true)
    (h_g_all_but : PySem.W.nsIn K mainGlobals "all_but" = some (some (.ref f_all_but)))
    (h_l_all_but : K.lookup f_all_but = some ⟨oc_all_but, od_all_but, .func (PySem.W.fnOf "all_but" "all_but" (defArgs s_all_but) (defBody s_all_but) (defScope s_all_but) .none kV_all_but dc_all_but pm_all_but an_all_but cd_all_but ct_all_but), sl_all_but⟩)
    (h_c_all_but : PySem.W.codeIn K cd_all_but "all_but" = true)
    (h_k_all_but : PySem.W.keepIn K (.ref f_all_but) = true)
    (h_g_is_bracketed : PySem.W.nsIn K mainGlobals "is_bracketed" = some (some (.ref f_is_bracketed)))
    (h_l_is_bracketed : K.lookup f_is_bracketed = some ⟨oc_is_bracketed, od_is_bracketed, .func (PySem.W.fnOf "is_bracketed" "is_bracketed" (defArgs s_is_bracketed) (defBody s_is_bracketed) (defScope s_is_bracketed) .none kV_is_bracketed dc_is_bracketed pm_is_bracketed an_is_bracketed cd_is_bracketed ct_is_bracketed), sl_is_bracketed⟩)
    (h_c_is_bracketed : PySem.W.codeIn K cd_is_bracketed "is_bracketed" = true)
    (h_k_is_bracketed : PySem.W.keepIn K (.ref f_is_bracketed) = true)
    (h_g_read_brackets : PySem.W.nsIn K mainGlobals "read_brackets" = some (some (.ref f_read_brackets)))
    (h_l_read_brackets : K.lookup f_read_brackets = some ⟨oc_read_brackets, od_read_brackets, .func (PySem.W.fnOf "read_brackets" "read_brackets" (defArgs s_read_brackets) (defBody s_read_brackets) (defScope s_read_brackets) .none kV_read_brackets dc_read_brackets pm_read_brackets an_read_brackets cd_read_brackets ct_read_brackets), sl_read_brackets⟩)
    (h_c_read_brackets : PySem.W.codeIn K cd_read_brackets "read_brackets" = true)
    (h_k_read_brackets : PySem.W.keepIn K (.ref f_read_brackets) = true)
    (h_g_read_place : PySem.W.nsIn K mainGlobals "read_place" = some (some (.ref f_read_place)))
    (h_l_read_place : K.lookup f_read_place = some ⟨oc_read_place, od_read_place, .func (PySem.W.fnOf "read_place" "read_place" (defArgs s_read_place) (defBody s_read_place) (defScope s_read_place) .none kV_read_place dc_read_place pm_read_place an_read_place cd_read_place ct_read_place), sl_read_place⟩)
    (h_c_read_place : PySem.W.codeIn K cd_read_place "read_place" = true)
    (h_k_read_place : PySem.W.keepIn K (.ref f_read_place) = true)
    (h_g_read_places : PySem.W.nsIn K mainGlobals "read_places" = some (some (.ref f_read_places)))
    (h_l_read_places : K.lookup f_read_places = some ⟨oc_read_places, od_read_places, .func (PySem.W.fnOf "read_places" "read_places" (defArgs s_read_places) (defBody s_read_places) (defScope s_read_places) .none kV_read_places dc_read_places pm_read_places an_read_places cd_read_places ct_read_places), sl_read_places⟩)
    (h_c_read_places : PySem.W.codeIn K cd_read_places "read_places" = true)
    (h_k_read_places : PySem.W.keepIn K (.ref f_read_places) = true)
    (h_g_are_let : PySem.W.nsIn K mainGlobals "are_let" = some (some (.ref f_are_let)))
    (h_l_are_let : K.lookup f_are_let = some ⟨oc_are_let, od_are_let, .func (PySem.W.fnOf "are_let" "are_let" (defArgs s_are_let) (defBody s_are_let) (defScope s_are_let) .none kV_are_let dc_are_let pm_are_let an_are_let cd_are_let ct_are_let), sl_are_let⟩)
    (h_c_are_let : PySem.W.codeIn K cd_are_let "are_let" = true)
    (h_k_are_let : PySem.W.keepIn K (.ref f_are_let) = true)
    (h_a_Condition_init : PySem.W.findIn K (.ref c_Condition) "__init__" = some (some (.ref f_Condition_init)))
    (h_i_Condition_init : PySem.W.isFn K (.ref f_Condition_init) = true)
    (h_l_Condition_init : K.lookup f_Condition_init = some ⟨oc_Condition_init, od_Condition_init, .func (PySem.W.fnOf "__init__" "Condition.__init__" (defArgs s_Condition_init) (defBody s_Condition_init) (defScope s_Condition_init) .none kV_Condition_init dc_Condition_init pm_Condition_init an_Condition_init cd_Condition_init ct_Condition_init), sl_Condition_init⟩)
    (h_c_Condition_init : PySem.W.codeIn K cd_Condition_init "Condition.__init__" = true)
    (h_k_Condition_init : PySem.W.keepIn K (.ref f_Condition_init) = true)
    (h_a_Condition_ends : PySem.W.findIn K (.ref c_Condition) "ends" = some (some (.ref f_Condition_ends)))
    (h_i_Condition_ends : PySem.W.isFn K (.ref f_Condition_ends) = true)
    (h_l_Condition_ends : K.lookup f_Condition_ends = some ⟨oc_Condition_ends, od_Condition_ends, .func (PySem.W.fnOf "ends" "Condition.ends" (defArgs s_Condition_ends) (defBody s_Condition_ends) (defScope s_Condition_ends) .none kV_Condition_ends dc_Condition_ends pm_Condition_ends an_Condition_ends cd_Condition_ends ct_Condition_ends), sl_Condition_ends⟩)
    (h_c_Condition_ends : PySem.W.codeIn K cd_Condition_ends "Condition.ends" = true)
    (h_k_Condition_ends : PySem.W.keepIn K (.ref f_Condition_ends) = true)
    (h_a_Condition_begins : PySem.W.findIn K (.ref c_Condition) "begins" = some (some (.ref f_Condition_begins)))
    (h_i_Condition_begins : PySem.W.isFn K (.ref f_Condition_begins) = true)
    (h_l_Condition_begins : K.lookup f_Condition_begins = some ⟨oc_Condition_begins, od_Condition_begins, .func (PySem.W.fnOf "begins" "Condition.begins" (defArgs s_Condition_begins) (defBody s_Condition_begins) (defScope s_Condition_begins) .none kV_Condition_begins dc_Condition_begins pm_Condition_begins an_Condition_begins cd_Condition_begins ct_Condition_begins), sl_Condition_begins⟩)
    (h_c_Condition_begins : PySem.W.codeIn K cd_Condition_begins "Condition.begins" = true)
    (h_k_Condition_begins : PySem.W.keepIn K (.ref f_Condition_begins) = true)
    (h_g_are_names : PySem.W.nsIn K mainGlobals "are_names" = some (some (.ref f_are_names)))
    (h_l_are_names : K.lookup f_are_names = some ⟨oc_are_names, od_are_names, .func (PySem.W.fnOf "are_names" "are_names" (defArgs s_are_names) (defBody s_are_names) (defScope s_are_names) .none kV_are_names dc_are_names pm_are_names an_are_names cd_are_names ct_are_names), sl_are_names⟩)
    (h_c_are_names : PySem.W.codeIn K cd_are_names "are_names" = true)
    (h_k_are_names : PySem.W.keepIn K (.ref f_are_names) = true)
    (h_g_need_letters : PySem.W.nsIn K mainGlobals "need_letters" = some (some (.ref f_need_letters)))
    (h_l_need_letters : K.lookup f_need_letters = some ⟨oc_need_letters, od_need_letters, .func (PySem.W.fnOf "need_letters" "need_letters" (defArgs s_need_letters) (defBody s_need_letters) (defScope s_need_letters) .none kV_need_letters dc_need_letters pm_need_letters an_need_letters cd_need_letters ct_need_letters), sl_need_letters⟩)
    (h_c_need_letters : PySem.W.codeIn K cd_need_letters "need_letters" = true)
    (h_k_need_letters : PySem.W.keepIn K (.ref f_need_letters) = true)
    (h_g_need_further_names : PySem.W.nsIn K mainGlobals "need_further_names" = some (some (.ref f_need_further_names)))
    (h_l_need_further_names : K.lookup f_need_further_names = some ⟨oc_need_further_names, od_need_further_names, .func (PySem.W.fnOf "need_further_names" "need_further_names" (defArgs s_need_further_names) (defBody s_need_further_names) (defScope s_need_further_names) .none kV_need_further_names dc_need_further_names pm_need_further_names an_need_further_names cd_need_further_names ct_need_further_names), sl_need_further_names⟩)
    (h_c_need_further_names : PySem.W.codeIn K cd_need_further_names "need_further_names" = true)
    (h_k_need_further_names : PySem.W.keepIn K (.ref f_need_further_names) = true)
    (h_g_short_enough : PySem.W.nsIn K mainGlobals "short_enough" = some (some (.ref f_short_enough)))
    (h_l_short_enough : K.lookup f_short_enough = some ⟨oc_short_enough, od_short_enough, .func (PySem.W.fnOf "short_enough" "short_enough" (defArgs s_short_enough) (defBody s_short_enough) (defScope s_short_enough) .none kV_short_enough dc_short_enough pm_short_enough an_short_enough cd_short_enough ct_short_enough), sl_short_enough⟩)
    (h_c_short_enough : PySem.W.codeIn K cd_short_enough "short_enough" = true)
    (h_k_short_enough : PySem.W.keepIn K (.ref f_short_enough) = true)
    (h_g_written : PySem.W.nsIn K mainGlobals "written" = some (some (.ref f_written)))
    (h_l_written : K.lookup f_written = some ⟨oc_written, od_written, .func (PySem.W.fnOf "written" "written" (defArgs s_written) (defBody s_written) (defScope s_written) .none kV_written dc_written pm_written an_written cd_written ct_written), sl_written⟩)
    (h_c_written : PySem.W.codeIn K cd_written "written" = true)
    (h_k_written : PySem.W.keepIn K (.ref f_written) = true)
    (h_a_Rule_init : PySem.W.findIn K (.ref c_Rule) "__init__" = some (some (.ref f_Rule_init)))
    (h_i_Rule_init : PySem.W.isFn K (.ref f_Rule_init) = true)
    (h_l_Rule_init : K.lookup f_Rule_init = some ⟨oc_Rule_init, od_Rule_init, .func (PySem.W.fnOf "__init__" "Rule.__init__" (defArgs s_Rule_init) (defBody s_Rule_init) (defScope s_Rule_init) .none kV_Rule_init dc_Rule_init pm_Rule_init an_Rule_init cd_Rule_init ct_Rule_init), sl_Rule_init⟩)
    (h_c_Rule_init : PySem.W.codeIn K cd_Rule_init "Rule.__init__" = true)
    (h_k_Rule_init : PySem.W.keepIn K (.ref f_Rule_init) = true)
    (h_a_Rule_use : PySem.W.findIn K (.ref c_Rule) "use" = some (some (.ref f_Rule_use)))
    (h_i_Rule_use : PySem.W.isFn K (.ref f_Rule_use) = true)
    (h_l_Rule_use : K.lookup f_Rule_use = some ⟨oc_Rule_use, od_Rule_use, .func (PySem.W.fnOf "use" "Rule.use" (defArgs s_Rule_use) (defBody s_Rule_use) (defScope s_Rule_use) .none kV_Rule_use dc_Rule_use pm_Rule_use an_Rule_use cd_Rule_use ct_Rule_use), sl_Rule_use⟩)
    (h_c_Rule_use : PySem.W.codeIn K cd_Rule_use "Rule.use" = true)
    (h_k_Rule_use : PySem.W.keepIn K (.ref f_Rule_use) = true)
    (h_a_Rule_text : PySem.W.findIn K (.ref c_Rule) "text" = some (some (.ref f_Rule_text)))
    (h_i_Rule_text : PySem.W.isFn K (.ref f_Rule_text) = true)
    (h_l_Rule_text : K.lookup f_Rule_text = some ⟨oc_Rule_text, od_Rule_text, .func (PySem.W.fnOf "text" "Rule.text" (defArgs s_Rule_text) (defBody s_Rule_text) (defScope s_Rule_text) .none kV_Rule_text dc_Rule_text pm_Rule_text an_Rule_text cd_Rule_text ct_Rule_text), sl_Rule_text⟩)
    (h_c_Rule_text : PySem.W.codeIn K cd_Rule_text "Rule.text" = true)
    (h_k_Rule_text : PySem.W.keepIn K (.ref f_Rule_text) = true)
    (h_a_Ending_init : PySem.W.findIn K (.ref c_Ending) "__init__" = some (some (.ref f_Ending_init)))
    (h_i_Ending_init : PySem.W.isFn K (.ref f_Ending_init) = true)
    (h_l_Ending_init : K.lookup f_Ending_init = some ⟨oc_Ending_init, od_Ending_init, .func (PySem.W.fnOf "__init__" "Ending.__init__" (defArgs s_Ending_init) (defBody s_Ending_init) (defScope s_Ending_init) (.ref dt_Ending_init) kV_Ending_init dc_Ending_init pm_Ending_init an_Ending_init cd_Ending_init ct_Ending_init), sl_Ending_init⟩)
    (h_c_Ending_init : PySem.W.codeIn K cd_Ending_init "Ending.__init__" = true)
    (h_k_Ending_init : PySem.W.keepIn K (.ref f_Ending_init) = true)
    (h_dt_Ending_init : K.lookup dt_Ending_init = some ⟨dq_Ending_init, dz_Ending_init, .seq [(.str "" dk0_Ending_init)].toArray dn_Ending_init, dy_Ending_init⟩)
    (h_a_Ending_use : PySem.W.findIn K (.ref c_Ending) "use" = some (some (.ref f_Ending_use)))
    (h_i_Ending_use : PySem.W.isFn K (.ref f_Ending_use) = true)
    (h_l_Ending_use : K.lookup f_Ending_use = some ⟨oc_Ending_use, od_Ending_use, .func (PySem.W.fnOf "use" "Ending.use" (defArgs s_Ending_use) (defBody s_Ending_use) (defScope s_Ending_use) .none kV_Ending_use dc_Ending_use pm_Ending_use an_Ending_use cd_Ending_use ct_Ending_use), sl_Ending_use⟩)
    (h_c_Ending_use : PySem.W.codeIn K cd_Ending_use "Ending.use" = true)
    (h_k_Ending_use : PySem.W.keepIn K (.ref f_Ending_use) = true)
    (h_a_Ending_text : PySem.W.findIn K (.ref c_Ending) "text" = some (some (.ref f_Ending_text)))
    (h_i_Ending_text : PySem.W.isFn K (.ref f_Ending_text) = true)
    (h_l_Ending_text : K.lookup f_Ending_text = some ⟨oc_Ending_text, od_Ending_text, .func (PySem.W.fnOf "text" "Ending.text" (defArgs s_Ending_text) (defBody s_Ending_text) (defScope s_Ending_text) .none kV_Ending_text dc_Ending_text pm_Ending_text an_Ending_text cd_Ending_text ct_Ending_text), sl_Ending_text⟩)
    (h_c_Ending_text : PySem.W.codeIn K cd_Ending_text "Ending.text" = true)
    (h_k_Ending_text : PySem.W.keepIn K (.ref f_Ending_text) = true)
    (h_a_Beginning_init : PySem.W.findIn K (.ref c_Beginning) "__init__" = some (some (.ref f_Beginning_init)))
    (h_i_Beginning_init : PySem.W.isFn K (.ref f_Beginning_init) = true)
    (h_l_Beginning_init : K.lookup f_Beginning_init = some ⟨oc_Beginning_init, od_Beginning_init, .func (PySem.W.fnOf "__init__" "Beginning.__init__" (defArgs s_Beginning_init) (defBody s_Beginning_init) (defScope s_Beginning_init) .none kV_Beginning_init dc_Beginning_init pm_Beginning_init an_Beginning_init cd_Beginning_init ct_Beginning_init), sl_Beginning_init⟩)
    (h_c_Beginning_init : PySem.W.codeIn K cd_Beginning_init "Beginning.__init__" = true)
    (h_k_Beginning_init : PySem.W.keepIn K (.ref f_Beginning_init) = true)
    (h_a_Beginning_use : PySem.W.findIn K (.ref c_Beginning) "use" = some (some (.ref f_Beginning_use)))
    (h_i_Beginning_use : PySem.W.isFn K (.ref f_Beginning_use) = true)
    (h_l_Beginning_use : K.lookup f_Beginning_use = some ⟨oc_Beginning_use, od_Beginning_use, .func (PySem.W.fnOf "use" "Beginning.use" (defArgs s_Beginning_use) (defBody s_Beginning_use) (defScope s_Beginning_use) .none kV_Beginning_use dc_Beginning_use pm_Beginning_use an_Beginning_use cd_Beginning_use ct_Beginning_use), sl_Beginning_use⟩)
    (h_c_Beginning_use : PySem.W.codeIn K cd_Beginning_use "Beginning.use" = true)
    (h_k_Beginning_use : PySem.W.keepIn K (.ref f_Beginning_use) = true)
    (h_a_Beginning_text : PySem.W.findIn K (.ref c_Beginning) "text" = some (some (.ref f_Beginning_text)))
    (h_i_Beginning_text : PySem.W.isFn K (.ref f_Beginning_text) = true)
    (h_l_Beginning_text : K.lookup f_Beginning_text = some ⟨oc_Beginning_text, od_Beginning_text, .func (PySem.W.fnOf "text" "Beginning.text" (defArgs s_Beginning_text) (defBody s_Beginning_text) (defScope s_Beginning_text) .none kV_Beginning_text dc_Beginning_text pm_Beginning_text an_Beginning_text cd_Beginning_text ct_Beginning_text), sl_Beginning_text⟩)
    (h_c_Beginning_text : PySem.W.codeIn K cd_Beginning_text "Beginning.text" = true)
    (h_k_Beginning_text : PySem.W.keepIn K (.ref f_Beginning_text) = true)
    (h_a_Band_init : PySem.W.findIn K (.ref c_Band) "__init__" = some (some (.ref f_Band_init)))
    (h_i_Band_init : PySem.W.isFn K (.ref f_Band_init) = true)
    (h_l_Band_init : K.lookup f_Band_init = some ⟨oc_Band_init, od_Band_init, .func (PySem.W.fnOf "__init__" "Band.__init__" (defArgs s_Band_init) (defBody s_Band_init) (defScope s_Band_init) .none kV_Band_init dc_Band_init pm_Band_init an_Band_init cd_Band_init ct_Band_init), sl_Band_init⟩)
    (h_c_Band_init : PySem.W.codeIn K cd_Band_init "Band.__init__" = true)
    (h_k_Band_init : PySem.W.keepIn K (.ref f_Band_init) = true)
    (h_g_used : PySem.W.nsIn K mainGlobals "used" = some (some (.ref f_used)))
    (h_l_used : K.lookup f_used = some ⟨oc_used, od_used, .func (PySem.W.fnOf "used" "used" (defArgs s_used) (defBody s_used) (defScope s_used) .none kV_used dc_used pm_used an_used cd_used ct_used), sl_used⟩)
    (h_c_used : PySem.W.codeIn K cd_used "used" = true)
    (h_k_used : PySem.W.keepIn K (.ref f_used) = true)
    (h_g_ended : PySem.W.nsIn K mainGlobals "ended" = some (some (.ref f_ended)))
    (h_l_ended : K.lookup f_ended = some ⟨oc_ended, od_ended, .func (PySem.W.fnOf "ended" "ended" (defArgs s_ended) (defBody s_ended) (defScope s_ended) .none kV_ended dc_ended pm_ended an_ended cd_ended ct_ended), sl_ended⟩)
    (h_c_ended : PySem.W.codeIn K cd_ended "ended" = true)
    (h_k_ended : PySem.W.keepIn K (.ref f_ended) = true)
    (h_g_order : PySem.W.nsIn K mainGlobals "order" = some (some (.ref f_order)))
    (h_l_order : K.lookup f_order = some ⟨oc_order, od_order, .func (PySem.W.fnOf "order" "order" (defArgs s_order) (defBody s_order) (defScope s_order) .none kV_order dc_order pm_order an_order cd_order ct_order), sl_order⟩)
    (h_c_order : PySem.W.codeIn K cd_order "order" = true)
    (h_k_order : PySem.W.keepIn K (.ref f_order) = true)
    (h_g_made : PySem.W.nsIn K mainGlobals "made" = some (some (.ref f_made)))
    (h_l_made : K.lookup f_made = some ⟨oc_made, od_made, .func (PySem.W.fnOf "made" "made" (defArgs s_made) (defBody s_made) (defScope s_made) .none kV_made dc_made pm_made an_made cd_made ct_made), sl_made⟩)
    (h_c_made : PySem.W.codeIn K cd_made "made" = true)
    (h_k_made : PySem.W.keepIn K (.ref f_made) = true)
    (h_g_l_mixed : PySem.W.nsIn K mainGlobals "_law_mixed" = some (some (.ref f_l_mixed)))
    (h_l_l_mixed : K.lookup f_l_mixed = some ⟨oc_l_mixed, od_l_mixed, .func (PySem.W.fnOf "_law_mixed" "_law_mixed" (defArgs s_l_mixed) (defBody s_l_mixed) (defScope s_l_mixed) .none kV_l_mixed dc_l_mixed pm_l_mixed an_l_mixed cd_l_mixed ct_l_mixed), sl_l_mixed⟩)
    (h_c_l_mixed : PySem.W.codeIn K cd_l_mixed "_law_mixed" = true)
    (h_k_l_mixed : PySem.W.keepIn K (.ref f_l_mixed) = true)
    (h_g_l_number : PySem.W.nsIn K mainGlobals "_law_number" = some (some (.ref f_l_number)))
    (h_l_l_number : K.lookup f_l_number = some ⟨oc_l_number, od_l_number, .func (PySem.W.fnOf "_law_number" "_law_number" (defArgs s_l_number) (defBody s_l_number) (defScope s_l_number) .none kV_l_number dc_l_number pm_l_number an_l_number cd_l_number ct_l_number), sl_l_number⟩)
    (h_c_l_number : PySem.W.codeIn K cd_l_number "_law_number" = true)
    (h_k_l_number : PySem.W.keepIn K (.ref f_l_number) = true)
    (h_g_l_letters : PySem.W.nsIn K mainGlobals "_law_letters" = some (some (.ref f_l_letters)))
    (h_l_l_letters : K.lookup f_l_letters = some ⟨oc_l_letters, od_l_letters, .func (PySem.W.fnOf "_law_letters" "_law_letters" (defArgs s_l_letters) (defBody s_l_letters) (defScope s_l_letters) .none kV_l_letters dc_l_letters pm_l_letters an_l_letters cd_l_letters ct_l_letters), sl_l_letters⟩)
    (h_c_l_letters : PySem.W.codeIn K cd_l_letters "_law_letters" = true)
    (h_k_l_letters : PySem.W.keepIn K (.ref f_l_letters) = true)
    (h_g_l_condition : PySem.W.nsIn K mainGlobals "_law_condition" = some (some (.ref f_l_condition)))
    (h_l_l_condition : K.lookup f_l_condition = some ⟨oc_l_condition, od_l_condition, .func (PySem.W.fnOf "_law_condition" "_law_condition" (defArgs s_l_condition) (defBody s_l_condition) (defScope s_l_condition) .none kV_l_condition dc_l_condition pm_l_condition an_l_condition cd_l_condition ct_l_condition), sl_l_condition⟩)
    (h_c_l_condition : PySem.W.codeIn K cd_l_condition "_law_condition" = true)
    (h_k_l_condition : PySem.W.keepIn K (.ref f_l_condition) = true)
    (h_g_l_written : PySem.W.nsIn K mainGlobals "_law_written" = some (some (.ref f_l_written)))
    (h_l_l_written : K.lookup f_l_written = some ⟨oc_l_written, od_l_written, .func (PySem.W.fnOf "_law_written" "_law_written" (defArgs s_l_written) (defBody s_l_written) (defScope s_l_written) .none kV_l_written dc_l_written pm_l_written an_l_written cd_l_written ct_l_written), sl_l_written⟩)
    (h_c_l_written : PySem.W.codeIn K cd_l_written "_law_written" = true)
    (h_k_l_written : PySem.W.keepIn K (.ref f_l_written) = true)
    (h_g_l_fits : PySem.W.nsIn K mainGlobals "_law_fits" = some (some (.ref f_l_fits)))
    (h_l_l_fits : K.lookup f_l_fits = some ⟨oc_l_fits, od_l_fits, .func (PySem.W.fnOf "_law_fits" "_law_fits" (defArgs s_l_fits) (defBody s_l_fits) (defScope s_l_fits) .none kV_l_fits dc_l_fits pm_l_fits an_l_fits cd_l_fits ct_l_fits), sl_l_fits⟩)
    (h_c_l_fits : PySem.W.codeIn K cd_l_fits "_law_fits" = true)
    (h_k_l_fits : PySem.W.keepIn K (.ref f_l_fits) = true)
    (h_g_l_used : PySem.W.nsIn K mainGlobals "_law_used" = some (some (.ref f_l_used)))
    (h_l_l_used : K.lookup f_l_used = some ⟨oc_l_used, od_l_used, .func (PySem.W.fnOf "_law_used" "_law_used" (defArgs s_l_used) (defBody s_l_used) (defScope s_l_used) .none kV_l_used dc_l_used pm_l_used an_l_used cd_l_used ct_l_used), sl_l_used⟩)
    (h_c_l_used : PySem.W.codeIn K cd_l_used "_law_used" = true)
    (h_k_l_used : PySem.W.keepIn K (.ref f_l_used) = true)
    (h_g_l_light : PySem.W.nsIn K mainGlobals "_law_light" = some (some (.ref f_l_light)))
    (h_l_l_light : K.lookup f_l_light = some ⟨oc_l_light, od_l_light, .func (PySem.W.fnOf "_law_light" "_law_light" (defArgs s_l_light) (defBody s_l_light) (defScope s_l_light) .none kV_l_light dc_l_light pm_l_light an_l_light cd_l_light ct_l_light), sl_l_light⟩)
    (h_c_l_light : PySem.W.codeIn K cd_l_light "_law_light" = true)
    (h_k_l_light : PySem.W.keepIn K (.ref f_l_light) = true)
    (h_g_l_bands : PySem.W.nsIn K mainGlobals "_law_bands" = some (some (.ref f_l_bands)))
    (h_l_l_bands : K.lookup f_l_bands = some ⟨oc_l_bands, od_l_bands, .func (PySem.W.fnOf "_law_bands" "_law_bands" (defArgs s_l_bands) (defBody s_l_bands) (defScope s_l_bands) .none kV_l_bands dc_l_bands pm_l_bands an_l_bands cd_l_bands ct_l_bands), sl_l_bands⟩)
    (h_c_l_bands : PySem.W.codeIn K cd_l_bands "_law_bands" = true)
    (h_k_l_bands : PySem.W.keepIn K (.ref f_l_bands) = true)
    (h_g_l_rules : PySem.W.nsIn K mainGlobals "_law_rules" = some (some (.ref f_l_rules)))
    (h_l_l_rules : K.lookup f_l_rules = some ⟨oc_l_rules, od_l_rules, .func (PySem.W.fnOf "_law_rules" "_law_rules" (defArgs s_l_rules) (defBody s_l_rules) (defScope s_l_rules) .none kV_l_rules dc_l_rules pm_l_rules an_l_rules cd_l_rules ct_l_rules), sl_l_rules⟩)
    (h_c_l_rules : PySem.W.codeIn K cd_l_rules "_law_rules" = true)
    (h_k_l_rules : PySem.W.keepIn K (.ref f_l_rules) = true)
    (h_g_l_stem : PySem.W.nsIn K mainGlobals "_law_stem" = some (some (.ref f_l_stem)))
    (h_l_l_stem : K.lookup f_l_stem = some ⟨oc_l_stem, od_l_stem, .func (PySem.W.fnOf "_law_stem" "_law_stem" (defArgs s_l_stem) (defBody s_l_stem) (defScope s_l_stem) .none kV_l_stem dc_l_stem pm_l_stem an_l_stem cd_l_stem ct_l_stem), sl_l_stem⟩)
    (h_c_l_stem : PySem.W.codeIn K cd_l_stem "_law_stem" = true)
    (h_k_l_stem : PySem.W.keepIn K (.ref f_l_stem) = true)
    (h_g_l_named : PySem.W.nsIn K mainGlobals "_law_named" = some (some (.ref f_l_named)))
    (h_l_l_named : K.lookup f_l_named = some ⟨oc_l_named, od_l_named, .func (PySem.W.fnOf "_law_named" "_law_named" (defArgs s_l_named) (defBody s_l_named) (defScope s_l_named) .none kV_l_named dc_l_named pm_l_named an_l_named cd_l_named ct_l_named), sl_l_named⟩)
    (h_c_l_named : PySem.W.codeIn K cd_l_named "_law_named" = true)
    (h_k_l_named : PySem.W.keepIn K (.ref f_l_named) = true)
    (h_g_l_pairs : PySem.W.nsIn K mainGlobals "_law_pairs" = some (some (.ref f_l_pairs)))
    (h_l_l_pairs : K.lookup f_l_pairs = some ⟨oc_l_pairs, od_l_pairs, .func (PySem.W.fnOf "_law_pairs" "_law_pairs" (defArgs s_l_pairs) (defBody s_l_pairs) (defScope s_l_pairs) .none kV_l_pairs dc_l_pairs pm_l_pairs an_l_pairs cd_l_pairs ct_l_pairs), sl_l_pairs⟩)
    (h_c_l_pairs : PySem.W.codeIn K cd_l_pairs "_law_pairs" = true)
    (h_k_l_pairs : PySem.W.keepIn K (.ref f_l_pairs) = true)
    (h_g_l_all : PySem.W.nsIn K mainGlobals "_law_all" = some (some (.ref f_l_all)))
    (h_l_l_all : K.lookup f_l_all = some ⟨oc_l_all, od_l_all, .func (PySem.W.fnOf "_law_all" "_law_all" (defArgs s_l_all) (defBody s_l_all) (defScope s_l_all) .none kV_l_all dc_l_all pm_l_all an_l_all cd_l_all ct_l_all), sl_l_all⟩)
    (h_c_l_all : PySem.W.codeIn K cd_l_all "_law_all" = true)
    (h_k_l_all : PySem.W.keepIn K (.ref f_l_all) = true)
    (h_g_l_walked : PySem.W.nsIn K mainGlobals "_law_walked" = some (some (.ref f_l_walked)))
    (h_l_l_walked : K.lookup f_l_walked = some ⟨oc_l_walked, od_l_walked, .func (PySem.W.fnOf "_law_walked" "_law_walked" (defArgs s_l_walked) (defBody s_l_walked) (defScope s_l_walked) .none kV_l_walked dc_l_walked pm_l_walked an_l_walked cd_l_walked ct_l_walked), sl_l_walked⟩)
    (h_c_l_walked : PySem.W.codeIn K cd_l_walked "_law_walked" = true)
    (h_k_l_walked : PySem.W.keepIn K (.ref f_l_walked) = true)
    (h_g_l_told : PySem.W.nsIn K mainGlobals "_law_told" = some (some (.ref f_l_told)))
    (h_l_l_told : K.lookup f_l_told = some ⟨oc_l_told, od_l_told, .func (PySem.W.fnOf "_law_told" "_law_told" (defArgs s_l_told) (defBody s_l_told) (defScope s_l_told) .none kV_l_told dc_l_told pm_l_told an_l_told cd_l_told ct_l_told), sl_l_told⟩)
    (h_c_l_told : PySem.W.codeIn K cd_l_told "_law_told" = true)
    (h_k_l_told : PySem.W.keepIn K (.ref f_l_told) = true)
    (h_g_l_names_not : PySem.W.nsIn K mainGlobals "_law_names_not" = some (some (.ref f_l_names_not)))
    (h_l_l_names_not : K.lookup f_l_names_not = some ⟨oc_l_names_not, od_l_names_not, .func (PySem.W.fnOf "_law_names_not" "_law_names_not" (defArgs s_l_names_not) (defBody s_l_names_not) (defScope s_l_names_not) .none kV_l_names_not dc_l_names_not pm_l_names_not an_l_names_not cd_l_names_not ct_l_names_not), sl_l_names_not⟩)
    (h_c_l_names_not : PySem.W.codeIn K cd_l_names_not "_law_names_not" = true)
    (h_k_l_names_not : PySem.W.keepIn K (.ref f_l_names_not) = true)
    (h_g_l_many_right : PySem.W.nsIn K mainGlobals "_law_many_right" = some (some (.ref f_l_many_right)))
    (h_l_l_many_right : K.lookup f_l_many_right = some ⟨oc_l_many_right, od_l_many_right, .func (PySem.W.fnOf "_law_many_right" "_law_many_right" (defArgs s_l_many_right) (defBody s_l_many_right) (defScope s_l_many_right) .none kV_l_many_right dc_l_many_right pm_l_many_right an_l_many_right cd_l_many_right ct_l_many_right), sl_l_many_right⟩)
    (h_c_l_many_right : PySem.W.codeIn K cd_l_many_right "_law_many_right" = true)
    (h_k_l_many_right : PySem.W.keepIn K (.ref f_l_many_right) = true)
    (h_g_law : PySem.W.nsIn K mainGlobals "law" = some (some (.ref f_law)))
    (h_l_law : K.lookup f_law = some ⟨oc_law, od_law, .func (PySem.W.fnOf "law" "law" (defArgs s_law) (defBody s_law) (defScope s_law) .none kV_law dc_law pm_law an_law cd_law ct_law), sl_law⟩)
    (h_c_law : PySem.W.codeIn K cd_law "law" = true)
    (h_k_law : PySem.W.keepIn K (.ref f_law) = true)
    (h_fc_Rule_init : PySem.W.findCls K (.ref c_Rule) (.type "type") "__init__" = some (.val (.ref f_Rule_init))) :
    ∃ fd : FuncData, (∀ (s : Shared) (v : Value), BindsTo s fd ⟨[v], []⟩ [("_law_script", v)]) ∧ ∀ base : Heap, K.In base → base.Ns mainGlobals mg → FnOk l.prog w K mg base CX0 12 fa fd P_law (spLaw K) := by
  have e := hfa.symm.trans (PySem.W.mg_of X G h_g_law)
  cases e
  have T : Txt K mg { c_BadRule := c_BadRule, c_Condition := c_Condition, c_Rule := c_Rule, c_Ending := c_Ending, c_Beginning := c_Beginning, c_Band := c_Band, f_are_letters := f_are_letters, d_are_letters := _, f_all_but := f_all_but, d_all_but := _, f_is_bracketed := f_is_bracketed, d_is_bracketed := _, f_read_brackets := f_read_brackets, d_read_brackets := _, f_read_place := f_read_place, d_read_place := _, f_read_places := f_read_places, d_read_places := _, f_are_let := f_are_let, d_are_let := _, f_Condition_init := f_Condition_init, d_Condition_init := _, f_Condition_ends := f_Condition_ends, d_Condition_ends := _, f_Condition_begins := f_Condition_begins, d_Condition_begins := _, f_are_names := f_are_names, d_are_names := _, f_need_letters := f_need_letters, d_need_letters := _, f_need_further_names := f_need_further_names, d_need_further_names := _, f_short_enough := f_short_enough, d_short_enough := _, f_written := f_written, d_written := _, f_Rule_init := f_Rule_init, d_Rule_init := _, f_Rule_use := f_Rule_use, d_Rule_use := _, f_Rule_text := f_Rule_text, d_Rule_text := _, f_Ending_init := f_Ending_init, d_Ending_init := _, f_Ending_use := f_Ending_use, d_Ending_use := _, f_Ending_text := f_Ending_text, d_Ending_text := _, f_Beginning_init := f_Beginning_init, d_Beginning_init := _, f_Beginning_use := f_Beginning_use, d_Beginning_use := _, f_Beginning_text := f_Beginning_text, d_Beginning_text := _, f_Band_init := f_Band_init, d_Band_init := _, f_used := f_used, d_used := _, f_ended := f_ended, d_ended := _, f_order := f_order, d_order := _, f_made := f_made, d_made := _, f_l_mixed := f_l_mixed, d_l_mixed := _, f_l_number := f_l_number, d_l_number := _, f_l_letters := f_l_letters, d_l_letters := _, f_l_condition := f_l_condition, d_l_condition := _, f_l_written := f_l_written, d_l_written := _, f_l_fits := f_l_fits, d_l_fits := _, f_l_used := f_l_used, d_l_used := _, f_l_light := f_l_light, d_l_light := _, f_l_bands := f_l_bands, d_l_bands := _, f_l_rules := f_l_rules, d_l_rules := _, f_l_stem := f_l_stem, d_l_stem := _, f_l_named := f_l_named, d_l_named := _, f_l_pairs := f_l_pairs, d_l_pairs := _, f_l_all := f_l_all, d_l_all := _, f_l_walked := f_l_walked, d_l_walked := _, f_l_told := f_l_told, d_l_told := _, f_l_names_not := f_l_names_not, d_l_names_not := _, f_l_many_right := f_l_many_right, d_l_many_right := _, f_law := fa, d_law := _ } := {
    n_isinstance := PySem.W.mg_none_of X G h_n_isinstance
    n_str := PySem.W.mg_none_of X G h_n_str
    n_len := PySem.W.mg_none_of X G h_n_len
    n_set := PySem.W.mg_none_of X G h_n_set
    n_all := PySem.W.mg_none_of X G h_n_all
    n_zip := PySem.W.mg_none_of X G h_n_zip
    n_range := PySem.W.mg_none_of X G h_n_range
    n_enumerate := PySem.W.mg_none_of X G h_n_enumerate
    n_sorted := PySem.W.mg_none_of X G h_n_sorted
    n_list := PySem.W.mg_none_of X G h_n_list
    n_min := PySem.W.mg_none_of X G h_n_min
    n_int := PySem.W.mg_none_of X G h_n_int
    n_dict := PySem.W.mg_none_of X G h_n_dict
    g_LETTERS := ⟨_, PySem.W.mg_of X G h_g_LETTERS⟩
    g_MOST_IN_BRACKETS := ⟨_, PySem.W.mg_of X G h_g_MOST_IN_BRACKETS⟩
    g_MOST_PLACES := ⟨_, PySem.W.mg_of X G h_g_MOST_PLACES⟩
    g_GREAT_LETTERS := ⟨_, PySem.W.mg_of X G h_g_GREAT_LETTERS⟩
    g_MOST_CUT := ⟨_, PySem.W.mg_of X G h_g_MOST_CUT⟩
    g_MOST_ADDED := ⟨_, PySem.W.mg_of X G h_g_MOST_ADDED⟩
    g_MOST_FURTHER := ⟨_, PySem.W.mg_of X G h_g_MOST_FURTHER⟩
    g_MOST_LETTERS := ⟨_, PySem.W.mg_of X G h_g_MOST_LETTERS⟩
    g_ENDING := ⟨_, PySem.W.mg_of X G h_g_ENDING⟩
    g_BEGINNING := ⟨_, PySem.W.mg_of X G h_g_BEGINNING⟩
    g_BadRule := PySem.W.mg_of X G h_g_BadRule
    x_BadRule := h_x_BadRule
    k_BadRule := h_k_BadRule
    s_BadRule := h_s_BadRule
    t_BadRule := h_t_BadRule
    e_BadRule := ⟨h_ga_BadRule, h_gg_BadRule, h_s_BadRule, h_hd_BadRule, h_cl_BadRule, h_gd, h_tk, h_hm_BadRule⟩
    i_BadRule_BadRule := h_i_BadRule_BadRule
    i_BadRule_ValueError := h_i_BadRule_ValueError
    g_Condition := PySem.W.mg_of X G h_g_Condition
    cl_Condition := ⟨h_pg_Condition, h_hd_Condition, h_po_Condition, h_sa_Condition⟩
    M_Condition := ⟨h_mk_Condition, h_a_Condition_init, h_i_Condition_init, h_kc_Condition⟩
    g_Rule := PySem.W.mg_of X G h_g_Rule
    cl_Rule := ⟨h_pg_Rule, h_hd_Rule, h_po_Rule, h_sa_Rule⟩
    M_Rule := ⟨h_mk_Rule, h_a_Rule_init, h_i_Rule_init, h_kc_Rule⟩
    g_Ending := PySem.W.mg_of X G h_g_Ending
    cl_Ending := ⟨h_pg_Ending, h_hd_Ending, h_po_Ending, h_sa_Ending⟩
    M_Ending := ⟨h_mk_Ending, h_a_Ending_init, h_i_Ending_init, h_kc_Ending⟩
    g_Beginning := PySem.W.mg_of X G h_g_Beginning
    cl_Beginning := ⟨h_pg_Beginning, h_hd_Beginning, h_po_Beginning, h_sa_Beginning⟩
    M_Beginning := ⟨h_mk_Beginning, h_a_Beginning_init, h_i_Beginning_init, h_kc_Beginning⟩
    g_Band := PySem.W.mg_of X G h_g_Band
    cl_Band := ⟨h_pg_Band, h_hd_Band, h_po_Band, h_sa_Band⟩
    M_Band := ⟨h_mk_Band, h_a_Band_init, h_i_Band_init, h_kc_Band⟩
    na_Beginning_condition := h_na_Beginning_condition
    na_Beginning_cut := h_na_Beginning_cut
    na_Beginning_added := h_na_Beginning_added
    na_Ending_condition := h_na_Ending_condition
    na_Ending_cut := h_na_Ending_cut
    na_Ending_added := h_na_Ending_added
    na_Rule_condition := h_na_Rule_condition
    na_Rule_cut := h_na_Rule_cut
    na_Rule_added := h_na_Rule_added
    na_Ending_further := h_na_Ending_further
    na_Band_kind := h_na_Band_kind
    na_Band_rules := h_na_Band_rules
    na_Condition_places := h_na_Condition_places
    na_Condition_told := h_na_Condition_told
    mt_Condition_ends := ⟨h_a_Condition_ends, h_i_Condition_ends, h_k_Condition_ends⟩
    mt_Condition_begins := ⟨h_a_Condition_begins, h_i_Condition_begins, h_k_Condition_begins⟩
    mt_Ending_use := ⟨h_a_Ending_use, h_i_Ending_use, h_k_Ending_use⟩
    mt_Beginning_use := ⟨h_a_Beginning_use, h_i_Beginning_use, h_k_Beginning_use⟩
    of_Rule_init := ⟨⟨h_rd_Rule, h_sg_Rule⟩, h_fc_Rule_init, h_k_Rule_init⟩
    g_are_letters := PySem.W.mg_of X G h_g_are_letters
    k_are_letters := h_k_are_letters
    F_are_letters := fun_mk (st := s_are_letters) h_l_are_letters h_c_are_letters h_k_are_letters
    b_are_letters := (fun_mk (st := s_are_letters) h_l_are_letters h_c_are_letters h_k_are_letters).binds (ps := P_are_letters) fun _ _ _ _ _ _ us hl => match us, hl with | [_], _ => rfl
    g_all_but := PySem.W.mg_of X G h_g_all_but
    k_all_but := h_k_all_but
    F_all_but := fun_mk (st := s_all_but) h_l_all_but h_c_all_but h_k_all_but
    b_all_but := (fun_mk (st := s_all_but) h_l_all_but h_c_all_but h_k_all_but).binds (ps := P_all_but) fun _ _ _ _ _ _ us hl => match us, hl with | [_], _ => rfl
    g_is_bracketed := PySem.W.mg_of X G h_g_is_bracketed
    k_is_bracketed := h_k_is_bracketed
    F_is_bracketed := fun_mk (st := s_is_bracketed) h_l_is_bracketed h_c_is_bracketed h_k_is_bracketed
    b_is_bracketed := (fun_mk (st := s_is_bracketed) h_l_is_bracketed h_c_is_bracketed h_k_is_bracketed).binds (ps := P_is_bracketed) fun _ _ _ _ _ _ us hl => match us, hl with | [_], _ => rfl
    g_read_brackets := PySem.W.mg_of X G h_g_read_brackets
    k_read_brackets := h_k_read_brackets
    F_read_brackets := fun_mk (st := s_read_brackets) h_l_read_brackets h_c_read_brackets h_k_read_brackets
    b_read_brackets := (fun_mk (st := s_read_brackets) h_l_read_brackets h_c_read_brackets h_k_read_brackets).binds (ps := P_read_brackets) fun _ _ _ _ _ _ us hl => match us, hl with | [_, _], _ => rfl
    g_read_place := PySem.W.mg_of X G h_g_read_place
    k_read_place := h_k_read_place
    F_read_place := fun_mk (st := s_read_place) h_l_read_place h_c_read_place h_k_read_place
    b_read_place := (fun_mk (st := s_read_place) h_l_read_place h_c_read_place h_k_read_place).binds (ps := P_read_place) fun _ _ _ _ _ _ us hl => match us, hl with | [_, _], _ => rfl
    g_read_places := PySem.W.mg_of X G h_g_read_places
    k_read_places := h_k_read_places
    F_read_places := fun_mk (st := s_read_places) h_l_read_places h_c_read_places h_k_read_places
    b_read_places := (fun_mk (st := s_read_places) h_l_read_places h_c_read_places h_k_read_places).binds (ps := P_read_places) fun _ _ _ _ _ _ us hl => match us, hl with | [_], _ => rfl
    g_are_let := PySem.W.mg_of X G h_g_are_let
    k_are_let := h_k_are_let
    F_are_let := fun_mk (st := s_are_let) h_l_are_let h_c_are_let h_k_are_let
    b_are_let := (fun_mk (st := s_are_let) h_l_are_let h_c_are_let h_k_are_let).binds (ps := P_are_let) fun _ _ _ _ _ _ us hl => match us, hl with | [_, _], _ => rfl
    F_Condition_init := fun_mk (st := s_Condition_init) h_l_Condition_init h_c_Condition_init h_k_Condition_init
    b_Condition_init := (fun_mk (st := s_Condition_init) h_l_Condition_init h_c_Condition_init h_k_Condition_init).binds (ps := P_Condition_init) fun _ _ _ _ _ _ us hl => match us, hl with | [_, _], _ => rfl
    F_Condition_ends := fun_mk (st := s_Condition_ends) h_l_Condition_ends h_c_Condition_ends h_k_Condition_ends
    b_Condition_ends := (fun_mk (st := s_Condition_ends) h_l_Condition_ends h_c_Condition_ends h_k_Condition_ends).binds (ps := P_Condition_ends) fun _ _ _ _ _ _ us hl => match us, hl with | [_, _], _ => rfl
    F_Condition_begins := fun_mk (st := s_Condition_begins) h_l_Condition_begins h_c_Condition_begins h_k_Condition_begins
    b_Condition_begins := (fun_mk (st := s_Condition_begins) h_l_Condition_begins h_c_Condition_begins h_k_Condition_begins).binds (ps := P_Condition_begins) fun _ _ _ _ _ _ us hl => match us, hl with | [_, _], _ => rfl
    g_are_names := PySem.W.mg_of X G h_g_are_names
    k_are_names := h_k_are_names
    F_are_names := fun_mk (st := s_are_names) h_l_are_names h_c_are_names h_k_are_names
    b_are_names := (fun_mk (st := s_are_names) h_l_are_names h_c_are_names h_k_are_names).binds (ps := P_are_names) fun _ _ _ _ _ _ us hl => match us, hl with | [_, _], _ => rfl
    g_need_letters := PySem.W.mg_of X G h_g_need_letters
    k_need_letters := h_k_need_letters
    F_need_letters := fun_mk (st := s_need_letters) h_l_need_letters h_c_need_letters h_k_need_letters
    b_need_letters := (fun_mk (st := s_need_letters) h_l_need_letters h_c_need_letters h_k_need_letters).binds (ps := P_need_letters) fun _ _ _ _ _ _ us hl => match us, hl with | [_, _], _ => rfl
    g_need_further_names := PySem.W.mg_of X G h_g_need_further_names
    k_need_further_names := h_k_need_further_names
    F_need_further_names := fun_mk (st := s_need_further_names) h_l_need_further_names h_c_need_further_names h_k_need_further_names
    b_need_further_names := (fun_mk (st := s_need_further_names) h_l_need_further_names h_c_need_further_names h_k_need_further_names).binds (ps := P_need_further_names) fun _ _ _ _ _ _ us hl => match us, hl with | [_], _ => rfl
    g_short_enough := PySem.W.mg_of X G h_g_short_enough
    k_short_enough := h_k_short_enough
    F_short_enough := fun_mk (st := s_short_enough) h_l_short_enough h_c_short_enough h_k_short_enough
    b_short_enough := (fun_mk (st := s_short_enough) h_l_short_enough h_c_short_enough h_k_short_enough).binds (ps := P_short_enough) fun _ _ _ _ _ _ us hl => match us, hl with | [_], _ => rfl
    g_written := PySem.W.mg_of X G h_g_written
    k_written := h_k_written
    F_written := fun_mk (st := s_written) h_l_written h_c_written h_k_written
    b_written := (fun_mk (st := s_written) h_l_written h_c_written h_k_written).binds (ps := P_written) fun _ _ _ _ _ _ us hl => match us, hl with | [_], _ => rfl
    F_Rule_init := fun_mk (st := s_Rule_init) h_l_Rule_init h_c_Rule_init h_k_Rule_init
    b_Rule_init := (fun_mk (st := s_Rule_init) h_l_Rule_init h_c_Rule_init h_k_Rule_init).binds (ps := P_Rule_init) fun _ _ _ _ _ _ us hl => match us, hl with | [_, _, _, _], _ => rfl
    F_Rule_use := fun_mk (st := s_Rule_use) h_l_Rule_use h_c_Rule_use h_k_Rule_use
    b_Rule_use := (fun_mk (st := s_Rule_use) h_l_Rule_use h_c_Rule_use h_k_Rule_use).binds (ps := P_Rule_use) fun _ _ _ _ _ _ us hl => match us, hl with | [_, _], _ => rfl
    F_Rule_text := fun_mk (st := s_Rule_text) h_l_Rule_text h_c_Rule_text h_k_Rule_text
    b_Rule_text := (fun_mk (st := s_Rule_text) h_l_Rule_text h_c_Rule_text h_k_Rule_text).binds (ps := P_Rule_text) fun _ _ _ _ _ _ us hl => match us, hl with | [_], _ => rfl
    F_Ending_init := (⟨⟨_, _, _, _, _, _, _, _, _, _, rfl, h_l_Ending_init, h_c_Ending_init, Or.inr ⟨by simp, _, _, _, _, rfl, h_dt_Ending_init, rfl, (.cons ⟨_, rfl⟩ .nil)⟩, Or.inl rfl⟩, h_k_Ending_init⟩ : FunD K "__init__" "Ending.__init__" (defArgs s_Ending_init) (defBody s_Ending_init) (defScope s_Ending_init) [.str ""] [] f_Ending_init (PySem.W.fnOf "__init__" "Ending.__init__" (defArgs s_Ending_init) (defBody s_Ending_init) (defScope s_Ending_init) (.ref dt_Ending_init) kV_Ending_init dc_Ending_init pm_Ending_init an_Ending_init cd_Ending_init ct_Ending_init))
    b_Ending_init := (by obtain ⟨ds, hv, hb⟩ := ((⟨⟨_, _, _, _, _, _, _, _, _, _, rfl, h_l_Ending_init, h_c_Ending_init, Or.inr ⟨by simp, _, _, _, _, rfl, h_dt_Ending_init, rfl, (.cons ⟨_, rfl⟩ .nil)⟩, Or.inl rfl⟩, h_k_Ending_init⟩ : FunD K "__init__" "Ending.__init__" (defArgs s_Ending_init) (defBody s_Ending_init) (defScope s_Ending_init) [.str ""] [] f_Ending_init (PySem.W.fnOf "__init__" "Ending.__init__" (defArgs s_Ending_init) (defBody s_Ending_init) (defScope s_Ending_init) (.ref dt_Ending_init) kV_Ending_init dc_Ending_init pm_Ending_init an_Ending_init cd_Ending_init ct_Ending_init)).binds1 (ps := P_Ending_init) 5 1 (by simp) rfl fun _ _ _ _ _ _ _ us its hu hi => match us, its, hu, hi with | [_, _, _, _, _], [_], _, _ => ⟨_, rfl, rfl⟩); cases hv; exact hb)
    bd_Ending_init := ((⟨⟨_, _, _, _, _, _, _, _, _, _, rfl, h_l_Ending_init, h_c_Ending_init, Or.inr ⟨by simp, _, _, _, _, rfl, h_dt_Ending_init, rfl, (.cons ⟨_, rfl⟩ .nil)⟩, Or.inl rfl⟩, h_k_Ending_init⟩ : FunD K "__init__" "Ending.__init__" (defArgs s_Ending_init) (defBody s_Ending_init) (defScope s_Ending_init) [.str ""] [] f_Ending_init (PySem.W.fnOf "__init__" "Ending.__init__" (defArgs s_Ending_init) (defBody s_Ending_init) (defScope s_Ending_init) (.ref dt_Ending_init) kV_Ending_init dc_Ending_init pm_Ending_init an_Ending_init cd_Ending_init ct_Ending_init)).binds1 (ps := P_Ending_init) 4 0 (by simp) rfl fun _ _ _ _ _ _ _ us its hu hi => match us, its, hu, hi with | [_, _, _, _], [_], _, _ => ⟨_, rfl, rfl⟩)
    F_Ending_use := fun_mk (st := s_Ending_use) h_l_Ending_use h_c_Ending_use h_k_Ending_use
    b_Ending_use := (fun_mk (st := s_Ending_use) h_l_Ending_use h_c_Ending_use h_k_Ending_use).binds (ps := P_Ending_use) fun _ _ _ _ _ _ us hl => match us, hl with | [_, _], _ => rfl
    F_Ending_text := fun_mk (st := s_Ending_text) h_l_Ending_text h_c_Ending_text h_k_Ending_text
    b_Ending_text := (fun_mk (st := s_Ending_text) h_l_Ending_text h_c_Ending_text h_k_Ending_text).binds (ps := P_Ending_text) fun _ _ _ _ _ _ us hl => match us, hl with | [_], _ => rfl
    F_Beginning_init := fun_mk (st := s_Beginning_init) h_l_Beginning_init h_c_Beginning_init h_k_Beginning_init
    b_Beginning_init := (fun_mk (st := s_Beginning_init) h_l_Beginning_init h_c_Beginning_init h_k_Beginning_init).binds (ps := P_Beginning_init) fun _ _ _ _ _ _ us hl => match us, hl with | [_, _, _, _], _ => rfl
    F_Beginning_use := fun_mk (st := s_Beginning_use) h_l_Beginning_use h_c_Beginning_use h_k_Beginning_use
    b_Beginning_use := (fun_mk (st := s_Beginning_use) h_l_Beginning_use h_c_Beginning_use h_k_Beginning_use).binds (ps := P_Beginning_use) fun _ _ _ _ _ _ us hl => match us, hl with | [_, _], _ => rfl
    F_Beginning_text := fun_mk (st := s_Beginning_text) h_l_Beginning_text h_c_Beginning_text h_k_Beginning_text
    b_Beginning_text := (fun_mk (st := s_Beginning_text) h_l_Beginning_text h_c_Beginning_text h_k_Beginning_text).binds (ps := P_Beginning_text) fun _ _ _ _ _ _ us hl => match us, hl with | [_], _ => rfl
    F_Band_init := fun_mk (st := s_Band_init) h_l_Band_init h_c_Band_init h_k_Band_init
    b_Band_init := (fun_mk (st := s_Band_init) h_l_Band_init h_c_Band_init h_k_Band_init).binds (ps := P_Band_init) fun _ _ _ _ _ _ us hl => match us, hl with | [_, _, _], _ => rfl
    g_used := PySem.W.mg_of X G h_g_used
    k_used := h_k_used
    F_used := fun_mk (st := s_used) h_l_used h_c_used h_k_used
    b_used := (fun_mk (st := s_used) h_l_used h_c_used h_k_used).binds (ps := P_used) fun _ _ _ _ _ _ us hl => match us, hl with | [_, _, _, _], _ => rfl
    g_ended := PySem.W.mg_of X G h_g_ended
    k_ended := h_k_ended
    F_ended := fun_mk (st := s_ended) h_l_ended h_c_ended h_k_ended
    b_ended := (fun_mk (st := s_ended) h_l_ended h_c_ended h_k_ended).binds (ps := P_ended) fun _ _ _ _ _ _ us hl => match us, hl with | [_, _, _], _ => rfl
    g_order := PySem.W.mg_of X G h_g_order
    k_order := h_k_order
    F_order := fun_mk (st := s_order) h_l_order h_c_order h_k_order
    b_order := (fun_mk (st := s_order) h_l_order h_c_order h_k_order).binds (ps := P_order) fun _ _ _ _ _ _ us hl => match us, hl with | [_], _ => rfl
    g_made := PySem.W.mg_of X G h_g_made
    k_made := h_k_made
    F_made := fun_mk (st := s_made) h_l_made h_c_made h_k_made
    b_made := (fun_mk (st := s_made) h_l_made h_c_made h_k_made).binds (ps := P_made) fun _ _ _ _ _ _ us hl => match us, hl with | [_, _, _], _ => rfl
    g_l_mixed := PySem.W.mg_of X G h_g_l_mixed
    k_l_mixed := h_k_l_mixed
    F_l_mixed := fun_mk (st := s_l_mixed) h_l_l_mixed h_c_l_mixed h_k_l_mixed
    b_l_mixed := (fun_mk (st := s_l_mixed) h_l_l_mixed h_c_l_mixed h_k_l_mixed).binds (ps := P_l_mixed) fun _ _ _ _ _ _ us hl => match us, hl with | [_, _], _ => rfl
    g_l_number := PySem.W.mg_of X G h_g_l_number
    k_l_number := h_k_l_number
    F_l_number := fun_mk (st := s_l_number) h_l_l_number h_c_l_number h_k_l_number
    b_l_number := (fun_mk (st := s_l_number) h_l_l_number h_c_l_number h_k_l_number).binds (ps := P_l_number) fun _ _ _ _ _ _ us hl => match us, hl with | [_, _], _ => rfl
    g_l_letters := PySem.W.mg_of X G h_g_l_letters
    k_l_letters := h_k_l_letters
    F_l_letters := fun_mk (st := s_l_letters) h_l_l_letters h_c_l_letters h_k_l_letters
    b_l_letters := (fun_mk (st := s_l_letters) h_l_l_letters h_c_l_letters h_k_l_letters).binds (ps := P_l_letters) fun _ _ _ _ _ _ us hl => match us, hl with | [_, _, _], _ => rfl
    g_l_condition := PySem.W.mg_of X G h_g_l_condition
    k_l_condition := h_k_l_condition
    F_l_condition := fun_mk (st := s_l_condition) h_l_l_condition h_c_l_condition h_k_l_condition
    b_l_condition := (fun_mk (st := s_l_condition) h_l_l_condition h_c_l_condition h_k_l_condition).binds (ps := P_l_condition) fun _ _ _ _ _ _ us hl => match us, hl with | [_, _], _ => rfl
    g_l_written := PySem.W.mg_of X G h_g_l_written
    k_l_written := h_k_l_written
    F_l_written := fun_mk (st := s_l_written) h_l_l_written h_c_l_written h_k_l_written
    b_l_written := (fun_mk (st := s_l_written) h_l_l_written h_c_l_written h_k_l_written).binds (ps := P_l_written) fun _ _ _ _ _ _ us hl => match us, hl with | [_], _ => rfl
    g_l_fits := PySem.W.mg_of X G h_g_l_fits
    k_l_fits := h_k_l_fits
    F_l_fits := fun_mk (st := s_l_fits) h_l_l_fits h_c_l_fits h_k_l_fits
    b_l_fits := (fun_mk (st := s_l_fits) h_l_l_fits h_c_l_fits h_k_l_fits).binds (ps := P_l_fits) fun _ _ _ _ _ _ us hl => match us, hl with | [_, _], _ => rfl
    g_l_used := PySem.W.mg_of X G h_g_l_used
    k_l_used := h_k_l_used
    F_l_used := fun_mk (st := s_l_used) h_l_l_used h_c_l_used h_k_l_used
    b_l_used := (fun_mk (st := s_l_used) h_l_l_used h_c_l_used h_k_l_used).binds (ps := P_l_used) fun _ _ _ _ _ _ us hl => match us, hl with | [_, _, _], _ => rfl
    g_l_light := PySem.W.mg_of X G h_g_l_light
    k_l_light := h_k_l_light
    F_l_light := fun_mk (st := s_l_light) h_l_l_light h_c_l_light h_k_l_light
    b_l_light := (fun_mk (st := s_l_light) h_l_l_light h_c_l_light h_k_l_light).binds (ps := P_l_light) fun _ _ _ _ _ _ us hl => match us, hl with | [_, _, _], _ => rfl
    g_l_bands := PySem.W.mg_of X G h_g_l_bands
    k_l_bands := h_k_l_bands
    F_l_bands := fun_mk (st := s_l_bands) h_l_l_bands h_c_l_bands h_k_l_bands
    b_l_bands := (fun_mk (st := s_l_bands) h_l_l_bands h_c_l_bands h_k_l_bands).binds (ps := P_l_bands) fun _ _ _ _ _ _ us hl => match us, hl with | [_], _ => rfl
    g_l_rules := PySem.W.mg_of X G h_g_l_rules
    k_l_rules := h_k_l_rules
    F_l_rules := fun_mk (st := s_l_rules) h_l_l_rules h_c_l_rules h_k_l_rules
    b_l_rules := (fun_mk (st := s_l_rules) h_l_l_rules h_c_l_rules h_k_l_rules).binds (ps := P_l_rules) fun _ _ _ _ _ _ us hl => match us, hl with | [_], _ => rfl
    g_l_stem := PySem.W.mg_of X G h_g_l_stem
    k_l_stem := h_k_l_stem
    F_l_stem := fun_mk (st := s_l_stem) h_l_l_stem h_c_l_stem h_k_l_stem
    b_l_stem := (fun_mk (st := s_l_stem) h_l_l_stem h_c_l_stem h_k_l_stem).binds (ps := P_l_stem) fun _ _ _ _ _ _ us hl => match us, hl with | [_, _], _ => rfl
    g_l_named := PySem.W.mg_of X G h_g_l_named
    k_l_named := h_k_l_named
    F_l_named := fun_mk (st := s_l_named) h_l_l_named h_c_l_named h_k_l_named
    b_l_named := (fun_mk (st := s_l_named) h_l_l_named h_c_l_named h_k_l_named).binds (ps := P_l_named) fun _ _ _ _ _ _ us hl => match us, hl with | [_, _, _], _ => rfl
    g_l_pairs := PySem.W.mg_of X G h_g_l_pairs
    k_l_pairs := h_k_l_pairs
    F_l_pairs := fun_mk (st := s_l_pairs) h_l_l_pairs h_c_l_pairs h_k_l_pairs
    b_l_pairs := (fun_mk (st := s_l_pairs) h_l_l_pairs h_c_l_pairs h_k_l_pairs).binds (ps := P_l_pairs) fun _ _ _ _ _ _ us hl => match us, hl with | [_, _, _], _ => rfl
    g_l_all := PySem.W.mg_of X G h_g_l_all
    k_l_all := h_k_l_all
    F_l_all := fun_mk (st := s_l_all) h_l_l_all h_c_l_all h_k_l_all
    b_l_all := (fun_mk (st := s_l_all) h_l_l_all h_c_l_all h_k_l_all).binds (ps := P_l_all) fun _ _ _ _ _ _ us hl => match us, hl with | [_, _, _], _ => rfl
    g_l_walked := PySem.W.mg_of X G h_g_l_walked
    k_l_walked := h_k_l_walked
    F_l_walked := fun_mk (st := s_l_walked) h_l_l_walked h_c_l_walked h_k_l_walked
    b_l_walked := (fun_mk (st := s_l_walked) h_l_l_walked h_c_l_walked h_k_l_walked).binds (ps := P_l_walked) fun _ _ _ _ _ _ us hl => match us, hl with | [_, _], _ => rfl
    g_l_told := PySem.W.mg_of X G h_g_l_told
    k_l_told := h_k_l_told
    F_l_told := fun_mk (st := s_l_told) h_l_l_told h_c_l_told h_k_l_told
    b_l_told := (fun_mk (st := s_l_told) h_l_l_told h_c_l_told h_k_l_told).binds (ps := P_l_told) fun _ _ _ _ _ _ us hl => match us, hl with | [_, _, _, _], _ => rfl
    g_l_names_not := PySem.W.mg_of X G h_g_l_names_not
    k_l_names_not := h_k_l_names_not
    F_l_names_not := fun_mk (st := s_l_names_not) h_l_l_names_not h_c_l_names_not h_k_l_names_not
    b_l_names_not := (fun_mk (st := s_l_names_not) h_l_l_names_not h_c_l_names_not h_k_l_names_not).binds (ps := P_l_names_not) fun _ _ _ _ _ _ us hl => match us, hl with | [_, _], _ => rfl
    g_l_many_right := PySem.W.mg_of X G h_g_l_many_right
    k_l_many_right := h_k_l_many_right
    F_l_many_right := fun_mk (st := s_l_many_right) h_l_l_many_right h_c_l_many_right h_k_l_many_right
    b_l_many_right := (fun_mk (st := s_l_many_right) h_l_l_many_right h_c_l_many_right h_k_l_many_right).binds (ps := P_l_many_right) fun _ _ _ _ _ _ us hl => match us, hl with | [], _ => rfl
    g_law := PySem.W.mg_of X G h_g_law
    k_law := h_k_law
    F_law := fun_mk (st := s_law) h_l_law h_c_law h_k_law
    b_law := (fun_mk (st := s_law) h_l_law h_c_law h_k_law).binds (ps := P_law) fun _ _ _ _ _ _ us hl => match us, hl with | [_], _ => rfl
  }
  exact ⟨_, fun s v => .of_eq rfl, fun base _ _ => ok_law T⟩
theorem walk {l : PySem.W.OpenLaw} {q : Program} {loose : List Str} {XP : (Str → Option Value) → Heap → Prop} {YP : World → Heap → Prop} {d : DefRec} {K : Params → PySem.W.Frag} (hn : l.most = some 63) (hdf : d.params.defaults = [])
    (hY : ∀ (w : World) (h : Heap), YP w h → (K w.params).In h)
    (F : ∀ (w : World) (mg : Str → Option Value) (fa : Addr) (h : Heap), (K w.params).In h → h.Ns mainGlobals mg → mg d.name = some (.ref fa) →
      ∃ fd : FuncData, (∀ (s : Shared) (u : Value), BindsTo s fd ⟨[u], []⟩ [("_law_script", u)]) ∧ ∀ base : Heap, (K w.params).In base → base.Ns mainGlobals mg → FnOk l.prog w (K w.params) mg base CX0 12 fa fd P_law (spLaw (K w.params))) :
    PySem.W.WalkO q loose XP YP l.row.toRowW d [] (fun f vs => PySem.call f vs) :=
  L2.walk_of (n := 63) (k := 12) (x := "_law_script") (CX := fun _ => CX0) (sp := fun w => spLaw (K w.params)) hn (by decide) hdf ⟨rfl, by decide, by decide⟩ hY F (fun _ _ a ns hl _ hS => ⟨a, ns, rfl, hS, hl, fun _ => rfl⟩) fun _ _ _ _ _ z => z
end My
open PySem PySem.W PyProof.Rows
set_option maxRecDepth 100000 in
set_option maxHeartbeats 0 in
theorem PySem.Challenge.cw_wordmend_k06_whole_makings_tried_holds : PySem.Challenge.rw_wordmend_k06_whole_makings_tried.Holds := by
  w_on; o_law; k_head; (case hw => w_witness2)
  k_fill
  refine My.walk (l := PySem.Challenge.rw_wordmend_k06_whole_makings_tried) rfl rfl (fun w h Y => PySem.W.kIn_of Y) ?F
  case F =>
    intro w mg fa h KX G hmg
    refine' My.all_mk KX G hmg ?h_n_isinstance ?h_n_str ?h_n_len ?h_n_set ?h_n_all ?h_n_zip ?h_n_range ?h_n_enumerate ?h_n_sorted ?h_n_list ?h_n_min ?h_n_int ?h_n_dict ?h_g_LETTERS ?h_g_MOST_IN_BRACKETS ?h_g_MOST_PLACES ?h_g_GREAT_LETTERS ?h_g_MOST_CUT ?h_g_MOST_ADDED ?h_g_MOST_FURTHER ?h_g_MOST_LETTERS ?h_g_ENDING ?h_g_BEGINNING ?h_g_BadRule ?h_x_BadRule ?h_k_BadRule ?h_s_BadRule ?h_t_BadRule ?h_ga_BadRule ?h_gg_BadRule ?h_hd_BadRule ?h_cl_BadRule ?h_hm_BadRule ?h_i_BadRule_BadRule ?h_i_BadRule_ValueError ?h_gd ?h_tk ?h_g_Condition ?h_pg_Condition ?h_hd_Condition ?h_po_Condition ?h_sa_Condition ?h_mk_Condition ?h_kc_Condition ?h_g_Rule ?h_pg_Rule ?h_hd_Rule ?h_po_Rule ?h_sa_Rule ?h_mk_Rule ?h_kc_Rule ?h_g_Ending ?h_pg_Ending ?h_hd_Ending ?h_po_Ending ?h_sa_Ending ?h_mk_Ending ?h_kc_Ending ?h_g_Beginning ?h_pg_Beginning ?h_hd_Beginning ?h_po_Beginning ?h_sa_Beginning ?h_mk_Beginning ?h_kc_Beginning ?h_g_Band ?h_pg_Band ?h_hd_Band ?h_po_Band ?h_sa_Band ?h_mk_Band ?h_kc_Band ?h_na_Beginning_condition ?h_na_Beginning_cut ?h_na_Beginning_added ?h_na_Ending_condition ?h_na_Ending_cut ?h_na_Ending_added ?h_na_Rule_condition ?h_na_Rule_cut ?h_na_Rule_added ?h_na_Ending_further ?h_na_Band_kind ?h_na_Band_rules ?h_na_Condition_places ?h_na_Condition_told ?h_rd_Rule ?h_sg_Rule ?h_g_are_letters ?h_l_are_letters ?h_c_are_letters ?h_k_are_letters ?h_g_all_but ?h_l_all_but ?h_c_all_but ?h_k_all_but ?h_g_is_bracketed ?h_l_is_bracketed ?h_c_is_bracketed ?h_k_is_bracketed ?h_g_read_brackets ?h_l_read_brackets ?h_c_read_brackets ?h_k_read_brackets ?h_g_read_place ?h_l_read_place ?h_c_read_place ?h_k_read_place ?h_g_read_places ?h_l_read_places ?h_c_read_places ?h_k_read_places ?h_g_are_let ?h_l_are_let ?h_c_are_let ?h_k_are_let ?h_a_Condition_init ?h_i_Condition_init ?h_l_Condition_init ?h_c_Condition_init ?h_k_Condition_init ?h_a_Condition_ends ?h_i_Condition_ends ?h_l_Condition_ends ?h_c_Condition_ends ?h_k_Condition_ends ?h_a_Condition_begins ?h_i_Condition_begins ?h_l_Condition_begins ?h_c_Condition_begins ?h_k_Condition_begins ?h_g_are_names ?h_l_are_names ?h_c_are_names ?h_k_are_names ?h_g_need_letters ?h_l_need_letters ?h_c_need_letters ?h_k_need_letters ?h_g_need_further_names ?h_l_need_further_names ?h_c_need_further_names ?h_k_need_further_names ?h_g_short_enough ?h_l_short_enough ?h_c_short_enough ?h_k_short_enough ?h_g_written ?h_l_written ?h_c_written ?h_k_written ?h_a_Rule_init ?h_i_Rule_init ?h_l_Rule_init ?h_c_Rule_init ?h_k_Rule_init ?h_a_Rule_use ?h_i_Rule_use ?h_l_Rule_use ?h_c_Rule_use ?h_k_Rule_use ?h_a_Rule_text ?h_i_Rule_text ?h_l_Rule_text ?h_c_Rule_text ?h_k_Rule_text ?h_a_Ending_init ?h_i_Ending_init ?h_l_Ending_init ?h_c_Ending_init ?h_k_Ending_init ?h_dt_Ending_init ?h_a_Ending_use ?h_i_Ending_use ?h_l_Ending_use ?h_c_Ending_use ?h_k_Ending_use ?h_a_Ending_text ?h_i_Ending_text ?h_l_Ending_text ?h_c_Ending_text ?h_k_Ending_text ?h_a_Beginning_init ?h_i_Beginning_init ?h_l_Beginning_init ?h_c_Beginning_init ?h_k_Beginning_init ?h_a_Beginning_use ?h_i_Beginning_use ?h_l_Beginning_use ?h_c_Beginning_use ?h_k_Beginning_use ?h_a_Beginning_text ?h_i_Beginning_text ?h_l_Beginning_text ?h_c_Beginning_text ?h_k_Beginning_text ?h_a_Band_init ?h_i_Band_init ?h_l_Band_init ?h_c_Band_init ?h_k_Band_init ?h_g_used ?h_l_used ?h_c_used ?h_k_used ?h_g_ended ?h_l_ended ?h_c_ended ?h_k_ended ?h_g_order ?h_l_order ?h_c_order ?h_k_order ?h_g_made ?h_l_made ?h_c_made ?h_k_made ?h_g_l_mixed ?h_l_l_mixed ?h_c_l_mixed ?h_k_l_mixed ?h_g_l_number ?h_l_l_number ?h_c_l_number ?h_k_l_number ?h_g_l_letters ?h_l_l_letters ?h_c_l_letters ?h_k_l_letters ?h_g_l_condition ?h_l_l_condition ?h_c_l_condition ?h_k_l_condition ?h_g_l_written ?h_l_l_written ?h_c_l_written ?h_k_l_written ?h_g_l_fits ?h_l_l_fits ?h_c_l_fits ?h_k_l_fits ?h_g_l_used ?h_l_l_used ?h_c_l_used ?h_k_l_used ?h_g_l_light ?h_l_l_light ?h_c_l_light ?h_k_l_light ?h_g_l_bands ?h_l_l_bands ?h_c_l_bands ?h_k_l_bands ?h_g_l_rules ?h_l_l_rules ?h_c_l_rules ?h_k_l_rules ?h_g_l_stem ?h_l_l_stem ?h_c_l_stem ?h_k_l_stem ?h_g_l_named ?h_l_l_named ?h_c_l_named ?h_k_l_named ?h_g_l_pairs ?h_l_l_pairs ?h_c_l_pairs ?h_k_l_pairs ?h_g_l_all ?h_l_l_all ?h_c_l_all ?h_k_l_all ?h_g_l_walked ?h_l_l_walked ?h_c_l_walked ?h_k_l_walked ?h_g_l_told ?h_l_l_told ?h_c_l_told ?h_k_l_told ?h_g_l_names_not ?h_l_l_names_not ?h_c_l_names_not ?h_k_l_names_not ?h_g_l_many_right ?h_l_l_many_right ?h_c_l_many_right ?h_k_l_many_right ?h_g_law ?h_l_law ?h_c_law ?h_k_law ?h_fc_Rule_init
    (case h_n_isinstance => k_is)
    (case h_n_str => k_is)
    (case h_n_len => k_is)
    (case h_n_set => k_is)
    (case h_n_all => k_is)
    (case h_n_zip => k_is)
    (case h_n_range => k_is)
    (case h_n_enumerate => k_is)
    (case h_n_sorted => k_is)
    (case h_n_list => k_is)
    (case h_n_min => k_is)
    (case h_n_int => k_is)
    (case h_n_dict => k_is)
    (case h_g_LETTERS => k_is)
    (case h_g_MOST_IN_BRACKETS => k_is)
    (case h_g_MOST_PLACES => k_is)
    (case h_g_GREAT_LETTERS => k_is)
    (case h_g_MOST_CUT => k_is)
    (case h_g_MOST_ADDED => k_is)
    (case h_g_MOST_FURTHER => k_is)
    (case h_g_MOST_LETTERS => k_is)
    (case h_g_ENDING => k_is)
    (case h_g_BEGINNING => k_is)
    (case h_g_BadRule => k_is)
    (case h_x_BadRule => first | k_exc | k_is)
    (case h_k_BadRule => k_is)
    (case h_s_BadRule => k_is)
    (case h_t_BadRule => k_is)
    (case h_ga_BadRule => k_is)
    (case h_gg_BadRule => k_is)
    (case h_hd_BadRule => k_is)
    (case h_cl_BadRule => k_is)
    (case h_hm_BadRule => k_is)
    (case h_i_BadRule_BadRule => first | rfl | k_is)
    (case h_i_BadRule_ValueError => first | rfl | k_is)
    (case h_gd => k_is)
    (case h_tk => k_is)
    (case h_g_Condition => k_is)
    (case h_pg_Condition => k_is)
    (case h_hd_Condition => k_is)
    (case h_po_Condition => k_is)
    (case h_sa_Condition => k_is)
    (case h_mk_Condition => k_is)
    (case h_kc_Condition => k_is)
    (case h_g_Rule => k_is)
    (case h_pg_Rule => k_is)
    (case h_hd_Rule => k_is)
    (case h_po_Rule => k_is)
    (case h_sa_Rule => k_is)
    (case h_mk_Rule => k_is)
    (case h_kc_Rule => k_is)
    (case h_g_Ending => k_is)
    (case h_pg_Ending => k_is)
    (case h_hd_Ending => k_is)
    (case h_po_Ending => k_is)
    (case h_sa_Ending => k_is)
    (case h_mk_Ending => k_is)
    (case h_kc_Ending => k_is)
    (case h_g_Beginning => k_is)
    (case h_pg_Beginning => k_is)
    (case h_hd_Beginning => k_is)
    (case h_po_Beginning => k_is)
    (case h_sa_Beginning => k_is)
    (case h_mk_Beginning => k_is)
    (case h_kc_Beginning => k_is)
    (case h_g_Band => k_is)
    (case h_pg_Band => k_is)
    (case h_hd_Band => k_is)
    (case h_po_Band => k_is)
    (case h_sa_Band => k_is)
    (case h_mk_Band => k_is)
    (case h_kc_Band => k_is)
    (case h_na_Beginning_condition => k_is)
    (case h_na_Beginning_cut => k_is)
    (case h_na_Beginning_added => k_is)
    (case h_na_Ending_condition => k_is)
    (case h_na_Ending_cut => k_is)
    (case h_na_Ending_added => k_is)
    (case h_na_Rule_condition => k_is)
    (case h_na_Rule_cut => k_is)
    (case h_na_Rule_added => k_is)
    (case h_na_Ending_further => k_is)
    (case h_na_Band_kind => k_is)
    (case h_na_Band_rules => k_is)
    (case h_na_Condition_places => k_is)
    (case h_na_Condition_told => k_is)
    (case h_rd_Rule => k_is)
    (case h_sg_Rule => k_is)
    (case h_g_are_letters => k_is)
    (case h_l_are_letters => k_is)
    (case h_c_are_letters => k_is)
    (case h_k_are_letters => k_is)
    (case h_g_all_but => k_is)
    (case h_l_all_but => k_is)
    (case h_c_all_but => k_is)
    (case h_k_all_but => k_is)
    (case h_g_is_bracketed => k_is)
    (case h_l_is_bracketed => k_is)
    (case h_c_is_bracketed => k_is)
    (case h_k_is_bracketed => k_is)
    (case h_g_read_brackets => k_is)
    (case h_l_read_brackets => k_is)
    (case h_c_read_brackets => k_is)
    (case h_k_read_brackets => k_is)
    (case h_g_read_place => k_is)
    (case h_l_read_place => k_is)
    (case h_c_read_place => k_is)
    (case h_k_read_place => k_is)
    (case h_g_read_places => k_is)
    (case h_l_read_places => k_is)
    (case h_c_read_places => k_is)
    (case h_k_read_places => k_is)
    (case h_g_are_let => k_is)
    (case h_l_are_let => k_is)
    (case h_c_are_let => k_is)
    (case h_k_are_let => k_is)
    (case h_a_Condition_init => k_is)
    (case h_i_Condition_init => k_is)
    (case h_l_Condition_init => k_is)
    (case h_c_Condition_init => k_is)
    (case h_k_Condition_init => k_is)
    (case h_a_Condition_ends => k_is)
    (case h_i_Condition_ends => k_is)
    (case h_l_Condition_ends => k_is)
    (case h_c_Condition_ends => k_is)
    (case h_k_Condition_ends => k_is)
    (case h_a_Condition_begins => k_is)
    (case h_i_Condition_begins => k_is)
    (case h_l_Condition_begins => k_is)
    (case h_c_Condition_begins => k_is)
    (case h_k_Condition_begins => k_is)
    (case h_g_are_names => k_is)
    (case h_l_are_names => k_is)
    (case h_c_are_names => k_is)
    (case h_k_are_names => k_is)
    (case h_g_need_letters => k_is)
    (case h_l_need_letters => k_is)
    (case h_c_need_letters => k_is)
    (case h_k_need_letters => k_is)
    (case h_g_need_further_names => k_is)
    (case h_l_need_further_names => k_is)
    (case h_c_need_further_names => k_is)
    (case h_k_need_further_names => k_is)
    (case h_g_short_enough => k_is)
    (case h_l_short_enough => k_is)
    (case h_c_short_enough => k_is)
    (case h_k_short_enough => k_is)
    (case h_g_written => k_is)
    (case h_l_written => k_is)
    (case h_c_written => k_is)
    (case h_k_written => k_is)
    (case h_a_Rule_init => k_is)
    (case h_i_Rule_init => k_is)
    (case h_l_Rule_init => k_is)
    (case h_c_Rule_init => k_is)
    (case h_k_Rule_init => k_is)
    (case h_a_Rule_use => k_is)
    (case h_i_Rule_use => k_is)
    (case h_l_Rule_use => k_is)
    (case h_c_Rule_use => k_is)
    (case h_k_Rule_use => k_is)
    (case h_a_Rule_text => k_is)
    (case h_i_Rule_text => k_is)
    (case h_l_Rule_text => k_is)
    (case h_c_Rule_text => k_is)
    (case h_k_Rule_text => k_is)
    (case h_a_Ending_init => k_is)
    (case h_i_Ending_init => k_is)
    (case h_l_Ending_init => k_is)
    (case h_c_Ending_init => k_is)
    (case h_k_Ending_init => k_is)
    (case h_dt_Ending_init => k_is)
    (case h_a_Ending_use => k_is)
    (case h_i_Ending_use => k_is)
    (case h_l_Ending_use => k_is)
    (case h_c_Ending_use => k_is)
    (case h_k_Ending_use => k_is)
    (case h_a_Ending_text => k_is)
    (case h_i_Ending_text => k_is)
    (case h_l_Ending_text => k_is)
    (case h_c_Ending_text => k_is)
    (case h_k_Ending_text => k_is)
    (case h_a_Beginning_init => k_is)
    (case h_i_Beginning_init => k_is)
    (case h_l_Beginning_init => k_is)
    (case h_c_Beginning_init => k_is)
    (case h_k_Beginning_init => k_is)
    (case h_a_Beginning_use => k_is)
    (case h_i_Beginning_use => k_is)
    (case h_l_Beginning_use => k_is)
    (case h_c_Beginning_use => k_is)
    (case h_k_Beginning_use => k_is)
    (case h_a_Beginning_text => k_is)
    (case h_i_Beginning_text => k_is)
    (case h_l_Beginning_text => k_is)
    (case h_c_Beginning_text => k_is)
    (case h_k_Beginning_text => k_is)
    (case h_a_Band_init => k_is)
    (case h_i_Band_init => k_is)
    (case h_l_Band_init => k_is)
    (case h_c_Band_init => k_is)
    (case h_k_Band_init => k_is)
    (case h_g_used => k_is)
    (case h_l_used => k_is)
    (case h_c_used => k_is)
    (case h_k_used => k_is)
    (case h_g_ended => k_is)
    (case h_l_ended => k_is)
    (case h_c_ended => k_is)
    (case h_k_ended => k_is)
    (case h_g_order => k_is)
    (case h_l_order => k_is)
    (case h_c_order => k_is)
    (case h_k_order => k_is)
    (case h_g_made => k_is)
    (case h_l_made => k_is)
    (case h_c_made => k_is)
    (case h_k_made => k_is)
    (case h_g_l_mixed => k_is)
    (case h_l_l_mixed => k_is)
    (case h_c_l_mixed => k_is)
    (case h_k_l_mixed => k_is)
    (case h_g_l_number => k_is)
    (case h_l_l_number => k_is)
    (case h_c_l_number => k_is)
    (case h_k_l_number => k_is)
    (case h_g_l_letters => k_is)
    (case h_l_l_letters => k_is)
    (case h_c_l_letters => k_is)
    (case h_k_l_letters => k_is)
    (case h_g_l_condition => k_is)
    (case h_l_l_condition => k_is)
    (case h_c_l_condition => k_is)
    (case h_k_l_condition => k_is)
    (case h_g_l_written => k_is)
    (case h_l_l_written => k_is)
    (case h_c_l_written => k_is)
    (case h_k_l_written => k_is)
    (case h_g_l_fits => k_is)
    (case h_l_l_fits => k_is)
    (case h_c_l_fits => k_is)
    (case h_k_l_fits => k_is)
    (case h_g_l_used => k_is)
    (case h_l_l_used => k_is)
    (case h_c_l_used => k_is)
    (case h_k_l_used => k_is)
    (case h_g_l_light => k_is)
    (case h_l_l_light => k_is)
    (case h_c_l_light => k_is)
    (case h_k_l_light => k_is)
    (case h_g_l_bands => k_is)
    (case h_l_l_bands => k_is)
    (case h_c_l_bands => k_is)
    (case h_k_l_bands => k_is)
    (case h_g_l_rules => k_is)
    (case h_l_l_rules => k_is)
    (case h_c_l_rules => k_is)
    (case h_k_l_rules => k_is)
    (case h_g_l_stem => k_is)
    (case h_l_l_stem => k_is)
    (case h_c_l_stem => k_is)
    (case h_k_l_stem => k_is)
    (case h_g_l_named => k_is)
    (case h_l_l_named => k_is)
    (case h_c_l_named => k_is)
    (case h_k_l_named => k_is)
    (case h_g_l_pairs => k_is)
    (case h_l_l_pairs => k_is)
    (case h_c_l_pairs => k_is)
    (case h_k_l_pairs => k_is)
    (case h_g_l_all => k_is)
    (case h_l_l_all => k_is)
    (case h_c_l_all => k_is)
    (case h_k_l_all => k_is)
    (case h_g_l_walked => k_is)
    (case h_l_l_walked => k_is)
    (case h_c_l_walked => k_is)
    (case h_k_l_walked => k_is)
    (case h_g_l_told => k_is)
    (case h_l_l_told => k_is)
    (case h_c_l_told => k_is)
    (case h_k_l_told => k_is)
    (case h_g_l_names_not => k_is)
    (case h_l_l_names_not => k_is)
    (case h_c_l_names_not => k_is)
    (case h_k_l_names_not => k_is)
    (case h_g_l_many_right => k_is)
    (case h_l_l_many_right => k_is)
    (case h_c_l_many_right => k_is)
    (case h_k_l_many_right => k_is)
    (case h_g_law => k_is)
    (case h_l_law => k_is)
    (case h_c_law => k_is)
    (case h_k_law => k_is)
    (case h_fc_Rule_init => k_is)

