import PyProof.Rows.All
import Wide.All
import OpenK.AllK
import Wide.FinOn
import HandS.ForMost
import HandS.Exc
import HandS.ExcOwn
import HandS.ExcInit
import HandS.TryMany
import HandS.Wide
import HandS.IsInst
import HandS.WordsExc
import HandS.ExcField
import HandS.ExcIs
import HandS.ExcValue
import HandS.EndBits
import KE.KExcIs
import PySem.Challenge.RW_graftbook_k01_errors
set_option Elab.async false
set_option linter.all false
set_option maxRecDepth 100000
set_option maxHeartbeats 4000000
namespace Ly
open PySem PySem.Spec PyProof.Rows L2
/-! ### greater products -/
def CMulX (i j : Int) : Prop := i.natAbs.log2 + j.natAbs.log2 < 100000000
theorem CMulX.ok {i j : Int} (h : CMulX i j) : IntMulOk i j := by
  have b : ∀ x : Int, Builtin.Int.intBits x ≤ x.natAbs.log2 + 1 := fun x => by
    unfold Builtin.Int.intBits
    split <;> omega
  have h1 := b i
  have h2 := b j
  have h3 : i.natAbs.log2 + j.natAbs.log2 < 100000000 := h
  have e : bitsLine = 134217728 := by decide
  unfold IntMulOk
  intro z
  rw [Bool.and_eq_true] at z
  have z2 := z.2
  unfold Builtin.Int.intTooBig at z2
  have z3 := of_decide_eq_true z2
  rw [e] at z3
  omega
theorem op_mulX {X : Cx} : OpR X (binaryOp .Mult) (rI CMulX fun i j => .int (i * j)) := opI fun _ _ _ _ _ _ _ hc q => mul_int q hc.ok

/-! ### an exception that was made and is held as a value: its class C, its own dict dd -/
def exv (a C dd : Addr) : HO := .ext fun h => ∃ (oe : Obj) (vs : Array Value), h.get? a = some oe ∧ Zc (.ref C) (some dd) oe ∧ oe.data = .fields vs
theorem exv_at {P : Program} {w : World} {H : Hp} {h : Heap} {a C dd : Addr} (hok : HOk P w H h) (e : H a = some (exv a C dd)) : ∃ (oe : Obj) (vs : Array Value), h.get? a = some oe ∧ Zc (.ref C) (some dd) oe ∧ oe.data = .fields vs :=
  (show ObjOk P w H h a (.ext fun h => ∃ (oe : Obj) (vs : Array Value), h.get? a = some oe ∧ Zc (.ref C) (some dd) oe ∧ oe.data = .fields vs) from hok a _ e).1
/-- what makes an exception of a class with a dict, as an expression -/
def tVal (t : L2.St → Hp → XK → Prop) : TE := fun σ H Q => t σ H fun cls d H' => ∃ C dd, cls = .ref C ∧ d = some dd ∧ ∀ a, H' a = none → Q (.ref a) (upd H' a (exv a C dd))
theorem pe_val {X : Cx} {e : Expr} {t : L2.St → Hp → XK → Prop} (m : PMk X e t) : PE X e (tVal t) := by
  constructor
  intro pins s σ H Q I h
  refine thn (m pins s σ H _ I h) ?_
  rintro u ⟨h2, g2, d2, t2, os2⟩ ⟨a, oe, vs, sI, H', cls, d, hu, J, hk, hno, hat, hz, hdat, -, hn, hos, hg, -, C, dd, hc, hd, q⟩
  subst hu hc hd
  have new : ObjOk X.prog X.w (upd H' a (exv a C dd)) h2 a (exv a C dd) := ⟨⟨oe, vs, hat, hz, hdat⟩, ⟨oe, hat⟩, fun _ _ ⟨o, v, z, r⟩ kk => ⟨o, v, kk o z, r⟩⟩
  have K := J.call (ch := []) (g' := g2) (d' := d2) (t' := t2) (Un.laidN (fs := frs X.stack) (ex := []) hk hno hn) (HOk.laidN J.hok hk hn new) hg (fun b z => absurd z List.not_mem_nil)
  refine ⟨.ref a, _, ?_, rfl, q a hn⟩
  have e : os2 = sI.os := hos
  subst e
  exact K
/-! ### fields -/
/-- e.n, e the exception that the suite holds; its class is told behind -/
def tXfE (K : PySem.W.Frag) (a : Addr) (cls : Value) (d : Option Addr) (n : Str) (te : TE) : TE := fun σ H Q => te σ H fun x H1 => x = .ref a ∧ ∃ C, cls = .ref C ∧ XfC K C ∧ PySem.W.findIn K (.ref C) n = some none ∧ ∃ (dd : Addr) (fs : List (Str × V)) (v : V), d = some dd ∧ H1 dd = some (.xd fs) ∧ fs.lookup n = some v ∧ Q v H1
theorem pe_xfE {X : Cx} {a : Addr} {oe : Obj} {cls : Value} {d : Option Addr} {pn : List (Addr × Obj)} {e : Expr} {te : TE} {pos : Pos} {n : Str}
    (hz : Zc cls d oe) (hf : ∃ vs, oe.data = .fields vs) (he : PE (X.suite a ((a, oe) :: pn)) e te) (hb : attributeBase e n X.env (eval e X.env) = eval e X.env := by rfl) :
    PE (X.suite a ((a, oe) :: pn)) (.Attribute e n pos) (tXfE X.K a cls d n te) := by
  refine ⟨fun pins s σ H Q I h => ?_⟩
  refine attr_of hb (thn (he.run pins s σ H _ I h) fun u s1 hh => ?_)
  obtain ⟨x, H1, I1, rx, ex, C, ec, T, hno, dd, fs, v, ed, ea, l, q⟩ := hh
  subst ex
  obtain rfl : u = Value.ref a := rx
  subst ec
  subst ed
  obtain ⟨ha, _⟩ := I1.pin (a, oe) (List.mem_append_left _ List.mem_cons_self)
  obtain ⟨vs, hd⟩ := hf
  have hx : ObjOk X.prog X.w H1 s1.heap dd (.xd fs) := I1.hok dd _ ea
  obtain ⟨mA, hns, hr⟩ := hx
  obtain ⟨od, ho, hl⟩ := lookIn_ns hns
  obtain ⟨u, hu, ru⟩ := RelO.some_of (v := v) (o := mA n) (by rw [← l]; exact hr n)
  have J : PySem.W.InstAt s1.heap a oe C (some od) := ⟨ha, hz.1, by unfold PySem.W.notCls; rw [hd] <;> rfl, by rw [hz.2]; exact ho⟩
  exact HandSPX.exc_get I1.kIn J T.ga T.gg T.exC (PySem.W.findObj_own T.hdC hno rfl (by rw [hl, hu])) (handed_of ru) ⟨v, H1, I1.tok _, ru, q⟩
/-- e.n, e an exception that is held as a value -/
def tFldE (K : PySem.W.Frag) (n : Str) (te : TE) : TE := fun σ H Q => te σ H fun x H1 => ∃ (a C dd : Addr) (fs : List (Str × V)) (v : V), x = .ref a ∧ H1 a = some (exv a C dd) ∧ H1 dd = some (.xd fs) ∧ XfC K C ∧ PySem.W.findIn K (.ref C) n = some none ∧ fs.lookup n = some v ∧ Q v H1
theorem exv_inst {X : Cx} {pins : List (Addr × Obj)} {σ : L2.St} {H : Hp} {s : Shared} {a C dd : Addr} {fs : List (Str × V)} (I : Inv X pins σ H s) (ha : H a = some (exv a C dd)) (hd : H dd = some (.xd fs)) :
    ∃ (ox od : Obj) (mA : Str → Option Value), PySem.W.InstAt s.heap a ox C (some od) ∧ (∀ f, RelO (fs.lookup f) (mA f)) ∧ ∀ name, PySem.W.lookIn name od = some (mA name) := by
  obtain ⟨oe, vs, ho, hz, hf⟩ := exv_at I.hok ha
  obtain ⟨mA, hns, hr⟩ := (show ObjOk X.prog X.w H s.heap dd (.xd fs) from I.hok dd _ hd)
  obtain ⟨od, hod, hl⟩ := lookIn_ns hns
  refine ⟨oe, od, mA, ⟨ho, hz.1, ?_, ?_⟩, hr, hl⟩
  · simp only [PySem.W.notCls, hf]
  · rw [hz.2]
    exact hod
theorem pe_fldE {X : Cx} {e : Expr} {te : TE} {pos : Pos} {n : Str} (he : PE X e te) (hb : attributeBase e n X.env (eval e X.env) = eval e X.env := by rfl) :
    PE X (.Attribute e n pos) (tFldE X.K n te) := by
  constructor
  intro pins s σ H Q I h
  refine attr_of hb (thn (he.run pins s σ H _ I h) ?_)
  rintro u s1 ⟨x, H1, I1, rx, a, C, dd, fs, v, rfl, ea, ed, T, hno, l, q⟩
  cases (show u = Value.ref a from rx)
  obtain ⟨ox, od, mA, J, hr, hl⟩ := exv_inst I1 ea ed
  have hv := hr n
  rw [l] at hv
  obtain ⟨u, hu, ru⟩ := RelO.some_of hv
  exact HandSPX.exc_get I1.kIn J T.ga T.gg T.exC (PySem.W.findObj_own T.hdC hno rfl (by rw [hl, hu])) (handed_of ru) ⟨v, H1, I1.tok _, ru, q⟩
/-! ### isinstance of a made exception -/
def rIsX (K : PySem.W.Frag) : List V → Hp → VK → Prop := fun xs H Q => ∃ (c : V) (cv : Value) (b : Bool) (a C dd : Addr) (fs : List (Str × V)), xs = [.ref a, c] ∧ ClsV c cv ∧ H a = some (exv a C dd) ∧ H dd = some (.xd fs) ∧ L2.ExcC K C ∧ PySem.W.kitOne K (.ref C) cv = some b ∧ Q (.bl b) H
theorem call_isX {X : Cx} : CallR X (.builtin "isinstance") (rIsX X.K) := by
  intro pins s σ H xs us Q I r h
  obtain ⟨c, cv, b, a, C, dd, fs, rfl, hcv, ha, hd, E, e, q⟩ := h
  cases r with
  | cons rx rr =>
    cases rr with
    | cons rt rr =>
      cases rr
      cases rx
      have ec := hcv.eq rt
      subst ec
      obtain ⟨ox, od, mA, J, hr, hl⟩ := exv_inst I ha hd
      have hcl : (PySem.W.clsIn X.K C).isSome = true := by
        obtain ⟨cd, hc, _⟩ := PySem.W.any_some E.hd
        rw [hc]
        rfl
      exact PySem.W.kia_one (PySem.W.kitx_exc hcl E.hg E.hk E.hs E.ha E.hn E.ht E.hm) I.kIn J e (fun z => nomatch z) fun tk => ⟨.bl b, H, I.kept (t' := tk) fun _ _ z => z, rfl, q⟩
/-! ### several except clauses, each with a name or without -/
structure HdA where
  c : Value
  i : Option Nat
  ts : Addr → Value → Option Addr → TS
def wManyA (K : PySem.W.Frag) (Wout : WX) (D : Ends) : List HdA → WX
  | [] => Wout
  | ⟨c, some i, ts⟩ :: r => fun cls d σ H => ∃ b, PySem.W.exmOne K cls c = some b ∧ (b = true → ∀ a, H a = none → ts a cls d { nx := fun σ' H' => D.nx (σ'.set i none) H', rt := D.rt, bk := fun σ' H' => D.bk (σ'.set i none) H', ct := fun σ' H' => D.ct (σ'.set i none) H' } (σ.set i (some (.ref a))) H) ∧
      (b = false → wManyA K Wout D r cls d σ H)
  | ⟨c, none, ts⟩ :: r => fun cls d σ H => ∃ b, PySem.W.exmOne K cls c = some b ∧ (b = true → ∀ a, H a = none → ts a cls d D σ H) ∧ (b = false → wManyA K Wout D r cls d σ H)
inductive HdsA (X : Cx) : List ExceptHandler → List HdA → Prop
  | nil : HdsA X [] []
  | cons {x : Str} {c : Value} {ts : Addr → Value → Option Addr → TS} {b₀ : Stmt} {suite : List Stmt} {np pos' : Pos} {hds : List ExceptHandler} {l : List HdA} (hc : Names X x c)
      (hsu : ∀ (a : Addr) (oe : Obj) (cls : Value) (d : Option Addr) (pn : List (Addr × Obj)), Zc cls d oe → (∃ vs, oe.data = .fields vs) → PSs (X.suite a ((a, oe) :: pn)) (b₀ :: suite) (ts a cls d)) (r : HdsA X hds l) :
      HdsA X (.ExceptHandler (some (.Name x np)) none (b₀ :: suite) pos' :: hds) (⟨c, none, ts⟩ :: l)
  | consA {x n : Str} {i : Nat} {c : Value} {ts : Addr → Value → Option Addr → TS} {b₀ : Stmt} {suite : List Stmt} {np pos' : Pos} {hds : List ExceptHandler} {l : List HdA} (hN : X.N.Nodup) (hi : X.N[i]? = some n) (hln : X.env.kindOf n = some .local) (hc : Names X x c)
      (hsu : ∀ (a : Addr) (oe : Obj) (cls : Value) (d : Option Addr) (pn : List (Addr × Obj)), Zc cls d oe → (∃ vs, oe.data = .fields vs) → PSs (X.suite a ((a, oe) :: pn)) (b₀ :: suite) (ts a cls d)) (r : HdsA X hds l) :
      HdsA X (.ExceptHandler (some (.Name x np)) (some n) (b₀ :: suite) pos' :: hds) (⟨c, some i, ts⟩ :: l)
/-- an exception of the class cls, its dict d, that the frame has noted and is about to handle: J0 the state without it, J the state with it, s -/
structure Hot (X : Cx) (pins : List (Addr × Obj)) (σ : L2.St) (H : Hp) (a : Addr) (cls : Value) (d : Option Addr) (s : Shared) : Prop where
  ok : X.Ok
  frames : X.A.frames = some (X.env :: X.outer)
  own : X.env.frame = some X.env.locals
  stk : X.stack = X.env :: X.outer
  free : H a = none
  bits : ∃ (B : Heap) (sI : Shared), Inv X pins σ H sI ∧ (∀ b o, sI.heap.get? b = some o → b ∉ frs X.stack → B.get? b = some o) ∧ sI.heap.UpToSlots s.heap ∧ HandSPX.FlyingZ B (X.env :: X.outer) a (Zc cls d) s.heap ∧ s.os = sI.os ∧ AllBare s.gens
section
variable {X : Cx} {pins : List (Addr × Obj)} {σ : L2.St} {H : Hp} {a : Addr} {cls : Value} {d : Option Addr} {s : Shared} {Wout : WX} {D : Ends}
/-- the suite's context holds, with the exception pinned -/
theorem Hot.pinned (h : Hot X pins σ H a cls d s) : ∃ oe, Zc cls d oe ∧ (∃ vs, oe.data = .fields vs) ∧ s.heap.get? a = some oe ∧ Inv (X.suite a ((a, oe) :: (X.pn ++ pins))) [] σ H s ∧ X.K.In s.heap := by
  obtain ⟨B, sI, J, near, up, fly, os, bare⟩ := h.bits
  have I := J.landed near fly.1 up os bare
  obtain ⟨oe, vs, at_, z, data⟩ := fly.there
  have apart : a ∉ frs (X.env :: X.outer) := by
    intro bad
    obtain ⟨_, o2, at2, nf⟩ := fly.2.2.1.mem bad
    rw [at_] at at2
    exact nf vs (by rw [← Option.some.inj at2]; exact data)
  have n1 : a ≠ X.env.locals := by
    rintro rfl
    exact apart (List.mem_filterMap.mpr ⟨X.env, List.mem_cons_self, h.own⟩)
  have n2 : a ∉ X.fs := by
    intro bad
    obtain ⟨e, he, q⟩ := List.mem_filterMap.mp bad
    exact apart (List.mem_filterMap.mpr ⟨e, List.mem_cons_of_mem _ he, q⟩)
  exact ⟨oe, z, ⟨vs, data⟩, at_, I.suite at_ data h.free n1 n2, I.kIn⟩
/-- another look at its flight -/
theorem Hot.moved (h : Hot X pins σ H a cls d s) {Q : Unit → Shared → Prop} {M : Model} {A : Around} {E : Value → Shared → Prop} (q : ∀ s', Hot X pins σ H a cls d s' → Q () s') : wpAny M A (setFlight (.ref a) none) Q E s := by
  obtain ⟨B, sI, J, near, up, fly, os, bare⟩ := h.bits
  exact HandSPX.lands_againZ fly fun g fly' up' => q _ ⟨h.ok, h.frames, h.own, h.stk, h.free, B, sI, J, near, up.trans up', fly', os, bare⟩
/-- no clause takes it -/
theorem Hot.out (h : Hot X pins σ H a cls d s) (tk : Takes X Wout) (w : Wout cls d σ H) : wpAny (model X.prog X.w) X.A (handleBy (.ref a) X.env []) (SP X pins D) X.xe s := by
  obtain ⟨B, sI, J, near, up, fly, os, bare⟩ := h.bits
  obtain ⟨_, _, _, oe, vs, T, _, _, at_, _, data, one, _⟩ := id fly
  have up_ : wpAny (model X.prog X.w) X.A (setFlight (.ref a) X.env.frame) (fun _ t => wpAny (model X.prog X.w) X.A (throw (.ref a) : Sem Flow) (SP X pins D) X.xe t) X.xe s := by
    rw [h.own]
    refine HandSPX.setFlight_upZ fly fun g held up' => wpAny_throw (tk _ _ ⟨a, B, sI, pins, σ, H, cls, d, rfl, J, near, up.trans up', ?_, h.free, os, bare, w⟩)
    rw [h.stk]
    exact Or.inr (Or.inr held)
  refine wpAny_handleBy_nil ?_
  unfold PySem.passOn
  refine wpAny_bind (wpAny_field at_ data one ?_)
  rw [if_neg (by simp)]
  first
    | exact wpAny_bind (wpAny_pure (wpAny_bind up_))
    | exact wpAny_bind up_
/-- the clause's class is looked at -/
theorem Hot.test (h : Hot X pins σ H a cls d s) {x : Str} {c : Value} {np : Pos} {Q : Value → Shared → Prop} {E : Value → Shared → Prop} (hc : Names X x c) (q : Q c s) : wpAny (model X.prog X.w) (X.A.mark (some (.ref a))) (eval (.Name x np) X.env) Q E s := by
  obtain ⟨oe, _, _, _, S, _⟩ := h.pinned
  rcases hc with ⟨g, dbg, m | ⟨m, v, n⟩⟩
  · exact ld_glob (X := X.suite a ((a, oe) :: (X.pn ++ pins))) S g m q dbg
  · exact ld_blt (X := X.suite a ((a, oe) :: (X.pn ++ pins))) S g m v q n dbg
theorem Hot.is (h : Hot X pins σ H a cls d s) {c : Value} {b : Bool} (e : PySem.W.exmOne X.K cls c = some b) : PySem.W.Looks (model X.prog X.w) s.heap (excMatches (.ref a) c) b := by
  obtain ⟨oe, z, _, at_, _, kin⟩ := h.pinned
  exact PySem.W.exm_one kin (fun A Q E t k q => wpAny_typeOf_ref (k _ _ at_) (by rw [z.1]; exact q)) e
/-- the clauses, one after the other -/
theorem Hot.handled (h : Hot X pins σ H a cls d s) (tk : Takes X Wout) : ∀ {hds : List ExceptHandler} {l : List HdA}, HdsA X hds l → wManyA X.K Wout D l cls d σ H →
    wpAny (model X.prog X.w) X.A (handleBy (.ref a) X.env hds) (SP X pins D) X.xe s
  | _, _, .nil, w => h.out tk w
  | _, _, .cons hc hsu r, w => by
    obtain ⟨b, e, yes, no⟩ := w
    refine wpAny_handleBy_cons (codeAny_handlers_test (h.test hc ((h.is e).here ?_))) (fun q => nomatch q)
    cases b with
    | false => exact h.handled tk r (no rfl)
    | true =>
      refine codeAny_handlers_suite (h.moved fun s' h' => ?_)
      obtain ⟨oe, z, f, _, S, _⟩ := h'.pinned
      refine wpAny_mono ((hsu a oe cls d (X.pn ++ pins) z f).run [] _ _ H _ S (yes rfl a h.free)) ?_ (fun _ _ z => z.elim)
      rintro (_ | _ | _ | u) t q
      · exact let ⟨σ6, H6, S6, q6⟩ := q; ⟨σ6, H6, S6.unsuite h.ok, q6⟩
      · exact let ⟨σ6, H6, S6, q6⟩ := q; ⟨σ6, H6, S6.unsuite h.ok, q6⟩
      · exact let ⟨σ6, H6, S6, q6⟩ := q; ⟨σ6, H6, S6.unsuite h.ok, q6⟩
      · exact let ⟨v6, σ6, H6, S6, r6, q6⟩ := q; ⟨v6, σ6, H6, S6.unsuite h.ok, r6, q6⟩
  | _, _, .consA (n := n) (i := i) (pos' := pos') hN hi hln hc hsu r, w => by
    obtain ⟨b, e, yes, no⟩ := w
    refine wpAny_handleBy_cons (codeAny_handlers_test (h.test hc ((h.is e).here ?_))) (fun q => nomatch q)
    cases b with
    | false => exact h.handled tk r (no rfl)
    | true =>
      refine codeAny_handlers_suite_as (h.moved fun s' h' => ?_)
      obtain ⟨oe, z, f, _, S, _⟩ := h'.pinned
      refine store_ok (X := X.suite a ((a, oe) :: (X.pn ++ pins))) (v := .ref a) S hN hi (.inl hln) rfl (fun t T => ?_) (.inr hln)
      have off : ∀ {σ6 : L2.St} {H6 : Hp} {Q : Shared → Prop} {t6 : Shared}, Inv (X.suite a ((a, oe) :: (X.pn ++ pins))) [] σ6 H6 t6 → (∀ t7, Inv X pins (σ6.set i none) H6 t7 → Q t7) →
          wpAny (model X.prog X.w) X.A (do bindName X.env n .none; unbindBehindTheSuite X.env n pos') (fun _ t7 => Q t7) X.xe t6 := fun S6 k => gone_ok (S6.unsuite h.ok) hN hi hln k
      refine wpAny_mono ((hsu a oe cls d (X.pn ++ pins) z f).run [] t _ H _ T (yes rfl a h.free)) ?_ (fun _ _ z => z.elim)
      rintro (_ | _ | _ | u) t6 q
      · exact let ⟨_, _, S6, q6⟩ := q; off S6 fun _ J => ⟨_, _, J, q6⟩
      · exact let ⟨_, _, S6, q6⟩ := q; off S6 fun _ J => ⟨_, _, J, q6⟩
      · exact let ⟨_, _, S6, q6⟩ := q; off S6 fun _ J => ⟨_, _, J, q6⟩
      · exact let ⟨_, _, _, S6, r6, q6⟩ := q; off S6 fun _ J => ⟨_, _, _, J, r6, q6⟩
end
theorem ps_try_manyA {X : Cx} {body : List Stmt} {h₀ : ExceptHandler} {hds : List ExceptHandler} {l : List HdA} {pos : Pos} {tb : WX → TS} {Wout : WX} (stk : X.stack = X.env :: X.outer) (own : X.env.frame = some X.env.locals) (tk : Takes X Wout)
    (hb : ∀ (W : WX) (pn : List (Addr × Obj)) (xe : Value → Shared → Prop), Takes (X.tr pn xe) W → PassesOwn (model X.prog X.w) X.A X.env xe → PSs (X.tr pn xe) body (tb W))
    (hh : HdsA X (h₀ :: hds) l) : PS X (.Try body (h₀ :: hds) [] [] pos) (fun D σ H => tb (wManyA X.K Wout D l) D σ H) := by
  constructor
  intro pins s σ H D I h
  have ok := I.ok
  have frames : X.A.frames = some (X.env :: X.outer) := by rw [ok.frames, stk]
  refine wpAny_Try_except (wpAny_mono ((hb (wManyA X.K Wout D l) (X.pn ++ pins) _ ?_ PassesOwn.looking).run [] s σ H D (I.toTry _) h) ?_ (fun e t he => he))
  · rintro u t ⟨a, B, sI, pins', σ', H', cls, d, rfl, J', near, up, sky, na, os, bare, w⟩
    have sky' : Sky B (X.env :: X.outer) a (Zc cls d) X.env.locals t.heap := by rw [← stk]; exact sky
    refine Sky.land Zc.steady frames own sky' fun g fly up' => ?_
    exact (Hot.handled (X := X) (pins := pins) (s := { t with heap := g }) ⟨ok, frames, own, stk, na, B, sI, J'.ofTry ok, near, up.trans up', fly, os, bare⟩ tk hh w)
  · rintro (_ | _ | _ | u) t q
    · exact wpAny_execs_nil (let ⟨σ', H', J, q'⟩ := q; ⟨σ', H', J.ofTry ok, q'⟩)
    · exact let ⟨σ', H', J, q'⟩ := q; ⟨σ', H', J.ofTry ok, q'⟩
    · exact let ⟨σ', H', J, q'⟩ := q; ⟨σ', H', J.ofTry ok, q'⟩
    · exact let ⟨v, σ', H', J, r, q'⟩ := q; ⟨v, σ', H', J.ofTry ok, r, q'⟩
end Ly
namespace Ly
open PySem PySem.Spec PyProof.Rows L2
/-! ### what the top wrote -/
structure DefAt (K : PySem.W.Frag) (mg : Str → Option Value) (x : Str) (st : Stmt) (ps : List Str) where
  f : Addr
  fd : FuncData
  F : Fun K x x st f fd
  m : mg x = some (.ref f)
  b : Binds K fd ps []
/-! ### classes of errors -/
abbrev veT : List Value := [.type "ValueError", .type "Exception", .type "BaseException", .type "object"]
/-- a class of errors at C, by its name and what stands above it -/
structure ClsE (K : PySem.W.Frag) (C : Addr) (nm : Str) (bm : List Value) : Prop where
  cl : ∃ q N bs sn sub ab col dd k0 k1 k2 k3 k5, K.lookup C = some (excClassObj nm q C N bs bm true sn sub ab col dd k0 k1 k2 k3 k5 "ValueError.__new__")
theorem ClsE.get {K : PySem.W.Frag} {C : Addr} {nm : Str} {bm : List Value} (h : ClsE K C nm bm) : ∃ cd, PySem.W.clsIn K C = some cd ∧ cd.name = nm ∧ cd.mro = .ref C :: bm ∧ cd.hasDict = true := by
  obtain ⟨q, N, bs, sn, sub, ab, col, dd, k0, k1, k2, k3, k5, e⟩ := h.cl
  refine ⟨{ name := nm, bases := bs, mro := .ref C :: bm, ns := N, qualname := q, hasDict := true, slotNames := sn, subclasses := sub, abstract := ab, collection := col, hasDel := false }, ?_, rfl, rfl, rfl⟩
  unfold PySem.W.clsIn
  rw [e] <;> rfl
theorem ClsE.ty {K : PySem.W.Frag} {C : Addr} {nm : Str} {bm : List Value} (h : ClsE K C nm bm) : PySem.W.typeIn K (.ref C) = some (.type "type") := by
  obtain ⟨q, N, bs, sn, sub, ab, col, dd, k0, k1, k2, k3, k5, e⟩ := h.cl
  show (K.lookup C).map (·.cls) = _
  rw [e] <;> rfl
theorem ClsE.mro {K : PySem.W.Frag} {C : Addr} {nm : Str} {bm : List Value} (h : ClsE K C nm bm) (b : Value) : PySem.W.mroIn K C b = some ((Value.ref C :: bm).contains b) := by
  obtain ⟨cd, e, _, m, _⟩ := h.get
  unfold PySem.W.mroIn
  rw [e]
  show (if cd.mro.isEmpty = true then none else some (cd.mro.contains b)) = _
  rw [m]
  rfl
theorem ClsE.sub {K : PySem.W.Frag} {C : Addr} {nm : Str} {bm : List Value} (h : ClsE K C nm bm) (b : Value) : PySem.W.subIn K (.ref C) b = some ((Value.ref C :: bm).contains b) := h.mro b
theorem ClsE.hd {K : PySem.W.Frag} {C : Addr} {nm : Str} {bm : List Value} (h : ClsE K C nm bm) : PySem.W.hasDictIn K C = true := by
  obtain ⟨cd, e, _, _, d⟩ := h.get
  unfold PySem.W.hasDictIn
  rw [e]
  exact d
theorem ClsE.ne {K : PySem.W.Frag} {C D : Addr} {n m : Str} {bm bm' : List Value} (h : ClsE K C n bm) (h' : ClsE K D m bm') (x : n ≠ m) : C ≠ D := fun e => by
  subst e
  obtain ⟨cd, e1, e2, _⟩ := h.get
  obtain ⟨cd', e1', e2', _⟩ := h'.get
  rw [e1] at e1'
  cases e1'
  exact x (e2.symm.trans e2')
theorem ClsE.one {K : PySem.W.Frag} {C : Addr} {nm : Str} {bm : List Value} (h : ClsE K C nm bm) (t : Value) : PySem.W.kitCls K t (.ref C) = PySem.W.subIn K t (.ref C) := by
  obtain ⟨cd, e, _⟩ := h.get
  show (if ((PySem.W.clsIn K C).isSome && PySem.W.typeIn K (.ref C) == some (.type "type")) = true then PySem.W.subIn K t (.ref C) else none) = _
  rw [e, h.ty]
  rfl
section
variable {K : PySem.W.Frag} {C D G : Addr} {n m g : Str}
theorem beq_ref {a b : Addr} (h : a ≠ b) : ((Value.ref a) == (Value.ref b)) = false := beq_eq_false_iff_ne.mpr fun z => h (Value.ref.inj z)
theorem cont_ne (h1 : C ≠ D) (h2 : G ≠ D) : ((Value.ref C :: Value.ref G :: veT).contains (Value.ref D)) = false := by
  simp [List.contains_cons, h1.symm, h2.symm]
theorem cont_up : ((Value.ref C :: Value.ref G :: veT).contains (Value.ref G)) = true := by simp
theorem kit_self (t : Value) : PySem.W.kitOne K t t = some true := by simp [PySem.W.kitOne]
theorem kit_ne (a : ClsE K C n (.ref G :: veT)) (b : ClsE K D m (.ref G :: veT)) (c : ClsE K G g veT) (h : n ≠ m) (h' : g ≠ m) : PySem.W.kitOne K (.ref C) (.ref D) = some false := by
  have e1 := a.ne b h
  have e2 := c.ne b h'
  unfold PySem.W.kitOne
  rw [beq_ref e1, if_neg Bool.false_ne_true, b.one, a.sub, cont_ne e1 e2]
theorem kit_up (a : ClsE K C n (.ref G :: veT)) (c : ClsE K G g veT) : PySem.W.kitOne K (.ref C) (.ref G) = some true := by
  unfold PySem.W.kitOne
  split
  · rfl
  · rw [c.one, a.sub, cont_up]
theorem kit_ve (a : ClsE K C n (.ref G :: veT)) : PySem.W.kitOne K (.ref C) (.type "ValueError") = some true := by
  unfold PySem.W.kitOne
  rw [if_neg (by simp)]
  show (if PySem.W.kitMeta "ValueError" = true then PySem.W.subIn K (.ref C) (.type "ValueError") else none) = some true
  rw [if_pos (by decide +kernel), a.sub]
  simp [veT]
theorem exm_eq (a : ClsE K D m (.ref G :: veT)) (t : Value) : PySem.W.exmOne K t (.ref D) = PySem.W.subIn K t (.ref D) := by
  unfold PySem.W.exmOne
  rw [a.sub, a.one, show ((Value.ref D :: Value.ref G :: veT).contains (Value.type "BaseException")) = true by simp [veT]]
  rfl
theorem exm_eq0 (a : ClsE K D m veT) (t : Value) : PySem.W.exmOne K t (.ref D) = PySem.W.subIn K t (.ref D) := by
  unfold PySem.W.exmOne
  rw [a.sub, a.one, show ((Value.ref D :: veT).contains (Value.type "BaseException")) = true by simp [veT]]
  rfl
theorem exm_ne (a : ClsE K C n (.ref G :: veT)) (b : ClsE K D m (.ref G :: veT)) (c : ClsE K G g veT) (h : n ≠ m) (h' : g ≠ m) : PySem.W.exmOne K (.ref C) (.ref D) = some false := by
  rw [exm_eq b, a.sub, cont_ne (a.ne b h) (c.ne b h')]
theorem exm_self (a : ClsE K C n (.ref G :: veT)) : PySem.W.exmOne K (.ref C) (.ref C) = some true := by
  rw [exm_eq a, a.sub]
  simp
theorem exm_up (a : ClsE K C n (.ref G :: veT)) (c : ClsE K G g veT) : PySem.W.exmOne K (.ref C) (.ref G) = some true := by
  rw [exm_eq0 c, a.sub, cont_up]
end
def nofs (K : PySem.W.Frag) (C : Addr) : List Str → Prop
  | [] => True
  | n :: r => PySem.W.findIn K (.ref C) n = some none ∧ nofs K C r
structure ExcAt0 (K : PySem.W.Frag) (mg : Str → Option Value) (x : Str) where
  C : Addr
  g : mg x = some (.ref C)
  e : ClsE K C x veT
structure ExcAt (K : PySem.W.Frag) (mg : Str → Option Value) (x q : Str) (st : Stmt) (ps fs : List Str) (G : Addr) where
  C : Addr
  f : Addr
  fd : FuncData
  g : mg x = some (.ref C)
  e : ClsE K C x (.ref G :: veT)
  sa : PySem.W.findIn K (.ref C) "__setattr__" = some (some (.builtin "object.__setattr__"))
  kC : PySem.W.keepIn K (.ref C) = true
  i : PySem.W.findIn K (.ref C) "__init__" = some (some (.ref f))
  ty : PySem.W.typeIn K (.ref f) = some (.type "function")
  ga : PySem.W.findIn K (.ref C) "__getattribute__" = some (some (.builtin "BaseException.__getattribute__"))
  gg : PySem.W.findIn K (.ref C) "__getattr__" = some none
  ca : PySem.W.findIn K (.ref C) "__class__" = some (some (.builtin "object.__class__"))
  nf : nofs K C fs
  F : Fun K "__init__" q st f fd
  b : Binds K fd ps []
/-- what is so of object.__class__ -/
structure ObjCls (K : PySem.W.Frag) : Prop where
  hn : PySem.W.specialIn K (.builtin "object.__class__") "__get__" = some (some (.builtin "getset_descriptor.__get__"))
  ht : PySem.W.takesIn K (.builtin "object.__class__") = some true
section
variable {K : PySem.W.Frag} {mg : Str → Option Value} {x q : Str} {st : Stmt} {ps fs : List Str} {G : Addr}
theorem ExcAt.o (a : ExcAt K mg x q st ps fs G) : OexC K a.C := by
  obtain ⟨q, N, bs, sn, sub, ab, col, dd, k0, k1, k2, k3, k5, e⟩ := a.e.cl
  exact { cls := ⟨_, q, N, bs, _, sn, sub, ab, col, dd, k0, k1, k2, k3, k5, e, rfl⟩, sa := a.sa, exC := by rw [a.e.sub]; simp [veT], tyC := a.e.ty, kC := a.kC }
theorem ExcAt.xf (a : ExcAt K mg x q st ps fs G) : XfC K a.C := ⟨a.ga, a.gg, by rw [a.e.sub]; simp [veT], a.e.hd⟩
theorem ExcAt.ec (a : ExcAt K mg x q st ps fs G) (o : ObjCls K) : L2.ExcC K a.C := ⟨a.ga, a.gg, by rw [a.e.sub]; simp [veT], a.e.hd, a.ca, o.hn, o.ht, by rw [a.e.mro]; simp [veT]⟩
end
/-! ### making them -/
def sp_init1 (C : Addr) (n : Str) : Sp := fun vs H Q _ => ∃ (a : Addr) (v : V), vs = [.ref a, v] ∧ H a = some (exo a C none) ∧ ∀ dx, H dx = none → dx ≠ a → Q .non (upd (upd H dx (exd dx [(n, v)])) a (exo a C (some dx)))
def sp_init2 (C : Addr) (n m : Str) : Sp := fun vs H Q _ => ∃ (a : Addr) (v w : V), vs = [.ref a, v, w] ∧ H a = some (exo a C none) ∧ ∀ dx, H dx = none → dx ≠ a → Q .non (upd (upd (upd H dx (exd dx [(n, v)])) a (exo a C (some dx))) dx (exd dx [(m, w), (n, v)]))
def MkB (C : Addr) (sp : Sp) (vs : List V) (H1 : Hp) (Q : XK) : Prop := vs.length ≤ 1000 ∧ ∀ a, H1 a = none → sp (.ref a :: (vs ++ [])) (upd H1 a (exo a C none))
  (fun v H2 => v = .non ∧ ∃ (d : Addr) (fs : List (Str × V)), H2 a = some (exo a C (some d)) ∧ H2 d = some (exd d fs) ∧ H1 d = none ∧ Q (.ref C) (some d) (upd (del H2 a) d (.xd fs))) (fun _ _ _ => False)
theorem tMkO_eq {C : Addr} {sp : Sp} {ta : TA} {σ : L2.St} {H : Hp} {Q : XK} : tMkO C sp [] ta σ H Q = ta σ H fun vs H1 => MkB C sp vs H1 Q := rfl
theorem tVal_eq {t : L2.St → Hp → XK → Prop} {σ : L2.St} {H : Hp} {Q : VK} : tVal t σ H Q = t σ H fun cls d H' => ∃ C dd, cls = .ref C ∧ d = some dd ∧ ∀ a, H' a = none → Q (.ref a) (upd H' a (exv a C dd)) := rfl
theorem MkB.one {C : Addr} {n : Str} {v : V} {H : Hp} {Q : XK} (q : ∀ d, H d = none → Q (.ref C) (some d) (upd H d (.xd [(n, v)]))) : MkB C (sp_init1 C n) [v] H Q := by
  refine ⟨by simp, fun a ha => ⟨a, v, rfl, upd_same, fun dx hdx ne => ⟨rfl, dx, [(n, v)], upd_same, by rw [upd_ne ne, upd_same], ?_, ?_⟩⟩⟩
  · rw [upd_ne ne] at hdx
    exact hdx
  · rw [upd_ne ne] at hdx
    have e : upd (del (upd (upd (upd H a (exo a C none)) dx (exd dx [(n, v)])) a (exo a C (some dx))) a) dx (.xd [(n, v)]) = upd H dx (.xd [(n, v)]) := by
      funext b
      by_cases h1 : b = dx
      · rw [h1, upd_same, upd_same]
      · rw [upd_ne h1, upd_ne h1]
        by_cases h2 : b = a
        · rw [h2, del_same, ha]
        · rw [del_ne h2, upd_ne h2, upd_ne h1, upd_ne h2]
    rw [e]
    exact q dx hdx
theorem MkB.two {C : Addr} {n m : Str} {v w : V} {H : Hp} {Q : XK} (q : ∀ d, H d = none → Q (.ref C) (some d) (upd H d (.xd [(m, w), (n, v)]))) : MkB C (sp_init2 C n m) [v, w] H Q := by
  refine ⟨by simp, fun a ha => ⟨a, v, w, rfl, upd_same, fun dx hdx ne => ⟨rfl, dx, [(m, w), (n, v)], by rw [upd_ne (Ne.symm ne), upd_same], upd_same, ?_, ?_⟩⟩⟩
  · rw [upd_ne ne] at hdx
    exact hdx
  · rw [upd_ne ne] at hdx
    have e : upd (del (upd (upd (upd (upd H a (exo a C none)) dx (exd dx [(n, v)])) a (exo a C (some dx))) dx (exd dx [(m, w), (n, v)])) a) dx (.xd [(m, w), (n, v)]) = upd H dx (.xd [(m, w), (n, v)]) := by
      funext b
      by_cases h1 : b = dx
      · rw [h1, upd_same, upd_same]
      · rw [upd_ne h1, upd_ne h1]
        by_cases h2 : b = a
        · rw [h2, del_same, ha]
        · rw [del_ne h2, upd_ne h1, upd_ne h2, upd_ne h1, upd_ne h2]
    rw [e]
    exact q dx hdx
theorem init1_run {K : PySem.W.Frag} {mg : Str → Option Value} {x q p : Str} {st : Stmt} {ps : List Str} {G : Addr} {n : Str} {vs : List V} {H : Hp} {Q : VK} {E : XK} (a : ExcAt K mg x q st ps [n] G) (h : sp_init1 a.C n vs H Q E) :
    tOst K n (tVar 0) (tVar 1) { nx := fun _ H' => Q .non H', rt := Q } (L2.start ["self", p] vs) H := by
  obtain ⟨b, v, rfl, e, k⟩ := h
  exact ⟨_, rfl, _, rfl, b, a.C, rfl, a.o, a.nf.1, .inl ⟨e, k⟩⟩
theorem init2_run {K : PySem.W.Frag} {mg : Str → Option Value} {x q p p' : Str} {st : Stmt} {ps : List Str} {G : Addr} {n m : Str} {vs : List V} {H : Hp} {Q : VK} {E : XK} (a : ExcAt K mg x q st ps [n, m] G) (h : sp_init2 a.C n m vs H Q E) :
    tSeq (tOst K n (tVar 0) (tVar 1)) (tOst K m (tVar 0) (tVar 2)) { nx := fun _ H' => Q .non H', rt := Q } (L2.start ["self", p, p'] vs) H := by
  obtain ⟨b, v, w, rfl, e, k⟩ := h
  refine ⟨_, rfl, _, rfl, b, a.C, rfl, a.o, a.nf.1, .inl ⟨e, fun dx h1 h2 => ?_⟩⟩
  exact ⟨_, rfl, _, rfl, b, a.C, rfl, a.o, a.nf.2.1, .inr ⟨dx, [(n, v)], upd_same, by rw [upd_ne h2, upd_same], by show 1 ≤ 900; decide, k dx h1 h2⟩⟩

/-! ### the reading as conditions -/
local macro_rules | `(tactic| walk_at "vc") => `(tactic| simp only [tSeq, tAsg, tOp, tVar, tC, tRet, tRetN, tNext, tIfS, tIf, tDrop, tB, tTest, tNot, tAnd, tOr, tAndV, tOrV, tNotV, tChain, tUn, tCB, tCons, tNil, tTup, tLst, tSl, tPart, tNoPart, tCall, tBreak, tCont,
  rI, rI0, rU, gName, gNil, gCons, gSub, rSetL, start,
  List.map_cons, List.map_nil, List.cons_append, List.nil_append, List.append_nil, List.length_cons, List.length_nil, List.replicate, List.getElem?_cons_zero, List.getElem?_cons_succ, List.set_cons_zero, List.set_cons_succ, Nat.reduceSub, Nat.reduceAdd,
  Option.some.injEq, V.int.injEq, V.bl.injEq, V.str.injEq, V.ref.injEq, exists_eq_left', exists_eq_left, exists_and_left, reduceCtorEq, false_and, and_false, exists_false, or_false, false_or, Bool.false_eq_true, if_false, if_true, reduceIte, decide_eq_true_eq, List.cons.injEq, and_true, true_and])

/-! ### boxes that numbers are drawn from -/
def boxL (b c z : Int) : HO := .lst [.int b, .int c, .int z]
structure BoxV (n : Nat) (b c z : Int) : Prop where
  b0 : 0 ≤ b
  bs : b.natAbs.log2 ≤ 1048700
  c0 : 0 ≤ c
  cn : c ≤ (n : Int)
  zs : z.natAbs.log2 ≤ 1048700
def BoxAt (H : Hp) (p : Addr) (n : Nat) : Prop := ∃ b c z, H p = some (boxL b c z) ∧ BoxV n b c z
theorem BoxV.mono {n m : Nat} {b c z : Int} (h : BoxV n b c z) (l : n ≤ m) : BoxV m b c z := ⟨h.b0, h.bs, h.c0, Int.le_trans h.cn (by omega), h.zs⟩
theorem BoxAt.mono {H : Hp} {p : Addr} {n m : Nat} (h : BoxAt H p n) (l : n ≤ m) : BoxAt H p m := let ⟨b, c, z, e, v⟩ := h; ⟨b, c, z, e, v.mono l⟩
theorem log2_le_of {a b : Nat} (h : a ≤ b) : a.log2 ≤ b.log2 := by
  rcases Nat.eq_zero_or_pos a with rfl | ha
  · simp
  · exact (Nat.le_log2 (by omega)).mpr (Nat.le_trans (Nat.log2_self_le (by omega)) h)
theorem log2_small {a k : Nat} (h : a < 2 ^ k) (hk : 0 < k) : a.log2 < k := by
  rcases Nat.eq_zero_or_pos a with rfl | ha
  · simpa using hk
  · exact (Nat.log2_lt (by omega)).mpr h

/-! ### the heap, but for p, stays -/
structure Step (p : Addr) (H H' : Hp) : Prop where
  keep : ∀ b o, b ≠ p → H b = some o → H' b = some o
  dom : ∀ b, H b ≠ none → H' b ≠ none
theorem Step.refl {p : Addr} {H : Hp} : Step p H H := ⟨fun _ _ _ e => e, fun _ e => e⟩
theorem Step.trans {p : Addr} {H H1 H2 : Hp} (a : Step p H H1) (b : Step p H1 H2) : Step p H H2 := ⟨fun c o n e => b.keep c o n (a.keep c o n e), fun c e => b.dom c (a.dom c e)⟩
theorem Step.box {p : Addr} {H : Hp} {o : HO} : Step p H (upd H p o) := by
  refine ⟨fun b u n e => by rw [upd_ne n]; exact e, fun b e => ?_⟩
  by_cases h : b = p
  · subst h; rw [upd_same]; simp
  · rw [upd_ne h]; exact e
theorem Step.new {p a : Addr} {H : Hp} {o : HO} (h : H a = none) : Step p H (upd H a o) := by
  refine ⟨fun b u n e => by rw [upd_ne (ne_of_none e h)]; exact e, fun b e => ?_⟩
  by_cases hb : b = a
  · subst hb; rw [upd_same]; simp
  · rw [upd_ne hb]; exact e
theorem Step.fresh {p a : Addr} {H H' : Hp} (s : Step p H H') (h : H' a = none) : H a = none := by
  cases e : H a with
  | none => rfl
  | some o => exact absurd h (s.dom a (by rw [e]; simp))
/-- an object that stood new and alone may change -/
theorem Step.mut {p a : Addr} {H H' : Hp} {o : HO} (s : Step p H H') (h : H a = none) : Step p H (upd H' a o) := by
  refine ⟨fun b u n e => by rw [upd_ne (ne_of_none e h)]; exact s.keep b u n e, fun b e => ?_⟩
  by_cases hb : b = a
  · subst hb; rw [upd_same]; simp
  · rw [upd_ne hb]; exact s.dom b e
theorem BoxAt.step {p q : Addr} {H H' : Hp} {n : Nat} (h : BoxAt H q n) (s : Step p H H') (ne : q ≠ p) : BoxAt H' q n := let ⟨b, c, z, e, v⟩ := h; ⟨b, c, z, s.keep q _ ne e, v⟩
theorem Same.of_step {p : Addr} {H H' : Hp} (s : Step p H H') (h : H p = none) : Same H H' := fun b o e => s.keep b o (ne_of_none e h) e
theorem Step.of_same {p : Addr} {H H' : Hp} (s : Same H H') : Step p H H' := ⟨fun b o _ e => s b o e, fun b e => by
  cases q : H b with
  | none => exact absurd q e
  | some o => rw [s b o q]; simp⟩

/-! ### data whose objects are new behind H0 -/
mutual
inductive Nw (K : PySem.W.Frag) (H0 H : Hp) : V → PyData → Prop
  | non : Nw K H0 H .non .none
  | bl (b : Bool) : Nw K H0 H (.bl b) (.bool b)
  | int (i : Int) : Nw K H0 H (.int i) (.int i)
  | str (x : Str) : Nw K H0 H (.str x) (.str x)
  | lst {a : Addr} {xs : List V} {ds : List PyData} : H0 a = none → H a = some (.lst xs) → NwAll K H0 H xs ds → Nw K H0 H (.ref a) (.list ds)
  | tup {a : Addr} {xs : List V} {ds : List PyData} : H0 a = none → H a = some (.tup xs) → NwAll K H0 H xs ds → Nw K H0 H (.ref a) (.tuple ds)
inductive NwAll (K : PySem.W.Frag) (H0 H : Hp) : List V → List PyData → Prop
  | nil : NwAll K H0 H [] []
  | cons {v : V} {vs : List V} {d : PyData} {ds : List PyData} : Nw K H0 H v d → NwAll K H0 H vs ds → NwAll K H0 H (v :: vs) (d :: ds)
end
section
variable {K : PySem.W.Frag} {H0 H H' : Hp}
mutual
theorem Nw.imp (h0 : ∀ a, H0 a = none → ∀ o, H a = some o → H' a = some o) : ∀ (d : PyData) (v : V), Nw K H0 H v d → Nw K H0 H' v d
  | .none, _, h => by cases h; exact .non
  | .bool b, _, h => by cases h; exact .bl b
  | .int i, _, h => by cases h; exact .int i
  | .str x, _, h => by cases h; exact .str x
  | .list ds, _, h => by cases h with | lst a b c => exact .lst a (h0 _ a _ b) (NwAll.imp h0 ds _ c)
  | .tuple ds, _, h => by cases h with | tup a b c => exact .tup a (h0 _ a _ b) (NwAll.imp h0 ds _ c)
  | .dict _, _, h => by cases h
theorem NwAll.imp (h0 : ∀ a, H0 a = none → ∀ o, H a = some o → H' a = some o) : ∀ (ds : List PyData) (vs : List V), NwAll K H0 H vs ds → NwAll K H0 H' vs ds
  | [], _, h => by cases h; exact .nil
  | d :: ds, _, h => by cases h with | cons a b => exact .cons (Nw.imp h0 d _ a) (NwAll.imp h0 ds _ b)
end
mutual
theorem Nw.old {H1 : Hp} (h0 : ∀ a, H1 a = none → H0 a = none) : ∀ (d : PyData) (v : V), Nw K H1 H v d → Nw K H0 H v d
  | .none, _, h => by cases h; exact .non
  | .bool b, _, h => by cases h; exact .bl b
  | .int i, _, h => by cases h; exact .int i
  | .str x, _, h => by cases h; exact .str x
  | .list ds, _, h => by cases h with | lst a b c => exact .lst (h0 _ a) b (NwAll.old h0 ds _ c)
  | .tuple ds, _, h => by cases h with | tup a b c => exact .tup (h0 _ a) b (NwAll.old h0 ds _ c)
  | .dict _, _, h => by cases h
theorem NwAll.old {H1 : Hp} (h0 : ∀ a, H1 a = none → H0 a = none) : ∀ (ds : List PyData) (vs : List V), NwAll K H1 H vs ds → NwAll K H0 H vs ds
  | [], _, h => by cases h; exact .nil
  | d :: ds, _, h => by cases h with | cons a b => exact .cons (Nw.old h0 d _ a) (NwAll.old h0 ds _ b)
end
mutual
theorem Nw.dp : ∀ (d : PyData) (v : V), Nw K H0 H v d → Dp K H v d
  | .none, _, h => by cases h; exact .non
  | .bool b, _, h => by cases h; exact .bl b
  | .int i, _, h => by cases h; exact .int i
  | .str x, _, h => by cases h; exact .str x
  | .list ds, _, h => by cases h with | lst a b c => exact .lst (SqL.of b) (NwAll.dp ds _ c)
  | .tuple ds, _, h => by cases h with | tup a b c => exact .tup (SqT.of b) (NwAll.dp ds _ c)
  | .dict _, _, h => by cases h
theorem NwAll.dp : ∀ (ds : List PyData) (vs : List V), NwAll K H0 H vs ds → DpAll K H vs ds
  | [], _, h => by cases h; exact .nil
  | d :: ds, _, h => by cases h with | cons a b => exact .cons (Nw.dp d _ a) (NwAll.dp ds _ b)
end
theorem Nw.step {p : Addr} {d : PyData} {v : V} (h : Nw K H0 H v d) (s : Step p H H') (hp : H0 p ≠ none) : Nw K H0 H' v d :=
  Nw.imp (fun a ha o e => s.keep a o (fun z => hp (z ▸ ha)) e) d v h
theorem NwAll.step {p : Addr} {ds : List PyData} {vs : List V} (h : NwAll K H0 H vs ds) (s : Step p H H') (hp : H0 p ≠ none) : NwAll K H0 H' vs ds :=
  NwAll.imp (fun a ha o e => s.keep a o (fun z => hp (z ▸ ha)) e) ds vs h
end
section
variable {K : PySem.W.Frag} {H H' : Hp}
theorem SqL.same {a : Addr} {xs : List V} (h : SqL K H a xs) (s : Same H H') : SqL K H' a xs := s.seq h
theorem SqT.same {a : Addr} {xs : List V} (h : SqT K H a xs) (s : Same H H') : SqT K H' a xs := by
  rcases h with (h | ⟨o, h⟩) | h
  · exact .inl (.inl (s _ _ h))
  · exact .inl (.inr ⟨o, s _ _ h⟩)
  · exact .inr h
mutual
theorem Dp.same (s : Same H H') : ∀ (d : PyData) (v : V), Dp K H v d → Dp K H' v d
  | .none, _, h => by cases h; exact .non
  | .bool b, _, h => by cases h; exact .bl b
  | .int i, _, h => by cases h; exact .int i
  | .str x, _, h => by cases h; exact .str x
  | .list ds, _, h => by cases h with | lst a b => exact .lst (SqL.same a s) (DpAll.same s ds _ b)
  | .tuple ds, _, h => by cases h with | tup a b => exact .tup (SqT.same a s) (DpAll.same s ds _ b)
  | .dict _, _, h => by cases h
theorem DpAll.same (s : Same H H') : ∀ (ds : List PyData) (vs : List V), DpAll K H vs ds → DpAll K H' vs ds
  | [], _, h => by cases h; exact .nil
  | d :: ds, _, h => by cases h with | cons a b => exact .cons (Dp.same s d _ a) (DpAll.same s ds _ b)
end
theorem Same.new {a : Addr} {o : HO} (h : H a = none) : Same H (upd H a o) := fun b u e => by rw [upd_ne (ne_of_none e h)]; exact e
end
/-! ### depth -/
mutual
def dep : PyData → Nat
  | .list ds => depAll ds + 1
  | .tuple ds => depAll ds + 1
  | _ => 0
def depAll : List PyData → Nat
  | [] => 0
  | d :: ds => max (dep d) (depAll ds)
end
theorem dep_mem : ∀ {ds : List PyData} {i : Nat} {d : PyData}, ds[i]? = some d → dep d ≤ depAll ds
  | [], _, _, h => by simp at h
  | e :: ds, 0, d, h => by
    have z : e = d := by simpa using h
    subst z
    unfold depAll
    omega
  | e :: ds, i + 1, d, h => by
    have := dep_mem (ds := ds) (i := i) (d := d) (by simpa using h)
    unfold depAll
    omega
theorem DpAll.len {K : PySem.W.Frag} {H : Hp} : ∀ {vs : List V} {ds : List PyData}, DpAll K H vs ds → vs.length = ds.length
  | _, _, .nil => rfl
  | _, _, .cons _ t => by simp [DpAll.len t]
theorem DpAll.get {K : PySem.W.Frag} {H : Hp} : ∀ {vs : List V} {ds : List PyData} {i : Nat}, DpAll K H vs ds → i < ds.length → ∃ v d, vs[i]? = some v ∧ ds[i]? = some d ∧ Dp K H v d
  | _, _, i, .nil, h => by simp at h
  | _, _, 0, .cons a _, _ => ⟨_, _, rfl, rfl, a⟩
  | _, _, i + 1, .cons _ t, h => by
    obtain ⟨v, d, h1, h2, h3⟩ := DpAll.get (i := i) t (by simpa using h)
    exact ⟨v, d, by simpa using h1, by simpa using h2, h3⟩
end Ly
namespace Ly
open PySem PySem.Spec PyProof.Rows L2
theorem cx_K {CX : CXT} {P : Program} {w : World} {K : PySem.W.Frag} {mg : Str → Option Value} {base : Heap} {N : List Str} {qual : Str} {scope : Scope} {f : Addr} {cd : Value} {A : Around} {outer : List Env} {s : Shared} {H : Hp} {E : XK} :
    (cxOf CX P w K mg base N qual scope f cd A outer s H E).K = K := rfl
theorem cx_nox {X : Cx} : X.nox.K = X.K := rfl
theorem lenV_ref {K : PySem.W.Frag} {p : Addr} {H : Hp} {n : Nat} : LenV K (.ref p) H n = ((∃ xs, SqL K H p xs ∧ n = xs.length) ∨ ∃ xs, SqT K H p xs ∧ n = xs.length) := rfl
theorem intd {a b : Int} (h : a = b) {Q : V → Hp → Prop} {H : Hp} (q : Q (.int a) H) : Q (.int b) H := h ▸ q
end Ly
namespace Ly
open PySem PySem.Spec PyProof.Rows L2
theorem rIx_l {K : PySem.W.Frag} {H : Hp} {p : Addr} {xs : List V} {i : Int} {v : V} {Q : VK} (h : SqL K H p xs) (e : atI xs i = some v) (q : Q v H) : rIx K (.ref p) (.int i) H Q := .inl ⟨p, xs, i, v, rfl, rfl, h, e, q⟩
theorem rIx_t {K : PySem.W.Frag} {H : Hp} {p : Addr} {xs : List V} {i : Int} {v : V} {Q : VK} (h : SqT K H p xs) (e : atI xs i = some v) (q : Q v H) : rIx K (.ref p) (.int i) H Q := .inr (.inl ⟨p, xs, i, v, rfl, rfl, h, e, q⟩)
theorem rIx_s {K : PySem.W.Frag} {H : Hp} {z : Str} {i : Int} {c : Nat} {Q : VK} (l : z.length ≤ sizeLine) (e : atI z.cps.toList i = some c) (q : Q (.str ⟨#[c]⟩) H) : rIx K (.str z) (.int i) H Q := .inr (.inr ⟨z, i, c, rfl, rfl, l, e, q⟩)
theorem lg64 {a : Int} (h : a.natAbs < 2 ^ 64) : a.natAbs.log2 < 64 := log2_small h (by decide)
theorem lg_of {a b : Int} (h : a.natAbs ≤ b.natAbs) : a.natAbs.log2 ≤ b.natAbs.log2 := log2_le_of h
theorem log2_two {a k : Nat} (h : a ≤ 2 ^ k) : a.log2 ≤ k := by
  have := log2_le_of h
  rwa [Nat.log2_two_pow] at this
theorem intBits_log2 {z : Int} (n : Nat) (h : Builtin.Int.intBits z ≤ n) : z.natAbs.log2 ≤ n := by
  unfold Builtin.Int.intBits at h
  split at h <;> rename_i e
  · simp only [beq_iff_eq] at e
    subst e
    simp
  · omega
end Ly
namespace Ly
open PySem PySem.Spec PyProof.Rows L2
/-! ### comprehensions and loops, folded -/
def LcB (J : It) (D : Addr) (g : TG) (tt : TT) (te : TE) (vs : List Nat) (σ : L2.St) (H1 : Hp) (Q : VK) : Prop := ∃ W : Nat → Nat → Hp → Prop, (∃ m, W 0 m (upd H1 D (.lst []))) ∧ ∀ i m H, W i m H →
  (J.stop i H ∧ Q (.ref D) H) ∨ (J.go i H ∧ ∃ Nx : Hp → Prop, (∀ H', Nx H' → ∃ m', m' < m ∧ W (i + 1) m' H') ∧ ∀ x H', J.yld i H x H' → g x (wipe σ vs) H' fun σ2 H2 => wipe σ2 vs = wipe σ vs ∧ tt σ2 H2 fun b H3 =>
    if b = true then te σ2 H3 fun y H4 => ∃ acc, H4 D = some (.lst acc) ∧ acc.length < sizeLine ∧ Nx (upd H4 D (.lst (acc ++ [y]))) else Nx H3)
theorem tLc_eq {wi : TI} {g : TG} {tt : TT} {te : TE} {vs : List Nat} {σ : L2.St} {H : Hp} {Q : VK} : tLc wi g tt te vs σ H Q = wi σ H fun J H1 => ∀ D, H1 D = none → LcB J D g tt te vs σ H1 Q := rfl
theorem LcB.range {lo : Int} {n : Nat} {D : Addr} {g : TG} {tt : TT} {te : TE} {vs : List Nat} {σ : L2.St} {H1 : Hp} {Q : VK} (Pv : Nat → Hp → Prop) (h0 : Pv 0 (upd H1 D (.lst [])))
    (hs : ∀ i H, i < n → Pv i H → g (.int (lo + i)) (wipe σ vs) H fun σ2 H2 => wipe σ2 vs = wipe σ vs ∧ tt σ2 H2 fun b H3 =>
      if b = true then te σ2 H3 fun y H4 => ∃ acc, H4 D = some (.lst acc) ∧ acc.length < sizeLine ∧ Pv (i + 1) (upd H4 D (.lst (acc ++ [y]))) else Pv (i + 1) H3) (hd : ∀ H, Pv n H → Q (.ref D) H) : LcB (Itr lo n) D g tt te vs σ H1 Q :=
  lc_range (Qd := fun H => Q (.ref D) H) Pv h0 hs hd
theorem LcB.list {K : PySem.W.Frag} {a : Addr} {xs : List V} {D : Addr} {g : TG} {tt : TT} {te : TE} {vs : List Nat} {σ : L2.St} {H1 : Hp} {Q : VK} (Pv : Nat → Hp → Prop) (h0 : Pv 0 (upd H1 D (.lst []))) (hl : ∀ i H, i ≤ xs.length → Pv i H → SqL K H a xs)
    (hs : ∀ i x H, xs[i]? = some x → Pv i H → g x (wipe σ vs) H fun σ2 H2 => wipe σ2 vs = wipe σ vs ∧ tt σ2 H2 fun b H3 =>
      if b = true then te σ2 H3 fun y H4 => ∃ acc, H4 D = some (.lst acc) ∧ acc.length < sizeLine ∧ Pv (i + 1) (upd H4 D (.lst (acc ++ [y]))) else Pv (i + 1) H3) (hd : ∀ H, Pv xs.length H → Q (.ref D) H) : LcB (Itl K a) D g tt te vs σ H1 Q :=
  lc_list (Qd := fun H => Q (.ref D) H) Pv h0 hl hs hd
theorem LcB.tup {K : PySem.W.Frag} {a : Addr} {xs : List V} {D : Addr} {g : TG} {tt : TT} {te : TE} {vs : List Nat} {σ : L2.St} {H1 : Hp} {Q : VK} (Pv : Nat → Hp → Prop) (h0 : Pv 0 (upd H1 D (.lst []))) (hl : ∀ i H, i ≤ xs.length → Pv i H → SqT K H a xs)
    (hs : ∀ i x H, xs[i]? = some x → Pv i H → g x (wipe σ vs) H fun σ2 H2 => wipe σ2 vs = wipe σ vs ∧ tt σ2 H2 fun b H3 =>
      if b = true then te σ2 H3 fun y H4 => ∃ acc, H4 D = some (.lst acc) ∧ acc.length < sizeLine ∧ Pv (i + 1) (upd H4 D (.lst (acc ++ [y]))) else Pv (i + 1) H3) (hd : ∀ H, Pv xs.length H → Q (.ref D) H) : LcB (Itt K a) D g tt te vs σ H1 Q :=
  lc_tup (Qd := fun H => Q (.ref D) H) Pv h0 hl hs hd
def ForB (J : It) (g : TG) (tb : TS) (D : Ends) (σ : L2.St) (H1 : Hp) : Prop := ∃ W : Nat → Nat → L2.St → Hp → Prop, (∃ m, W 0 m σ H1) ∧ ∀ i m σ H, W i m σ H →
  (J.stop i H ∧ D.nx σ H) ∨ (J.go i H ∧ ∃ N : L2.St → Hp → Prop, (∀ σ' H', N σ' H' → ∃ m', m' < m ∧ W (i + 1) m' σ' H') ∧ ∀ x H', J.yld i H x H' → g x σ H' fun σ2 H2 => tb { D with nx := N, ct := N, bk := D.nx } σ2 H2)
theorem tFor_eq {wi : TI} {g : TG} {tb : TS} {D : Ends} {σ : L2.St} {H : Hp} : tFor wi g tb D σ H = wi σ H fun J H1 => ForB J g tb D σ H1 := rfl
theorem ForB.range {lo : Int} {n : Nat} {g : TG} {tb : TS} {D : Ends} {σ : L2.St} {H : Hp} (Pv : Nat → L2.St → Hp → Prop) (h0 : Pv 0 σ H)
    (hs : ∀ i σ H, i < n → Pv i σ H → g (.int (lo + i)) σ H fun σ2 H2 => tb { D with nx := Pv (i + 1), ct := Pv (i + 1), bk := D.nx } σ2 H2) (hd : ∀ σ H, Pv n σ H → D.nx σ H) : ForB (Itr lo n) g tb D σ H := for_range Pv h0 hs hd
theorem ForB.list {K : PySem.W.Frag} {a : Addr} {xs : List V} {g : TG} {tb : TS} {D : Ends} {σ : L2.St} {H : Hp} (Pv : Nat → L2.St → Hp → Prop) (h0 : Pv 0 σ H) (hl : ∀ i σ H, i ≤ xs.length → Pv i σ H → SqL K H a xs)
    (hs : ∀ i x σ H, xs[i]? = some x → Pv i σ H → g x σ H fun σ2 H2 => tb { D with nx := Pv (i + 1), ct := Pv (i + 1), bk := D.nx } σ2 H2) (hd : ∀ σ H, Pv xs.length σ H → D.nx σ H) : ForB (Itl K a) g tb D σ H := for_list Pv h0 hl hs hd
theorem ForB.tup {K : PySem.W.Frag} {a : Addr} {xs : List V} {g : TG} {tb : TS} {D : Ends} {σ : L2.St} {H : Hp} (Pv : Nat → L2.St → Hp → Prop) (h0 : Pv 0 σ H) (hl : ∀ i σ H, i ≤ xs.length → Pv i σ H → SqT K H a xs)
    (hs : ∀ i x σ H, xs[i]? = some x → Pv i σ H → g x σ H fun σ2 H2 => tb { D with nx := Pv (i + 1), ct := Pv (i + 1), bk := D.nx } σ2 H2) (hd : ∀ σ H, Pv xs.length σ H → D.nx σ H) : ForB (Itt K a) g tb D σ H := for_tup Pv h0 hl hs hd
end Ly
namespace Ly
open PySem PySem.Spec PyProof.Rows L2
/-- the field n of the exception x -/
def FldB (K : PySem.W.Frag) (n : Str) (x : V) (H : Hp) (R : V → Hp → Prop) : Prop := ∃ (a C dd : Addr) (fs : List (Str × V)) (v : V), x = .ref a ∧ H a = some (exv a C dd) ∧ H dd = some (.xd fs) ∧ XfC K C ∧ PySem.W.findIn K (.ref C) n = some none ∧ fs.lookup n = some v ∧ R v H
theorem tFldE_eq {K : PySem.W.Frag} {n : Str} {te : TE} {σ : L2.St} {H : Hp} {Q : VK} : tFldE K n te σ H Q = te σ H fun x H1 => FldB K n x H1 Q := rfl
end Ly
namespace Ly
open PySem PySem.Spec PyProof.Rows L2
/-- the field n of the exception that the suite holds -/
def XfB (K : PySem.W.Frag) (a : Addr) (cls : Value) (d : Option Addr) (n : Str) (x : V) (H : Hp) (R : V → Hp → Prop) : Prop := x = .ref a ∧ ∃ C, cls = .ref C ∧ XfC K C ∧ PySem.W.findIn K (.ref C) n = some none ∧ ∃ (dd : Addr) (fs : List (Str × V)) (v : V), d = some dd ∧ H dd = some (.xd fs) ∧ fs.lookup n = some v ∧ R v H
theorem tXfE_eq {K : PySem.W.Frag} {a : Addr} {cls : Value} {d : Option Addr} {n : Str} {te : TE} {σ : L2.St} {H : Hp} {Q : VK} : tXfE K a cls d n te σ H Q = te σ H fun x H1 => XfB K a cls d n x H1 Q := rfl
theorem wA_no {K : PySem.W.Frag} {Wout : WX} {D : Ends} {c cls : Value} {i : Option Nat} {ts : Addr → Value → Option Addr → TS} {r : List HdA} {d : Option Addr} {σ : L2.St} {H : Hp} (e : PySem.W.exmOne K cls c = some false) (h : wManyA K Wout D r cls d σ H) : wManyA K Wout D (⟨c, i, ts⟩ :: r) cls d σ H := by
  cases i <;> exact ⟨false, e, (fun q => nomatch q), fun _ => h⟩
theorem wA_yes {K : PySem.W.Frag} {Wout : WX} {D : Ends} {c cls : Value} {i : Nat} {ts : Addr → Value → Option Addr → TS} {r : List HdA} {d : Option Addr} {σ : L2.St} {H : Hp} (e : PySem.W.exmOne K cls c = some true)
    (h : ∀ a, H a = none → ts a cls d { nx := fun σ' H' => D.nx (σ'.set i none) H', rt := D.rt, bk := fun σ' H' => D.bk (σ'.set i none) H', ct := fun σ' H' => D.ct (σ'.set i none) H' } (σ.set i (some (.ref a))) H) : wManyA K Wout D (⟨c, some i, ts⟩ :: r) cls d σ H :=
  ⟨true, e, fun _ => h, (fun q => nomatch q)⟩
theorem wA_yes0 {K : PySem.W.Frag} {Wout : WX} {D : Ends} {c cls : Value} {ts : Addr → Value → Option Addr → TS} {r : List HdA} {d : Option Addr} {σ : L2.St} {H : Hp} (e : PySem.W.exmOne K cls c = some true)
    (h : ∀ a, H a = none → ts a cls d D σ H) : wManyA K Wout D (⟨c, none, ts⟩ :: r) cls d σ H := ⟨true, e, fun _ => h, (fun q => nomatch q)⟩
end Ly
namespace Ly
open PySem PySem.Spec PyProof.Rows L2
section
variable {K : PySem.W.Frag} {h : Heap} {mg : Str → Option Value}
def mkDef {x : Str} {st : Stmt} {ps : List Str} {f : Addr} {oc kV doc pm cdv ct : Value} {od an : Option Addr} {osl : Array (Option Value)} (X : K.In h) (G : h.Ns mainGlobals mg)
    (hb : ∀ (kV doc pm : Value) (an : Option Addr) (cdv ct : Value) (us : List Value), us.length = ps.length → bindArgs (PySem.W.fnOf x x (defArgs st) (defBody st) (defScope st) .none kV doc pm an cdv ct) ⟨us, []⟩ = pure (ps.zip us))
    (a : PySem.W.nsIn K mainGlobals x = some (some (.ref f))) (l : K.lookup f = some ⟨oc, od, .func (PySem.W.fnOf x x (defArgs st) (defBody st) (defScope st) .none kV doc pm an cdv ct), osl⟩)
    (c : PySem.W.codeIn K cdv x = true) (k : PySem.W.keepIn K (.ref f) = true) : DefAt K mg x st ps :=
  ⟨f, _, fun_mk l c k, PySem.W.mg_of X G a, (fun_mk (st := st) l c k).binds hb⟩
def mkExc0 {x : Str} {C : Addr} {q : Str} {N : Addr} {bs : List Value} {sn : List Str} {sub : List Value} {ab : Bool} {col : Option Bool} {dd : Option Addr} {k0 k1 k2 k3 k5 : Option Value} (X : K.In h) (G : h.Ns mainGlobals mg)
    (a : PySem.W.nsIn K mainGlobals x = some (some (.ref C))) (l : K.lookup C = some (excClassObj x q C N bs veT true sn sub ab col dd k0 k1 k2 k3 k5 "ValueError.__new__")) : ExcAt0 K mg x :=
  ⟨C, PySem.W.mg_of X G a, ⟨q, N, bs, sn, sub, ab, col, dd, k0, k1, k2, k3, k5, l⟩⟩
def mkExc {g x qi : Str} {C G0 f : Addr} {q : Str} {N : Addr} {bs : List Value} {sn : List Str} {sub : List Value} {ab : Bool} {col : Option Bool} {dd : Option Addr} {k0 k1 k2 k3 k5 : Option Value} {st : Stmt} {ps fs : List Str}
    {oc kV doc pm cdv ct : Value} {od an : Option Addr} {osl : Array (Option Value)} (X : K.In h) (G : h.Ns mainGlobals mg) (g0 : ExcAt0 K mg g)
    (hb : ∀ (kV doc pm : Value) (an : Option Addr) (cdv ct : Value) (us : List Value), us.length = ps.length → bindArgs (PySem.W.fnOf "__init__" qi (defArgs st) (defBody st) (defScope st) .none kV doc pm an cdv ct) ⟨us, []⟩ = pure (ps.zip us))
    (ag : PySem.W.nsIn K mainGlobals g = some (some (.ref G0))) (a : PySem.W.nsIn K mainGlobals x = some (some (.ref C)))
    (l : K.lookup C = some (excClassObj x q C N bs (.ref G0 :: veT) true sn sub ab col dd k0 k1 k2 k3 k5 "ValueError.__new__"))
    (sa : PySem.W.findIn K (.ref C) "__setattr__" = some (some (.builtin "object.__setattr__"))) (kC : PySem.W.keepIn K (.ref C) = true)
    (i : PySem.W.findIn K (.ref C) "__init__" = some (some (.ref f))) (ty : PySem.W.typeIn K (.ref f) = some (.type "function"))
    (ga : PySem.W.findIn K (.ref C) "__getattribute__" = some (some (.builtin "BaseException.__getattribute__"))) (gg : PySem.W.findIn K (.ref C) "__getattr__" = some none)
    (ca : PySem.W.findIn K (.ref C) "__class__" = some (some (.builtin "object.__class__"))) (nf : nofs K C fs)
    (lf : K.lookup f = some ⟨oc, od, .func (PySem.W.fnOf "__init__" qi (defArgs st) (defBody st) (defScope st) .none kV doc pm an cdv ct), osl⟩) (c : PySem.W.codeIn K cdv qi = true) (k : PySem.W.keepIn K (.ref f) = true) :
    ExcAt K mg x qi st ps fs g0.C :=
  { C := C, f := f, fd := _, g := PySem.W.mg_of X G a, e := ⟨q, N, bs, sn, sub, ab, col, dd, k0, k1, k2, k3, k5, by
      have e1 := g0.g
      rw [PySem.W.mg_of X G ag] at e1
      have e2 : G0 = g0.C := Value.ref.inj (Option.some.inj e1)
      rw [← e2]
      exact l⟩,
    sa := sa, kC := kC, i := i, ty := ty, ga := ga, gg := gg, ca := ca, nf := nf, F := fun_mk lf c k, b := (fun_mk (st := st) lf c k).binds hb }
theorem DefAt.one {x p : Str} {st : Stmt} (d : DefAt K mg x st [p]) (hb : ∀ (kV doc pm : Value) (an : Option Addr) (cdv ct : Value) (u : Value), bindArgs (PySem.W.fnOf x x (defArgs st) (defBody st) (defScope st) .none kV doc pm an cdv ct) ⟨[u], []⟩ = pure [(p, u)]) (s : Shared) (u : Value) : BindsTo s d.fd ⟨[u], []⟩ [(p, u)] := by
  obtain ⟨oc, od, kV, doc, pm, an, cdv, ct, osl, e, _, _⟩ := d.F.ex
  rw [e]
  exact .of_eq (hb kV doc pm an cdv ct u)
end
end Ly
namespace Ly
open PySem PySem.Spec PyProof.Rows L2
def top (i : Nat) : Stmt := PySem.Challenge.pw_graftbook_k01_errors.main.body.getD i (.Pass ⟨0, 0, 0, 0⟩)
abbrev s_InvalidForest_init : Stmt := (inClass (top 2) 0)
theorem sc_InvalidForest_init : FnScope ["self", "value"] ["self", "value"] (defScope s_InvalidForest_init) := ⟨rfl, rfl, rfl, by decide +kernel, rfl, by decide +kernel, by decide +kernel⟩
abbrev s_InvalidPlot_init : Stmt := (inClass (top 3) 0)
theorem sc_InvalidPlot_init : FnScope ["self", "value"] ["self", "value"] (defScope s_InvalidPlot_init) := ⟨rfl, rfl, rfl, by decide +kernel, rfl, by decide +kernel, by decide +kernel⟩
abbrev s_InvalidPrices_init : Stmt := (inClass (top 4) 0)
theorem sc_InvalidPrices_init : FnScope ["self", "value"] ["self", "value"] (defScope s_InvalidPrices_init) := ⟨rfl, rfl, rfl, by decide +kernel, rfl, by decide +kernel, by decide +kernel⟩
abbrev s_InvalidMatching_init : Stmt := (inClass (top 5) 0)
theorem sc_InvalidMatching_init : FnScope ["self", "value"] ["self", "value"] (defScope s_InvalidMatching_init) := ⟨rfl, rfl, rfl, by decide +kernel, rfl, by decide +kernel, by decide +kernel⟩
abbrev s_InvalidScript_init : Stmt := (inClass (top 6) 0)
theorem sc_InvalidScript_init : FnScope ["self", "value"] ["self", "value"] (defScope s_InvalidScript_init) := ⟨rfl, rfl, rfl, by decide +kernel, rfl, by decide +kernel, by decide +kernel⟩
abbrev s_InvalidTable_init : Stmt := (inClass (top 7) 0)
theorem sc_InvalidTable_init : FnScope ["self", "value"] ["self", "value"] (defScope s_InvalidTable_init) := ⟨rfl, rfl, rfl, by decide +kernel, rfl, by decide +kernel, by decide +kernel⟩
abbrev s_InvalidClaim_init : Stmt := (inClass (top 8) 0)
theorem sc_InvalidClaim_init : FnScope ["self", "value"] ["self", "value"] (defScope s_InvalidClaim_init) := ⟨rfl, rfl, rfl, by decide +kernel, rfl, by decide +kernel, by decide +kernel⟩
abbrev s_InvalidNumber_init : Stmt := (inClass (top 9) 0)
theorem sc_InvalidNumber_init : FnScope ["self", "value"] ["self", "value"] (defScope s_InvalidNumber_init) := ⟨rfl, rfl, rfl, by decide +kernel, rfl, by decide +kernel, by decide +kernel⟩
abbrev s_InvalidPath_init : Stmt := (inClass (top 10) 0)
theorem sc_InvalidPath_init : FnScope ["self", "path"] ["self", "path"] (defScope s_InvalidPath_init) := ⟨rfl, rfl, rfl, by decide +kernel, rfl, by decide +kernel, by decide +kernel⟩
abbrev s_InvalidText_init : Stmt := (inClass (top 11) 0)
theorem sc_InvalidText_init : FnScope ["self", "text", "at"] ["self", "text", "at"] (defScope s_InvalidText_init) := ⟨rfl, rfl, rfl, by decide +kernel, rfl, by decide +kernel, by decide +kernel⟩
abbrev s_Undefined_init : Stmt := (inClass (top 12) 0)
theorem sc_Undefined_init : FnScope ["self", "what"] ["self", "what"] (defScope s_Undefined_init) := ⟨rfl, rfl, rfl, by decide +kernel, rfl, by decide +kernel, by decide +kernel⟩
abbrev s_Refusal_init : Stmt := (inClass (top 13) 0)
theorem sc_Refusal_init : FnScope ["self", "deed", "reason"] ["self", "deed", "reason"] (defScope s_Refusal_init) := ⟨rfl, rfl, rfl, by decide +kernel, rfl, by decide +kernel, by decide +kernel⟩
abbrev s_Clash_init : Stmt := (inClass (top 14) 0)
theorem sc_Clash_init : FnScope ["self", "deed", "other"] ["self", "deed", "other"] (defScope s_Clash_init) := ⟨rfl, rfl, rfl, by decide +kernel, rfl, by decide +kernel, by decide +kernel⟩
abbrev s_Refused_init : Stmt := (inClass (top 15) 0)
theorem sc_Refused_init : FnScope ["self", "claim"] ["self", "claim"] (defScope s_Refused_init) := ⟨rfl, rfl, rfl, by decide +kernel, rfl, by decide +kernel, by decide +kernel⟩
abbrev s_InvalidCommand_init : Stmt := (inClass (top 16) 0)
theorem sc_InvalidCommand_init : FnScope ["self", "line", "at"] ["self", "line", "at"] (defScope s_InvalidCommand_init) := ⟨rfl, rfl, rfl, by decide +kernel, rfl, by decide +kernel, by decide +kernel⟩
abbrev s_UnknownName_init : Stmt := (inClass (top 17) 0)
theorem sc_UnknownName_init : FnScope ["self", "name"] ["self", "name"] (defScope s_UnknownName_init) := ⟨rfl, rfl, rfl, by decide +kernel, rfl, by decide +kernel, by decide +kernel⟩
abbrev s_NothingToUndo_init : Stmt := (inClass (top 18) 0)
theorem sc_NothingToUndo_init : FnScope ["self", "deed"] ["self", "deed"] (defScope s_NothingToUndo_init) := ⟨rfl, rfl, rfl, by decide +kernel, rfl, by decide +kernel, by decide +kernel⟩
abbrev s_l_cell : Stmt := (top 20)
theorem sc_l_cell : FnScope ["script", "k"] ["script", "k"] (defScope s_l_cell) := ⟨rfl, rfl, rfl, by decide +kernel, rfl, by decide +kernel, by decide +kernel⟩
abbrev s_l_mix : Stmt := (top 21)
theorem sc_l_mix : FnScope ["cell", "salt", "one"] ["cell", "salt"] (defScope s_l_mix) := ⟨rfl, rfl, rfl, by decide +kernel, rfl, by decide +kernel, by decide +kernel⟩
abbrev s_l_box : Stmt := (top 22)
theorem sc_l_box : FnScope ["script", "at", "cell"] ["script", "at"] (defScope s_l_box) := ⟨rfl, rfl, rfl, by decide +kernel, rfl, by decide +kernel, by decide +kernel⟩
abbrev s_l_draw : Stmt := (top 23)
theorem sc_l_draw : FnScope ["box", "many", "drawn"] ["box", "many"] (defScope s_l_draw) := ⟨rfl, rfl, rfl, by decide +kernel, rfl, by decide +kernel, by decide +kernel⟩
abbrev s_l_word : Stmt := (top 24)
theorem sc_l_word : FnScope ["box", "size", "k"] ["box"] (defScope s_l_word) := ⟨rfl, rfl, rfl, by decide +kernel, rfl, by decide +kernel, by decide +kernel⟩
abbrev s_l_plain : Stmt := (top 25)
theorem sc_l_plain : FnScope ["box", "kind"] ["box"] (defScope s_l_plain) := ⟨rfl, rfl, rfl, by decide +kernel, rfl, by decide +kernel, by decide +kernel⟩
abbrev s_l_value : Stmt := (top 26)
theorem sc_l_value : FnScope ["box", "kind", "row", "k"] ["box"] (defScope s_l_value) := ⟨rfl, rfl, rfl, by decide +kernel, rfl, by decide +kernel, by decide +kernel⟩
abbrev s_l_alike : Stmt := (top 27)
theorem sc_l_alike : FnScope ["told", "due", "k"] ["told", "due"] (defScope s_l_alike) := ⟨rfl, rfl, rfl, by decide +kernel, rfl, by decide +kernel, by decide +kernel⟩
abbrev s_l_deed : Stmt := (top 28)
theorem sc_l_deed : FnScope ["box", "mark", "deed"] ["box"] (defScope s_l_deed) := ⟨rfl, rfl, rfl, by decide +kernel, rfl, by decide +kernel, by decide +kernel⟩
abbrev s_l_claim : Stmt := (top 29)
theorem sc_l_claim : FnScope ["box", "a", "number", "claims"] ["box"] (defScope s_l_claim) := ⟨rfl, rfl, rfl, by decide +kernel, rfl, by decide +kernel, by decide +kernel⟩
abbrev s_l_kinds : Stmt := (top 30)
theorem sc_l_kinds : FnScope ["made", "kinds"] ["made"] (defScope s_l_kinds) := ⟨rfl, rfl, rfl, by decide +kernel, rfl, by decide +kernel, by decide +kernel⟩
abbrev s_l_alone : Stmt := (top 31)
theorem sc_l_alone : FnScope ["made", "kind", "kinds", "k"] ["made", "kind"] (defScope s_l_alone) := ⟨rfl, rfl, rfl, by decide +kernel, rfl, by decide +kernel, by decide +kernel⟩
abbrev s_l_of_value : Stmt := (top 32)
theorem sc_l_of_value : FnScope ["one", "other", "first", "second", "k"] ["one", "other"] (defScope s_l_of_value) := ⟨rfl, rfl, rfl, by decide +kernel, rfl, by decide +kernel, by decide +kernel⟩
abbrev s_l_of_path : Stmt := (top 33)
theorem sc_l_of_path : FnScope ["one", "other", "first", "second"] ["one", "other"] (defScope s_l_of_path) := ⟨rfl, rfl, rfl, by decide +kernel, rfl, by decide +kernel, by decide +kernel⟩
abbrev s_l_of_text : Stmt := (top 34)
theorem sc_l_of_text : FnScope ["text", "at", "first", "second", "third", "fourth"] ["text", "at"] (defScope s_l_of_text) := ⟨rfl, rfl, rfl, by decide +kernel, rfl, by decide +kernel, by decide +kernel⟩
abbrev s_l_of_word : Stmt := (top 35)
theorem sc_l_of_word : FnScope ["word", "other", "what", "name", "undo"] ["word", "other"] (defScope s_l_of_word) := ⟨rfl, rfl, rfl, by decide +kernel, rfl, by decide +kernel, by decide +kernel⟩
abbrev s_l_of_deed : Stmt := (top 36)
theorem sc_l_of_deed : FnScope ["one", "other", "true", "false", "refusal", "clash", "refused", "k", "pair"] ["one", "other", "true", "false"] (defScope s_l_of_deed) := ⟨rfl, rfl, rfl, by decide +kernel, rfl, by decide +kernel, by decide +kernel⟩
abbrev s_l_raise : Stmt := (top 37)
theorem sc_l_raise : FnScope ["kind", "value", "deed", "other", "claim"] ["kind", "value", "deed", "other", "claim"] (defScope s_l_raise) := ⟨rfl, rfl, rfl, by decide +kernel, rfl, by decide +kernel, by decide +kernel⟩
abbrev s_l_caught : Stmt := (top 38)
theorem sc_l_caught : FnScope ["kind", "value", "deed", "other", "claim", "e"] ["kind", "value", "deed", "other", "claim"] (defScope s_l_caught) := ⟨rfl, rfl, rfl, by decide +kernel, rfl, by decide +kernel, by decide +kernel⟩
abbrev s_l_caught_early : Stmt := (top 39)
theorem sc_l_caught_early : FnScope ["kind", "value", "e"] ["kind", "value"] (defScope s_l_caught_early) := ⟨rfl, rfl, rfl, by decide +kernel, rfl, by decide +kernel, by decide +kernel⟩
abbrev s_l_beneath : Stmt := (top 40)
theorem sc_l_beneath : FnScope ["kind", "value", "deed", "other", "claim"] ["kind", "value", "deed", "other", "claim"] (defScope s_l_beneath) := ⟨rfl, rfl, rfl, by decide +kernel, rfl, by decide +kernel, by decide +kernel⟩
abbrev s_law : Stmt := (top 41)
theorem sc_law : FnScope ["script", "first", "second", "one", "other", "words", "at", "deeds", "claims", "due", "kind"] ["script"] (defScope s_law) := ⟨rfl, rfl, rfl, by decide +kernel, rfl, by decide +kernel, by decide +kernel⟩
structure All (K : PySem.W.Frag) (mg : Str → Option Value) where
  l_cell : DefAt K mg "_law_cell" s_l_cell ["script", "k"]
  l_mix : DefAt K mg "_law_mix" s_l_mix ["cell", "salt"]
  l_box : DefAt K mg "_law_box" s_l_box ["script", "at"]
  l_draw : DefAt K mg "_law_draw" s_l_draw ["box", "many"]
  l_word : DefAt K mg "_law_word" s_l_word ["box"]
  l_plain : DefAt K mg "_law_plain" s_l_plain ["box"]
  l_value : DefAt K mg "_law_value" s_l_value ["box"]
  l_alike : DefAt K mg "_law_alike" s_l_alike ["told", "due"]
  l_deed : DefAt K mg "_law_deed" s_l_deed ["box"]
  l_claim : DefAt K mg "_law_claim" s_l_claim ["box"]
  l_kinds : DefAt K mg "_law_kinds" s_l_kinds ["made"]
  l_alone : DefAt K mg "_law_alone" s_l_alone ["made", "kind"]
  l_of_value : DefAt K mg "_law_of_value" s_l_of_value ["one", "other"]
  l_of_path : DefAt K mg "_law_of_path" s_l_of_path ["one", "other"]
  l_of_text : DefAt K mg "_law_of_text" s_l_of_text ["text", "at"]
  l_of_word : DefAt K mg "_law_of_word" s_l_of_word ["word", "other"]
  l_of_deed : DefAt K mg "_law_of_deed" s_l_of_deed ["one", "other", "true", "false"]
  l_raise : DefAt K mg "_law_raise" s_l_raise ["kind", "value", "deed", "other", "claim"]
  l_caught : DefAt K mg "_law_caught" s_l_caught ["kind", "value", "deed", "other", "claim"]
  l_caught_early : DefAt K mg "_law_caught_early" s_l_caught_early ["kind", "value"]
  l_beneath : DefAt K mg "_law_beneath" s_l_beneath ["kind", "value", "deed", "other", "claim"]
  law : DefAt K mg "law" s_law ["script"]
  c_GraftError : ExcAt0 K mg "GraftError"
  c_InvalidForest : ExcAt K mg "InvalidForest" "InvalidForest.__init__" s_InvalidForest_init ["self", "value"] ["value"] c_GraftError.C
  c_InvalidPlot : ExcAt K mg "InvalidPlot" "InvalidPlot.__init__" s_InvalidPlot_init ["self", "value"] ["value"] c_GraftError.C
  c_InvalidPrices : ExcAt K mg "InvalidPrices" "InvalidPrices.__init__" s_InvalidPrices_init ["self", "value"] ["value"] c_GraftError.C
  c_InvalidMatching : ExcAt K mg "InvalidMatching" "InvalidMatching.__init__" s_InvalidMatching_init ["self", "value"] ["value"] c_GraftError.C
  c_InvalidScript : ExcAt K mg "InvalidScript" "InvalidScript.__init__" s_InvalidScript_init ["self", "value"] ["value"] c_GraftError.C
  c_InvalidTable : ExcAt K mg "InvalidTable" "InvalidTable.__init__" s_InvalidTable_init ["self", "value"] ["value"] c_GraftError.C
  c_InvalidClaim : ExcAt K mg "InvalidClaim" "InvalidClaim.__init__" s_InvalidClaim_init ["self", "value"] ["value"] c_GraftError.C
  c_InvalidNumber : ExcAt K mg "InvalidNumber" "InvalidNumber.__init__" s_InvalidNumber_init ["self", "value"] ["value"] c_GraftError.C
  c_InvalidPath : ExcAt K mg "InvalidPath" "InvalidPath.__init__" s_InvalidPath_init ["self", "path"] ["path"] c_GraftError.C
  c_InvalidText : ExcAt K mg "InvalidText" "InvalidText.__init__" s_InvalidText_init ["self", "text", "at"] ["text", "at"] c_GraftError.C
  c_Undefined : ExcAt K mg "Undefined" "Undefined.__init__" s_Undefined_init ["self", "what"] ["what"] c_GraftError.C
  c_Refusal : ExcAt K mg "Refusal" "Refusal.__init__" s_Refusal_init ["self", "deed", "reason"] ["deed", "reason"] c_GraftError.C
  c_Clash : ExcAt K mg "Clash" "Clash.__init__" s_Clash_init ["self", "deed", "other"] ["deed", "other"] c_GraftError.C
  c_Refused : ExcAt K mg "Refused" "Refused.__init__" s_Refused_init ["self", "claim"] ["claim"] c_GraftError.C
  c_InvalidCommand : ExcAt K mg "InvalidCommand" "InvalidCommand.__init__" s_InvalidCommand_init ["self", "line", "at"] ["line", "at"] c_GraftError.C
  c_UnknownName : ExcAt K mg "UnknownName" "UnknownName.__init__" s_UnknownName_init ["self", "name"] ["name"] c_GraftError.C
  c_NothingToUndo : ExcAt K mg "NothingToUndo" "NothingToUndo.__init__" s_NothingToUndo_init ["self", "deed"] ["deed"] c_GraftError.C
  oc : ObjCls K
  n_ValueError : mg "ValueError" = none
  n_tuple : mg "tuple" = none
  n_isinstance : mg "isinstance" = none
  n_bool : mg "bool" = none
  n_str : mg "str" = none
  n_range : mg "range" = none
  n_len : mg "len" = none
  n_int : mg "int" = none
  n_max : mg "max" = none
  n_list : mg "list" = none
end Ly
namespace Ly
open PySem PySem.Spec PyProof.Rows L2
local macro_rules | `(tactic| walk_at "vc") => `(tactic| simp only [tSeq, tAsg, tOp, tVar, tC, tRet, tRetN, tNext, tIfS, tIf, tDrop, tB, tTest, tNot, tAnd, tOr, tAndV, tOrV, tNotV, tChain, tUn, tCB, tCons, tNil, tTup, tLst, tSl, tPart, tNoPart, tCall, tBreak, tCont,
  rI, rI0, rU, gName, gNil, gCons, gSub, rSetL, L2.start, cx_K, cx_nox, tLc_eq, tFor_eq, iRng1, iRng2, iList, iTup, tM1, tYes, wipe, rIxS, rIxL, rIxT, rCat, rSlL, rEq, rNe, tMkO_eq, tVal_eq, tFldE_eq, tXfE_eq, tCallS, lenV_ref, CDiv, CDivW, CPow, CMulX,
  List.map_cons, List.map_nil, List.cons_append, List.nil_append, List.append_nil, List.length_cons, List.length_nil, List.replicate, List.getElem?_cons_zero, List.getElem?_cons_succ, List.set_cons_zero, List.set_cons_succ, Nat.reduceSub, Nat.reduceAdd,
  Option.some.injEq, V.int.injEq, V.bl.injEq, V.str.injEq, V.ref.injEq, exists_eq_left', exists_eq_left, exists_and_left, reduceCtorEq, false_and, and_false, exists_false, or_false, false_or, Bool.false_eq_true, if_false, if_true, reduceIte, decide_eq_true_eq, List.cons.injEq, and_true, true_and])
section
variable {P : Program} {w : World} {K : PySem.W.Frag} {mg : Str → Option Value} {base : Heap}
/-! ### _law_cell -/
def cellOf (ns : List Int) (k : Nat) : Int := ns.getD k 0
def sp_cell (K : PySem.W.Frag) : Sp := fun vs H Q _ => ∃ (a : Addr) (ns : List Int) (k : Nat), vs = [.ref a, .int (k : Int)] ∧ SqL K H a (ns.map V.int) ∧ Q (.int (cellOf ns k)) H
theorem ok_l_cell (A : All K mg) : FnOk P w K mg base CX0 1 A.l_cell.f A.l_cell.fd ["script", "k"] (sp_cell K) := by
  refine A.l_cell.F.ok sc_l_cell (fun vs H Q E h => ?_) (fun cdv B outer s H vs Q E hr h => ?_)
  · obtain ⟨a, ns, k, rfl, _⟩ := h
    rfl
  · obtain ⟨a, ns, k, rfl, hs, q⟩ := h
    refine ⟨_, (pss_cons (ps_if (pt_cmpR op_lt (pv 1) (pe_callB call_len (by rfl) A.n_len PySem.boot_len (pa_cons (pv 0) pa_nil)) (nomark _)) (pss_one (ps_ret (pe_ix ix_seq (pv 0) (pv 1) (fun _ _ => rfl)))) pss_nil) (pss_one (ps_ret pe_int))), ?_⟩
    walk_at "vc"
    refine ⟨_, .inl ⟨_, hs, rfl⟩, ?_⟩
    rw [List.length_map]
    refine ite2 (fun c => ?_) (fun c => ?_)
    · refine .inl ⟨a, _, _, _, rfl, rfl, hs, atI_nat (by rw [List.getElem?_map, List.getElem?_eq_getElem (show k < ns.length by omega)]; rfl), ?_⟩
      unfold cellOf at q
      rw [List.getD_eq_getElem?_getD, List.getElem?_eq_getElem (show k < ns.length by omega)] at q
      exact q
    · unfold cellOf at q
      rw [List.getD_eq_getElem?_getD, List.getElem?_eq_none (show ns.length ≤ k by omega)] at q
      exact q
/-! ### _law_mix -/
def sp_mix : Sp := fun vs H Q _ => ∃ (c s : Int), vs = [.int c, .int s] ∧ c.natAbs.log2 ≤ 1048700 ∧ s.natAbs.log2 ≤ 1048700 ∧ ∀ r : Int, 0 ≤ r → Q (.int r) H
theorem ok_l_mix (A : All K mg) : FnOk P w K mg base CX0 1 A.l_mix.f A.l_mix.fd ["cell", "salt"] sp_mix := by
  refine A.l_mix.F.ok sc_l_mix (fun vs H Q E h => ?_) (fun cdv B outer s H vs Q E hr h => ?_)
  · obtain ⟨c, z, rfl, _⟩ := h
    rfl
  · obtain ⟨c, z, rfl, hc, hz, q⟩ := h
    refine ⟨_, (pss_cons (ps_set (i := 2) sc_l_mix.nd rfl (by first | exact Or.inl rfl | exact Or.inr rfl) (pe_op op_mod (pe_callTy call_int1 (by rfl) A.n_int (by decide +kernel) (pa_cons (pe_op op_add (pe_op op_add (pe_op op_mulX (pv 0) pe_int) (pe_op op_mulX (pv 1) pe_int)) pe_int) pa_nil)) pe_int)) (pss_one (ps_ret (pe_op op_mod (pe_callTy call_int1 (by rfl) A.n_int (by decide +kernel) (pa_cons (pe_op op_add (pe_op op_add (pe_op op_mulX (pv 2) (pv 2)) (pe_op op_mulX (pv 2) pe_int)) (pe_op op_mulX (pv 1) pe_int)) pa_nil)) pe_int)))), ?_⟩
    walk_at "vc"
    have e1 : (Int.natAbs 48271).log2 < 64 := lg64 (by decide)
    have e2 : (Int.natAbs 69621).log2 < 64 := lg64 (by decide)
    have e3 : (Int.natAbs 16807).log2 < 64 := lg64 (by decide)
    have e4 : (Int.natAbs 7919).log2 < 64 := lg64 (by decide)
    have m1 : 0 ≤ (c * 48271 + z * 69621 + 12345) % 2147483647 := Int.emod_nonneg _ (by decide)
    have m2 : (c * 48271 + z * 69621 + 12345) % 2147483647 < 2147483647 := Int.emod_lt_of_pos _ (by decide)
    generalize (c * 48271 + z * 69621 + 12345) % 2147483647 = y at m1 m2
    have e5 : y.natAbs.log2 < 64 := lg64 (by omega)
    exact ⟨by omega, by omega, by decide, by omega, by omega, by omega, by decide, q _ (Int.emod_nonneg _ (by decide))⟩
/-! ### _law_box -/
def sp_box (K : PySem.W.Frag) : Sp := fun vs H Q _ => ∃ (a : Addr) (ns : List Int) (k : Nat), vs = [.ref a, .int (k : Int)] ∧ SqL K H a (ns.map V.int) ∧ (∀ z ∈ ns, Builtin.Int.intBits z ≤ 1048576) ∧
  ∀ p b c z, H p = none → BoxV 0 b c z → Q (.ref p) (upd H p (boxL b c z))
theorem ok_l_box (A : All K mg) : FnOk P w K mg base CX0 2 A.l_box.f A.l_box.fd ["script", "at"] (sp_box K) := by
  have G_l_cell := ok_l_cell (P := P) (w := w) (base := base) A
  refine A.l_box.F.ok sc_l_box (fun vs H Q E h => ?_) (fun cdv B outer s H vs Q E hr h => ?_)
  · obtain ⟨a, ns, k, rfl, _⟩ := h
    rfl
  · obtain ⟨a, ns, k, rfl, hs, hb, q⟩ := h
    refine ⟨_, (pss_cons (ps_set (i := 2) sc_l_box.nd rfl (by first | exact Or.inl rfl | exact Or.inr rfl) (pe_call G_l_cell (hr.mono (by decide)) rfl A.l_cell.m A.l_cell.F.kp A.l_cell.b .nil pass0 (pa_cons (pv 0) (pa_cons (pv 1) pa_nil)))) (pss_one (ps_ret (pe_lst (pa_cons (pe_callB (call_max2 rfl) (by rfl) A.n_max (by decide +kernel) (pa_cons pe_int (pa_cons (pe_op op_sub (pv 2) (pe_op op_pow pe_int pe_int)) pa_nil))) (pa_cons pe_int (pa_cons (pv 2) pa_nil))))))), ?_⟩
    walk_at "vc"
    refine ⟨a, ns, k, rfl, hs, ⟨by decide, by decide, by decide⟩, cellOf ns k, rfl, 0, _, ⟨rfl, rfl⟩, by decide, fun p hp => ?_⟩
    have hc : (cellOf ns k).natAbs.log2 ≤ 1048576 := by
      unfold cellOf
      rw [List.getD_eq_getElem?_getD]
      cases e : ns[k]? with
      | none => simp
      | some y => exact intBits_log2 _ (hb y (List.mem_of_getElem? e))
    refine q p _ _ _ hp ⟨?_, ?_, by decide, by decide, by omega⟩
    · split <;> omega
    · split
      · exact Nat.le_trans (log2_le_of (show (cellOf ns k - 10 ^ Int.toNat 18).natAbs ≤ (cellOf ns k).natAbs by have : (10 : Int) ^ Int.toNat 18 = 1000000000000000000 := by decide
                                                                                                                omega)) (by omega)
      · simp
/-! ### _law_draw -/
def sp_draw : Sp := fun vs H Q _ => ∃ (p : Addr) (m : Int) (n : Nat), vs = [.ref p, .int m] ∧ 0 < m ∧ m < 2 ^ 40 ∧ BoxAt H p n ∧ n ≤ 1000000000 ∧
  ∀ d b c z, 0 ≤ d → d < m → BoxV (n + 1) b c z → Q (.int d) (upd H p (boxL b c z))
theorem ok_l_draw (A : All K mg) : FnOk P w K mg base CX0 2 A.l_draw.f A.l_draw.fd ["box", "many"] sp_draw := by
  have G_l_mix := ok_l_mix (P := P) (w := w) (base := base) A
  refine A.l_draw.F.ok sc_l_draw (fun vs H Q E h => ?_) (fun cdv B outer s H vs Q E hr h => ?_)
  · obtain ⟨p, m, n, rfl, _⟩ := h
    rfl
  · obtain ⟨p, m, n, rfl, m0, m1, ⟨b, c, z, hp, hv⟩, hn, q⟩ := h
    refine ⟨_, (pss_cons (ps_if (pt_cmpR op_gt (pe_ix ix_seq (pv 0) pe_int (fun _ _ => rfl)) pe_int (nomark _)) (pss_cons (ps_set (i := 2) sc_l_draw.nd rfl (by first | exact Or.inl rfl | exact Or.inr rfl) (pe_op op_mod (pe_callTy call_int1 (by rfl) A.n_int (by decide +kernel) (pa_cons (pe_ix ix_seq (pv 0) pe_int (fun _ _ => rfl)) pa_nil)) (pv 1))) (pss_cons (ps_asg (pe_op op_fdivW (pe_ix ix_seq (pv 0) pe_int (fun _ _ => rfl)) (pv 1)) (pg_sub (pv 0) pe_int set_list)) (pss_one (ps_ret (pv 2))))) pss_nil) (pss_cons (ps_asg (pe_op op_add (pe_ix ix_seq (pv 0) pe_int (fun _ _ => rfl)) pe_int) (pg_sub (pv 0) pe_int set_list)) (pss_one (ps_ret (pe_op op_mod (pe_callTy call_int1 (by rfl) A.n_int (by decide +kernel) (pa_cons (pe_call G_l_mix (hr.mono (by decide)) rfl A.l_mix.m A.l_mix.F.kp A.l_mix.b .nil pass0 (pa_cons (pe_ix ix_seq (pv 0) pe_int (fun _ _ => rfl)) (pa_cons (pe_ix ix_seq (pv 0) pe_int (fun _ _ => rfl)) pa_nil))) pa_nil)) (pv 1)))))), ?_⟩
    walk_at "vc"
    refine rIx_l (SqL.of hp) rfl ?_
    refine ⟨b, rfl, ite2 (fun hb => ?_) (fun hb => ?_)⟩
    · refine rIx_l (SqL.of hp) rfl (.inl ⟨b, rfl, m0, rIx_l (SqL.of hp) rfl ⟨b, rfl, ⟨m0, ?_⟩, _, hp, 0, rfl, ?_⟩⟩)
      · exact Nat.lt_of_lt_of_le (log2_small (k := 40) (by omega) (by decide)) (by decide)
      · refine q _ _ c z (Int.emod_nonneg _ (by omega)) (Int.emod_lt_of_pos _ m0) ⟨Int.ediv_nonneg hv.b0 (by omega), ?_, hv.c0, Int.le_trans hv.cn (by omega), hv.zs⟩
        have h1 : b / m ≤ b := Int.ediv_le_self _ hv.b0
        have h0 : 0 ≤ b / m := Int.ediv_nonneg hv.b0 (by omega)
        exact Nat.le_trans (log2_le_of (by omega)) hv.bs
    · have hv' : BoxV (n + 1) b (c + 1) z := ⟨hv.b0, hv.bs, by have := hv.c0; omega, by have := hv.cn; omega, hv.zs⟩
      have hp' : (upd H p (boxL b (c + 1) z)) p = some (boxL b (c + 1) z) := upd_same
      refine rIx_l (SqL.of hp) rfl ⟨c, rfl, _, hp, 1, rfl, ?_⟩
      refine rIx_l (SqL.of hp') rfl (rIx_l (SqL.of hp') rfl ⟨z, c + 1, rfl, hv.zs, ?_, fun r hr0 => .inl ⟨r, rfl, m0, ?_⟩⟩)
      · have h1 := hv.c0
        have h2 := hv.cn
        exact Nat.le_trans (Nat.le_of_lt (lg64 (by omega))) (by decide)
      · exact q _ _ _ _ (Int.emod_nonneg _ (by omega)) (Int.emod_lt_of_pos _ m0) hv'
end
end Ly
namespace Ly
open PySem PySem.Spec PyProof.Rows L2
open TL (joinL tl tl_join join_eq len_tl)
local macro_rules | `(tactic| walk_at "vc") => `(tactic| simp only [tSeq, tAsg, tOp, tVar, tC, tRet, tRetN, tNext, tIfS, tIf, tDrop, tB, tTest, tNot, tAnd, tOr, tAndV, tOrV, tNotV, tChain, tUn, tCB, tCons, tNil, tTup, tLst, tSl, tPart, tNoPart, tCall, tBreak, tCont,
  rI, rI0, rU, gName, gNil, gCons, gSub, rSetL, L2.start, cx_K, cx_nox, tLc_eq, tFor_eq, iRng1, iRng2, iList, iTup, tM1, tYes, wipe, rIxS, rIxL, rIxT, rCat, rSlL, rEq, rNe, tMkO_eq, tVal_eq, tFldE_eq, tXfE_eq, tCallS, lenV_ref, CDiv, CDivW, CPow, CMulX,
  List.map_cons, List.map_nil, List.cons_append, List.nil_append, List.append_nil, List.length_cons, List.length_nil, List.replicate, List.getElem?_cons_zero, List.getElem?_cons_succ, List.set_cons_zero, List.set_cons_succ, Nat.reduceSub, Nat.reduceAdd,
  Option.some.injEq, V.int.injEq, V.bl.injEq, V.str.injEq, V.ref.injEq, exists_eq_left', exists_eq_left, exists_and_left, reduceCtorEq, false_and, and_false, exists_false, or_false, false_or, Bool.false_eq_true, if_false, if_true, reduceIte, decide_eq_true_eq, List.cons.injEq, and_true, true_and])
section
variable {P : Program} {w : World} {K : PySem.W.Frag} {mg : Str → Option Value} {base : Heap}
/-! ### _law_word -/
structure IsW (x : Str) : Prop where
  pos : 1 ≤ x.length
  len : x.length ≤ 8
  abc : ∀ c ∈ x.cps.toList, 97 ≤ c ∧ c ≤ 122
def sp_word : Sp := fun vs H Q _ => ∃ (p : Addr) (n : Nat), vs = [.ref p] ∧ BoxAt H p n ∧ n ≤ 900000000 ∧
  ∀ x H', IsW x → Step p H H' → BoxAt H' p (n + 10) → Q (.str x) H'
theorem draw_go {H : Hp} {p : Addr} {m : Int} {n : Nat} {Q : VK} {E : XK} (hb : BoxAt H p n) (m0 : 0 < m) (m1 : m < 2 ^ 40) (hn : n ≤ 1000000000) (q : ∀ d H', 0 ≤ d → d < m → Step p H H' → BoxAt H' p (n + 1) → Q (.int d) H') : sp_draw [.ref p, .int m] H Q E :=
  ⟨p, m, n, rfl, m0, m1, hb, hn, fun d b c z h0 h1 hv => q d _ h0 h1 Step.box ⟨b, c, z, upd_same, hv⟩⟩
theorem abc26 : ∀ k : Fin 26, atI (Str.ofString "abcdefghijklmnopqrstuvwxyz").cps.toList ((k.val : Nat) : Int) = some (97 + k.val) := by decide +kernel
theorem abc26' {d : Int} (h0 : 0 ≤ d) (h1 : d < 26) : atI (Str.ofString "abcdefghijklmnopqrstuvwxyz").cps.toList d = some (97 + d.toNat) := by
  have := abc26 ⟨d.toNat, by omega⟩
  rwa [show (((⟨d.toNat, by omega⟩ : Fin 26).val : Nat) : Int) = d by show ((d.toNat : Nat) : Int) = d; omega] at this
theorem abc3 {d : Int} (h0 : 0 ≤ d) (h1 : d < 3) : atI (Str.ofString "abc").cps.toList d = some (97 + d.toNat) := by
  have key : ∀ k : Fin 3, atI (Str.ofString "abc").cps.toList ((k.val : Nat) : Int) = some (97 + k.val) := by decide +kernel
  have := key ⟨d.toNat, by omega⟩
  rwa [show (((⟨d.toNat, by omega⟩ : Fin 3).val : Nat) : Int) = d by show ((d.toNat : Nat) : Int) = d; omega] at this
theorem joinL_nil : ∀ l : List (List Nat), joinL [] l = l.flatten
  | [] => rfl
  | [a] => by simp [joinL]
  | a :: b :: r => by
    rw [show joinL [] (a :: b :: r) = a ++ ([] ++ joinL [] (b :: r)) from rfl, joinL_nil (b :: r)]
    simp
/-- one sign -/
def Sgn (x : Str) : Prop := ∃ c : Nat, x = ⟨#[c]⟩ ∧ 97 ≤ c ∧ c ≤ 122
theorem joined {l : List Str} (h : ∀ x ∈ l, Sgn x) : (tl (Txt.join (Str.ofString "") l)).length = l.length ∧ ∀ c ∈ tl (Txt.join (Str.ofString "") l), 97 ≤ c ∧ c ≤ 122 := by
  rw [join_eq, tl_join, show tl (Str.ofString "") = [] by decide +kernel, joinL_nil]
  induction l with
  | nil => simp
  | cons x r ih =>
    obtain ⟨c, rfl, h1, h2⟩ := h x List.mem_cons_self
    obtain ⟨i1, i2⟩ := ih fun y hy => h y (List.mem_cons_of_mem _ hy)
    refine ⟨?_, ?_⟩
    · rw [List.map_cons, List.flatten_cons, List.length_append, i1]
      simp [tl]
      omega
    · intro d hd
      rw [List.map_cons, List.flatten_cons, List.mem_append] at hd
      rcases hd with hd | hd
      · have : d = c := by simpa [tl] using hd
        subst this
        exact ⟨h1, h2⟩
      · exact i2 d hd
theorem sgn_sum {l : List Str} (h : ∀ x ∈ l, Sgn x) : (l.map (·.length)).sum = l.length := by
  induction l with
  | nil => rfl
  | cons x r ih =>
    obtain ⟨c, rfl, _⟩ := h x List.mem_cons_self
    rw [List.map_cons, List.sum_cons, ih fun y hy => h y (List.mem_cons_of_mem _ hy)]
    simp [Str.length]
    omega
theorem ok_l_word (A : All K mg) : FnOk P w K mg base CX0 3 A.l_word.f A.l_word.fd ["box"] sp_word := by
  have G_l_draw := ok_l_draw (P := P) (w := w) (base := base) A
  refine A.l_word.F.ok sc_l_word (fun vs H Q E h => ?_) (fun cdv B outer s H vs Q E hr h => ?_)
  · obtain ⟨p, n, rfl, _⟩ := h
    rfl
  · obtain ⟨p, n, rfl, hb, hn, q⟩ := h
    refine ⟨_, (pss_cons (ps_if (pt_cmpR op_gt (pe_call G_l_draw (hr.mono (by decide)) rfl A.l_draw.m A.l_draw.F.kp A.l_draw.b .nil pass0 (pa_cons (pv 0) (pa_cons pe_int pa_nil))) pe_int (nomark _)) (pss_one (ps_ret (pe_ix ix_str pe_str (pe_call G_l_draw (hr.mono (by decide)) rfl A.l_draw.m A.l_draw.F.kp A.l_draw.b .nil pass0 (pa_cons (pv 0) (pa_cons pe_int pa_nil))) (fun _ _ => rfl)))) pss_nil) (pss_cons (ps_set (i := 1) sc_l_word.nd rfl (by first | exact Or.inl rfl | exact Or.inr rfl) (pe_op op_add pe_int (pe_call G_l_draw (hr.mono (by decide)) rfl A.l_draw.m A.l_draw.F.kp A.l_draw.b .nil pass0 (pa_cons (pv 0) (pa_cons pe_int pa_nil))))) (pss_one (ps_ret (pe_join pe_str (pe_lc (own := [("k", 2)]) (g := gName 2) rfl sc_l_word.nd (pi_range1 rfl A.n_range (pa_cons (pv 1) pa_nil)) (blkOk_by (own := [("k", 2)]) (N := ["box", "size", "k"]) (sc := defScope s_l_word) (by decide +kernel)) (fun _ _ _ _ _ => pg_name (i := 2) sc_l_word.nd rfl (Or.inl rfl)) (fun _ _ _ _ _ => pts_nil) (fun _ _ _ _ _ => (pe_ix ix_str pe_str (pe_call G_l_draw (hr.mono (by decide)) rfl A.l_draw.m A.l_draw.F.kp A.l_draw.b .nil pass0 (pa_cons (pv 0) (pa_cons pe_int pa_nil))) (fun _ _ => rfl))))))))), ?_⟩
    walk_at "vc"
    refine draw_go hb (by decide) (by decide) (by omega) fun d H1 d0 d1 s1 b1 => ?_
    refine ⟨d, rfl, ite2 (fun c => ?_) (fun c => ?_)⟩
    · refine draw_go b1 (by decide) (by decide) (by omega) fun i H2 i0 i1 s2 b2 => ⟨i, rfl, by decide, _, abc3 i0 i1, ?_⟩
      refine q _ _ ⟨Nat.le_refl 1, (by decide : 1 ≤ 8), fun c hc => ?_⟩ (s1.trans s2) (b2.mono (by omega))
      have : c = 97 + i.toNat := by simpa using hc
      omega
    · refine draw_go b1 (by decide) (by decide) (by omega) fun i H2 i0 i1 s2 b2 => ⟨i, rfl, ⟨_, rfl⟩, by omega, by omega, fun D hD => ?_⟩
      refine LcB.range (fun k H' => ∃ acc : List Str, H' D = some (.lst (acc.map V.str)) ∧ acc.length = k ∧ (∀ x ∈ acc, Sgn x) ∧ Step p H2 H' ∧ BoxAt H' p (n + 2 + k)) ?_ ?_ ?_
      · have hpD : p ≠ D := fun z => by obtain ⟨_, _, _, e, _⟩ := b2; rw [z, hD] at e; cases e
        exact ⟨[], upd_same, rfl, fun x hx => by simp at hx, Step.new hD, by obtain ⟨b, c, z, e, v⟩ := b2; exact ⟨b, c, z, by rw [upd_ne hpD]; exact e, v⟩⟩
      · rintro k H3 hk ⟨acc, hD3, hl, hs, s3, b3⟩
        walk_at "vc"
        refine draw_go b3 (by decide) (by decide) (by omega) fun j H4 j0 j1 s4 b4 => ⟨j, rfl, by decide, _, abc26' j0 j1, ?_⟩
        have hpD : D ≠ p := fun z => by obtain ⟨_, _, _, e, _⟩ := b2; rw [← z, hD] at e; cases e
        have hD4 : H4 D = some (.lst (acc.map V.str)) := s4.keep _ _ hpD hD3
        refine ⟨_, hD4, ?_, acc ++ [⟨#[97 + j.toNat]⟩], ?_, ?_, ?_, (s3.trans s4).mut hD, ?_⟩
        · rw [List.length_map]
          exact Nat.lt_of_lt_of_le (show acc.length < 100 by omega) (by decide)
        · rw [upd_same, List.map_append]
          rfl
        · rw [List.length_append, hl]
          rfl
        · intro x hx
          rcases List.mem_append.mp hx with hx | hx
          · exact hs x hx
          · obtain rfl : x = ⟨#[97 + j.toNat]⟩ := by simpa using hx
            exact ⟨_, rfl, by omega, by omega⟩
        · obtain ⟨b, c, z, e, v⟩ := b4
          exact ⟨b, c, z, by rw [upd_ne (Ne.symm hpD)]; exact e, v.mono (by omega)⟩
      · rintro H3 ⟨acc, hD3, hl, hs, s3, b3⟩
        obtain ⟨j1, j2⟩ := joined hs
        refine ⟨D, rfl, acc, .inl (SqL.of hD3), ?_, q _ _ ⟨?_, ?_, j2⟩ ((s1.trans s2).trans s3) (b3.mono (by omega))⟩
        · rw [sgn_sum hs, show (Str.ofString "").length = 0 by decide]
          omega
        · rw [len_tl, j1]
          omega
        · rw [len_tl, j1]
          omega
end
end Ly
namespace Ly
open PySem PySem.Spec PyProof.Rows L2
local macro_rules | `(tactic| walk_at "vc") => `(tactic| simp only [tSeq, tAsg, tOp, tVar, tC, tRet, tRetN, tNext, tIfS, tIf, tDrop, tB, tTest, tNot, tAnd, tOr, tAndV, tOrV, tNotV, tChain, tUn, tCB, tCons, tNil, tTup, tLst, tSl, tPart, tNoPart, tCall, tBreak, tCont,
  rI, rI0, rU, gName, gNil, gCons, gSub, rSetL, L2.start, cx_K, cx_nox, tLc_eq, tFor_eq, iRng1, iRng2, iList, iTup, tM1, tYes, wipe, rIxS, rIxL, rIxT, rCat, rSlL, rEq, rNe, tMkO_eq, tVal_eq, tFldE_eq, tXfE_eq, tCallS, lenV_ref, CDiv, CDivW, CPow, CMulX,
  List.map_cons, List.map_nil, List.cons_append, List.nil_append, List.append_nil, List.length_cons, List.length_nil, List.replicate, List.getElem?_cons_zero, List.getElem?_cons_succ, List.set_cons_zero, List.set_cons_succ, Nat.reduceSub, Nat.reduceAdd,
  Option.some.injEq, V.int.injEq, V.bl.injEq, V.str.injEq, V.ref.injEq, exists_eq_left', exists_eq_left, exists_and_left, reduceCtorEq, false_and, and_false, exists_false, or_false, false_or, Bool.false_eq_true, if_false, if_true, reduceIte, decide_eq_true_eq, List.cons.injEq, and_true, true_and])
section
variable {P : Program} {w : World} {K : PySem.W.Frag} {mg : Str → Option Value} {base : Heap}
/-! ### _law_alike -/
def Shp : Nat → PyData → Prop
  | 0, _ => False
  | _ + 1, .none => True
  | _ + 1, .bool _ => True
  | _ + 1, .int _ => True
  | _ + 1, .str _ => True
  | n + 1, .list ds => ds.length ≤ 1000 ∧ ∀ d ∈ ds, Shp n d
  | n + 1, .tuple ds => ds.length ≤ 1000 ∧ ∀ d ∈ ds, Shp n d
  | _ + 1, .dict _ => False
def tyD : PyData → String
  | .none => "NoneType"
  | .bool _ => "bool"
  | .int _ => "int"
  | .str _ => "str"
  | .list _ => "list"
  | .tuple _ => "tuple"
  | .dict _ => "dict"
theorem tyL {H : Hp} {a : Addr} {xs : List V} (h : SqL K H a xs) : TyX K H (.ref a) (.type "list") := by
  rcases h with (h | ⟨o, h⟩) | ⟨o, its, n, hk, hc, _⟩
  · exact .base (.lst h)
  · exact .base (.frz h)
  · exact .kList hk hc
theorem tyT {H : Hp} {a : Addr} {xs : List V} (h : SqT K H a xs) : TyX K H (.ref a) (.type "tuple") := by
  rcases h with (h | ⟨o, h⟩) | ⟨o, its, n, hk, hc, _⟩
  · exact .base (.tup h)
  · exact .fTuple h
  · exact .kTuple hk hc
theorem Dp.ty {H : Hp} {v : V} {d : PyData} (h : Dp K H v d) : TyX K H v (.type (tyD d)) := by
  cases h with
  | non => exact .base .non
  | bl b => exact .base (.bl b)
  | int i => exact .base (.int i)
  | str x => exact .base (.str x)
  | lst a _ => exact tyL a
  | tup a _ => exact tyT a
theorem isi_go {H : Hp} {v : V} {a b : String} {r : Bool} {Q : VK} (t : TyX K H v (.type a)) (k : kitB a b = some r) (q : Q (.bl r) H) : rIsi K [v, .ty b] H Q := ⟨v, .ty b, .type a, .type b, r, rfl, .ty b, t, kit_ty k, q⟩
def kitL (a : String) : List String → Option Bool
  | [] => some false
  | b :: r => match kitB a b with
    | some true => some true
    | some false => kitL a r
    | none => none
theorem kitL_any {a : String} : ∀ {bs : List String} {r : Bool}, kitL a bs = some r → PySem.W.kitAny K (.type a) (bs.map Value.type) = some r
  | [], r, h => by cases h; rfl
  | b :: bs, r, h => by
    unfold kitL at h
    split at h
    · rename_i q
      cases h
      exact kitAny_cons (kit_ty q) (fun z => nomatch z) (fun _ => rfl)
    · rename_i q
      exact kitAny_cons (kit_ty q) (fun _ => kitL_any h) (fun z => nomatch z)
    · cases h
theorem clsv_all : ∀ {bs : List String}, Paired ClsV (bs.map V.ty) (bs.map Value.type)
  | [] => .nil
  | _ :: _ => .cons (.ty _) clsv_all
theorem isiT_go {H : Hp} {v : V} {a : String} {bs : List String} {r : Bool} {tp : Addr} {Q : VK} (t : TyX K H v (.type a)) (ht : H tp = some (.tup (bs.map V.ty))) (k : kitL a bs = some r) (q : Q (.bl r) H) : rIsiT K [v, .ref tp] H Q :=
  ⟨v, tp, bs.map V.ty, .type a, bs.map Value.type, r, rfl, ht, clsv_all, t, kitL_any k, q⟩
def sp_alike (K : PySem.W.Frag) (n : Nat) : Sp := fun vs H Q _ => ∃ (v u : V) (d : PyData), vs = [v, u] ∧ Dp K H v d ∧ Dp K H u d ∧ Shp n d ∧ ∀ H', Same H H' → Q (.bl true) H'
theorem ok_l_alike_n (A : All K mg) : ∀ n, FnOk P w K mg base CX0 n A.l_alike.f A.l_alike.fd ["told", "due"] (sp_alike K n)
  | 0 => ⟨fun vs H Q E ⟨_, _, _, _, _, _, h, _⟩ => h.elim, fun _ _ _ _ _ _ _ _ _ _ _ _ _ ⟨_, _, _, _, _, _, h, _⟩ => h.elim⟩
  | n + 1 => by
    have G_l_alike := ok_l_alike_n A n
    refine A.l_alike.F.ok sc_l_alike (fun vs H Q E h => ?_) (fun cdv B outer s H vs Q E hr h => ?_)
    · obtain ⟨v, u, d, rfl, _⟩ := h
      rfl
    · obtain ⟨v, u, d, rfl, hv, hu, hd, q⟩ := h
      refine ⟨_, (pss_cons (ps_if (pt_val (pe_callB call_isiT (by rfl) A.n_isinstance (by decide +kernel) (pa_cons (pv 1) (pa_cons (pe_tup (pa_cons (pe_bltn (v := V.ty "tuple") (u := Value.type "tuple") (by rfl) A.n_tuple (by decide +kernel) rfl) (pa_cons (pe_bltn (v := V.ty "list") (u := Value.type "list") (by rfl) A.n_list (by decide +kernel) rfl) pa_nil))) pa_nil)))) (pss_cons (ps_if (PW.pt (pw_or (pt_cmpR op_ne (pe_callB call_isi (by rfl) A.n_isinstance (by decide +kernel) (pa_cons (pv 0) (pa_cons (pe_bltn (v := V.ty "tuple") (u := Value.type "tuple") (by rfl) A.n_tuple (by decide +kernel) rfl) pa_nil))) (pe_callB call_isi (by rfl) A.n_isinstance (by decide +kernel) (pa_cons (pv 1) (pa_cons (pe_bltn (v := V.ty "tuple") (u := Value.type "tuple") (by rfl) A.n_tuple (by decide +kernel) rfl) pa_nil))) (nomark _)) (pw_or1 (pt_cmpR op_ne (pe_callB call_isi (by rfl) A.n_isinstance (by decide +kernel) (pa_cons (pv 0) (pa_cons (pe_bltn (v := V.ty "list") (u := Value.type "list") (by rfl) A.n_list (by decide +kernel) rfl) pa_nil))) (pe_callB call_isi (by rfl) A.n_isinstance (by decide +kernel) (pa_cons (pv 1) (pa_cons (pe_bltn (v := V.ty "list") (u := Value.type "list") (by rfl) A.n_list (by decide +kernel) rfl) pa_nil))) (nomark _))))) (pss_one (ps_ret pe_bl)) pss_nil) (pss_cons (ps_if (pt_cmpR op_ne (pe_callB call_len (by rfl) A.n_len PySem.boot_len (pa_cons (pv 0) pa_nil)) (pe_callB call_len (by rfl) A.n_len PySem.boot_len (pa_cons (pv 1) pa_nil)) (nomark _)) (pss_one (ps_ret pe_bl)) pss_nil) (pss_cons (ps_for PassesOwn.never rfl (pi_range1 rfl A.n_range (pa_cons (pe_callB call_len (by rfl) A.n_len PySem.boot_len (pa_cons (pv 1) pa_nil)) pa_nil)) (pg_name (i := 2) sc_l_alike.nd rfl (by first | exact Or.inl rfl | exact Or.inr rfl)) (pss_one (ps_if (pt_not (pt_val (pe_call G_l_alike hr rfl A.l_alike.m A.l_alike.F.kp A.l_alike.b .nil pass0 (pa_cons (pe_ix ix_seq (pv 0) (pv 2) (fun _ _ => rfl)) (pa_cons (pe_ix ix_seq (pv 1) (pv 2) (fun _ _ => rfl)) pa_nil))))) (pss_one (ps_ret pe_bl)) pss_nil))) (pss_one (ps_ret pe_bl))))) pss_nil) (pss_cons (ps_if (pt_cmpR op_isN (pv 1) pe_non (nomark _)) (pss_one (ps_ret (pe_cmpR op_isN (pv 0) pe_non (nomark _)))) pss_nil) (pss_cons (ps_if (pt_val (pe_callB call_isi (by rfl) A.n_isinstance (by decide +kernel) (pa_cons (pv 1) (pa_cons (pe_bltn (v := V.ty "bool") (u := Value.type "bool") (by rfl) A.n_bool (by decide +kernel) rfl) pa_nil)))) (pss_one (ps_ret (pe_and (pe_callB call_isi (by rfl) A.n_isinstance (by decide +kernel) (pa_cons (pv 0) (pa_cons (pe_bltn (v := V.ty "bool") (u := Value.type "bool") (by rfl) A.n_bool (by decide +kernel) rfl) pa_nil))) (pe_one (pe_cmpR op_eq (pv 0) (pv 1) (nomark _)))))) pss_nil) (pss_cons (ps_if (pt_val (pe_callB call_isi (by rfl) A.n_isinstance (by decide +kernel) (pa_cons (pv 1) (pa_cons (pe_bltn (v := V.ty "str") (u := Value.type "str") (by rfl) A.n_str (by decide +kernel) rfl) pa_nil)))) (pss_one (ps_ret (pe_and (pe_callB call_isi (by rfl) A.n_isinstance (by decide +kernel) (pa_cons (pv 0) (pa_cons (pe_bltn (v := V.ty "str") (u := Value.type "str") (by rfl) A.n_str (by decide +kernel) rfl) pa_nil))) (pe_one (pe_cmpR op_eq (pv 0) (pv 1) (nomark _)))))) pss_nil) (pss_one (ps_ret (pe_and (pe_callB call_isi (by rfl) A.n_isinstance (by decide +kernel) (pa_cons (pv 0) (pa_cons (pe_bltn (v := V.ty "int") (u := Value.type "int") (by rfl) A.n_int (by decide +kernel) rfl) pa_nil))) (pe_and (pe_not (pe_callB call_isi (by rfl) A.n_isinstance (by decide +kernel) (pa_cons (pv 0) (pa_cons (pe_bltn (v := V.ty "bool") (u := Value.type "bool") (by rfl) A.n_bool (by decide +kernel) rfl) pa_nil)))) (pe_one (pe_cmpR op_eq (pv 0) (pv 1) (nomark _))))))))))), ?_⟩
      walk_at "vc"
      refine ⟨by decide, fun p hp => ?_⟩
      have sp : Same H (upd H p (HO.tup [V.ty "tuple", V.ty "list"])) := Same.new hp
      have hp' : (upd H p (HO.tup [V.ty "tuple", V.ty "list"])) p = some (.tup ([("tuple" : String), "list"].map V.ty)) := upd_same
      have hv' := Dp.same sp d v hv
      have hu' := Dp.same sp d u hu
      have q' : ∀ H', Same (upd H p (HO.tup [V.ty "tuple", V.ty "list"])) H' → Q (V.bl true) H' := fun H' z => q H' (sp.trans z)
      generalize upd H p (HO.tup [V.ty "tuple", V.ty "list"]) = H1 at hp' hv' hu' q'
      have tv := Dp.ty hv'
      have tu := Dp.ty hu'
      -- a list or a tuple
      have seq : ∀ (ds : List PyData) (a b : Addr) (xs ys : List V), ds.length ≤ 1000 → (∀ d ∈ ds, Shp n d) → DpAll K H1 xs ds → DpAll K H1 ys ds → (SqL K H1 a xs ∨ SqT K H1 a xs) → (SqL K H1 b ys ∨ SqT K H1 b ys) → ∀ D : Ends, (∀ σ H', Same H1 H' → D.nx σ H') →
          ForB (Itr 0 ((ds.length : Int)).toNat) (gName 2) (tIfS (tNot (tB (tCall (sp_alike K n) [] E0 (tCons (tOp (rIx K) (tVar 0) (tVar 2)) (tCons (tOp (rIx K) (tVar 1) (tVar 2)) tNil))))) (tRet (tC (V.bl false))) tNext) D [some (.ref a), some (.ref b), none] H1 := by
        intro ds a b xs ys hlen hsh hx hy ha hb D hD
        refine ForB.range (fun i σ H' => Same H1 H' ∧ ∃ k, σ = [some (.ref a), some (.ref b), k]) ⟨Same.refl _, none, rfl⟩ ?_ fun σ H' ⟨z, _⟩ => hD σ H' z
        rintro i σ H' hi ⟨z, k, rfl⟩
        have hi' : i < ds.length := by omega
        obtain ⟨x, d1, e1, e2, e3⟩ := DpAll.get hx hi'
        obtain ⟨y, d2, f1, f2, f3⟩ := DpAll.get hy hi'
        obtain rfl : d1 = d2 := Option.some.inj (e2.symm.trans f2)
        have ix : ∀ {c : Addr} {zs : List V} {w : V} {R : VK}, (SqL K H1 c zs ∨ SqT K H1 c zs) → zs[i]? = some w → R w H' → rIx K (.ref c) (.int (0 + (i : Int))) H' R := by
          intro c zs w R hc hw r
          rw [Int.zero_add]
          rcases hc with hc | hc
          · exact rIx_l (SqL.same hc z) (atI_nat hw) r
          · exact rIx_t (SqT.same hc z) (atI_nat hw) r
        walk_at "vc"
        refine ix ha e1 (ix hb f1 ?_)
        refine ⟨x, y, d1, rfl, Dp.same z _ _ e3, Dp.same z _ _ f3, hsh _ (List.mem_of_getElem? e2), fun H2 z2 => ?_⟩
        exact ⟨true, rfl, iteF ⟨z.trans z2, _, rfl⟩⟩
      cases d with
      | none =>
        cases hv'
        cases hu'
        exact isiT_go (a := "NoneType") (r := false) tu hp' (by decide +kernel) ⟨_, rfl, iteF (by rw [if_pos rfl]; exact q' _ (Same.refl _))⟩
      | bool b =>
        cases hv'
        cases hu'
        refine isiT_go (a := "bool") (r := false) tu hp' (by decide +kernel) ⟨_, rfl, iteF ?_⟩
        rw [if_neg (by simp)]
        exact isi_go (a := "bool") (r := true) tu (by decide +kernel) ⟨_, rfl, iteT (isi_go (a := "bool") (r := true) tu (by decide +kernel) ⟨_, rfl, iteT ⟨rfl, by simpa using q' _ (Same.refl _)⟩⟩)⟩
      | str b =>
        cases hv'
        cases hu'
        refine isiT_go (a := "str") (r := false) tu hp' (by decide +kernel) ⟨_, rfl, iteF ?_⟩
        rw [if_neg (by simp)]
        exact isi_go (a := "str") (r := false) tu (by decide +kernel) ⟨_, rfl, iteF (isi_go (a := "str") (r := true) tu (by decide +kernel) ⟨_, rfl, iteT (isi_go (a := "str") (r := true) tu (by decide +kernel) ⟨_, rfl, iteT ⟨rfl, by simpa using q' _ (Same.refl _)⟩⟩)⟩)⟩
      | int b =>
        cases hv'
        cases hu'
        refine isiT_go (a := "int") (r := false) tu hp' (by decide +kernel) ⟨_, rfl, iteF ?_⟩
        rw [if_neg (by simp)]
        exact isi_go (a := "int") (r := false) tu (by decide +kernel) ⟨_, rfl, iteF (isi_go (a := "int") (r := false) tu (by decide +kernel) ⟨_, rfl, iteF (isi_go (a := "int") (r := true) tu (by decide +kernel) ⟨_, rfl, iteT (isi_go (a := "int") (r := false) tu (by decide +kernel) ⟨_, rfl, iteT ⟨rfl, by simpa using q' _ (Same.refl _)⟩⟩)⟩)⟩)⟩
      | dict _ => exact hd.elim
      | list ds =>
        obtain ⟨hlen, hsh⟩ := hd
        cases hv' with
        | lst ha hx =>
          cases hu' with
          | lst hb hy =>
            refine isiT_go (a := "list") (r := true) tu hp' (by decide +kernel) ⟨_, rfl, iteT ?_⟩
            refine isi_go (a := "list") (r := false) tv (by decide +kernel) (isi_go (a := "list") (r := false) tu (by decide +kernel) ⟨rfl, iteNS rfl ?_⟩)
            refine isi_go (a := "list") (r := true) tv (by decide +kernel) (isi_go (a := "list") (r := true) tu (by decide +kernel) ⟨rfl, iteNS rfl ?_⟩)
            refine ⟨_, .inl ⟨_, ha, rfl⟩, _, .inl ⟨_, hb, rfl⟩, rfl, ?_⟩
            rw [DpAll.len hx, DpAll.len hy]
            refine iteNS rfl ⟨ds.length, .inl ⟨_, hb, (DpAll.len hy).symm⟩, by omega, by omega, ?_⟩
            exact seq ds _ _ _ _ hlen hsh hx hy (.inl ha) (.inl hb) _ fun σ H' z => q' H' z
      | tuple ds =>
        obtain ⟨hlen, hsh⟩ := hd
        cases hv' with
        | tup ha hx =>
          cases hu' with
          | tup hb hy =>
            refine isiT_go (a := "tuple") (r := true) tu hp' (by decide +kernel) ⟨_, rfl, iteT ?_⟩
            refine isi_go (a := "tuple") (r := true) tv (by decide +kernel) (isi_go (a := "tuple") (r := true) tu (by decide +kernel) ⟨rfl, iteNS rfl ?_⟩)
            refine isi_go (a := "tuple") (r := false) tv (by decide +kernel) (isi_go (a := "tuple") (r := false) tu (by decide +kernel) ⟨rfl, iteNS rfl ?_⟩)
            refine ⟨_, .inr ⟨_, ha, rfl⟩, _, .inr ⟨_, hb, rfl⟩, rfl, ?_⟩
            rw [DpAll.len hx, DpAll.len hy]
            refine iteNS rfl ⟨ds.length, .inr ⟨_, hb, (DpAll.len hy).symm⟩, by omega, by omega, ?_⟩
            exact seq ds _ _ _ _ hlen hsh hx hy (.inr ha) (.inr hb) _ fun σ H' z => q' H' z
theorem ok_l_alike (A : All K mg) : FnOk P w K mg base CX0 9 A.l_alike.f A.l_alike.fd ["told", "due"] (sp_alike K 9) := ok_l_alike_n A _
end
end Ly
namespace Ly
open PySem PySem.Spec PyProof.Rows L2
local macro_rules | `(tactic| walk_at "vc") => `(tactic| simp only [tSeq, tAsg, tOp, tVar, tC, tRet, tRetN, tNext, tIfS, tIf, tDrop, tB, tTest, tNot, tAnd, tOr, tAndV, tOrV, tNotV, tChain, tUn, tCB, tCons, tNil, tTup, tLst, tSl, tPart, tNoPart, tCall, tBreak, tCont,
  rI, rI0, rU, gName, gNil, gCons, gSub, rSetL, L2.start, cx_K, cx_nox, tLc_eq, tFor_eq, iRng1, iRng2, iList, iTup, tM1, tYes, wipe, rIxS, rIxL, rIxT, rCat, rSlL, rEq, rNe, tMkO_eq, tVal_eq, tFldE_eq, tXfE_eq, tCallS, lenV_ref, CDiv, CDivW, CPow, CMulX,
  List.map_cons, List.map_nil, List.cons_append, List.nil_append, List.append_nil, List.length_cons, List.length_nil, List.replicate, List.getElem?_cons_zero, List.getElem?_cons_succ, List.set_cons_zero, List.set_cons_succ, Nat.reduceSub, Nat.reduceAdd,
  Option.some.injEq, V.int.injEq, V.bl.injEq, V.str.injEq, V.ref.injEq, exists_eq_left', exists_eq_left, exists_and_left, reduceCtorEq, false_and, and_false, exists_false, or_false, false_or, Bool.false_eq_true, if_false, if_true, reduceIte, decide_eq_true_eq, List.cons.injEq, and_true, true_and])
section
variable {P : Program} {w : World} {K : PySem.W.Frag} {mg : Str → Option Value} {base : Heap}
theorem Shp.up : ∀ {n : Nat} {d : PyData}, Shp n d → Shp (n + 1) d
  | 0, _, h => h.elim
  | n + 1, .none, _ => trivial
  | n + 1, .bool _, _ => trivial
  | n + 1, .int _, _ => trivial
  | n + 1, .str _, _ => trivial
  | n + 1, .list ds, h => ⟨h.1, fun d hd => (h.2 d hd).up⟩
  | n + 1, .tuple ds, h => ⟨h.1, fun d hd => (h.2 d hd).up⟩
  | n + 1, .dict _, h => h.elim
theorem Shp.mono {n m : Nat} {d : PyData} (h : Shp n d) (l : n ≤ m) : Shp m d := by
  induction l with
  | refl => exact h
  | step _ ih => exact ih.up
/-- a value that is no object -/
structure Sc (K : PySem.W.Frag) (v : V) (d : PyData) : Prop where
  nw : ∀ H0 H1, Nw K H0 H1 v d
  sh : Shp 1 d
theorem Sc.int (i : Int) : Sc K (.int i) (.int i) := ⟨fun _ _ => .int i, trivial⟩
theorem Sc.str (x : Str) : Sc K (.str x) (.str x) := ⟨fun _ _ => .str x, trivial⟩
theorem Sc.non : Sc K .non .none := ⟨fun _ _ => .non, trivial⟩
theorem Sc.bl (b : Bool) : Sc K (.bl b) (.bool b) := ⟨fun _ _ => .bl b, trivial⟩
theorem box_ne {H : Hp} {p a : Addr} {n : Nat} (b : BoxAt H p n) (ha : H a = none) : p ≠ a := fun z => by
  obtain ⟨_, _, _, e, _⟩ := b
  rw [z, ha] at e
  cases e
theorem BoxAt.dom {H : Hp} {p : Addr} {n : Nat} (b : BoxAt H p n) : H p ≠ none := by
  obtain ⟨_, _, _, e, _⟩ := b
  rw [e]
  simp
theorem BoxAt.new {H : Hp} {p a : Addr} {n : Nat} {o : HO} (b : BoxAt H p n) (ha : H a = none) : BoxAt (upd H a o) p n := by
  have ne := box_ne b ha
  obtain ⟨x, c, z, e, v⟩ := b
  exact ⟨x, c, z, by rw [upd_ne ne]; exact e, v⟩
theorem mkT {H0 Hc : Hp} {p a : Addr} {n : Nat} {xs : List V} {ds : List PyData} (h0 : H0 p ≠ none) (s : Step p H0 Hc) (b : BoxAt Hc p n) (al : NwAll K H0 Hc xs ds) (ha : Hc a = none) :
    Step p Hc (upd Hc a (.tup xs)) ∧ BoxAt (upd Hc a (.tup xs)) p n ∧ Nw K H0 (upd Hc a (.tup xs)) (.ref a) (.tuple ds) :=
  ⟨Step.new ha, b.new ha, .tup (s.fresh ha) upd_same (al.step (Step.new ha) h0)⟩
theorem mkL {H0 Hc : Hp} {p a : Addr} {n : Nat} {xs : List V} {ds : List PyData} (h0 : H0 p ≠ none) (s : Step p H0 Hc) (b : BoxAt Hc p n) (al : NwAll K H0 Hc xs ds) (ha : Hc a = none) :
    Step p Hc (upd Hc a (.lst xs)) ∧ BoxAt (upd Hc a (.lst xs)) p n ∧ Nw K H0 (upd Hc a (.lst xs)) (.ref a) (.list ds) :=
  ⟨Step.new ha, b.new ha, .lst (s.fresh ha) upd_same (al.step (Step.new ha) h0)⟩
theorem word_go {H : Hp} {p : Addr} {n : Nat} {Q : VK} {E : XK} (hb : BoxAt H p n) (hn : n ≤ 900000000) (q : ∀ x H', IsW x → Step p H H' → BoxAt H' p (n + 10) → Q (.str x) H') : sp_word [.ref p] H Q E := ⟨p, n, rfl, hb, hn, q⟩
theorem Nw.atT {H0 H : Hp} {v : V} {ds : List PyData} (h : Nw K H0 H v (.tuple ds)) : ∃ a xs, v = .ref a ∧ H a = some (.tup xs) ∧ NwAll K H0 H xs ds := by
  cases h with
  | tup _ e h => exact ⟨_, _, rfl, e, h⟩
theorem Nw.atL {H0 H : Hp} {v : V} {ds : List PyData} (h : Nw K H0 H v (.list ds)) : ∃ a xs, v = .ref a ∧ H a = some (.lst xs) ∧ NwAll K H0 H xs ds := by
  cases h with
  | lst _ e h => exact ⟨_, _, rfl, e, h⟩
theorem ix0_go {H0 H : Hp} {v : V} {d : PyData} {ds : List PyData} {Q : VK} (h : Nw K H0 H v (.tuple (d :: ds))) (q : ∀ u, Nw K H0 H u d → Q u H) : rIx K v (.int 0) H Q := by
  obtain ⟨a, xs, rfl, e, h⟩ := Nw.atT h
  cases h with
  | cons h1 _ => exact rIx_t (i := ((0 : Nat) : Int)) (SqT.of e) (atI_nat rfl) (q _ h1)
/-! ### _law_plain -/
def sp_plain (K : PySem.W.Frag) : Sp := fun vs H Q _ => ∃ (p : Addr) (n : Nat), vs = [.ref p] ∧ BoxAt H p n ∧ n ≤ 800000000 ∧
  ∀ v d H', Sc K v d → Step p H H' → BoxAt H' p (n + 20) → Q v H'
theorem plain_go {H : Hp} {p : Addr} {n : Nat} {Q : VK} {E : XK} (hb : BoxAt H p n) (hn : n ≤ 800000000) (q : ∀ v d H', Sc K v d → Step p H H' → BoxAt H' p (n + 20) → Q v H') : sp_plain K [.ref p] H Q E := ⟨p, n, rfl, hb, hn, q⟩
theorem ok_l_plain (A : All K mg) : FnOk P w K mg base CX0 4 A.l_plain.f A.l_plain.fd ["box"] (sp_plain K) := by
  have G_l_draw := ok_l_draw (P := P) (w := w) (base := base) A
  have G_l_word := ok_l_word (P := P) (w := w) (base := base) A
  refine A.l_plain.F.ok sc_l_plain (fun vs H Q E h => ?_) (fun cdv B outer s H vs Q E hr h => ?_)
  · obtain ⟨p, n, rfl, _⟩ := h
    rfl
  · obtain ⟨p, n, rfl, hb, hn, q⟩ := h
    refine ⟨_, (pss_cons (ps_set (i := 1) sc_l_plain.nd rfl (by first | exact Or.inl rfl | exact Or.inr rfl) (pe_call G_l_draw (hr.mono (by decide)) rfl A.l_draw.m A.l_draw.F.kp A.l_draw.b .nil pass0 (pa_cons (pv 0) (pa_cons pe_int pa_nil)))) (pss_cons (ps_if (pt_cmpR op_eq (pv 1) pe_int (nomark _)) (pss_one (ps_ret (pe_op op_sub (pe_call G_l_draw (hr.mono (by decide)) rfl A.l_draw.m A.l_draw.F.kp A.l_draw.b .nil pass0 (pa_cons (pv 0) (pa_cons pe_int pa_nil))) pe_int))) pss_nil) (pss_cons (ps_if (pt_cmpR op_eq (pv 1) pe_int (nomark _)) (pss_one (ps_ret (pe_op op_sub (pe_call G_l_draw (hr.mono (by decide)) rfl A.l_draw.m A.l_draw.F.kp A.l_draw.b .nil pass0 (pa_cons (pv 0) (pa_cons pe_int pa_nil))) pe_int))) pss_nil) (pss_cons (ps_if (pt_cmpR op_eq (pv 1) pe_int (nomark _)) (pss_one (ps_ret (pe_ix ix_list (pe_lst (pa_cons pe_non (pa_cons pe_bl (pa_cons pe_bl pa_nil)))) (pe_call G_l_draw (hr.mono (by decide)) rfl A.l_draw.m A.l_draw.F.kp A.l_draw.b .nil pass0 (pa_cons (pv 0) (pa_cons pe_int pa_nil))) (fun _ _ => rfl)))) pss_nil) (pss_one (ps_ret (pe_ix ix_list (pe_lst (pa_cons pe_str (pa_cons pe_str (pa_cons pe_str (pa_cons pe_str (pa_cons (pe_call G_l_word (hr.mono (by decide)) rfl A.l_word.m A.l_word.F.kp A.l_word.b .nil pass0 (pa_cons (pv 0) pa_nil)) pa_nil)))))) (pe_call G_l_draw (hr.mono (by decide)) rfl A.l_draw.m A.l_draw.F.kp A.l_draw.b .nil pass0 (pa_cons (pv 0) (pa_cons pe_int pa_nil))) (fun _ _ => rfl)))))))), ?_⟩
    walk_at "vc"
    refine draw_go hb (by decide) (by decide) (by omega) fun k H1 k0 k1 s1 b1 => ⟨rfl, ite2 (fun _ => ?_) (fun _ => ⟨rfl, ite2 (fun _ => ?_) (fun _ => ⟨rfl, ite2 (fun _ => ?_) (fun _ => ?_)⟩)⟩)⟩
    · exact draw_go b1 (by decide) (by decide) (by omega) fun i H2 i0 i1 s2 b2 => ⟨i, rfl, q _ _ _ (Sc.int _) (s1.trans s2) (b2.mono (by omega))⟩
    · exact draw_go b1 (by decide) (by decide) (by omega) fun i H2 i0 i1 s2 b2 => ⟨i, rfl, q _ _ _ (Sc.int _) (s1.trans s2) (b2.mono (by omega))⟩
    · refine ⟨by decide, fun l hl => ?_⟩
      refine draw_go (b1.new hl) (by decide) (by decide) (by omega) fun i H2 i0 i1 s2 b2 => ?_
      have e2 := s2.keep l _ (Ne.symm (box_ne b1 hl)) upd_same
      have st := (s1.trans (Step.new hl)).trans s2
      refine ⟨_, i, rfl, SqL.of e2, ?_⟩
      have hi : i = 0 ∨ i = 1 ∨ i = 2 := by omega
      rcases hi with rfl | rfl | rfl
      · exact ⟨_, rfl, q _ _ _ Sc.non st (b2.mono (by omega))⟩
      · exact ⟨_, rfl, q _ _ _ (Sc.bl _) st (b2.mono (by omega))⟩
      · exact ⟨_, rfl, q _ _ _ (Sc.bl _) st (b2.mono (by omega))⟩
    · refine word_go b1 (by omega) fun x H2 hx s2 b2 => ⟨by decide, fun l hl => ?_⟩
      refine draw_go (b2.new hl) (by decide) (by decide) (by omega) fun i H3 i0 i1 s3 b3 => ?_
      have e3 := s3.keep l _ (Ne.symm (box_ne b2 hl)) upd_same
      have st := ((s1.trans s2).trans (Step.new hl)).trans s3
      refine ⟨_, i, rfl, SqL.of e3, ?_⟩
      have hi : i = 0 ∨ i = 1 ∨ i = 2 ∨ i = 3 ∨ i = 4 := by omega
      rcases hi with rfl | rfl | rfl | rfl | rfl
      all_goals exact ⟨_, rfl, q _ _ _ (Sc.str _) st (b3.mono (by omega))⟩
/-! ### _law_value -/
def sp_value (K : PySem.W.Frag) : Sp := fun vs H Q _ => ∃ (p : Addr) (n : Nat), vs = [.ref p] ∧ BoxAt H p n ∧ n ≤ 700000000 ∧
  ∀ v d H', Nw K H H' v d → Shp 3 d → Step p H H' → BoxAt H' p (n + 200) → Q v H'
theorem value_go {H : Hp} {p : Addr} {n : Nat} {Q : VK} {E : XK} (hb : BoxAt H p n) (hn : n ≤ 700000000) (q : ∀ v d H', Nw K H H' v d → Shp 3 d → Step p H H' → BoxAt H' p (n + 200) → Q v H') : sp_value K [.ref p] H Q E := ⟨p, n, rfl, hb, hn, q⟩
theorem NwAll.snoc {H0 H : Hp} : ∀ {xs : List V} {ds : List PyData} {v : V} {d : PyData}, NwAll K H0 H xs ds → Nw K H0 H v d → NwAll K H0 H (xs ++ [v]) (ds ++ [d])
  | _, _, _, _, .nil, h => .cons h .nil
  | _, _, _, _, .cons a b, h => .cons a (NwAll.snoc b h)
theorem NwAll.len {H0 H : Hp} : ∀ {xs : List V} {ds : List PyData}, NwAll K H0 H xs ds → xs.length = ds.length
  | _, _, .nil => rfl
  | _, _, .cons _ t => by simp [NwAll.len t]
theorem ok_l_value (A : All K mg) : FnOk P w K mg base CX0 5 A.l_value.f A.l_value.fd ["box"] (sp_value K) := by
  have G_l_draw := ok_l_draw (P := P) (w := w) (base := base) A
  have G_l_plain := ok_l_plain (P := P) (w := w) (base := base) A
  refine A.l_value.F.ok sc_l_value (fun vs H Q E h => ?_) (fun cdv B outer s H vs Q E hr h => ?_)
  · obtain ⟨p, n, rfl, _⟩ := h
    rfl
  · obtain ⟨p, n, rfl, hb, hn, q⟩ := h
    refine ⟨_, (pss_cons (ps_set (i := 1) sc_l_value.nd rfl (by first | exact Or.inl rfl | exact Or.inr rfl) (pe_call G_l_draw (hr.mono (by decide)) rfl A.l_draw.m A.l_draw.F.kp A.l_draw.b .nil pass0 (pa_cons (pv 0) (pa_cons pe_int pa_nil)))) (pss_cons (ps_if (pt_cmpR op_lt (pv 1) pe_int (nomark _)) (pss_one (ps_ret (pe_call G_l_plain (hr.mono (by decide)) rfl A.l_plain.m A.l_plain.F.kp A.l_plain.b .nil pass0 (pa_cons (pv 0) pa_nil)))) pss_nil) (pss_cons (ps_setLc (i := 2) (own := [("k", 3)]) (g := gName 3) rfl sc_l_value.nd rfl rfl (sw_true rfl rfl rfl (by decide +kernel)) (pi_range1 rfl A.n_range (pa_cons (pe_call G_l_draw (hr.mono (by decide)) rfl A.l_draw.m A.l_draw.F.kp A.l_draw.b .nil pass0 (pa_cons (pv 0) (pa_cons pe_int pa_nil))) pa_nil)) (blkOk_by (own := [("k", 3)]) (N := ["box", "kind", "row", "k"]) (sc := defScope s_l_value) (by decide +kernel)) (fun _ _ _ _ _ => pg_name (i := 3) sc_l_value.nd rfl (Or.inl rfl)) (fun _ _ _ _ _ => pts_nil) (fun _ _ _ _ _ => (pe_call G_l_plain (hr.mono (by decide)) rfl A.l_plain.m A.l_plain.F.kp A.l_plain.b .nil pass0 (pa_cons (pv 0) pa_nil)))) (pss_cons (ps_if (pt_cmpR op_eq (pv 1) pe_int (nomark _)) (pss_one (ps_ret (pe_callTy call_list_of (by rfl) A.n_list (by decide +kernel) (pa_cons (pv 2) pa_nil)))) pss_nil) (pss_cons (ps_if (pt_cmpR op_eq (pv 1) pe_int (nomark _)) (pss_one (ps_ret (pe_tup (pa_cons (pe_callTy call_tuple_of (by rfl) A.n_tuple (by decide +kernel) (pa_cons (pv 2) pa_nil)) (pa_cons (pe_call G_l_plain (hr.mono (by decide)) rfl A.l_plain.m A.l_plain.F.kp A.l_plain.b .nil pass0 (pa_cons (pv 0) pa_nil)) pa_nil))))) pss_nil) (pss_one (ps_ret (pe_callTy call_tuple_of (by rfl) A.n_tuple (by decide +kernel) (pa_cons (pv 2) pa_nil))))))))), ?_⟩
    walk_at "vc"
    refine draw_go hb (by decide) (by decide) (by omega) fun k H1 k0 k1 s1 b1 => ⟨k, rfl, ite2 (fun _ => ?_) (fun _ => ?_)⟩
    · exact plain_go b1 (by omega) fun v d H2 sc s2 b2 => q _ _ _ (sc.nw _ _) (sc.sh.mono (by decide)) (s1.trans s2) (b2.mono (by omega))
    · refine draw_go b1 (by decide) (by decide) (by omega) fun j H2 j0 j1 s2 b2 => ⟨j, rfl, by omega, by omega, fun D hD => ?_⟩
      refine LcB.range (fun i H' => ∃ xs ds, H' D = some (.lst xs) ∧ xs.length = i ∧ (∀ H0 H1, NwAll K H0 H1 xs ds) ∧ (∀ d ∈ ds, Shp 1 d) ∧ Step p H2 H' ∧ BoxAt H' p (n + 2 + 20 * i)) ?_ ?_ ?_
      · exact ⟨[], [], upd_same, rfl, fun _ _ => .nil, fun d hd => by simp at hd, Step.new hD, b2.new hD⟩
      · rintro i H3 hi ⟨xs, ds, e3, hl, ha, hs, s3, b3⟩
        walk_at "vc"
        refine plain_go b3 (by omega) fun v d H4 sc s4 b4 => ?_
        have e4 := s4.keep D _ (Ne.symm (box_ne b2 hD)) e3
        refine ⟨xs, e4, Nat.lt_of_lt_of_le (show xs.length < 100 by omega) (by decide), xs ++ [v], upd_same, by rw [List.length_append, hl]; rfl, ds ++ [d], fun H0 H1 => (ha H0 H1).snoc (sc.nw _ _), ?_, (s3.trans s4).mut hD, ?_⟩
        · intro e he
          rcases List.mem_append.mp he with he | he
          · exact hs e he
          · obtain rfl : e = d := by simpa using he
            exact sc.sh
        · have ne := box_ne b2 hD
          obtain ⟨x, c, z, e, w⟩ := b4
          exact ⟨x, c, z, by rw [upd_ne ne]; exact e, w.mono (by omega)⟩
      · rintro H3 ⟨xs, ds, e3, hl, ha, hs, s3, b3⟩
        have hlen : xs.length ≤ 3 := by omega
        have hds : ds.length ≤ 3 := by rw [← NwAll.len (ha H H)]; exact hlen
        have st := (s1.trans s2).trans s3
        have sh : ∀ k, Shp (k + 2) (.tuple ds) ∧ Shp (k + 2) (.list ds) := fun k => ⟨⟨by omega, fun d hd => (hs d hd).mono (by omega)⟩, ⟨by omega, fun d hd => (hs d hd).mono (by omega)⟩⟩
        refine ⟨rfl, ite2 (fun _ => ?_) (fun _ => ⟨rfl, ite2 (fun _ => ?_) (fun _ => ?_)⟩)⟩
        · refine ⟨D, rfl, xs, .inl (SqL.of e3), fun l hl => ?_⟩
          obtain ⟨h1, h2, h3⟩ := mkL (K := K) hb.dom st b3 (ha H H3) hl
          exact q _ _ _ h3 (sh 1).2 (st.trans h1) (h2.mono (by omega))
        · refine ⟨D, rfl, xs, .inl ⟨SqL.of e3, fun l hl => ?_⟩⟩
          obtain ⟨h1, h2, h3⟩ := mkT (K := K) hb.dom st b3 (ha H H3) hl
          refine plain_go h2 (by omega) fun v d H4 sc s4 b4 => ⟨by decide, fun a ha4 => ?_⟩
          obtain ⟨g1, g2, g3⟩ := mkT (K := K) hb.dom ((st.trans h1).trans s4) b4 (.cons (h3.step s4 hb.dom) (.cons (sc.nw H H4) .nil)) ha4
          refine q _ _ _ g3 ⟨by simp, fun e he => ?_⟩ (((st.trans h1).trans s4).trans g1) (g2.mono (by omega))
          rcases List.mem_cons.mp he with rfl | he
          · exact (sh 0).1
          · obtain rfl : e = d := by simpa using he
            exact sc.sh.mono (by decide)
        · refine ⟨D, rfl, xs, .inl ⟨SqL.of e3, fun l hl => ?_⟩⟩
          obtain ⟨h1, h2, h3⟩ := mkT (K := K) hb.dom st b3 (ha H H3) hl
          exact q _ _ _ h3 (sh 1).1 (st.trans h1) (h2.mono (by omega))
/-! ### _law_deed -/
def sp_deed (K : PySem.W.Frag) : Sp := fun vs H Q _ => ∃ (p : Addr) (n : Nat), vs = [.ref p] ∧ BoxAt H p n ∧ n ≤ 600000000 ∧
  ∀ v d H', Nw K H H' v d → Shp 2 d → Step p H H' → BoxAt H' p (n + 200) → Q v H'
theorem deed_go {H : Hp} {p : Addr} {n : Nat} {Q : VK} {E : XK} (hb : BoxAt H p n) (hn : n ≤ 600000000) (q : ∀ v d H', Nw K H H' v d → Shp 2 d → Step p H H' → BoxAt H' p (n + 200) → Q v H') : sp_deed K [.ref p] H Q E := ⟨p, n, rfl, hb, hn, q⟩
theorem ok_l_deed (A : All K mg) : FnOk P w K mg base CX0 4 A.l_deed.f A.l_deed.fd ["box"] (sp_deed K) := by
  have G_l_draw := ok_l_draw (P := P) (w := w) (base := base) A
  have G_l_word := ok_l_word (P := P) (w := w) (base := base) A
  refine A.l_deed.F.ok sc_l_deed (fun vs H Q E h => ?_) (fun cdv B outer s H vs Q E hr h => ?_)
  · obtain ⟨p, n, rfl, _⟩ := h
    rfl
  · obtain ⟨p, n, rfl, hb, hn, q⟩ := h
    refine ⟨_, (pss_cons (ps_set (i := 1) sc_l_deed.nd rfl (by first | exact Or.inl rfl | exact Or.inr rfl) (pe_op op_add pe_int (pe_call G_l_draw (hr.mono (by decide)) rfl A.l_draw.m A.l_draw.F.kp A.l_draw.b .nil pass0 (pa_cons (pv 0) (pa_cons pe_int pa_nil))))) (pss_cons (ps_set (i := 2) sc_l_deed.nd rfl (by first | exact Or.inl rfl | exact Or.inr rfl) (pe_lst (pa_cons (pe_tup (pa_cons pe_str (pa_cons (pv 1) (pa_cons (pe_call G_l_word (hr.mono (by decide)) rfl A.l_word.m A.l_word.F.kp A.l_word.b .nil pass0 (pa_cons (pv 0) pa_nil)) (pa_cons (pe_call G_l_draw (hr.mono (by decide)) rfl A.l_draw.m A.l_draw.F.kp A.l_draw.b .nil pass0 (pa_cons (pv 0) (pa_cons pe_int pa_nil))) (pa_cons (pe_call G_l_draw (hr.mono (by decide)) rfl A.l_draw.m A.l_draw.F.kp A.l_draw.b .nil pass0 (pa_cons (pv 0) (pa_cons pe_int pa_nil))) pa_nil)))))) (pa_cons (pe_tup (pa_cons pe_str (pa_cons (pv 1) pa_nil))) pa_nil)))) (pss_cons (ps_set (i := 2) sc_l_deed.nd rfl (by first | exact Or.inl rfl | exact Or.inr rfl) (pe_op op_cat (pv 2) (pe_lst (pa_cons (pe_tup (pa_cons pe_str (pa_cons (pv 1) (pa_cons (pe_call G_l_draw (hr.mono (by decide)) rfl A.l_draw.m A.l_draw.F.kp A.l_draw.b .nil pass0 (pa_cons (pv 0) (pa_cons pe_int pa_nil))) (pa_cons (pe_call G_l_draw (hr.mono (by decide)) rfl A.l_draw.m A.l_draw.F.kp A.l_draw.b .nil pass0 (pa_cons (pv 0) (pa_cons pe_int pa_nil))) pa_nil))))) (pa_cons (pe_tup (pa_cons pe_str (pa_cons (pv 1) (pa_cons (pe_call G_l_word (hr.mono (by decide)) rfl A.l_word.m A.l_word.F.kp A.l_word.b .nil pass0 (pa_cons (pv 0) pa_nil)) pa_nil)))) pa_nil))))) (pss_one (ps_ret (pe_ix ix_list (pv 2) (pe_call G_l_draw (hr.mono (by decide)) rfl A.l_draw.m A.l_draw.F.kp A.l_draw.b .nil pass0 (pa_cons (pv 0) (pa_cons pe_int pa_nil))) (fun _ _ => rfl))))))), ?_⟩
    walk_at "vc"
    refine draw_go hb (by decide) (by decide) (by omega) fun m H1 m0 m1 s1 b1 => ⟨m, rfl, ?_⟩
    refine word_go b1 (by omega) fun x H2 hx s2 b2 => ?_
    refine draw_go b2 (by decide) (by decide) (by omega) fun i3 H3 _ _ s3 b3 => ?_
    refine draw_go b3 (by decide) (by decide) (by omega) fun i4 H4 _ _ s4 b4 => ⟨by decide, fun a1 ha1 => ?_⟩
    have S4 := ((s1.trans s2).trans s3).trans s4
    obtain ⟨t5, b5, n5⟩ := mkT (K := K) hb.dom S4 b4 (.cons (.str "add") (.cons (.int (1 + m)) (.cons (.str x) (.cons (.int i3) (.cons (.int i4) .nil))))) ha1
    have S5 := S4.trans t5
    generalize upd H4 a1 _ = H5 at t5 b5 n5 S5 ⊢
    refine ⟨by decide, fun a2 ha2 => ?_⟩
    obtain ⟨t6, b6, n6⟩ := mkT (K := K) hb.dom S5 b5 (.cons (.str "drop") (.cons (.int (1 + m)) .nil)) ha2
    have S6 := S5.trans t6
    generalize upd H5 a2 _ = H6 at t6 b6 n6 S6 ⊢
    refine ⟨by decide, fun l1 hl1 => ?_⟩
    have e7 : (upd H6 l1 (.lst [.ref a1, .ref a2])) l1 = some (.lst [.ref a1, .ref a2]) := upd_same
    have b7 := b6.new (o := .lst [.ref a1, .ref a2]) hl1
    have t7 : Step p H6 (upd H6 l1 (.lst [.ref a1, .ref a2])) := Step.new hl1
    have S7 := S6.trans t7
    have c1 := ((n5.step t6 hb.dom).step t7 hb.dom)
    have c2 := n6.step t7 hb.dom
    have ne1 : l1 ≠ p := Ne.symm (box_ne b6 hl1)
    generalize upd H6 l1 _ = H7 at e7 b7 t7 S7 c1 c2 ⊢
    refine draw_go b7 (by decide) (by decide) (by omega) fun i5 H8 _ _ s8 b8 => ?_
    refine draw_go b8 (by decide) (by decide) (by omega) fun i6 H9 _ _ s9 b9 => ⟨by decide, fun a3 ha3 => ?_⟩
    have S9 := (S7.trans s8).trans s9
    obtain ⟨t10, b10, n10⟩ := mkT (K := K) hb.dom S9 b9 (.cons (.str "move") (.cons (.int (1 + m)) (.cons (.int i5) (.cons (.int i6) .nil)))) ha3
    have S10 := S9.trans t10
    have e10 := (((s8.trans s9).trans t10)).keep l1 _ ne1 e7
    have c1 := c1.step ((s8.trans s9).trans t10) hb.dom
    have c2 := c2.step ((s8.trans s9).trans t10) hb.dom
    generalize upd H9 a3 _ = H10 at t10 b10 n10 S10 e10 c1 c2 ⊢
    refine word_go b10 (by omega) fun y H11 hy s11 b11 => ⟨by decide, fun a4 ha4 => ?_⟩
    have S11 := S10.trans s11
    obtain ⟨t12, b12, n12⟩ := mkT (K := K) hb.dom S11 b11 (.cons (.str "word") (.cons (.int (1 + m)) (.cons (.str y) .nil))) ha4
    have S12 := S11.trans t12
    have e12 := (s11.trans t12).keep l1 _ ne1 e10
    have c1 := c1.step (s11.trans t12) hb.dom
    have c2 := c2.step (s11.trans t12) hb.dom
    have c3 := n10.step (s11.trans t12) hb.dom
    generalize upd H11 a4 _ = H12 at t12 b12 n12 S12 e12 c1 c2 c3 ⊢
    refine ⟨by decide, fun l2 hl2 => ⟨[.ref a1, .ref a2], ?_, [.ref a3, .ref a4], upd_same, by show 2 + 2 ≤ sizeLine; decide, fun l3 hl3 => ?_⟩⟩
    · rw [upd_ne (ne_of_none e12 hl2)]
      exact e12
    have t13 : Step p H12 (upd H12 l2 (.lst [.ref a3, .ref a4])) := Step.new hl2
    have b13 := b12.new (o := .lst [.ref a3, .ref a4]) hl2
    have t14 : Step p (upd H12 l2 (.lst [.ref a3, .ref a4])) (upd (upd H12 l2 (.lst [.ref a3, .ref a4])) l3 (.lst [.ref a1, .ref a2, .ref a3, .ref a4])) := Step.new hl3
    have b14 := b13.new (o := .lst [.ref a1, .ref a2, .ref a3, .ref a4]) hl3
    have ne3 : l3 ≠ p := Ne.symm (box_ne b13 hl3)
    refine draw_go b14 (by decide) (by decide) (by omega) fun i7 H15 i70 i71 s15 b15 => ?_
    have e15 := s15.keep l3 _ ne3 upd_same
    have T := (t13.trans t14).trans s15
    have c1 := c1.step T hb.dom
    have c2 := c2.step T hb.dom
    have c3 := c3.step T hb.dom
    have c4 := n12.step T hb.dom
    have S := S12.trans T
    have B : BoxAt H15 p (n + 200) := b15.mono (by omega)
    refine ⟨_, i7, rfl, SqL.of e15, ?_⟩
    have shp : ∀ ds : List PyData, ds.length ≤ 5 → (∀ d ∈ ds, Shp 1 d) → Shp 2 (.tuple ds) := fun ds h1 h2 => ⟨by omega, h2⟩
    have hi : i7 = 0 ∨ i7 = 1 ∨ i7 = 2 ∨ i7 = 3 := by omega
    rcases hi with rfl | rfl | rfl | rfl
    · exact ⟨_, rfl, q _ _ _ c1 (shp _ (by simp) (by simp [Shp])) S B⟩
    · exact ⟨_, rfl, q _ _ _ c2 (shp _ (by simp) (by simp [Shp])) S B⟩
    · exact ⟨_, rfl, q _ _ _ c3 (shp _ (by simp) (by simp [Shp])) S B⟩
    · exact ⟨_, rfl, q _ _ _ c4 (shp _ (by simp) (by simp [Shp])) S B⟩
/-! ### _law_claim -/
def sp_claim (K : PySem.W.Frag) : Sp := fun vs H Q _ => ∃ (p : Addr) (n : Nat), vs = [.ref p] ∧ BoxAt H p n ∧ n ≤ 500000000 ∧
  ∀ v d H', Nw K H H' v d → Shp 5 d → Step p H H' → BoxAt H' p (n + 500) → Q v H'
theorem ok_l_claim (A : All K mg) : FnOk P w K mg base CX0 5 A.l_claim.f A.l_claim.fd ["box"] (sp_claim K) := by
  have G_l_draw := ok_l_draw (P := P) (w := w) (base := base) A
  have G_l_word := ok_l_word (P := P) (w := w) (base := base) A
  have G_l_deed := ok_l_deed (P := P) (w := w) (base := base) A
  refine A.l_claim.F.ok sc_l_claim (fun vs H Q E h => ?_) (fun cdv B outer s H vs Q E hr h => ?_)
  · obtain ⟨p, n, rfl, _⟩ := h
    rfl
  · obtain ⟨p, n, rfl, hb, hn, q⟩ := h
    refine ⟨_, (pss_cons (ps_set (i := 1) sc_l_claim.nd rfl (by first | exact Or.inl rfl | exact Or.inr rfl) (pe_tup (pa_cons (pe_tup (pa_cons (pe_call G_l_word (hr.mono (by decide)) rfl A.l_word.m A.l_word.F.kp A.l_word.b .nil pass0 (pa_cons (pv 0) pa_nil)) (pa_cons (pe_tup pa_nil) pa_nil))) pa_nil))) (pss_cons (ps_set (i := 2) sc_l_claim.nd rfl (by first | exact Or.inl rfl | exact Or.inr rfl) (pe_call G_l_draw (hr.mono (by decide)) rfl A.l_draw.m A.l_draw.F.kp A.l_draw.b .nil pass0 (pa_cons (pv 0) (pa_cons pe_int pa_nil)))) (pss_cons (ps_set (i := 3) sc_l_claim.nd rfl (by first | exact Or.inl rfl | exact Or.inr rfl) (pe_lst (pa_cons (pe_tup (pa_cons pe_str (pa_cons (pv 1) (pa_cons (pe_tup pa_nil) pa_nil)))) (pa_cons (pe_tup (pa_cons pe_str (pa_cons (pe_tup pa_nil) (pa_cons (pv 1) pa_nil)))) (pa_cons (pe_tup (pa_cons pe_str (pa_cons (pe_tup (pa_cons (pe_ix ix_seq (pe_ix ix_seq (pv 1) pe_int (fun _ _ => rfl)) pe_int (fun _ _ => rfl)) pa_nil)) (pa_cons (pe_tup pa_nil) (pa_cons (pe_tup (pa_cons pe_int (pa_cons pe_int (pa_cons pe_int (pa_cons (pe_tup pa_nil) pa_nil))))) (pa_cons (pv 2) pa_nil)))))) pa_nil))))) (pss_cons (ps_set (i := 3) sc_l_claim.nd rfl (by first | exact Or.inl rfl | exact Or.inr rfl) (pe_op op_cat (pv 3) (pe_lst (pa_cons (pe_tup (pa_cons pe_str (pa_cons (pe_tup (pa_cons (pe_tup (pa_cons (pv 2) pa_nil)) pa_nil)) (pa_cons (pe_op op_sub pe_int (pv 2)) pa_nil)))) (pa_cons (pe_tup (pa_cons pe_str (pa_cons (pe_tup pa_nil) (pa_cons (pe_tup (pa_cons (pe_call G_l_deed (hr.mono (by decide)) rfl A.l_deed.m A.l_deed.F.kp A.l_deed.b .nil pass0 (pa_cons (pv 0) pa_nil)) pa_nil)) (pa_cons (pe_tup pa_nil) pa_nil))))) pa_nil))))) (pss_one (ps_ret (pe_ix ix_list (pv 3) (pe_call G_l_draw (hr.mono (by decide)) rfl A.l_draw.m A.l_draw.F.kp A.l_draw.b .nil pass0 (pa_cons (pv 0) (pa_cons pe_int pa_nil))) (fun _ _ => rfl)))))))), ?_⟩
    walk_at "vc"
    refine word_go hb (by omega) fun x H1 hx t1 b1 => ?_
    have S1 : Step p H H1 := t1
    refine ⟨by decide, fun z1 hz1 => ?_⟩
    obtain ⟨t2, b2, cz1⟩ := mkT (K := K) hb.dom S1 b1 .nil hz1
    generalize upd H1 z1 _ = H2 at t2 b2 cz1 ⊢
    have S2 : Step p H H2 := S1.trans t2
    refine ⟨by decide, fun z2 hz2 => ?_⟩
    obtain ⟨t3, b3, cz2⟩ := mkT (K := K) hb.dom S2 b2 (.cons (.str x) (.cons cz1 .nil)) hz2
    generalize upd H2 z2 _ = H3 at t3 b3 cz2 ⊢
    have S3 : Step p H H3 := S2.trans t3
    have cz1 := cz1.step t3 hb.dom
    refine ⟨by decide, fun z3 hz3 => ?_⟩
    obtain ⟨t4, b4, cz3⟩ := mkT (K := K) hb.dom S3 b3 (.cons cz2 .nil) hz3
    generalize upd H3 z3 _ = H4 at t4 b4 cz3 ⊢
    have S4 : Step p H H4 := S3.trans t4
    have cz1 := cz1.step t4 hb.dom
    have cz2 := cz2.step t4 hb.dom
    refine draw_go b4 (by decide) (by decide) (by omega) fun m H5 m0 m1 t5 b5 => ?_
    have S5 : Step p H H5 := S4.trans t5
    have cz1 := cz1.step t5 hb.dom
    have cz2 := cz2.step t5 hb.dom
    have cz3 := cz3.step t5 hb.dom
    refine ⟨by decide, fun z4 hz4 => ?_⟩
    obtain ⟨t6, b6, cz4⟩ := mkT (K := K) hb.dom S5 b5 .nil hz4
    generalize upd H5 z4 _ = H6 at t6 b6 cz4 ⊢
    have S6 : Step p H H6 := S5.trans t6
    have cz1 := cz1.step t6 hb.dom
    have cz2 := cz2.step t6 hb.dom
    have cz3 := cz3.step t6 hb.dom
    refine ⟨by decide, fun c1 hc1 => ?_⟩
    obtain ⟨t7, b7, cc1⟩ := mkT (K := K) hb.dom S6 b6 (.cons (.str "alike") (.cons cz3 (.cons cz4 .nil))) hc1
    generalize upd H6 c1 _ = H7 at t7 b7 cc1 ⊢
    have S7 : Step p H H7 := S6.trans t7
    have cz1 := cz1.step t7 hb.dom
    have cz2 := cz2.step t7 hb.dom
    have cz3 := cz3.step t7 hb.dom
    have cz4 := cz4.step t7 hb.dom
    refine ⟨by decide, fun z5 hz5 => ?_⟩
    obtain ⟨t8, b8, cz5⟩ := mkT (K := K) hb.dom S7 b7 .nil hz5
    generalize upd H7 z5 _ = H8 at t8 b8 cz5 ⊢
    have S8 : Step p H H8 := S7.trans t8
    have cz1 := cz1.step t8 hb.dom
    have cz2 := cz2.step t8 hb.dom
    have cz3 := cz3.step t8 hb.dom
    have cz4 := cz4.step t8 hb.dom
    have cc1 := cc1.step t8 hb.dom
    refine ⟨by decide, fun c2 hc2 => ?_⟩
    obtain ⟨t9, b9, cc2⟩ := mkT (K := K) hb.dom S8 b8 (.cons (.str "embedded") (.cons cz5 (.cons cz3 .nil))) hc2
    generalize upd H8 c2 _ = H9 at t9 b9 cc2 ⊢
    have S9 : Step p H H9 := S8.trans t9
    have cz1 := cz1.step t9 hb.dom
    have cz2 := cz2.step t9 hb.dom
    have cz3 := cz3.step t9 hb.dom
    have cz4 := cz4.step t9 hb.dom
    have cc1 := cc1.step t9 hb.dom
    have cz5 := cz5.step t9 hb.dom
    refine ix0_go cz3 fun u nu => ix0_go nu fun u2 nu2 => ?_
    refine ⟨by decide, fun z6 hz6 => ?_⟩
    obtain ⟨t10, b10, cz6⟩ := mkT (K := K) hb.dom S9 b9 (.cons nu2 .nil) hz6
    generalize upd H9 z6 _ = H10 at t10 b10 cz6 ⊢
    have S10 : Step p H H10 := S9.trans t10
    have cz1 := cz1.step t10 hb.dom
    have cz2 := cz2.step t10 hb.dom
    have cz3 := cz3.step t10 hb.dom
    have cz4 := cz4.step t10 hb.dom
    have cc1 := cc1.step t10 hb.dom
    have cz5 := cz5.step t10 hb.dom
    have cc2 := cc2.step t10 hb.dom
    refine ⟨by decide, fun z7 hz7 => ?_⟩
    obtain ⟨t11, b11, cz7⟩ := mkT (K := K) hb.dom S10 b10 .nil hz7
    generalize upd H10 z7 _ = H11 at t11 b11 cz7 ⊢
    have S11 : Step p H H11 := S10.trans t11
    have cz1 := cz1.step t11 hb.dom
    have cz2 := cz2.step t11 hb.dom
    have cz3 := cz3.step t11 hb.dom
    have cz4 := cz4.step t11 hb.dom
    have cc1 := cc1.step t11 hb.dom
    have cz5 := cz5.step t11 hb.dom
    have cc2 := cc2.step t11 hb.dom
    have cz6 := cz6.step t11 hb.dom
    refine ⟨by decide, fun z8 hz8 => ?_⟩
    obtain ⟨t12, b12, cz8⟩ := mkT (K := K) hb.dom S11 b11 .nil hz8
    generalize upd H11 z8 _ = H12 at t12 b12 cz8 ⊢
    have S12 : Step p H H12 := S11.trans t12
    have cz1 := cz1.step t12 hb.dom
    have cz2 := cz2.step t12 hb.dom
    have cz3 := cz3.step t12 hb.dom
    have cz4 := cz4.step t12 hb.dom
    have cc1 := cc1.step t12 hb.dom
    have cz5 := cz5.step t12 hb.dom
    have cc2 := cc2.step t12 hb.dom
    have cz6 := cz6.step t12 hb.dom
    have cz7 := cz7.step t12 hb.dom
    refine ⟨by decide, fun z9 hz9 => ?_⟩
    obtain ⟨t13, b13, cz9⟩ := mkT (K := K) hb.dom S12 b12 (.cons (.int 1) (.cons (.int 1) (.cons (.int 1) (.cons cz8 .nil)))) hz9
    generalize upd H12 z9 _ = H13 at t13 b13 cz9 ⊢
    have S13 : Step p H H13 := S12.trans t13
    have cz1 := cz1.step t13 hb.dom
    have cz2 := cz2.step t13 hb.dom
    have cz3 := cz3.step t13 hb.dom
    have cz4 := cz4.step t13 hb.dom
    have cc1 := cc1.step t13 hb.dom
    have cz5 := cz5.step t13 hb.dom
    have cc2 := cc2.step t13 hb.dom
    have cz6 := cz6.step t13 hb.dom
    have cz7 := cz7.step t13 hb.dom
    have cz8 := cz8.step t13 hb.dom
    refine ⟨by decide, fun c3 hc3 => ?_⟩
    obtain ⟨t14, b14, cc3⟩ := mkT (K := K) hb.dom S13 b13 (.cons (.str "row") (.cons cz6 (.cons cz7 (.cons cz9 (.cons (.int m) .nil))))) hc3
    generalize upd H13 c3 _ = H14 at t14 b14 cc3 ⊢
    have S14 : Step p H H14 := S13.trans t14
    have cz1 := cz1.step t14 hb.dom
    have cz2 := cz2.step t14 hb.dom
    have cz3 := cz3.step t14 hb.dom
    have cz4 := cz4.step t14 hb.dom
    have cc1 := cc1.step t14 hb.dom
    have cz5 := cz5.step t14 hb.dom
    have cc2 := cc2.step t14 hb.dom
    have cz6 := cz6.step t14 hb.dom
    have cz7 := cz7.step t14 hb.dom
    have cz8 := cz8.step t14 hb.dom
    have cz9 := cz9.step t14 hb.dom
    refine ⟨by decide, fun l1 hl1 => ?_⟩
    have nel1 : l1 ≠ p := Ne.symm (box_ne b14 hl1)
    have el1 : (upd H14 l1 (.lst [.ref c1, .ref c2, .ref c3])) l1 = some (.lst [.ref c1, .ref c2, .ref c3]) := upd_same
    have b15 := b14.new (o := (.lst [.ref c1, .ref c2, .ref c3])) hl1
    have t15 : Step p H14 (upd H14 l1 (.lst [.ref c1, .ref c2, .ref c3])) := Step.new hl1
    generalize upd H14 l1 _ = H15 at el1 b15 t15 ⊢
    have S15 : Step p H H15 := S14.trans t15
    have cz1 := cz1.step t15 hb.dom
    have cz2 := cz2.step t15 hb.dom
    have cz3 := cz3.step t15 hb.dom
    have cz4 := cz4.step t15 hb.dom
    have cc1 := cc1.step t15 hb.dom
    have cz5 := cz5.step t15 hb.dom
    have cc2 := cc2.step t15 hb.dom
    have cz6 := cz6.step t15 hb.dom
    have cz7 := cz7.step t15 hb.dom
    have cz8 := cz8.step t15 hb.dom
    have cz9 := cz9.step t15 hb.dom
    have cc3 := cc3.step t15 hb.dom
    refine ⟨by decide, fun y1 hy1 => ?_⟩
    obtain ⟨t16, b16, cy1⟩ := mkT (K := K) hb.dom S15 b15 (.cons (.int m) .nil) hy1
    generalize upd H15 y1 _ = H16 at t16 b16 cy1 ⊢
    have S16 : Step p H H16 := S15.trans t16
    have cz1 := cz1.step t16 hb.dom
    have cz2 := cz2.step t16 hb.dom
    have cz3 := cz3.step t16 hb.dom
    have cz4 := cz4.step t16 hb.dom
    have cc1 := cc1.step t16 hb.dom
    have cz5 := cz5.step t16 hb.dom
    have cc2 := cc2.step t16 hb.dom
    have cz6 := cz6.step t16 hb.dom
    have cz7 := cz7.step t16 hb.dom
    have cz8 := cz8.step t16 hb.dom
    have cz9 := cz9.step t16 hb.dom
    have cc3 := cc3.step t16 hb.dom
    have el1 := t16.keep l1 _ nel1 el1
    refine ⟨by decide, fun y2 hy2 => ?_⟩
    obtain ⟨t17, b17, cy2⟩ := mkT (K := K) hb.dom S16 b16 (.cons cy1 .nil) hy2
    generalize upd H16 y2 _ = H17 at t17 b17 cy2 ⊢
    have S17 : Step p H H17 := S16.trans t17
    have cz1 := cz1.step t17 hb.dom
    have cz2 := cz2.step t17 hb.dom
    have cz3 := cz3.step t17 hb.dom
    have cz4 := cz4.step t17 hb.dom
    have cc1 := cc1.step t17 hb.dom
    have cz5 := cz5.step t17 hb.dom
    have cc2 := cc2.step t17 hb.dom
    have cz6 := cz6.step t17 hb.dom
    have cz7 := cz7.step t17 hb.dom
    have cz8 := cz8.step t17 hb.dom
    have cz9 := cz9.step t17 hb.dom
    have cc3 := cc3.step t17 hb.dom
    have cy1 := cy1.step t17 hb.dom
    have el1 := t17.keep l1 _ nel1 el1
    refine ⟨m, rfl, by decide, fun c4 hc4 => ?_⟩
    obtain ⟨t18, b18, cc4⟩ := mkT (K := K) hb.dom S17 b17 (.cons (.str "choice") (.cons cy2 (.cons (.int (0 - m)) .nil))) hc4
    generalize upd H17 c4 _ = H18 at t18 b18 cc4 ⊢
    have S18 : Step p H H18 := S17.trans t18
    have cz1 := cz1.step t18 hb.dom
    have cz2 := cz2.step t18 hb.dom
    have cz3 := cz3.step t18 hb.dom
    have cz4 := cz4.step t18 hb.dom
    have cc1 := cc1.step t18 hb.dom
    have cz5 := cz5.step t18 hb.dom
    have cc2 := cc2.step t18 hb.dom
    have cz6 := cz6.step t18 hb.dom
    have cz7 := cz7.step t18 hb.dom
    have cz8 := cz8.step t18 hb.dom
    have cz9 := cz9.step t18 hb.dom
    have cc3 := cc3.step t18 hb.dom
    have cy1 := cy1.step t18 hb.dom
    have cy2 := cy2.step t18 hb.dom
    have el1 := t18.keep l1 _ nel1 el1
    refine ⟨by decide, fun y3 hy3 => ?_⟩
    obtain ⟨t19, b19, cy3⟩ := mkT (K := K) hb.dom S18 b18 .nil hy3
    generalize upd H18 y3 _ = H19 at t19 b19 cy3 ⊢
    have S19 : Step p H H19 := S18.trans t19
    have cz1 := cz1.step t19 hb.dom
    have cz2 := cz2.step t19 hb.dom
    have cz3 := cz3.step t19 hb.dom
    have cz4 := cz4.step t19 hb.dom
    have cc1 := cc1.step t19 hb.dom
    have cz5 := cz5.step t19 hb.dom
    have cc2 := cc2.step t19 hb.dom
    have cz6 := cz6.step t19 hb.dom
    have cz7 := cz7.step t19 hb.dom
    have cz8 := cz8.step t19 hb.dom
    have cz9 := cz9.step t19 hb.dom
    have cc3 := cc3.step t19 hb.dom
    have cy1 := cy1.step t19 hb.dom
    have cy2 := cy2.step t19 hb.dom
    have cc4 := cc4.step t19 hb.dom
    have el1 := t19.keep l1 _ nel1 el1
    refine deed_go b19 (by omega) fun v d H20 nv shv t20 b20 => ?_
    have S20 : Step p H H20 := S19.trans t20
    have cz1 := cz1.step t20 hb.dom
    have cz2 := cz2.step t20 hb.dom
    have cz3 := cz3.step t20 hb.dom
    have cz4 := cz4.step t20 hb.dom
    have cc1 := cc1.step t20 hb.dom
    have cz5 := cz5.step t20 hb.dom
    have cc2 := cc2.step t20 hb.dom
    have cz6 := cz6.step t20 hb.dom
    have cz7 := cz7.step t20 hb.dom
    have cz8 := cz8.step t20 hb.dom
    have cz9 := cz9.step t20 hb.dom
    have cc3 := cc3.step t20 hb.dom
    have cy1 := cy1.step t20 hb.dom
    have cy2 := cy2.step t20 hb.dom
    have cc4 := cc4.step t20 hb.dom
    have cy3 := cy3.step t20 hb.dom
    have el1 := t20.keep l1 _ nel1 el1
    have nv := Nw.old (fun a z => S19.fresh z) _ _ nv
    refine ⟨by decide, fun y4 hy4 => ?_⟩
    obtain ⟨t21, b21, cy4⟩ := mkT (K := K) hb.dom S20 b20 (.cons nv .nil) hy4
    generalize upd H20 y4 _ = H21 at t21 b21 cy4 ⊢
    have S21 : Step p H H21 := S20.trans t21
    have cz1 := cz1.step t21 hb.dom
    have cz2 := cz2.step t21 hb.dom
    have cz3 := cz3.step t21 hb.dom
    have cz4 := cz4.step t21 hb.dom
    have cc1 := cc1.step t21 hb.dom
    have cz5 := cz5.step t21 hb.dom
    have cc2 := cc2.step t21 hb.dom
    have cz6 := cz6.step t21 hb.dom
    have cz7 := cz7.step t21 hb.dom
    have cz8 := cz8.step t21 hb.dom
    have cz9 := cz9.step t21 hb.dom
    have cc3 := cc3.step t21 hb.dom
    have cy1 := cy1.step t21 hb.dom
    have cy2 := cy2.step t21 hb.dom
    have cc4 := cc4.step t21 hb.dom
    have cy3 := cy3.step t21 hb.dom
    have nv := nv.step t21 hb.dom
    have el1 := t21.keep l1 _ nel1 el1
    refine ⟨by decide, fun y5 hy5 => ?_⟩
    obtain ⟨t22, b22, cy5⟩ := mkT (K := K) hb.dom S21 b21 .nil hy5
    generalize upd H21 y5 _ = H22 at t22 b22 cy5 ⊢
    have S22 : Step p H H22 := S21.trans t22
    have cz1 := cz1.step t22 hb.dom
    have cz2 := cz2.step t22 hb.dom
    have cz3 := cz3.step t22 hb.dom
    have cz4 := cz4.step t22 hb.dom
    have cc1 := cc1.step t22 hb.dom
    have cz5 := cz5.step t22 hb.dom
    have cc2 := cc2.step t22 hb.dom
    have cz6 := cz6.step t22 hb.dom
    have cz7 := cz7.step t22 hb.dom
    have cz8 := cz8.step t22 hb.dom
    have cz9 := cz9.step t22 hb.dom
    have cc3 := cc3.step t22 hb.dom
    have cy1 := cy1.step t22 hb.dom
    have cy2 := cy2.step t22 hb.dom
    have cc4 := cc4.step t22 hb.dom
    have cy3 := cy3.step t22 hb.dom
    have nv := nv.step t22 hb.dom
    have cy4 := cy4.step t22 hb.dom
    have el1 := t22.keep l1 _ nel1 el1
    refine ⟨by decide, fun c5 hc5 => ?_⟩
    obtain ⟨t23, b23, cc5⟩ := mkT (K := K) hb.dom S22 b22 (.cons (.str "leads") (.cons cy3 (.cons cy4 (.cons cy5 .nil)))) hc5
    generalize upd H22 c5 _ = H23 at t23 b23 cc5 ⊢
    have S23 : Step p H H23 := S22.trans t23
    have cz1 := cz1.step t23 hb.dom
    have cz2 := cz2.step t23 hb.dom
    have cz3 := cz3.step t23 hb.dom
    have cz4 := cz4.step t23 hb.dom
    have cc1 := cc1.step t23 hb.dom
    have cz5 := cz5.step t23 hb.dom
    have cc2 := cc2.step t23 hb.dom
    have cz6 := cz6.step t23 hb.dom
    have cz7 := cz7.step t23 hb.dom
    have cz8 := cz8.step t23 hb.dom
    have cz9 := cz9.step t23 hb.dom
    have cc3 := cc3.step t23 hb.dom
    have cy1 := cy1.step t23 hb.dom
    have cy2 := cy2.step t23 hb.dom
    have cc4 := cc4.step t23 hb.dom
    have cy3 := cy3.step t23 hb.dom
    have nv := nv.step t23 hb.dom
    have cy4 := cy4.step t23 hb.dom
    have cy5 := cy5.step t23 hb.dom
    have el1 := t23.keep l1 _ nel1 el1
    refine ⟨by decide, fun l2 hl2 => ?_⟩
    have nel2 : l2 ≠ p := Ne.symm (box_ne b23 hl2)
    have el2 : (upd H23 l2 (.lst [.ref c4, .ref c5])) l2 = some (.lst [.ref c4, .ref c5]) := upd_same
    have b24 := b23.new (o := (.lst [.ref c4, .ref c5])) hl2
    have t24 : Step p H23 (upd H23 l2 (.lst [.ref c4, .ref c5])) := Step.new hl2
    generalize upd H23 l2 _ = H24 at el2 b24 t24 ⊢
    have S24 : Step p H H24 := S23.trans t24
    have cz1 := cz1.step t24 hb.dom
    have cz2 := cz2.step t24 hb.dom
    have cz3 := cz3.step t24 hb.dom
    have cz4 := cz4.step t24 hb.dom
    have cc1 := cc1.step t24 hb.dom
    have cz5 := cz5.step t24 hb.dom
    have cc2 := cc2.step t24 hb.dom
    have cz6 := cz6.step t24 hb.dom
    have cz7 := cz7.step t24 hb.dom
    have cz8 := cz8.step t24 hb.dom
    have cz9 := cz9.step t24 hb.dom
    have cc3 := cc3.step t24 hb.dom
    have cy1 := cy1.step t24 hb.dom
    have cy2 := cy2.step t24 hb.dom
    have cc4 := cc4.step t24 hb.dom
    have cy3 := cy3.step t24 hb.dom
    have nv := nv.step t24 hb.dom
    have cy4 := cy4.step t24 hb.dom
    have cy5 := cy5.step t24 hb.dom
    have cc5 := cc5.step t24 hb.dom
    have el1 := t24.keep l1 _ nel1 el1
    refine ⟨[.ref c1, .ref c2, .ref c3], el1, [.ref c4, .ref c5], el2, by show 3 + 2 ≤ sizeLine; decide, fun l3 hl3 => ?_⟩
    have nel3 : l3 ≠ p := Ne.symm (box_ne b24 hl3)
    have el3 : (upd H24 l3 (.lst ([.ref c1, .ref c2, .ref c3] ++ [.ref c4, .ref c5]))) l3 = some (.lst ([.ref c1, .ref c2, .ref c3] ++ [.ref c4, .ref c5])) := upd_same
    have b25 := b24.new (o := (.lst ([.ref c1, .ref c2, .ref c3] ++ [.ref c4, .ref c5]))) hl3
    have t25 : Step p H24 (upd H24 l3 (.lst ([.ref c1, .ref c2, .ref c3] ++ [.ref c4, .ref c5]))) := Step.new hl3
    generalize upd H24 l3 _ = H25 at el3 b25 t25 ⊢
    have S25 : Step p H H25 := S24.trans t25
    have cz1 := cz1.step t25 hb.dom
    have cz2 := cz2.step t25 hb.dom
    have cz3 := cz3.step t25 hb.dom
    have cz4 := cz4.step t25 hb.dom
    have cc1 := cc1.step t25 hb.dom
    have cz5 := cz5.step t25 hb.dom
    have cc2 := cc2.step t25 hb.dom
    have cz6 := cz6.step t25 hb.dom
    have cz7 := cz7.step t25 hb.dom
    have cz8 := cz8.step t25 hb.dom
    have cz9 := cz9.step t25 hb.dom
    have cc3 := cc3.step t25 hb.dom
    have cy1 := cy1.step t25 hb.dom
    have cy2 := cy2.step t25 hb.dom
    have cc4 := cc4.step t25 hb.dom
    have cy3 := cy3.step t25 hb.dom
    have nv := nv.step t25 hb.dom
    have cy4 := cy4.step t25 hb.dom
    have cy5 := cy5.step t25 hb.dom
    have cc5 := cc5.step t25 hb.dom
    have el1 := t25.keep l1 _ nel1 el1
    have el2 := t25.keep l2 _ nel2 el2
    refine draw_go b25 (by decide) (by decide) (by omega) fun i H26 i0 i1 t26 b26 => ?_
    have S26 : Step p H H26 := S25.trans t26
    have cz1 := cz1.step t26 hb.dom
    have cz2 := cz2.step t26 hb.dom
    have cz3 := cz3.step t26 hb.dom
    have cz4 := cz4.step t26 hb.dom
    have cc1 := cc1.step t26 hb.dom
    have cz5 := cz5.step t26 hb.dom
    have cc2 := cc2.step t26 hb.dom
    have cz6 := cz6.step t26 hb.dom
    have cz7 := cz7.step t26 hb.dom
    have cz8 := cz8.step t26 hb.dom
    have cz9 := cz9.step t26 hb.dom
    have cc3 := cc3.step t26 hb.dom
    have cy1 := cy1.step t26 hb.dom
    have cy2 := cy2.step t26 hb.dom
    have cc4 := cc4.step t26 hb.dom
    have cy3 := cy3.step t26 hb.dom
    have nv := nv.step t26 hb.dom
    have cy4 := cy4.step t26 hb.dom
    have cy5 := cy5.step t26 hb.dom
    have cc5 := cc5.step t26 hb.dom
    have el1 := t26.keep l1 _ nel1 el1
    have el2 := t26.keep l2 _ nel2 el2
    have el3 := t26.keep l3 _ nel3 el3
    refine ⟨_, i, rfl, SqL.of el3, ?_⟩
    have B : BoxAt H26 p (n + 500) := b26.mono (by omega)
    have two : ∀ (n : Nat) (ds : List PyData), ds.length ≤ 6 → (∀ d ∈ ds, Shp n d) → Shp (n + 1) (.tuple ds) := fun n ds h1 h2 => ⟨by omega, h2⟩
    have hi : i = 0 ∨ i = 1 ∨ i = 2 ∨ i = 3 ∨ i = 4 := by omega
    rcases hi with rfl | rfl | rfl | rfl | rfl
    · exact ⟨_, rfl, q _ _ _ cc1 (two 4 _ (by simp) (by simp [Shp])) S26 B⟩
    · exact ⟨_, rfl, q _ _ _ cc2 (two 4 _ (by simp) (by simp [Shp])) S26 B⟩
    · exact ⟨_, rfl, q _ _ _ cc3 (two 4 _ (by simp) (by simp [Shp])) S26 B⟩
    · exact ⟨_, rfl, q _ _ _ cc4 (two 4 _ (by simp) (by simp [Shp])) S26 B⟩
    · exact ⟨_, rfl, q _ _ _ cc5 (two 4 _ (by simp) (by simp [Shp, shv.mono (show 2 ≤ 3 by decide)])) S26 B⟩
end
end Ly
namespace Ly
open PySem PySem.Spec PyProof.Rows L2
local macro_rules | `(tactic| walk_at "vc") => `(tactic| simp only [tSeq, tAsg, tOp, tVar, tC, tRet, tRetN, tNext, tIfS, tIf, tDrop, tB, tTest, tNot, tAnd, tOr, tAndV, tOrV, tNotV, tChain, tUn, tCB, tCons, tNil, tTup, tLst, tSl, tPart, tNoPart, tCall, tBreak, tCont,
  rI, rI0, rU, gName, gNil, gCons, gSub, rSetL, L2.start, cx_K, cx_nox, tLc_eq, tFor_eq, iRng1, iRng2, iList, iTup, tM1, tYes, wipe, rIxS, rIxL, rIxT, rCat, rSlL, rEq, rNe, tMkO_eq, tVal_eq, tFldE_eq, tXfE_eq, tCallS, lenV_ref, CDiv, CDivW, CPow, CMulX,
  List.map_cons, List.map_nil, List.cons_append, List.nil_append, List.append_nil, List.length_cons, List.length_nil, List.replicate, List.getElem?_cons_zero, List.getElem?_cons_succ, List.set_cons_zero, List.set_cons_succ, Nat.reduceSub, Nat.reduceAdd,
  Option.some.injEq, V.int.injEq, V.bl.injEq, V.str.injEq, V.ref.injEq, exists_eq_left', exists_eq_left, exists_and_left, reduceCtorEq, false_and, and_false, exists_false, or_false, false_or, Bool.false_eq_true, if_false, if_true, reduceIte, decide_eq_true_eq, List.cons.injEq, and_true, true_and])
section
variable {P : Program} {w : World} {K : PySem.W.Frag} {mg : Str → Option Value} {base : Heap}
theorem ok_InvalidForest_init (A : All K mg) : FnOk P w K mg base CX0 1 A.c_InvalidForest.f A.c_InvalidForest.fd ["self", "value"] (sp_init1 A.c_InvalidForest.C "value") := by
  refine A.c_InvalidForest.F.ok sc_InvalidForest_init (fun vs H Q E h => ?_) (fun cdv B outer s H vs Q E hr h => ⟨_, (pss_one (ps_ost (pv 0) (pv 1))), init1_run A.c_InvalidForest h⟩)
  obtain ⟨a, v0, rfl, _⟩ := h
  rfl
theorem ok_InvalidPlot_init (A : All K mg) : FnOk P w K mg base CX0 1 A.c_InvalidPlot.f A.c_InvalidPlot.fd ["self", "value"] (sp_init1 A.c_InvalidPlot.C "value") := by
  refine A.c_InvalidPlot.F.ok sc_InvalidPlot_init (fun vs H Q E h => ?_) (fun cdv B outer s H vs Q E hr h => ⟨_, (pss_one (ps_ost (pv 0) (pv 1))), init1_run A.c_InvalidPlot h⟩)
  obtain ⟨a, v0, rfl, _⟩ := h
  rfl
theorem ok_InvalidPrices_init (A : All K mg) : FnOk P w K mg base CX0 1 A.c_InvalidPrices.f A.c_InvalidPrices.fd ["self", "value"] (sp_init1 A.c_InvalidPrices.C "value") := by
  refine A.c_InvalidPrices.F.ok sc_InvalidPrices_init (fun vs H Q E h => ?_) (fun cdv B outer s H vs Q E hr h => ⟨_, (pss_one (ps_ost (pv 0) (pv 1))), init1_run A.c_InvalidPrices h⟩)
  obtain ⟨a, v0, rfl, _⟩ := h
  rfl
theorem ok_InvalidMatching_init (A : All K mg) : FnOk P w K mg base CX0 1 A.c_InvalidMatching.f A.c_InvalidMatching.fd ["self", "value"] (sp_init1 A.c_InvalidMatching.C "value") := by
  refine A.c_InvalidMatching.F.ok sc_InvalidMatching_init (fun vs H Q E h => ?_) (fun cdv B outer s H vs Q E hr h => ⟨_, (pss_one (ps_ost (pv 0) (pv 1))), init1_run A.c_InvalidMatching h⟩)
  obtain ⟨a, v0, rfl, _⟩ := h
  rfl
theorem ok_InvalidScript_init (A : All K mg) : FnOk P w K mg base CX0 1 A.c_InvalidScript.f A.c_InvalidScript.fd ["self", "value"] (sp_init1 A.c_InvalidScript.C "value") := by
  refine A.c_InvalidScript.F.ok sc_InvalidScript_init (fun vs H Q E h => ?_) (fun cdv B outer s H vs Q E hr h => ⟨_, (pss_one (ps_ost (pv 0) (pv 1))), init1_run A.c_InvalidScript h⟩)
  obtain ⟨a, v0, rfl, _⟩ := h
  rfl
theorem ok_InvalidTable_init (A : All K mg) : FnOk P w K mg base CX0 1 A.c_InvalidTable.f A.c_InvalidTable.fd ["self", "value"] (sp_init1 A.c_InvalidTable.C "value") := by
  refine A.c_InvalidTable.F.ok sc_InvalidTable_init (fun vs H Q E h => ?_) (fun cdv B outer s H vs Q E hr h => ⟨_, (pss_one (ps_ost (pv 0) (pv 1))), init1_run A.c_InvalidTable h⟩)
  obtain ⟨a, v0, rfl, _⟩ := h
  rfl
theorem ok_InvalidClaim_init (A : All K mg) : FnOk P w K mg base CX0 1 A.c_InvalidClaim.f A.c_InvalidClaim.fd ["self", "value"] (sp_init1 A.c_InvalidClaim.C "value") := by
  refine A.c_InvalidClaim.F.ok sc_InvalidClaim_init (fun vs H Q E h => ?_) (fun cdv B outer s H vs Q E hr h => ⟨_, (pss_one (ps_ost (pv 0) (pv 1))), init1_run A.c_InvalidClaim h⟩)
  obtain ⟨a, v0, rfl, _⟩ := h
  rfl
theorem ok_InvalidNumber_init (A : All K mg) : FnOk P w K mg base CX0 1 A.c_InvalidNumber.f A.c_InvalidNumber.fd ["self", "value"] (sp_init1 A.c_InvalidNumber.C "value") := by
  refine A.c_InvalidNumber.F.ok sc_InvalidNumber_init (fun vs H Q E h => ?_) (fun cdv B outer s H vs Q E hr h => ⟨_, (pss_one (ps_ost (pv 0) (pv 1))), init1_run A.c_InvalidNumber h⟩)
  obtain ⟨a, v0, rfl, _⟩ := h
  rfl
theorem ok_InvalidPath_init (A : All K mg) : FnOk P w K mg base CX0 1 A.c_InvalidPath.f A.c_InvalidPath.fd ["self", "path"] (sp_init1 A.c_InvalidPath.C "path") := by
  refine A.c_InvalidPath.F.ok sc_InvalidPath_init (fun vs H Q E h => ?_) (fun cdv B outer s H vs Q E hr h => ⟨_, (pss_one (ps_ost (pv 0) (pv 1))), init1_run A.c_InvalidPath h⟩)
  obtain ⟨a, v0, rfl, _⟩ := h
  rfl
theorem ok_InvalidText_init (A : All K mg) : FnOk P w K mg base CX0 1 A.c_InvalidText.f A.c_InvalidText.fd ["self", "text", "at"] (sp_init2 A.c_InvalidText.C "text" "at") := by
  refine A.c_InvalidText.F.ok sc_InvalidText_init (fun vs H Q E h => ?_) (fun cdv B outer s H vs Q E hr h => ⟨_, (pss_cons (ps_ost (pv 0) (pv 1)) (pss_one (ps_ost (pv 0) (pv 2)))), init2_run A.c_InvalidText h⟩)
  obtain ⟨a, v0, v1, rfl, _⟩ := h
  rfl
theorem ok_Undefined_init (A : All K mg) : FnOk P w K mg base CX0 1 A.c_Undefined.f A.c_Undefined.fd ["self", "what"] (sp_init1 A.c_Undefined.C "what") := by
  refine A.c_Undefined.F.ok sc_Undefined_init (fun vs H Q E h => ?_) (fun cdv B outer s H vs Q E hr h => ⟨_, (pss_one (ps_ost (pv 0) (pv 1))), init1_run A.c_Undefined h⟩)
  obtain ⟨a, v0, rfl, _⟩ := h
  rfl
theorem ok_Refusal_init (A : All K mg) : FnOk P w K mg base CX0 1 A.c_Refusal.f A.c_Refusal.fd ["self", "deed", "reason"] (sp_init2 A.c_Refusal.C "deed" "reason") := by
  refine A.c_Refusal.F.ok sc_Refusal_init (fun vs H Q E h => ?_) (fun cdv B outer s H vs Q E hr h => ⟨_, (pss_cons (ps_ost (pv 0) (pv 1)) (pss_one (ps_ost (pv 0) (pv 2)))), init2_run A.c_Refusal h⟩)
  obtain ⟨a, v0, v1, rfl, _⟩ := h
  rfl
theorem ok_Clash_init (A : All K mg) : FnOk P w K mg base CX0 1 A.c_Clash.f A.c_Clash.fd ["self", "deed", "other"] (sp_init2 A.c_Clash.C "deed" "other") := by
  refine A.c_Clash.F.ok sc_Clash_init (fun vs H Q E h => ?_) (fun cdv B outer s H vs Q E hr h => ⟨_, (pss_cons (ps_ost (pv 0) (pv 1)) (pss_one (ps_ost (pv 0) (pv 2)))), init2_run A.c_Clash h⟩)
  obtain ⟨a, v0, v1, rfl, _⟩ := h
  rfl
theorem ok_Refused_init (A : All K mg) : FnOk P w K mg base CX0 1 A.c_Refused.f A.c_Refused.fd ["self", "claim"] (sp_init1 A.c_Refused.C "claim") := by
  refine A.c_Refused.F.ok sc_Refused_init (fun vs H Q E h => ?_) (fun cdv B outer s H vs Q E hr h => ⟨_, (pss_one (ps_ost (pv 0) (pv 1))), init1_run A.c_Refused h⟩)
  obtain ⟨a, v0, rfl, _⟩ := h
  rfl
theorem ok_InvalidCommand_init (A : All K mg) : FnOk P w K mg base CX0 1 A.c_InvalidCommand.f A.c_InvalidCommand.fd ["self", "line", "at"] (sp_init2 A.c_InvalidCommand.C "line" "at") := by
  refine A.c_InvalidCommand.F.ok sc_InvalidCommand_init (fun vs H Q E h => ?_) (fun cdv B outer s H vs Q E hr h => ⟨_, (pss_cons (ps_ost (pv 0) (pv 1)) (pss_one (ps_ost (pv 0) (pv 2)))), init2_run A.c_InvalidCommand h⟩)
  obtain ⟨a, v0, v1, rfl, _⟩ := h
  rfl
theorem ok_UnknownName_init (A : All K mg) : FnOk P w K mg base CX0 1 A.c_UnknownName.f A.c_UnknownName.fd ["self", "name"] (sp_init1 A.c_UnknownName.C "name") := by
  refine A.c_UnknownName.F.ok sc_UnknownName_init (fun vs H Q E h => ?_) (fun cdv B outer s H vs Q E hr h => ⟨_, (pss_one (ps_ost (pv 0) (pv 1))), init1_run A.c_UnknownName h⟩)
  obtain ⟨a, v0, rfl, _⟩ := h
  rfl
theorem ok_NothingToUndo_init (A : All K mg) : FnOk P w K mg base CX0 1 A.c_NothingToUndo.f A.c_NothingToUndo.fd ["self", "deed"] (sp_init1 A.c_NothingToUndo.C "deed") := by
  refine A.c_NothingToUndo.F.ok sc_NothingToUndo_init (fun vs H Q E h => ?_) (fun cdv B outer s H vs Q E hr h => ⟨_, (pss_one (ps_ost (pv 0) (pv 1))), init1_run A.c_NothingToUndo h⟩)
  obtain ⟨a, v0, rfl, _⟩ := h
  rfl
end
end Ly
namespace Ly
open PySem PySem.Spec PyProof.Rows L2
local macro_rules | `(tactic| walk_at "vc") => `(tactic| simp only [tSeq, tAsg, tOp, tVar, tC, tRet, tRetN, tNext, tIfS, tIf, tDrop, tB, tTest, tNot, tAnd, tOr, tAndV, tOrV, tNotV, tChain, tUn, tCB, tCons, tNil, tTup, tLst, tSl, tPart, tNoPart, tCall, tBreak, tCont,
  rI, rI0, rU, gName, gNil, gCons, gSub, rSetL, L2.start, cx_K, cx_nox, tLc_eq, tFor_eq, iRng1, iRng2, iList, iTup, tM1, tYes, wipe, rIxS, rIxL, rIxT, rCat, rSlL, rEq, rNe, tMkO_eq, tVal_eq, tFldE_eq, tXfE_eq, tCallS, lenV_ref, CDiv, CDivW, CPow, CMulX,
  List.map_cons, List.map_nil, List.cons_append, List.nil_append, List.append_nil, List.length_cons, List.length_nil, List.replicate, List.getElem?_cons_zero, List.getElem?_cons_succ, List.set_cons_zero, List.set_cons_succ, Nat.reduceSub, Nat.reduceAdd,
  Option.some.injEq, V.int.injEq, V.bl.injEq, V.str.injEq, V.ref.injEq, exists_eq_left', exists_eq_left, exists_and_left, reduceCtorEq, false_and, and_false, exists_false, or_false, false_or, Bool.false_eq_true, if_false, if_true, reduceIte, decide_eq_true_eq, List.cons.injEq, and_true, true_and])
section
variable {P : Program} {w : World} {K : PySem.W.Frag} {mg : Str → Option Value} {base : Heap}
def csN (A : All K mg) : Nat → Addr := fun i => match i with
  | 0 => A.c_InvalidForest.C
  | 1 => A.c_InvalidPlot.C
  | 2 => A.c_InvalidPrices.C
  | 3 => A.c_InvalidMatching.C
  | 4 => A.c_InvalidScript.C
  | 5 => A.c_InvalidTable.C
  | 6 => A.c_InvalidClaim.C
  | 7 => A.c_InvalidNumber.C
  | 8 => A.c_InvalidPath.C
  | 9 => A.c_InvalidText.C
  | 10 => A.c_Undefined.C
  | 11 => A.c_Refusal.C
  | 12 => A.c_Clash.C
  | 13 => A.c_Refused.C
  | 14 => A.c_InvalidCommand.C
  | 15 => A.c_UnknownName.C
  | _n + 16 => A.c_NothingToUndo.C
def nmN : Nat → Str := fun i => match i with
  | 0 => "InvalidForest"
  | 1 => "InvalidPlot"
  | 2 => "InvalidPrices"
  | 3 => "InvalidMatching"
  | 4 => "InvalidScript"
  | 5 => "InvalidTable"
  | 6 => "InvalidClaim"
  | 7 => "InvalidNumber"
  | 8 => "InvalidPath"
  | 9 => "InvalidText"
  | 10 => "Undefined"
  | 11 => "Refusal"
  | 12 => "Clash"
  | 13 => "Refused"
  | 14 => "InvalidCommand"
  | 15 => "UnknownName"
  | _n + 16 => "NothingToUndo"
theorem ceN (A : All K mg) : ∀ i : Nat, ClsE K (csN A i) (nmN i) (.ref A.c_GraftError.C :: veT) := fun i => match i with
  | 0 => A.c_InvalidForest.e
  | 1 => A.c_InvalidPlot.e
  | 2 => A.c_InvalidPrices.e
  | 3 => A.c_InvalidMatching.e
  | 4 => A.c_InvalidScript.e
  | 5 => A.c_InvalidTable.e
  | 6 => A.c_InvalidClaim.e
  | 7 => A.c_InvalidNumber.e
  | 8 => A.c_InvalidPath.e
  | 9 => A.c_InvalidText.e
  | 10 => A.c_Undefined.e
  | 11 => A.c_Refusal.e
  | 12 => A.c_Clash.e
  | 13 => A.c_Refused.e
  | 14 => A.c_InvalidCommand.e
  | 15 => A.c_UnknownName.e
  | _n + 16 => A.c_NothingToUndo.e
theorem ecN (A : All K mg) : ∀ i : Nat, L2.ExcC K (csN A i) := fun i => match i with
  | 0 => A.c_InvalidForest.ec A.oc
  | 1 => A.c_InvalidPlot.ec A.oc
  | 2 => A.c_InvalidPrices.ec A.oc
  | 3 => A.c_InvalidMatching.ec A.oc
  | 4 => A.c_InvalidScript.ec A.oc
  | 5 => A.c_InvalidTable.ec A.oc
  | 6 => A.c_InvalidClaim.ec A.oc
  | 7 => A.c_InvalidNumber.ec A.oc
  | 8 => A.c_InvalidPath.ec A.oc
  | 9 => A.c_InvalidText.ec A.oc
  | 10 => A.c_Undefined.ec A.oc
  | 11 => A.c_Refusal.ec A.oc
  | 12 => A.c_Clash.ec A.oc
  | 13 => A.c_Refused.ec A.oc
  | 14 => A.c_InvalidCommand.ec A.oc
  | 15 => A.c_UnknownName.ec A.oc
  | _n + 16 => A.c_NothingToUndo.ec A.oc
theorem xfN (A : All K mg) : ∀ i : Nat, XfC K (csN A i) := fun i => match i with
  | 0 => A.c_InvalidForest.xf
  | 1 => A.c_InvalidPlot.xf
  | 2 => A.c_InvalidPrices.xf
  | 3 => A.c_InvalidMatching.xf
  | 4 => A.c_InvalidScript.xf
  | 5 => A.c_InvalidTable.xf
  | 6 => A.c_InvalidClaim.xf
  | 7 => A.c_InvalidNumber.xf
  | 8 => A.c_InvalidPath.xf
  | 9 => A.c_InvalidText.xf
  | 10 => A.c_Undefined.xf
  | 11 => A.c_Refusal.xf
  | 12 => A.c_Clash.xf
  | 13 => A.c_Refused.xf
  | 14 => A.c_InvalidCommand.xf
  | 15 => A.c_UnknownName.xf
  | _n + 16 => A.c_NothingToUndo.xf
def cs (A : All K mg) (i : _root_.Fin 17) : Addr := csN A i.val
def nm (i : _root_.Fin 17) : Str := nmN i.val
theorem ce (A : All K mg) (i : _root_.Fin 17) : ClsE K (cs A i) (nm i) (.ref A.c_GraftError.C :: veT) := ceN A i.val
theorem ec (A : All K mg) (i : _root_.Fin 17) : L2.ExcC K (cs A i) := ecN A i.val
theorem xf (A : All K mg) (i : _root_.Fin 17) : XfC K (cs A i) := xfN A i.val
theorem nm_inj : ∀ i k : _root_.Fin 17, i ≠ k → nm i ≠ nm k := by decide +kernel
theorem nm_g : ∀ i : _root_.Fin 17, ("GraftError" : Str) ≠ nm i := by decide +kernel
theorem kit_tab (A : All K mg) (i k : _root_.Fin 17) : PySem.W.kitOne K (.ref (cs A i)) (.ref (cs A k)) = some (decide (k = i)) := by
  by_cases h : k = i
  · subst h
    rw [kit_self]
    simp
  · rw [kit_ne (ce A i) (ce A k) A.c_GraftError.e (nm_inj i k (Ne.symm h)) (nm_g k)]
    simp [h]
theorem exm_tab (A : All K mg) (i k : _root_.Fin 17) : PySem.W.exmOne K (.ref (cs A i)) (.ref (cs A k)) = some (decide (k = i)) := by
  by_cases h : k = i
  · subst h
    rw [exm_self (ce A k)]
    simp
  · rw [exm_ne (ce A i) (ce A k) A.c_GraftError.e (nm_inj i k (Ne.symm h)) (nm_g k)]
    simp [h]
/-- v is an exception of the i-th class with these fields -/
def IsE (C : Addr) (H : Hp) (v : V) (fs : List (Str × V)) : Prop := ∃ a dd, v = .ref a ∧ H a = some (exv a C dd) ∧ H dd = some (.xd fs)
theorem IsE.same {C : Addr} {H H' : Hp} {v : V} {fs : List (Str × V)} (h : IsE C H v fs) (z : Same H H') : IsE C H' v fs := let ⟨a, dd, e, h1, h2⟩ := h; ⟨a, dd, e, z _ _ h1, z _ _ h2⟩
theorem mkE {C : Addr} {H : Hp} {a d : Addr} {fs : List (Str × V)} (hd : H d = none) (ha : (upd H d (.xd fs)) a = none) : Same H (upd (upd H d (.xd fs)) a (exv a C d)) ∧ IsE C (upd (upd H d (.xd fs)) a (exv a C d)) (.ref a) fs := by
  have ne : d ≠ a := fun z => by rw [← z, upd_same] at ha; cases ha
  refine ⟨fun b o e => ?_, a, d, rfl, upd_same, by rw [upd_ne ne, upd_same]⟩
  have e1 : b ≠ d := ne_of_none e hd
  have e2 : b ≠ a := fun z => by
    rw [upd_ne (Ne.symm ne)] at ha
    rw [z, ha] at e
    cases e
  rw [upd_ne e2, upd_ne e1]
  exact e
theorem isX_go {A : All K mg} {H : Hp} {v : V} {fs : List (Str × V)} {i k : _root_.Fin 17} {c : Addr} {Q : VK} (h : IsE (cs A i) H v fs) (hc : c = cs A k) (q : Q (.bl (decide (k = i))) H) : rIsX K [v, .ref c] H Q := by
  obtain ⟨a, dd, rfl, h1, h2⟩ := h
  subst hc
  exact ⟨_, _, _, a, _, dd, fs, rfl, .own _, h1, h2, ec A i, kit_tab A i k, q⟩
theorem isG_go {A : All K mg} {H : Hp} {v : V} {fs : List (Str × V)} {i : _root_.Fin 17} {Q : VK} (h : IsE (cs A i) H v fs) (q : Q (.bl true) H) : rIsX K [v, .ref A.c_GraftError.C] H Q := by
  obtain ⟨a, dd, rfl, h1, h2⟩ := h
  exact ⟨_, _, _, a, _, dd, fs, rfl, .own _, h1, h2, ec A i, kit_up (ce A i) A.c_GraftError.e, q⟩
theorem isV_go {A : All K mg} {H : Hp} {v : V} {fs : List (Str × V)} {i : _root_.Fin 17} {Q : VK} (h : IsE (cs A i) H v fs) (q : Q (.bl true) H) : rIsX K [v, .ty "ValueError"] H Q := by
  obtain ⟨a, dd, rfl, h1, h2⟩ := h
  exact ⟨_, _, _, a, _, dd, fs, rfl, .ty _, h1, h2, ec A i, kit_ve (ce A i), q⟩
/-! ### _law_kinds -/
def sp_kinds (A : All K mg) : Sp := fun vs H Q _ => ∃ (v : V) (fs : List (Str × V)) (i : _root_.Fin 17), vs = [v] ∧ IsE (cs A i) H v fs ∧
  ∀ l H', Same H H' → H' l = some (.lst ((List.finRange 17).map fun k => V.bl (decide (k = i)))) → Q (.ref l) H'
theorem ok_l_kinds (A : All K mg) : FnOk P w K mg base CX0 1 A.l_kinds.f A.l_kinds.fd ["made"] (sp_kinds A) := by
  refine A.l_kinds.F.ok sc_l_kinds (fun vs H Q E h => ?_) (fun cdv B outer s H vs Q E hr h => ?_)
  · obtain ⟨v, fs, i, rfl, _⟩ := h
    rfl
  · obtain ⟨v, fs, i, rfl, hv, q⟩ := h
    refine ⟨_, (pss_cons (ps_set (i := 1) sc_l_kinds.nd rfl (by first | exact Or.inl rfl | exact Or.inr rfl) (pe_lst (pa_cons (pe_callB call_isX (by rfl) A.n_isinstance (by decide +kernel) (pa_cons (pv 0) (pa_cons (pe_glob (v := V.ref A.c_InvalidForest.C) rfl A.c_InvalidForest.g rfl) pa_nil))) (pa_cons (pe_callB call_isX (by rfl) A.n_isinstance (by decide +kernel) (pa_cons (pv 0) (pa_cons (pe_glob (v := V.ref A.c_InvalidPlot.C) rfl A.c_InvalidPlot.g rfl) pa_nil))) (pa_cons (pe_callB call_isX (by rfl) A.n_isinstance (by decide +kernel) (pa_cons (pv 0) (pa_cons (pe_glob (v := V.ref A.c_InvalidPrices.C) rfl A.c_InvalidPrices.g rfl) pa_nil))) pa_nil))))) (pss_cons (ps_set (i := 1) sc_l_kinds.nd rfl (by first | exact Or.inl rfl | exact Or.inr rfl) (pe_op op_cat (pv 1) (pe_lst (pa_cons (pe_callB call_isX (by rfl) A.n_isinstance (by decide +kernel) (pa_cons (pv 0) (pa_cons (pe_glob (v := V.ref A.c_InvalidMatching.C) rfl A.c_InvalidMatching.g rfl) pa_nil))) (pa_cons (pe_callB call_isX (by rfl) A.n_isinstance (by decide +kernel) (pa_cons (pv 0) (pa_cons (pe_glob (v := V.ref A.c_InvalidScript.C) rfl A.c_InvalidScript.g rfl) pa_nil))) (pa_cons (pe_callB call_isX (by rfl) A.n_isinstance (by decide +kernel) (pa_cons (pv 0) (pa_cons (pe_glob (v := V.ref A.c_InvalidTable.C) rfl A.c_InvalidTable.g rfl) pa_nil))) pa_nil)))))) (pss_cons (ps_set (i := 1) sc_l_kinds.nd rfl (by first | exact Or.inl rfl | exact Or.inr rfl) (pe_op op_cat (pv 1) (pe_lst (pa_cons (pe_callB call_isX (by rfl) A.n_isinstance (by decide +kernel) (pa_cons (pv 0) (pa_cons (pe_glob (v := V.ref A.c_InvalidClaim.C) rfl A.c_InvalidClaim.g rfl) pa_nil))) (pa_cons (pe_callB call_isX (by rfl) A.n_isinstance (by decide +kernel) (pa_cons (pv 0) (pa_cons (pe_glob (v := V.ref A.c_InvalidNumber.C) rfl A.c_InvalidNumber.g rfl) pa_nil))) (pa_cons (pe_callB call_isX (by rfl) A.n_isinstance (by decide +kernel) (pa_cons (pv 0) (pa_cons (pe_glob (v := V.ref A.c_InvalidPath.C) rfl A.c_InvalidPath.g rfl) pa_nil))) pa_nil)))))) (pss_cons (ps_set (i := 1) sc_l_kinds.nd rfl (by first | exact Or.inl rfl | exact Or.inr rfl) (pe_op op_cat (pv 1) (pe_lst (pa_cons (pe_callB call_isX (by rfl) A.n_isinstance (by decide +kernel) (pa_cons (pv 0) (pa_cons (pe_glob (v := V.ref A.c_InvalidText.C) rfl A.c_InvalidText.g rfl) pa_nil))) (pa_cons (pe_callB call_isX (by rfl) A.n_isinstance (by decide +kernel) (pa_cons (pv 0) (pa_cons (pe_glob (v := V.ref A.c_Undefined.C) rfl A.c_Undefined.g rfl) pa_nil))) (pa_cons (pe_callB call_isX (by rfl) A.n_isinstance (by decide +kernel) (pa_cons (pv 0) (pa_cons (pe_glob (v := V.ref A.c_Refusal.C) rfl A.c_Refusal.g rfl) pa_nil))) pa_nil)))))) (pss_cons (ps_set (i := 1) sc_l_kinds.nd rfl (by first | exact Or.inl rfl | exact Or.inr rfl) (pe_op op_cat (pv 1) (pe_lst (pa_cons (pe_callB call_isX (by rfl) A.n_isinstance (by decide +kernel) (pa_cons (pv 0) (pa_cons (pe_glob (v := V.ref A.c_Clash.C) rfl A.c_Clash.g rfl) pa_nil))) (pa_cons (pe_callB call_isX (by rfl) A.n_isinstance (by decide +kernel) (pa_cons (pv 0) (pa_cons (pe_glob (v := V.ref A.c_Refused.C) rfl A.c_Refused.g rfl) pa_nil))) (pa_cons (pe_callB call_isX (by rfl) A.n_isinstance (by decide +kernel) (pa_cons (pv 0) (pa_cons (pe_glob (v := V.ref A.c_InvalidCommand.C) rfl A.c_InvalidCommand.g rfl) pa_nil))) pa_nil)))))) (pss_one (ps_ret (pe_op op_cat (pv 1) (pe_lst (pa_cons (pe_callB call_isX (by rfl) A.n_isinstance (by decide +kernel) (pa_cons (pv 0) (pa_cons (pe_glob (v := V.ref A.c_UnknownName.C) rfl A.c_UnknownName.g rfl) pa_nil))) (pa_cons (pe_callB call_isX (by rfl) A.n_isinstance (by decide +kernel) (pa_cons (pv 0) (pa_cons (pe_glob (v := V.ref A.c_NothingToUndo.C) rfl A.c_NothingToUndo.g rfl) pa_nil))) pa_nil))))))))))), ?_⟩
    walk_at "vc"
    refine isX_go (A := A) (k := 0) (hv.same (Same.refl _)) rfl ?_
    refine isX_go (A := A) (k := 1) (hv.same (Same.refl _)) rfl ?_
    refine isX_go (A := A) (k := 2) (hv.same (Same.refl _)) rfl ?_
    refine ⟨by decide, fun l0 hl0 => ?_⟩
    have el0 : (upd H l0 (.lst [.bl (decide ((0 : _root_.Fin 17) = i)), .bl (decide ((1 : _root_.Fin 17) = i)), .bl (decide ((2 : _root_.Fin 17) = i))])) l0 = some (.lst [.bl (decide ((0 : _root_.Fin 17) = i)), .bl (decide ((1 : _root_.Fin 17) = i)), .bl (decide ((2 : _root_.Fin 17) = i))]) := upd_same
    have z1 : Same H (upd H l0 (.lst [.bl (decide ((0 : _root_.Fin 17) = i)), .bl (decide ((1 : _root_.Fin 17) = i)), .bl (decide ((2 : _root_.Fin 17) = i))])) := Same.new hl0
    generalize upd H l0 _ = H1 at z1 el0 ⊢
    refine isX_go (A := A) (k := 3) (hv.same (z1)) rfl ?_
    refine isX_go (A := A) (k := 4) (hv.same (z1)) rfl ?_
    refine isX_go (A := A) (k := 5) (hv.same (z1)) rfl ?_
    refine ⟨by decide, fun l1 hl1 => ?_⟩
    have el1 : (upd H1 l1 (.lst [.bl (decide ((3 : _root_.Fin 17) = i)), .bl (decide ((4 : _root_.Fin 17) = i)), .bl (decide ((5 : _root_.Fin 17) = i))])) l1 = some (.lst [.bl (decide ((3 : _root_.Fin 17) = i)), .bl (decide ((4 : _root_.Fin 17) = i)), .bl (decide ((5 : _root_.Fin 17) = i))]) := upd_same
    have z2 : Same H1 (upd H1 l1 (.lst [.bl (decide ((3 : _root_.Fin 17) = i)), .bl (decide ((4 : _root_.Fin 17) = i)), .bl (decide ((5 : _root_.Fin 17) = i))])) := Same.new hl1
    generalize upd H1 l1 _ = H2 at z2 el1 ⊢
    refine ⟨[.bl (decide ((0 : _root_.Fin 17) = i)), .bl (decide ((1 : _root_.Fin 17) = i)), .bl (decide ((2 : _root_.Fin 17) = i))], ((z2) _ _ el0), [.bl (decide ((3 : _root_.Fin 17) = i)), .bl (decide ((4 : _root_.Fin 17) = i)), .bl (decide ((5 : _root_.Fin 17) = i))], ((Same.refl _) _ _ el1), by show 3 + 3 ≤ sizeLine; decide, fun m1 hm1 => ?_⟩
    have em1 : (upd H2 m1 (.lst ([.bl (decide ((0 : _root_.Fin 17) = i)), .bl (decide ((1 : _root_.Fin 17) = i)), .bl (decide ((2 : _root_.Fin 17) = i))] ++ [.bl (decide ((3 : _root_.Fin 17) = i)), .bl (decide ((4 : _root_.Fin 17) = i)), .bl (decide ((5 : _root_.Fin 17) = i))]))) m1 = some (.lst ([.bl (decide ((0 : _root_.Fin 17) = i)), .bl (decide ((1 : _root_.Fin 17) = i)), .bl (decide ((2 : _root_.Fin 17) = i))] ++ [.bl (decide ((3 : _root_.Fin 17) = i)), .bl (decide ((4 : _root_.Fin 17) = i)), .bl (decide ((5 : _root_.Fin 17) = i))])) := upd_same
    have z3 : Same H2 (upd H2 m1 (.lst ([.bl (decide ((0 : _root_.Fin 17) = i)), .bl (decide ((1 : _root_.Fin 17) = i)), .bl (decide ((2 : _root_.Fin 17) = i))] ++ [.bl (decide ((3 : _root_.Fin 17) = i)), .bl (decide ((4 : _root_.Fin 17) = i)), .bl (decide ((5 : _root_.Fin 17) = i))]))) := Same.new hm1
    generalize upd H2 m1 _ = H3 at z3 em1 ⊢
    have em1 : H3 m1 = some (.lst [.bl (decide ((0 : _root_.Fin 17) = i)), .bl (decide ((1 : _root_.Fin 17) = i)), .bl (decide ((2 : _root_.Fin 17) = i)), .bl (decide ((3 : _root_.Fin 17) = i)), .bl (decide ((4 : _root_.Fin 17) = i)), .bl (decide ((5 : _root_.Fin 17) = i))]) := em1
    refine isX_go (A := A) (k := 6) (hv.same (z1.trans (z2.trans (z3)))) rfl ?_
    refine isX_go (A := A) (k := 7) (hv.same (z1.trans (z2.trans (z3)))) rfl ?_
    refine isX_go (A := A) (k := 8) (hv.same (z1.trans (z2.trans (z3)))) rfl ?_
    refine ⟨by decide, fun l2 hl2 => ?_⟩
    have el2 : (upd H3 l2 (.lst [.bl (decide ((6 : _root_.Fin 17) = i)), .bl (decide ((7 : _root_.Fin 17) = i)), .bl (decide ((8 : _root_.Fin 17) = i))])) l2 = some (.lst [.bl (decide ((6 : _root_.Fin 17) = i)), .bl (decide ((7 : _root_.Fin 17) = i)), .bl (decide ((8 : _root_.Fin 17) = i))]) := upd_same
    have z4 : Same H3 (upd H3 l2 (.lst [.bl (decide ((6 : _root_.Fin 17) = i)), .bl (decide ((7 : _root_.Fin 17) = i)), .bl (decide ((8 : _root_.Fin 17) = i))])) := Same.new hl2
    generalize upd H3 l2 _ = H4 at z4 el2 ⊢
    refine ⟨[.bl (decide ((0 : _root_.Fin 17) = i)), .bl (decide ((1 : _root_.Fin 17) = i)), .bl (decide ((2 : _root_.Fin 17) = i)), .bl (decide ((3 : _root_.Fin 17) = i)), .bl (decide ((4 : _root_.Fin 17) = i)), .bl (decide ((5 : _root_.Fin 17) = i))], ((z4) _ _ em1), [.bl (decide ((6 : _root_.Fin 17) = i)), .bl (decide ((7 : _root_.Fin 17) = i)), .bl (decide ((8 : _root_.Fin 17) = i))], ((Same.refl _) _ _ el2), by show 6 + 3 ≤ sizeLine; decide, fun m2 hm2 => ?_⟩
    have em2 : (upd H4 m2 (.lst ([.bl (decide ((0 : _root_.Fin 17) = i)), .bl (decide ((1 : _root_.Fin 17) = i)), .bl (decide ((2 : _root_.Fin 17) = i)), .bl (decide ((3 : _root_.Fin 17) = i)), .bl (decide ((4 : _root_.Fin 17) = i)), .bl (decide ((5 : _root_.Fin 17) = i))] ++ [.bl (decide ((6 : _root_.Fin 17) = i)), .bl (decide ((7 : _root_.Fin 17) = i)), .bl (decide ((8 : _root_.Fin 17) = i))]))) m2 = some (.lst ([.bl (decide ((0 : _root_.Fin 17) = i)), .bl (decide ((1 : _root_.Fin 17) = i)), .bl (decide ((2 : _root_.Fin 17) = i)), .bl (decide ((3 : _root_.Fin 17) = i)), .bl (decide ((4 : _root_.Fin 17) = i)), .bl (decide ((5 : _root_.Fin 17) = i))] ++ [.bl (decide ((6 : _root_.Fin 17) = i)), .bl (decide ((7 : _root_.Fin 17) = i)), .bl (decide ((8 : _root_.Fin 17) = i))])) := upd_same
    have z5 : Same H4 (upd H4 m2 (.lst ([.bl (decide ((0 : _root_.Fin 17) = i)), .bl (decide ((1 : _root_.Fin 17) = i)), .bl (decide ((2 : _root_.Fin 17) = i)), .bl (decide ((3 : _root_.Fin 17) = i)), .bl (decide ((4 : _root_.Fin 17) = i)), .bl (decide ((5 : _root_.Fin 17) = i))] ++ [.bl (decide ((6 : _root_.Fin 17) = i)), .bl (decide ((7 : _root_.Fin 17) = i)), .bl (decide ((8 : _root_.Fin 17) = i))]))) := Same.new hm2
    generalize upd H4 m2 _ = H5 at z5 em2 ⊢
    have em2 : H5 m2 = some (.lst [.bl (decide ((0 : _root_.Fin 17) = i)), .bl (decide ((1 : _root_.Fin 17) = i)), .bl (decide ((2 : _root_.Fin 17) = i)), .bl (decide ((3 : _root_.Fin 17) = i)), .bl (decide ((4 : _root_.Fin 17) = i)), .bl (decide ((5 : _root_.Fin 17) = i)), .bl (decide ((6 : _root_.Fin 17) = i)), .bl (decide ((7 : _root_.Fin 17) = i)), .bl (decide ((8 : _root_.Fin 17) = i))]) := em2
    refine isX_go (A := A) (k := 9) (hv.same (z1.trans (z2.trans (z3.trans (z4.trans (z5)))))) rfl ?_
    refine isX_go (A := A) (k := 10) (hv.same (z1.trans (z2.trans (z3.trans (z4.trans (z5)))))) rfl ?_
    refine isX_go (A := A) (k := 11) (hv.same (z1.trans (z2.trans (z3.trans (z4.trans (z5)))))) rfl ?_
    refine ⟨by decide, fun l3 hl3 => ?_⟩
    have el3 : (upd H5 l3 (.lst [.bl (decide ((9 : _root_.Fin 17) = i)), .bl (decide ((10 : _root_.Fin 17) = i)), .bl (decide ((11 : _root_.Fin 17) = i))])) l3 = some (.lst [.bl (decide ((9 : _root_.Fin 17) = i)), .bl (decide ((10 : _root_.Fin 17) = i)), .bl (decide ((11 : _root_.Fin 17) = i))]) := upd_same
    have z6 : Same H5 (upd H5 l3 (.lst [.bl (decide ((9 : _root_.Fin 17) = i)), .bl (decide ((10 : _root_.Fin 17) = i)), .bl (decide ((11 : _root_.Fin 17) = i))])) := Same.new hl3
    generalize upd H5 l3 _ = H6 at z6 el3 ⊢
    refine ⟨[.bl (decide ((0 : _root_.Fin 17) = i)), .bl (decide ((1 : _root_.Fin 17) = i)), .bl (decide ((2 : _root_.Fin 17) = i)), .bl (decide ((3 : _root_.Fin 17) = i)), .bl (decide ((4 : _root_.Fin 17) = i)), .bl (decide ((5 : _root_.Fin 17) = i)), .bl (decide ((6 : _root_.Fin 17) = i)), .bl (decide ((7 : _root_.Fin 17) = i)), .bl (decide ((8 : _root_.Fin 17) = i))], ((z6) _ _ em2), [.bl (decide ((9 : _root_.Fin 17) = i)), .bl (decide ((10 : _root_.Fin 17) = i)), .bl (decide ((11 : _root_.Fin 17) = i))], ((Same.refl _) _ _ el3), by show 9 + 3 ≤ sizeLine; decide, fun m3 hm3 => ?_⟩
    have em3 : (upd H6 m3 (.lst ([.bl (decide ((0 : _root_.Fin 17) = i)), .bl (decide ((1 : _root_.Fin 17) = i)), .bl (decide ((2 : _root_.Fin 17) = i)), .bl (decide ((3 : _root_.Fin 17) = i)), .bl (decide ((4 : _root_.Fin 17) = i)), .bl (decide ((5 : _root_.Fin 17) = i)), .bl (decide ((6 : _root_.Fin 17) = i)), .bl (decide ((7 : _root_.Fin 17) = i)), .bl (decide ((8 : _root_.Fin 17) = i))] ++ [.bl (decide ((9 : _root_.Fin 17) = i)), .bl (decide ((10 : _root_.Fin 17) = i)), .bl (decide ((11 : _root_.Fin 17) = i))]))) m3 = some (.lst ([.bl (decide ((0 : _root_.Fin 17) = i)), .bl (decide ((1 : _root_.Fin 17) = i)), .bl (decide ((2 : _root_.Fin 17) = i)), .bl (decide ((3 : _root_.Fin 17) = i)), .bl (decide ((4 : _root_.Fin 17) = i)), .bl (decide ((5 : _root_.Fin 17) = i)), .bl (decide ((6 : _root_.Fin 17) = i)), .bl (decide ((7 : _root_.Fin 17) = i)), .bl (decide ((8 : _root_.Fin 17) = i))] ++ [.bl (decide ((9 : _root_.Fin 17) = i)), .bl (decide ((10 : _root_.Fin 17) = i)), .bl (decide ((11 : _root_.Fin 17) = i))])) := upd_same
    have z7 : Same H6 (upd H6 m3 (.lst ([.bl (decide ((0 : _root_.Fin 17) = i)), .bl (decide ((1 : _root_.Fin 17) = i)), .bl (decide ((2 : _root_.Fin 17) = i)), .bl (decide ((3 : _root_.Fin 17) = i)), .bl (decide ((4 : _root_.Fin 17) = i)), .bl (decide ((5 : _root_.Fin 17) = i)), .bl (decide ((6 : _root_.Fin 17) = i)), .bl (decide ((7 : _root_.Fin 17) = i)), .bl (decide ((8 : _root_.Fin 17) = i))] ++ [.bl (decide ((9 : _root_.Fin 17) = i)), .bl (decide ((10 : _root_.Fin 17) = i)), .bl (decide ((11 : _root_.Fin 17) = i))]))) := Same.new hm3
    generalize upd H6 m3 _ = H7 at z7 em3 ⊢
    have em3 : H7 m3 = some (.lst [.bl (decide ((0 : _root_.Fin 17) = i)), .bl (decide ((1 : _root_.Fin 17) = i)), .bl (decide ((2 : _root_.Fin 17) = i)), .bl (decide ((3 : _root_.Fin 17) = i)), .bl (decide ((4 : _root_.Fin 17) = i)), .bl (decide ((5 : _root_.Fin 17) = i)), .bl (decide ((6 : _root_.Fin 17) = i)), .bl (decide ((7 : _root_.Fin 17) = i)), .bl (decide ((8 : _root_.Fin 17) = i)), .bl (decide ((9 : _root_.Fin 17) = i)), .bl (decide ((10 : _root_.Fin 17) = i)), .bl (decide ((11 : _root_.Fin 17) = i))]) := em3
    refine isX_go (A := A) (k := 12) (hv.same (z1.trans (z2.trans (z3.trans (z4.trans (z5.trans (z6.trans (z7)))))))) rfl ?_
    refine isX_go (A := A) (k := 13) (hv.same (z1.trans (z2.trans (z3.trans (z4.trans (z5.trans (z6.trans (z7)))))))) rfl ?_
    refine isX_go (A := A) (k := 14) (hv.same (z1.trans (z2.trans (z3.trans (z4.trans (z5.trans (z6.trans (z7)))))))) rfl ?_
    refine ⟨by decide, fun l4 hl4 => ?_⟩
    have el4 : (upd H7 l4 (.lst [.bl (decide ((12 : _root_.Fin 17) = i)), .bl (decide ((13 : _root_.Fin 17) = i)), .bl (decide ((14 : _root_.Fin 17) = i))])) l4 = some (.lst [.bl (decide ((12 : _root_.Fin 17) = i)), .bl (decide ((13 : _root_.Fin 17) = i)), .bl (decide ((14 : _root_.Fin 17) = i))]) := upd_same
    have z8 : Same H7 (upd H7 l4 (.lst [.bl (decide ((12 : _root_.Fin 17) = i)), .bl (decide ((13 : _root_.Fin 17) = i)), .bl (decide ((14 : _root_.Fin 17) = i))])) := Same.new hl4
    generalize upd H7 l4 _ = H8 at z8 el4 ⊢
    refine ⟨[.bl (decide ((0 : _root_.Fin 17) = i)), .bl (decide ((1 : _root_.Fin 17) = i)), .bl (decide ((2 : _root_.Fin 17) = i)), .bl (decide ((3 : _root_.Fin 17) = i)), .bl (decide ((4 : _root_.Fin 17) = i)), .bl (decide ((5 : _root_.Fin 17) = i)), .bl (decide ((6 : _root_.Fin 17) = i)), .bl (decide ((7 : _root_.Fin 17) = i)), .bl (decide ((8 : _root_.Fin 17) = i)), .bl (decide ((9 : _root_.Fin 17) = i)), .bl (decide ((10 : _root_.Fin 17) = i)), .bl (decide ((11 : _root_.Fin 17) = i))], ((z8) _ _ em3), [.bl (decide ((12 : _root_.Fin 17) = i)), .bl (decide ((13 : _root_.Fin 17) = i)), .bl (decide ((14 : _root_.Fin 17) = i))], ((Same.refl _) _ _ el4), by show 12 + 3 ≤ sizeLine; decide, fun m4 hm4 => ?_⟩
    have em4 : (upd H8 m4 (.lst ([.bl (decide ((0 : _root_.Fin 17) = i)), .bl (decide ((1 : _root_.Fin 17) = i)), .bl (decide ((2 : _root_.Fin 17) = i)), .bl (decide ((3 : _root_.Fin 17) = i)), .bl (decide ((4 : _root_.Fin 17) = i)), .bl (decide ((5 : _root_.Fin 17) = i)), .bl (decide ((6 : _root_.Fin 17) = i)), .bl (decide ((7 : _root_.Fin 17) = i)), .bl (decide ((8 : _root_.Fin 17) = i)), .bl (decide ((9 : _root_.Fin 17) = i)), .bl (decide ((10 : _root_.Fin 17) = i)), .bl (decide ((11 : _root_.Fin 17) = i))] ++ [.bl (decide ((12 : _root_.Fin 17) = i)), .bl (decide ((13 : _root_.Fin 17) = i)), .bl (decide ((14 : _root_.Fin 17) = i))]))) m4 = some (.lst ([.bl (decide ((0 : _root_.Fin 17) = i)), .bl (decide ((1 : _root_.Fin 17) = i)), .bl (decide ((2 : _root_.Fin 17) = i)), .bl (decide ((3 : _root_.Fin 17) = i)), .bl (decide ((4 : _root_.Fin 17) = i)), .bl (decide ((5 : _root_.Fin 17) = i)), .bl (decide ((6 : _root_.Fin 17) = i)), .bl (decide ((7 : _root_.Fin 17) = i)), .bl (decide ((8 : _root_.Fin 17) = i)), .bl (decide ((9 : _root_.Fin 17) = i)), .bl (decide ((10 : _root_.Fin 17) = i)), .bl (decide ((11 : _root_.Fin 17) = i))] ++ [.bl (decide ((12 : _root_.Fin 17) = i)), .bl (decide ((13 : _root_.Fin 17) = i)), .bl (decide ((14 : _root_.Fin 17) = i))])) := upd_same
    have z9 : Same H8 (upd H8 m4 (.lst ([.bl (decide ((0 : _root_.Fin 17) = i)), .bl (decide ((1 : _root_.Fin 17) = i)), .bl (decide ((2 : _root_.Fin 17) = i)), .bl (decide ((3 : _root_.Fin 17) = i)), .bl (decide ((4 : _root_.Fin 17) = i)), .bl (decide ((5 : _root_.Fin 17) = i)), .bl (decide ((6 : _root_.Fin 17) = i)), .bl (decide ((7 : _root_.Fin 17) = i)), .bl (decide ((8 : _root_.Fin 17) = i)), .bl (decide ((9 : _root_.Fin 17) = i)), .bl (decide ((10 : _root_.Fin 17) = i)), .bl (decide ((11 : _root_.Fin 17) = i))] ++ [.bl (decide ((12 : _root_.Fin 17) = i)), .bl (decide ((13 : _root_.Fin 17) = i)), .bl (decide ((14 : _root_.Fin 17) = i))]))) := Same.new hm4
    generalize upd H8 m4 _ = H9 at z9 em4 ⊢
    have em4 : H9 m4 = some (.lst [.bl (decide ((0 : _root_.Fin 17) = i)), .bl (decide ((1 : _root_.Fin 17) = i)), .bl (decide ((2 : _root_.Fin 17) = i)), .bl (decide ((3 : _root_.Fin 17) = i)), .bl (decide ((4 : _root_.Fin 17) = i)), .bl (decide ((5 : _root_.Fin 17) = i)), .bl (decide ((6 : _root_.Fin 17) = i)), .bl (decide ((7 : _root_.Fin 17) = i)), .bl (decide ((8 : _root_.Fin 17) = i)), .bl (decide ((9 : _root_.Fin 17) = i)), .bl (decide ((10 : _root_.Fin 17) = i)), .bl (decide ((11 : _root_.Fin 17) = i)), .bl (decide ((12 : _root_.Fin 17) = i)), .bl (decide ((13 : _root_.Fin 17) = i)), .bl (decide ((14 : _root_.Fin 17) = i))]) := em4
    refine isX_go (A := A) (k := 15) (hv.same (z1.trans (z2.trans (z3.trans (z4.trans (z5.trans (z6.trans (z7.trans (z8.trans (z9)))))))))) rfl ?_
    refine isX_go (A := A) (k := 16) (hv.same (z1.trans (z2.trans (z3.trans (z4.trans (z5.trans (z6.trans (z7.trans (z8.trans (z9)))))))))) rfl ?_
    refine ⟨by decide, fun l5 hl5 => ?_⟩
    have el5 : (upd H9 l5 (.lst [.bl (decide ((15 : _root_.Fin 17) = i)), .bl (decide ((16 : _root_.Fin 17) = i))])) l5 = some (.lst [.bl (decide ((15 : _root_.Fin 17) = i)), .bl (decide ((16 : _root_.Fin 17) = i))]) := upd_same
    have z10 : Same H9 (upd H9 l5 (.lst [.bl (decide ((15 : _root_.Fin 17) = i)), .bl (decide ((16 : _root_.Fin 17) = i))])) := Same.new hl5
    generalize upd H9 l5 _ = H10 at z10 el5 ⊢
    refine ⟨[.bl (decide ((0 : _root_.Fin 17) = i)), .bl (decide ((1 : _root_.Fin 17) = i)), .bl (decide ((2 : _root_.Fin 17) = i)), .bl (decide ((3 : _root_.Fin 17) = i)), .bl (decide ((4 : _root_.Fin 17) = i)), .bl (decide ((5 : _root_.Fin 17) = i)), .bl (decide ((6 : _root_.Fin 17) = i)), .bl (decide ((7 : _root_.Fin 17) = i)), .bl (decide ((8 : _root_.Fin 17) = i)), .bl (decide ((9 : _root_.Fin 17) = i)), .bl (decide ((10 : _root_.Fin 17) = i)), .bl (decide ((11 : _root_.Fin 17) = i)), .bl (decide ((12 : _root_.Fin 17) = i)), .bl (decide ((13 : _root_.Fin 17) = i)), .bl (decide ((14 : _root_.Fin 17) = i))], ((z10) _ _ em4), [.bl (decide ((15 : _root_.Fin 17) = i)), .bl (decide ((16 : _root_.Fin 17) = i))], ((Same.refl _) _ _ el5), by show 15 + 2 ≤ sizeLine; decide, fun m5 hm5 => ?_⟩
    have em5 : (upd H10 m5 (.lst ([.bl (decide ((0 : _root_.Fin 17) = i)), .bl (decide ((1 : _root_.Fin 17) = i)), .bl (decide ((2 : _root_.Fin 17) = i)), .bl (decide ((3 : _root_.Fin 17) = i)), .bl (decide ((4 : _root_.Fin 17) = i)), .bl (decide ((5 : _root_.Fin 17) = i)), .bl (decide ((6 : _root_.Fin 17) = i)), .bl (decide ((7 : _root_.Fin 17) = i)), .bl (decide ((8 : _root_.Fin 17) = i)), .bl (decide ((9 : _root_.Fin 17) = i)), .bl (decide ((10 : _root_.Fin 17) = i)), .bl (decide ((11 : _root_.Fin 17) = i)), .bl (decide ((12 : _root_.Fin 17) = i)), .bl (decide ((13 : _root_.Fin 17) = i)), .bl (decide ((14 : _root_.Fin 17) = i))] ++ [.bl (decide ((15 : _root_.Fin 17) = i)), .bl (decide ((16 : _root_.Fin 17) = i))]))) m5 = some (.lst ([.bl (decide ((0 : _root_.Fin 17) = i)), .bl (decide ((1 : _root_.Fin 17) = i)), .bl (decide ((2 : _root_.Fin 17) = i)), .bl (decide ((3 : _root_.Fin 17) = i)), .bl (decide ((4 : _root_.Fin 17) = i)), .bl (decide ((5 : _root_.Fin 17) = i)), .bl (decide ((6 : _root_.Fin 17) = i)), .bl (decide ((7 : _root_.Fin 17) = i)), .bl (decide ((8 : _root_.Fin 17) = i)), .bl (decide ((9 : _root_.Fin 17) = i)), .bl (decide ((10 : _root_.Fin 17) = i)), .bl (decide ((11 : _root_.Fin 17) = i)), .bl (decide ((12 : _root_.Fin 17) = i)), .bl (decide ((13 : _root_.Fin 17) = i)), .bl (decide ((14 : _root_.Fin 17) = i))] ++ [.bl (decide ((15 : _root_.Fin 17) = i)), .bl (decide ((16 : _root_.Fin 17) = i))])) := upd_same
    have z11 : Same H10 (upd H10 m5 (.lst ([.bl (decide ((0 : _root_.Fin 17) = i)), .bl (decide ((1 : _root_.Fin 17) = i)), .bl (decide ((2 : _root_.Fin 17) = i)), .bl (decide ((3 : _root_.Fin 17) = i)), .bl (decide ((4 : _root_.Fin 17) = i)), .bl (decide ((5 : _root_.Fin 17) = i)), .bl (decide ((6 : _root_.Fin 17) = i)), .bl (decide ((7 : _root_.Fin 17) = i)), .bl (decide ((8 : _root_.Fin 17) = i)), .bl (decide ((9 : _root_.Fin 17) = i)), .bl (decide ((10 : _root_.Fin 17) = i)), .bl (decide ((11 : _root_.Fin 17) = i)), .bl (decide ((12 : _root_.Fin 17) = i)), .bl (decide ((13 : _root_.Fin 17) = i)), .bl (decide ((14 : _root_.Fin 17) = i))] ++ [.bl (decide ((15 : _root_.Fin 17) = i)), .bl (decide ((16 : _root_.Fin 17) = i))]))) := Same.new hm5
    generalize upd H10 m5 _ = H11 at z11 em5 ⊢
    have em5 : H11 m5 = some (.lst [.bl (decide ((0 : _root_.Fin 17) = i)), .bl (decide ((1 : _root_.Fin 17) = i)), .bl (decide ((2 : _root_.Fin 17) = i)), .bl (decide ((3 : _root_.Fin 17) = i)), .bl (decide ((4 : _root_.Fin 17) = i)), .bl (decide ((5 : _root_.Fin 17) = i)), .bl (decide ((6 : _root_.Fin 17) = i)), .bl (decide ((7 : _root_.Fin 17) = i)), .bl (decide ((8 : _root_.Fin 17) = i)), .bl (decide ((9 : _root_.Fin 17) = i)), .bl (decide ((10 : _root_.Fin 17) = i)), .bl (decide ((11 : _root_.Fin 17) = i)), .bl (decide ((12 : _root_.Fin 17) = i)), .bl (decide ((13 : _root_.Fin 17) = i)), .bl (decide ((14 : _root_.Fin 17) = i)), .bl (decide ((15 : _root_.Fin 17) = i)), .bl (decide ((16 : _root_.Fin 17) = i))]) := em5
    exact q _ _ (z1.trans (z2.trans (z3.trans (z4.trans (z5.trans (z6.trans (z7.trans (z8.trans (z9.trans (z10.trans (z11))))))))))) ((Same.refl _) _ _ em5)
end
end Ly
namespace Ly
open PySem PySem.Spec PyProof.Rows L2
local macro_rules | `(tactic| walk_at "vc") => `(tactic| simp only [tSeq, tAsg, tOp, tVar, tC, tRet, tRetN, tNext, tIfS, tIf, tDrop, tB, tTest, tNot, tAnd, tOr, tAndV, tOrV, tNotV, tChain, tUn, tCB, tCons, tNil, tTup, tLst, tSl, tPart, tNoPart, tCall, tBreak, tCont,
  rI, rI0, rU, gName, gNil, gCons, gSub, rSetL, L2.start, cx_K, cx_nox, tLc_eq, tFor_eq, iRng1, iRng2, iList, iTup, tM1, tYes, wipe, rIxS, rIxL, rIxT, rCat, rSlL, rEq, rNe, tMkO_eq, tVal_eq, tFldE_eq, tXfE_eq, tCallS, lenV_ref, CDiv, CDivW, CPow, CMulX,
  List.map_cons, List.map_nil, List.cons_append, List.nil_append, List.append_nil, List.length_cons, List.length_nil, List.replicate, List.getElem?_cons_zero, List.getElem?_cons_succ, List.set_cons_zero, List.set_cons_succ, Nat.reduceSub, Nat.reduceAdd,
  Option.some.injEq, V.int.injEq, V.bl.injEq, V.str.injEq, V.ref.injEq, exists_eq_left', exists_eq_left, exists_and_left, reduceCtorEq, false_and, and_false, exists_false, or_false, false_or, Bool.false_eq_true, if_false, if_true, reduceIte, decide_eq_true_eq, List.cons.injEq, and_true, true_and])
section
variable {P : Program} {w : World} {K : PySem.W.Frag} {mg : Str → Option Value} {base : Heap}
/-! ### _law_alone -/
def sp_alone (A : All K mg) : Sp := fun vs H Q _ => ∃ (v : V) (fs : List (Str × V)) (i : _root_.Fin 17), vs = [v, .int (i.val : Int)] ∧ IsE (cs A i) H v fs ∧ ∀ H', Same H H' → Q (.bl true) H'
theorem tab_at (i : _root_.Fin 17) {k : Nat} (h : k < 17) : ((List.finRange 17).map fun k => V.bl (decide (k = i)))[k]? = some (V.bl (decide (k = i.val))) := by
  rw [List.getElem?_map, List.getElem?_eq_getElem (by simpa using h)]
  simp [_root_.Fin.ext_iff]
theorem ok_l_alone (A : All K mg) : FnOk P w K mg base CX0 2 A.l_alone.f A.l_alone.fd ["made", "kind"] (sp_alone A) := by
  have G_l_kinds := ok_l_kinds (P := P) (w := w) (base := base) A
  refine A.l_alone.F.ok sc_l_alone (fun vs H Q E h => ?_) (fun cdv B outer s H vs Q E hr h => ?_)
  · obtain ⟨v, fs, i, rfl, _⟩ := h
    rfl
  · obtain ⟨v, fs, i, rfl, hv, q⟩ := h
    refine ⟨_, (pss_cons (ps_set (i := 2) sc_l_alone.nd rfl (by first | exact Or.inl rfl | exact Or.inr rfl) (pe_call G_l_kinds (hr.mono (by decide)) rfl A.l_kinds.m A.l_kinds.F.kp A.l_kinds.b .nil pass0 (pa_cons (pv 0) pa_nil))) (pss_cons (ps_for PassesOwn.never rfl (pi_range1 rfl A.n_range (pa_cons pe_int pa_nil)) (pg_name (i := 3) sc_l_alone.nd rfl (by first | exact Or.inl rfl | exact Or.inr rfl)) (pss_one (ps_if (pt_cmpR op_ne (pe_ix ix_list (pv 2) (pv 3) (fun _ _ => rfl)) (pe_cmpR op_eq (pv 3) (pv 1) (nomark _)) (nomark _)) (pss_one (ps_ret pe_bl)) pss_nil))) (pss_one (ps_ret (pe_and (pe_callB call_isX (by rfl) A.n_isinstance (by decide +kernel) (pa_cons (pv 0) (pa_cons (pe_glob (v := V.ref A.c_GraftError.C) rfl A.c_GraftError.g rfl) pa_nil))) (pe_one (pe_callB call_isX (by rfl) A.n_isinstance (by decide +kernel) (pa_cons (pv 0) (pa_cons (pe_bltn (v := V.ty "ValueError") (u := Value.type "ValueError") (by rfl) A.n_ValueError (by decide +kernel) rfl) pa_nil))))))))), ?_⟩
    walk_at "vc"
    refine ⟨v, fs, i, rfl, hv, fun l H1 z1 e1 => ⟨by decide, by decide, ?_⟩⟩
    refine ForB.range (fun k σ H' => Same H1 H' ∧ ∃ x, σ = [some v, some (.int (i.val : Int)), some (.ref l), x]) ⟨Same.refl _, none, rfl⟩ ?_ ?_
    · rintro k σ H2 hk ⟨z2, x, rfl⟩
      walk_at "vc"
      refine ⟨_, SqL.of (z2 _ _ e1), _, by rw [Int.zero_add]; exact atI_nat (tab_at i (by simpa using hk)), rfl, rfl, ?_⟩
      have e : decide (k = i.val) = decide (V.int (0 + (k : Int)) = V.int (i.val : Int)) := by
        rw [Int.zero_add]
        apply decide_eq_decide.mpr
        constructor
        · intro h; rw [h]
        · intro h
          have := V.int.inj h
          omega
      rw [e]
      exact iteNS (by simp) ⟨z2, _, rfl⟩
    · rintro σ H2 ⟨z2, x, rfl⟩
      walk_at "vc"
      exact isG_go (hv.same (z1.trans z2)) ⟨true, rfl, iteT (isV_go (hv.same (z1.trans z2)) (q _ (z1.trans z2)))⟩
/-! ### _law_of_value -/
def sp_of2 (K : PySem.W.Frag) (n : Nat) : Sp := fun vs H Q _ => ∃ (v u : V) (d e : PyData), vs = [v, u] ∧ Dp K H v d ∧ Dp K H u e ∧ Shp n d ∧ Shp n e ∧ ∀ H', Same H H' → Q (.bl true) H'
theorem fld_go {C : Addr} {H : Hp} {v : V} {fs : List (Str × V)} {n : Str} {x : V} {Q : VK} (h : IsE C H v fs) (T : XfC K C) (no : PySem.W.findIn K (.ref C) n = some none) (l : fs.lookup n = some x) (q : Q x H) : FldB K n v H Q := by
  obtain ⟨a, dd, rfl, h1, h2⟩ := h
  exact ⟨a, C, dd, fs, x, rfl, h1, h2, T, no, l, q⟩
theorem alike_go {n : Nat} {H : Hp} {v u : V} {d : PyData} {Q : VK} {E : XK} (hv : Dp K H v d) (hu : Dp K H u d) (hs : Shp n d) (q : ∀ H', Same H H' → Q (.bl true) H') : sp_alike K n [v, u] H Q E := ⟨v, u, d, rfl, hv, hu, hs, q⟩
theorem alone_go {A : All K mg} {C : Addr} {H : Hp} {v : V} {fs : List (Str × V)} {i : Int} (k : Nat) {Q : VK} {E : XK} (h : IsE C H v fs) (hk : k < 17) (hC : C = csN A k) (hi : i = (k : Int)) (q : ∀ H', Same H H' → Q (.bl true) H') : sp_alone A [v, .int i] H Q E := by
  subst hC
  subst hi
  exact ⟨v, fs, ⟨k, hk⟩, rfl, h, q⟩
theorem ok_l_of_value (A : All K mg) : FnOk P w K mg base CX0 10 A.l_of_value.f A.l_of_value.fd ["one", "other"] (sp_of2 K 9) := by
  have G_InvalidForest_init := ok_InvalidForest_init (P := P) (w := w) (base := base) A
  have G_InvalidPlot_init := ok_InvalidPlot_init (P := P) (w := w) (base := base) A
  have G_InvalidPrices_init := ok_InvalidPrices_init (P := P) (w := w) (base := base) A
  have G_InvalidMatching_init := ok_InvalidMatching_init (P := P) (w := w) (base := base) A
  have G_InvalidScript_init := ok_InvalidScript_init (P := P) (w := w) (base := base) A
  have G_InvalidTable_init := ok_InvalidTable_init (P := P) (w := w) (base := base) A
  have G_InvalidClaim_init := ok_InvalidClaim_init (P := P) (w := w) (base := base) A
  have G_InvalidNumber_init := ok_InvalidNumber_init (P := P) (w := w) (base := base) A
  have G_l_alone := ok_l_alone (P := P) (w := w) (base := base) A
  have G_l_alike := ok_l_alike (P := P) (w := w) (base := base) A
  refine A.l_of_value.F.ok sc_l_of_value (fun vs H Q E h => ?_) (fun cdv B outer s H vs Q E hr h => ?_)
  · obtain ⟨v, u, d, e, rfl, _⟩ := h
    rfl
  · obtain ⟨v, u, d, e, rfl, hv, hu, sv, su, q⟩ := h
    refine ⟨_, (pss_cons (ps_set (i := 2) sc_l_of_value.nd rfl (by first | exact Or.inl rfl | exact Or.inr rfl) (pe_lst (pa_cons (pe_val (pmk_oex A.c_InvalidForest.o A.c_InvalidForest.i A.c_InvalidForest.ty G_InvalidForest_init (hr.mono (by decide)) A.c_InvalidForest.b .nil pass0 rfl A.c_InvalidForest.g (pa_cons (pv 0) pa_nil))) (pa_cons (pe_val (pmk_oex A.c_InvalidPlot.o A.c_InvalidPlot.i A.c_InvalidPlot.ty G_InvalidPlot_init (hr.mono (by decide)) A.c_InvalidPlot.b .nil pass0 rfl A.c_InvalidPlot.g (pa_cons (pv 0) pa_nil))) (pa_cons (pe_val (pmk_oex A.c_InvalidPrices.o A.c_InvalidPrices.i A.c_InvalidPrices.ty G_InvalidPrices_init (hr.mono (by decide)) A.c_InvalidPrices.b .nil pass0 rfl A.c_InvalidPrices.g (pa_cons (pv 0) pa_nil))) (pa_cons (pe_val (pmk_oex A.c_InvalidMatching.o A.c_InvalidMatching.i A.c_InvalidMatching.ty G_InvalidMatching_init (hr.mono (by decide)) A.c_InvalidMatching.b .nil pass0 rfl A.c_InvalidMatching.g (pa_cons (pv 0) pa_nil))) (pa_cons (pe_val (pmk_oex A.c_InvalidScript.o A.c_InvalidScript.i A.c_InvalidScript.ty G_InvalidScript_init (hr.mono (by decide)) A.c_InvalidScript.b .nil pass0 rfl A.c_InvalidScript.g (pa_cons (pv 0) pa_nil))) pa_nil))))))) (pss_cons (ps_set (i := 2) sc_l_of_value.nd rfl (by first | exact Or.inl rfl | exact Or.inr rfl) (pe_op op_cat (pv 2) (pe_lst (pa_cons (pe_val (pmk_oex A.c_InvalidTable.o A.c_InvalidTable.i A.c_InvalidTable.ty G_InvalidTable_init (hr.mono (by decide)) A.c_InvalidTable.b .nil pass0 rfl A.c_InvalidTable.g (pa_cons (pv 0) pa_nil))) (pa_cons (pe_val (pmk_oex A.c_InvalidClaim.o A.c_InvalidClaim.i A.c_InvalidClaim.ty G_InvalidClaim_init (hr.mono (by decide)) A.c_InvalidClaim.b .nil pass0 rfl A.c_InvalidClaim.g (pa_cons (pv 0) pa_nil))) (pa_cons (pe_val (pmk_oex A.c_InvalidNumber.o A.c_InvalidNumber.i A.c_InvalidNumber.ty G_InvalidNumber_init (hr.mono (by decide)) A.c_InvalidNumber.b .nil pass0 rfl A.c_InvalidNumber.g (pa_cons (pv 0) pa_nil))) pa_nil)))))) (pss_cons (ps_set (i := 3) sc_l_of_value.nd rfl (by first | exact Or.inl rfl | exact Or.inr rfl) (pe_lst (pa_cons (pe_val (pmk_oex A.c_InvalidForest.o A.c_InvalidForest.i A.c_InvalidForest.ty G_InvalidForest_init (hr.mono (by decide)) A.c_InvalidForest.b .nil pass0 rfl A.c_InvalidForest.g (pa_cons (pv 1) pa_nil))) (pa_cons (pe_val (pmk_oex A.c_InvalidPlot.o A.c_InvalidPlot.i A.c_InvalidPlot.ty G_InvalidPlot_init (hr.mono (by decide)) A.c_InvalidPlot.b .nil pass0 rfl A.c_InvalidPlot.g (pa_cons (pv 1) pa_nil))) (pa_cons (pe_val (pmk_oex A.c_InvalidPrices.o A.c_InvalidPrices.i A.c_InvalidPrices.ty G_InvalidPrices_init (hr.mono (by decide)) A.c_InvalidPrices.b .nil pass0 rfl A.c_InvalidPrices.g (pa_cons (pv 1) pa_nil))) pa_nil))))) (pss_cons (ps_set (i := 3) sc_l_of_value.nd rfl (by first | exact Or.inl rfl | exact Or.inr rfl) (pe_op op_cat (pv 3) (pe_lst (pa_cons (pe_val (pmk_oex A.c_InvalidMatching.o A.c_InvalidMatching.i A.c_InvalidMatching.ty G_InvalidMatching_init (hr.mono (by decide)) A.c_InvalidMatching.b .nil pass0 rfl A.c_InvalidMatching.g (pa_cons (pv 1) pa_nil))) (pa_cons (pe_val (pmk_oex A.c_InvalidScript.o A.c_InvalidScript.i A.c_InvalidScript.ty G_InvalidScript_init (hr.mono (by decide)) A.c_InvalidScript.b .nil pass0 rfl A.c_InvalidScript.g (pa_cons (pv 1) pa_nil))) (pa_cons (pe_val (pmk_oex A.c_InvalidTable.o A.c_InvalidTable.i A.c_InvalidTable.ty G_InvalidTable_init (hr.mono (by decide)) A.c_InvalidTable.b .nil pass0 rfl A.c_InvalidTable.g (pa_cons (pv 1) pa_nil))) pa_nil)))))) (pss_cons (ps_set (i := 3) sc_l_of_value.nd rfl (by first | exact Or.inl rfl | exact Or.inr rfl) (pe_op op_cat (pv 3) (pe_lst (pa_cons (pe_val (pmk_oex A.c_InvalidClaim.o A.c_InvalidClaim.i A.c_InvalidClaim.ty G_InvalidClaim_init (hr.mono (by decide)) A.c_InvalidClaim.b .nil pass0 rfl A.c_InvalidClaim.g (pa_cons (pv 1) pa_nil))) (pa_cons (pe_val (pmk_oex A.c_InvalidNumber.o A.c_InvalidNumber.i A.c_InvalidNumber.ty G_InvalidNumber_init (hr.mono (by decide)) A.c_InvalidNumber.b .nil pass0 rfl A.c_InvalidNumber.g (pa_cons (pv 1) pa_nil))) pa_nil))))) (pss_cons (ps_for PassesOwn.never rfl (pi_range1 rfl A.n_range (pa_cons pe_int pa_nil)) (pg_name (i := 4) sc_l_of_value.nd rfl (by first | exact Or.inl rfl | exact Or.inr rfl)) (pss_cons (ps_if (PW.pt (pw_or (pt_not (pt_val (pe_call G_l_alike (hr.mono (by decide)) rfl A.l_alike.m A.l_alike.F.kp A.l_alike.b .nil pass0 (pa_cons (pe_fldE (pe_ix ix_list (pv 2) (pv 4) (fun _ _ => rfl))) (pa_cons (pv 0) pa_nil))))) (pw_or1 (pt_not (pt_val (pe_call G_l_alike (hr.mono (by decide)) rfl A.l_alike.m A.l_alike.F.kp A.l_alike.b .nil pass0 (pa_cons (pe_fldE (pe_ix ix_list (pv 3) (pv 4) (fun _ _ => rfl))) (pa_cons (pv 1) pa_nil)))))))) (pss_one (ps_ret pe_bl)) pss_nil) (pss_one (ps_if (pt_not (pt_val (pe_call G_l_alone (hr.mono (by decide)) rfl A.l_alone.m A.l_alone.F.kp A.l_alone.b .nil pass0 (pa_cons (pe_ix ix_list (pv 2) (pv 4) (fun _ _ => rfl)) (pa_cons (pv 4) pa_nil))))) (pss_one (ps_ret pe_bl)) pss_nil)))) (pss_one (ps_ret pe_bl)))))))), ?_⟩
    walk_at "vc"
    refine MkB.one fun da0 hda0 => ⟨_, rfl, da0, rfl, fun a0 ha0 => ?_⟩
    obtain ⟨z1, xa0⟩ := mkE hda0 ha0
    generalize upd (upd H da0 _) a0 _ = H1 at z1 xa0 ⊢
    refine MkB.one fun da1 hda1 => ⟨_, rfl, da1, rfl, fun a1 ha1 => ?_⟩
    obtain ⟨z2, xa1⟩ := mkE hda1 ha1
    generalize upd (upd H1 da1 _) a1 _ = H2 at z2 xa1 ⊢
    refine MkB.one fun da2 hda2 => ⟨_, rfl, da2, rfl, fun a2 ha2 => ?_⟩
    obtain ⟨z3, xa2⟩ := mkE hda2 ha2
    generalize upd (upd H2 da2 _) a2 _ = H3 at z3 xa2 ⊢
    refine MkB.one fun da3 hda3 => ⟨_, rfl, da3, rfl, fun a3 ha3 => ?_⟩
    obtain ⟨z4, xa3⟩ := mkE hda3 ha3
    generalize upd (upd H3 da3 _) a3 _ = H4 at z4 xa3 ⊢
    refine MkB.one fun da4 hda4 => ⟨_, rfl, da4, rfl, fun a4 ha4 => ?_⟩
    obtain ⟨z5, xa4⟩ := mkE hda4 ha4
    generalize upd (upd H4 da4 _) a4 _ = H5 at z5 xa4 ⊢
    refine ⟨by decide, fun l1 hl1 => ?_⟩
    have el1 : (upd H5 l1 (.lst [.ref a0, .ref a1, .ref a2, .ref a3, .ref a4])) l1 = some (.lst [.ref a0, .ref a1, .ref a2, .ref a3, .ref a4]) := upd_same
    have z6 : Same H5 (upd H5 l1 (.lst [.ref a0, .ref a1, .ref a2, .ref a3, .ref a4])) := Same.new hl1
    generalize upd H5 l1 _ = H6 at z6 el1 ⊢
    refine MkB.one fun da5 hda5 => ⟨_, rfl, da5, rfl, fun a5 ha5 => ?_⟩
    obtain ⟨z7, xa5⟩ := mkE hda5 ha5
    generalize upd (upd H6 da5 _) a5 _ = H7 at z7 xa5 ⊢
    refine MkB.one fun da6 hda6 => ⟨_, rfl, da6, rfl, fun a6 ha6 => ?_⟩
    obtain ⟨z8, xa6⟩ := mkE hda6 ha6
    generalize upd (upd H7 da6 _) a6 _ = H8 at z8 xa6 ⊢
    refine MkB.one fun da7 hda7 => ⟨_, rfl, da7, rfl, fun a7 ha7 => ?_⟩
    obtain ⟨z9, xa7⟩ := mkE hda7 ha7
    generalize upd (upd H8 da7 _) a7 _ = H9 at z9 xa7 ⊢
    refine ⟨by decide, fun l2 hl2 => ?_⟩
    have el2 : (upd H9 l2 (.lst [.ref a5, .ref a6, .ref a7])) l2 = some (.lst [.ref a5, .ref a6, .ref a7]) := upd_same
    have z10 : Same H9 (upd H9 l2 (.lst [.ref a5, .ref a6, .ref a7])) := Same.new hl2
    generalize upd H9 l2 _ = H10 at z10 el2 ⊢
    refine ⟨[.ref a0, .ref a1, .ref a2, .ref a3, .ref a4], ((z7.trans (z8.trans (z9.trans (z10)))) _ _ el1), [.ref a5, .ref a6, .ref a7], ((Same.refl _) _ _ el2), by show 5 + 3 ≤ sizeLine; decide, fun l3 hl3 => ?_⟩
    have el3 : (upd H10 l3 (.lst ([.ref a0, .ref a1, .ref a2, .ref a3, .ref a4] ++ [.ref a5, .ref a6, .ref a7]))) l3 = some (.lst ([.ref a0, .ref a1, .ref a2, .ref a3, .ref a4] ++ [.ref a5, .ref a6, .ref a7])) := upd_same
    have z11 : Same H10 (upd H10 l3 (.lst ([.ref a0, .ref a1, .ref a2, .ref a3, .ref a4] ++ [.ref a5, .ref a6, .ref a7]))) := Same.new hl3
    generalize upd H10 l3 _ = H11 at z11 el3 ⊢
    refine MkB.one fun db0 hdb0 => ⟨_, rfl, db0, rfl, fun b0 hb0 => ?_⟩
    obtain ⟨z12, xb0⟩ := mkE hdb0 hb0
    generalize upd (upd H11 db0 _) b0 _ = H12 at z12 xb0 ⊢
    refine MkB.one fun db1 hdb1 => ⟨_, rfl, db1, rfl, fun b1 hb1 => ?_⟩
    obtain ⟨z13, xb1⟩ := mkE hdb1 hb1
    generalize upd (upd H12 db1 _) b1 _ = H13 at z13 xb1 ⊢
    refine MkB.one fun db2 hdb2 => ⟨_, rfl, db2, rfl, fun b2 hb2 => ?_⟩
    obtain ⟨z14, xb2⟩ := mkE hdb2 hb2
    generalize upd (upd H13 db2 _) b2 _ = H14 at z14 xb2 ⊢
    refine ⟨by decide, fun m1 hm1 => ?_⟩
    have em1 : (upd H14 m1 (.lst [.ref b0, .ref b1, .ref b2])) m1 = some (.lst [.ref b0, .ref b1, .ref b2]) := upd_same
    have z15 : Same H14 (upd H14 m1 (.lst [.ref b0, .ref b1, .ref b2])) := Same.new hm1
    generalize upd H14 m1 _ = H15 at z15 em1 ⊢
    refine MkB.one fun db3 hdb3 => ⟨_, rfl, db3, rfl, fun b3 hb3 => ?_⟩
    obtain ⟨z16, xb3⟩ := mkE hdb3 hb3
    generalize upd (upd H15 db3 _) b3 _ = H16 at z16 xb3 ⊢
    refine MkB.one fun db4 hdb4 => ⟨_, rfl, db4, rfl, fun b4 hb4 => ?_⟩
    obtain ⟨z17, xb4⟩ := mkE hdb4 hb4
    generalize upd (upd H16 db4 _) b4 _ = H17 at z17 xb4 ⊢
    refine MkB.one fun db5 hdb5 => ⟨_, rfl, db5, rfl, fun b5 hb5 => ?_⟩
    obtain ⟨z18, xb5⟩ := mkE hdb5 hb5
    generalize upd (upd H17 db5 _) b5 _ = H18 at z18 xb5 ⊢
    refine ⟨by decide, fun m2 hm2 => ?_⟩
    have em2 : (upd H18 m2 (.lst [.ref b3, .ref b4, .ref b5])) m2 = some (.lst [.ref b3, .ref b4, .ref b5]) := upd_same
    have z19 : Same H18 (upd H18 m2 (.lst [.ref b3, .ref b4, .ref b5])) := Same.new hm2
    generalize upd H18 m2 _ = H19 at z19 em2 ⊢
    refine ⟨[.ref b0, .ref b1, .ref b2], ((z16.trans (z17.trans (z18.trans (z19)))) _ _ em1), [.ref b3, .ref b4, .ref b5], ((Same.refl _) _ _ em2), by show 3 + 3 ≤ sizeLine; decide, fun m3 hm3 => ?_⟩
    have em3 : (upd H19 m3 (.lst ([.ref b0, .ref b1, .ref b2] ++ [.ref b3, .ref b4, .ref b5]))) m3 = some (.lst ([.ref b0, .ref b1, .ref b2] ++ [.ref b3, .ref b4, .ref b5])) := upd_same
    have z20 : Same H19 (upd H19 m3 (.lst ([.ref b0, .ref b1, .ref b2] ++ [.ref b3, .ref b4, .ref b5]))) := Same.new hm3
    generalize upd H19 m3 _ = H20 at z20 em3 ⊢
    have em3 : H20 m3 = some (.lst [.ref b0, .ref b1, .ref b2, .ref b3, .ref b4, .ref b5]) := em3
    refine MkB.one fun db6 hdb6 => ⟨_, rfl, db6, rfl, fun b6 hb6 => ?_⟩
    obtain ⟨z21, xb6⟩ := mkE hdb6 hb6
    generalize upd (upd H20 db6 _) b6 _ = H21 at z21 xb6 ⊢
    refine MkB.one fun db7 hdb7 => ⟨_, rfl, db7, rfl, fun b7 hb7 => ?_⟩
    obtain ⟨z22, xb7⟩ := mkE hdb7 hb7
    generalize upd (upd H21 db7 _) b7 _ = H22 at z22 xb7 ⊢
    refine ⟨by decide, fun m4 hm4 => ?_⟩
    have em4 : (upd H22 m4 (.lst [.ref b6, .ref b7])) m4 = some (.lst [.ref b6, .ref b7]) := upd_same
    have z23 : Same H22 (upd H22 m4 (.lst [.ref b6, .ref b7])) := Same.new hm4
    generalize upd H22 m4 _ = H23 at z23 em4 ⊢
    refine ⟨[.ref b0, .ref b1, .ref b2, .ref b3, .ref b4, .ref b5], ((z21.trans (z22.trans (z23))) _ _ em3), [.ref b6, .ref b7], ((Same.refl _) _ _ em4), by show 6 + 2 ≤ sizeLine; decide, fun m5 hm5 => ?_⟩
    have em5 : (upd H23 m5 (.lst ([.ref b0, .ref b1, .ref b2, .ref b3, .ref b4, .ref b5] ++ [.ref b6, .ref b7]))) m5 = some (.lst ([.ref b0, .ref b1, .ref b2, .ref b3, .ref b4, .ref b5] ++ [.ref b6, .ref b7])) := upd_same
    have z24 : Same H23 (upd H23 m5 (.lst ([.ref b0, .ref b1, .ref b2, .ref b3, .ref b4, .ref b5] ++ [.ref b6, .ref b7]))) := Same.new hm5
    generalize upd H23 m5 _ = H24 at z24 em5 ⊢
    have Z := (z1.trans (z2.trans (z3.trans (z4.trans (z5.trans (z6.trans (z7.trans (z8.trans (z9.trans (z10.trans (z11.trans (z12.trans (z13.trans (z14.trans (z15.trans (z16.trans (z17.trans (z18.trans (z19.trans (z20.trans (z21.trans (z22.trans (z23.trans (z24))))))))))))))))))))))))
    have el : H24 l3 = some (.lst [.ref a0, .ref a1, .ref a2, .ref a3, .ref a4, .ref a5, .ref a6, .ref a7]) := ((z12.trans (z13.trans (z14.trans (z15.trans (z16.trans (z17.trans (z18.trans (z19.trans (z20.trans (z21.trans (z22.trans (z23.trans (z24))))))))))))) _ _ el3)
    have em : H24 m5 = some (.lst [.ref b0, .ref b1, .ref b2, .ref b3, .ref b4, .ref b5, .ref b6, .ref b7]) := em5
    have fa : ∀ k, k < 8 → ∃ y, [V.ref a0, V.ref a1, V.ref a2, V.ref a3, V.ref a4, V.ref a5, V.ref a6, V.ref a7][k]? = some y ∧ IsE (csN A k) H24 y [("value", v)] ∧ PySem.W.findIn K (.ref (csN A k)) "value" = some none := by
      intro k hk
      match k, hk with
      | 0, _ => exact ⟨_, rfl, xa0.same (z2.trans (z3.trans (z4.trans (z5.trans (z6.trans (z7.trans (z8.trans (z9.trans (z10.trans (z11.trans (z12.trans (z13.trans (z14.trans (z15.trans (z16.trans (z17.trans (z18.trans (z19.trans (z20.trans (z21.trans (z22.trans (z23.trans (z24))))))))))))))))))))))), A.c_InvalidForest.nf.1⟩
      | 1, _ => exact ⟨_, rfl, xa1.same (z3.trans (z4.trans (z5.trans (z6.trans (z7.trans (z8.trans (z9.trans (z10.trans (z11.trans (z12.trans (z13.trans (z14.trans (z15.trans (z16.trans (z17.trans (z18.trans (z19.trans (z20.trans (z21.trans (z22.trans (z23.trans (z24)))))))))))))))))))))), A.c_InvalidPlot.nf.1⟩
      | 2, _ => exact ⟨_, rfl, xa2.same (z4.trans (z5.trans (z6.trans (z7.trans (z8.trans (z9.trans (z10.trans (z11.trans (z12.trans (z13.trans (z14.trans (z15.trans (z16.trans (z17.trans (z18.trans (z19.trans (z20.trans (z21.trans (z22.trans (z23.trans (z24))))))))))))))))))))), A.c_InvalidPrices.nf.1⟩
      | 3, _ => exact ⟨_, rfl, xa3.same (z5.trans (z6.trans (z7.trans (z8.trans (z9.trans (z10.trans (z11.trans (z12.trans (z13.trans (z14.trans (z15.trans (z16.trans (z17.trans (z18.trans (z19.trans (z20.trans (z21.trans (z22.trans (z23.trans (z24)))))))))))))))))))), A.c_InvalidMatching.nf.1⟩
      | 4, _ => exact ⟨_, rfl, xa4.same (z6.trans (z7.trans (z8.trans (z9.trans (z10.trans (z11.trans (z12.trans (z13.trans (z14.trans (z15.trans (z16.trans (z17.trans (z18.trans (z19.trans (z20.trans (z21.trans (z22.trans (z23.trans (z24))))))))))))))))))), A.c_InvalidScript.nf.1⟩
      | 5, _ => exact ⟨_, rfl, xa5.same (z8.trans (z9.trans (z10.trans (z11.trans (z12.trans (z13.trans (z14.trans (z15.trans (z16.trans (z17.trans (z18.trans (z19.trans (z20.trans (z21.trans (z22.trans (z23.trans (z24))))))))))))))))), A.c_InvalidTable.nf.1⟩
      | 6, _ => exact ⟨_, rfl, xa6.same (z9.trans (z10.trans (z11.trans (z12.trans (z13.trans (z14.trans (z15.trans (z16.trans (z17.trans (z18.trans (z19.trans (z20.trans (z21.trans (z22.trans (z23.trans (z24)))))))))))))))), A.c_InvalidClaim.nf.1⟩
      | 7, _ => exact ⟨_, rfl, xa7.same (z10.trans (z11.trans (z12.trans (z13.trans (z14.trans (z15.trans (z16.trans (z17.trans (z18.trans (z19.trans (z20.trans (z21.trans (z22.trans (z23.trans (z24))))))))))))))), A.c_InvalidNumber.nf.1⟩
      | n + 8, h => omega
    have fb : ∀ k, k < 8 → ∃ y, [V.ref b0, V.ref b1, V.ref b2, V.ref b3, V.ref b4, V.ref b5, V.ref b6, V.ref b7][k]? = some y ∧ IsE (csN A k) H24 y [("value", u)] ∧ PySem.W.findIn K (.ref (csN A k)) "value" = some none := by
      intro k hk
      match k, hk with
      | 0, _ => exact ⟨_, rfl, xb0.same (z13.trans (z14.trans (z15.trans (z16.trans (z17.trans (z18.trans (z19.trans (z20.trans (z21.trans (z22.trans (z23.trans (z24)))))))))))), A.c_InvalidForest.nf.1⟩
      | 1, _ => exact ⟨_, rfl, xb1.same (z14.trans (z15.trans (z16.trans (z17.trans (z18.trans (z19.trans (z20.trans (z21.trans (z22.trans (z23.trans (z24))))))))))), A.c_InvalidPlot.nf.1⟩
      | 2, _ => exact ⟨_, rfl, xb2.same (z15.trans (z16.trans (z17.trans (z18.trans (z19.trans (z20.trans (z21.trans (z22.trans (z23.trans (z24)))))))))), A.c_InvalidPrices.nf.1⟩
      | 3, _ => exact ⟨_, rfl, xb3.same (z17.trans (z18.trans (z19.trans (z20.trans (z21.trans (z22.trans (z23.trans (z24)))))))), A.c_InvalidMatching.nf.1⟩
      | 4, _ => exact ⟨_, rfl, xb4.same (z18.trans (z19.trans (z20.trans (z21.trans (z22.trans (z23.trans (z24))))))), A.c_InvalidScript.nf.1⟩
      | 5, _ => exact ⟨_, rfl, xb5.same (z19.trans (z20.trans (z21.trans (z22.trans (z23.trans (z24)))))), A.c_InvalidTable.nf.1⟩
      | 6, _ => exact ⟨_, rfl, xb6.same (z22.trans (z23.trans (z24))), A.c_InvalidClaim.nf.1⟩
      | 7, _ => exact ⟨_, rfl, xb7.same (z23.trans (z24)), A.c_InvalidNumber.nf.1⟩
      | n + 8, h => omega
    generalize H24 = HE at el em fa fb Z ⊢
    refine ⟨by decide, by decide, ?_⟩
    refine ForB.range (fun k σ H' => Same HE H' ∧ ∃ x, σ = [some v, some u, some (.ref l3), some (.ref m5), x]) ⟨Same.refl _, none, rfl⟩ ?_ ?_
    · rintro k σ H2 hk ⟨z2, x, rfl⟩
      have hk8 : k < 8 := by simpa using hk
      obtain ⟨y, hy, ey, ny⟩ := fa k hk8
      obtain ⟨y', hy', ey', ny'⟩ := fb k hk8
      walk_at "vc"
      refine ⟨_, SqL.of (z2 _ _ el), y, by rw [Int.zero_add]; exact atI_nat hy, fld_go (ey.same z2) (xfN A k) ny rfl ?_⟩
      refine alike_go (Dp.same (Z.trans z2) _ _ hv) (Dp.same (Z.trans z2) _ _ hv) sv fun H3 z3 => ⟨true, rfl, iteF ?_⟩
      have z23 := z2.trans z3
      refine ⟨_, SqL.of (z23 _ _ em), y', by rw [Int.zero_add]; exact atI_nat hy', fld_go (ey'.same z23) (xfN A k) ny' rfl ?_⟩
      refine alike_go (Dp.same (Z.trans z23) _ _ hu) (Dp.same (Z.trans z23) _ _ hu) su fun H4 z4 => ⟨true, rfl, iteF ?_⟩
      have z24 := z23.trans z4
      refine ⟨_, SqL.of (z24 _ _ el), y, by rw [Int.zero_add]; exact atI_nat hy, ?_⟩
      refine alone_go k (ey.same z24) (by omega) rfl (by omega) fun H5 z5 => ⟨true, rfl, iteF ⟨z24.trans z5, _, rfl⟩⟩
    · rintro σ H2 ⟨z2, x, rfl⟩
      walk_at "vc"
      exact q _ (Z.trans z2)
/-! ### _law_of_path -/
theorem ok_l_of_path (A : All K mg) : FnOk P w K mg base CX0 10 A.l_of_path.f A.l_of_path.fd ["one", "other"] (sp_of2 K 9) := by
  have G_InvalidPath_init := ok_InvalidPath_init (P := P) (w := w) (base := base) A
  have G_l_alike := ok_l_alike (P := P) (w := w) (base := base) A
  have G_l_alone := ok_l_alone (P := P) (w := w) (base := base) A
  refine A.l_of_path.F.ok sc_l_of_path (fun vs H Q E h => ?_) (fun cdv B outer s H vs Q E hr h => ?_)
  · obtain ⟨v, u, d, e, rfl, _⟩ := h
    rfl
  · obtain ⟨v, u, d, e, rfl, hv, hu, sv, su, q⟩ := h
    refine ⟨_, (pss_cons (ps_set (i := 2) sc_l_of_path.nd rfl (by first | exact Or.inl rfl | exact Or.inr rfl) (pe_val (pmk_oex A.c_InvalidPath.o A.c_InvalidPath.i A.c_InvalidPath.ty G_InvalidPath_init (hr.mono (by decide)) A.c_InvalidPath.b .nil pass0 rfl A.c_InvalidPath.g (pa_cons (pv 0) pa_nil)))) (pss_cons (ps_set (i := 3) sc_l_of_path.nd rfl (by first | exact Or.inl rfl | exact Or.inr rfl) (pe_val (pmk_oex A.c_InvalidPath.o A.c_InvalidPath.i A.c_InvalidPath.ty G_InvalidPath_init (hr.mono (by decide)) A.c_InvalidPath.b .nil pass0 rfl A.c_InvalidPath.g (pa_cons (pv 1) pa_nil)))) (pss_one (ps_ret (pe_and (pe_call G_l_alike (hr.mono (by decide)) rfl A.l_alike.m A.l_alike.F.kp A.l_alike.b .nil pass0 (pa_cons (pe_fldE (pv 2)) (pa_cons (pv 0) pa_nil))) (pe_and (pe_call G_l_alike (hr.mono (by decide)) rfl A.l_alike.m A.l_alike.F.kp A.l_alike.b .nil pass0 (pa_cons (pe_fldE (pv 3)) (pa_cons (pv 1) pa_nil))) (pe_one (pe_call G_l_alone (hr.mono (by decide)) rfl A.l_alone.m A.l_alone.F.kp A.l_alone.b .nil pass0 (pa_cons (pv 2) (pa_cons pe_int pa_nil)))))))))), ?_⟩
    walk_at "vc"
    refine MkB.one fun d1 h1 => ⟨_, rfl, d1, rfl, fun a1 g1 => ?_⟩
    obtain ⟨z1, x1⟩ := mkE h1 g1
    generalize upd (upd H d1 _) a1 _ = H1 at z1 x1 ⊢
    refine MkB.one fun d2 h2 => ⟨_, rfl, d2, rfl, fun a2 g2 => ?_⟩
    obtain ⟨z2, x2⟩ := mkE h2 g2
    generalize upd (upd H1 d2 _) a2 _ = H2 at z2 x2 ⊢
    have z12 := z1.trans z2
    refine fld_go (x1.same z2) (xfN A 8) A.c_InvalidPath.nf.1 rfl (alike_go (Dp.same z12 _ _ hv) (Dp.same z12 _ _ hv) sv fun H3 z3 => ⟨true, rfl, iteT ?_⟩)
    have z13 := z12.trans z3
    refine fld_go (x2.same z3) (xfN A 8) A.c_InvalidPath.nf.1 rfl (alike_go (Dp.same z13 _ _ hu) (Dp.same z13 _ _ hu) su fun H4 z4 => ⟨true, rfl, iteT ?_⟩)
    exact alone_go 8 (x1.same (z2.trans (z3.trans z4))) (by omega) rfl rfl fun H5 z5 => q _ (z13.trans (z4.trans z5))
end
end Ly
namespace Ly
open PySem PySem.Spec PyProof.Rows L2
local macro_rules | `(tactic| walk_at "vc") => `(tactic| simp only [tSeq, tAsg, tOp, tVar, tC, tRet, tRetN, tNext, tIfS, tIf, tDrop, tB, tTest, tNot, tAnd, tOr, tAndV, tOrV, tNotV, tChain, tUn, tCB, tCons, tNil, tTup, tLst, tSl, tPart, tNoPart, tCall, tBreak, tCont,
  rI, rI0, rU, gName, gNil, gCons, gSub, rSetL, L2.start, cx_K, cx_nox, tLc_eq, tFor_eq, iRng1, iRng2, iList, iTup, tM1, tYes, wipe, rIxS, rIxL, rIxT, rCat, rSlL, rEq, rNe, tMkO_eq, tVal_eq, tFldE_eq, tXfE_eq, tCallS, lenV_ref, CDiv, CDivW, CPow, CMulX,
  List.map_cons, List.map_nil, List.cons_append, List.nil_append, List.append_nil, List.length_cons, List.length_nil, List.replicate, List.getElem?_cons_zero, List.getElem?_cons_succ, List.set_cons_zero, List.set_cons_succ, Nat.reduceSub, Nat.reduceAdd,
  Option.some.injEq, V.int.injEq, V.bl.injEq, V.str.injEq, V.ref.injEq, exists_eq_left', exists_eq_left, exists_and_left, reduceCtorEq, false_and, and_false, exists_false, or_false, false_or, Bool.false_eq_true, if_false, if_true, reduceIte, decide_eq_true_eq, List.cons.injEq, and_true, true_and])
section
variable {P : Program} {w : World} {K : PySem.W.Frag} {mg : Str → Option Value} {base : Heap}
/-! ### _law_of_text -/
theorem pairD {H : Hp} {p : Addr} {v u : V} {d e : PyData} (h : H p = some (.tup [v, u])) (a : Dp K H v d) (b : Dp K H u e) : Dp K H (.ref p) (.tuple [d, e]) := .tup (SqT.of h) (.cons a (.cons b .nil))
theorem shp2 {n : Nat} {d e : PyData} (a : Shp n d) (b : Shp n e) : Shp (n + 1) (.tuple [d, e]) := ⟨by simp, fun x hx => by
  rcases List.mem_cons.mp hx with h | h
  · exact h ▸ a
  · have h' : x = e := by simpa using h
    exact h' ▸ b⟩
theorem lk1 {n m : Str} {v w : V} : ([(m, w), (n, v)] : List (Str × V)).lookup m = some w := by rw [lookup_put, if_pos rfl]
theorem lk2 {n m : Str} {v w : V} (h : n ≠ m) : ([(m, w), (n, v)] : List (Str × V)).lookup n = some v := by rw [lookup_put, if_neg h, lookup_put, if_pos rfl]
def sp_text : Sp := fun vs H Q _ => ∃ (x : Str) (n : Int), vs = [.str x, .int n] ∧ x.length ≤ 100 ∧ ∀ H', Same H H' → Q (.bl true) H'
theorem ok_l_of_text (A : All K mg) : FnOk P w K mg base CX0 10 A.l_of_text.f A.l_of_text.fd ["text", "at"] sp_text := by
  have G_InvalidText_init := ok_InvalidText_init (P := P) (w := w) (base := base) A
  have G_InvalidCommand_init := ok_InvalidCommand_init (P := P) (w := w) (base := base) A
  have G_l_alike := ok_l_alike (P := P) (w := w) (base := base) A
  have G_l_alone := ok_l_alone (P := P) (w := w) (base := base) A
  refine A.l_of_text.F.ok sc_l_of_text (fun vs H Q E h => ?_) (fun cdv B outer s H vs Q E hr h => ?_)
  · obtain ⟨x, n, rfl, _⟩ := h
    rfl
  · obtain ⟨x, n, rfl, hx, q⟩ := h
    refine ⟨_, (pss_cons (ps_set (i := 2) sc_l_of_text.nd rfl (by first | exact Or.inl rfl | exact Or.inr rfl) (pe_val (pmk_oex A.c_InvalidText.o A.c_InvalidText.i A.c_InvalidText.ty G_InvalidText_init (hr.mono (by decide)) A.c_InvalidText.b .nil pass0 rfl A.c_InvalidText.g (pa_cons (pv 0) (pa_cons (pv 1) pa_nil))))) (pss_cons (ps_set (i := 3) sc_l_of_text.nd rfl (by first | exact Or.inl rfl | exact Or.inr rfl) (pe_val (pmk_oex A.c_InvalidText.o A.c_InvalidText.i A.c_InvalidText.ty G_InvalidText_init (hr.mono (by decide)) A.c_InvalidText.b .nil pass0 rfl A.c_InvalidText.g (pa_cons (pe_op op_add_str (pv 0) pe_str) (pa_cons (pe_op op_add (pv 1) pe_int) pa_nil))))) (pss_cons (ps_set (i := 4) sc_l_of_text.nd rfl (by first | exact Or.inl rfl | exact Or.inr rfl) (pe_val (pmk_oex A.c_InvalidCommand.o A.c_InvalidCommand.i A.c_InvalidCommand.ty G_InvalidCommand_init (hr.mono (by decide)) A.c_InvalidCommand.b .nil pass0 rfl A.c_InvalidCommand.g (pa_cons (pv 0) (pa_cons (pv 1) pa_nil))))) (pss_cons (ps_set (i := 5) sc_l_of_text.nd rfl (by first | exact Or.inl rfl | exact Or.inr rfl) (pe_val (pmk_oex A.c_InvalidCommand.o A.c_InvalidCommand.i A.c_InvalidCommand.ty G_InvalidCommand_init (hr.mono (by decide)) A.c_InvalidCommand.b .nil pass0 rfl A.c_InvalidCommand.g (pa_cons (pe_op op_add_str (pv 0) pe_str) (pa_cons (pe_op op_add (pv 1) pe_int) pa_nil))))) (pss_cons (ps_if (PW.pt (pw_or (pt_not (pt_val (pe_call G_l_alike (hr.mono (by decide)) rfl A.l_alike.m A.l_alike.F.kp A.l_alike.b .nil pass0 (pa_cons (pe_tup (pa_cons (pe_fldE (pv 2)) (pa_cons (pe_fldE (pv 2)) pa_nil))) (pa_cons (pe_tup (pa_cons (pv 0) (pa_cons (pv 1) pa_nil))) pa_nil))))) (pw_or1 (pt_not (pt_val (pe_call G_l_alike (hr.mono (by decide)) rfl A.l_alike.m A.l_alike.F.kp A.l_alike.b .nil pass0 (pa_cons (pe_tup (pa_cons (pe_fldE (pv 4)) (pa_cons (pe_fldE (pv 4)) pa_nil))) (pa_cons (pe_tup (pa_cons (pv 0) (pa_cons (pv 1) pa_nil))) pa_nil)))))))) (pss_one (ps_ret pe_bl)) pss_nil) (pss_cons (ps_if (pt_not (pt_val (pe_call G_l_alike (hr.mono (by decide)) rfl A.l_alike.m A.l_alike.F.kp A.l_alike.b .nil pass0 (pa_cons (pe_tup (pa_cons (pe_fldE (pv 3)) (pa_cons (pe_fldE (pv 3)) pa_nil))) (pa_cons (pe_tup (pa_cons (pe_op op_add_str (pv 0) pe_str) (pa_cons (pe_op op_add (pv 1) pe_int) pa_nil))) pa_nil))))) (pss_one (ps_ret pe_bl)) pss_nil) (pss_cons (ps_if (pt_not (pt_val (pe_call G_l_alike (hr.mono (by decide)) rfl A.l_alike.m A.l_alike.F.kp A.l_alike.b .nil pass0 (pa_cons (pe_tup (pa_cons (pe_fldE (pv 5)) (pa_cons (pe_fldE (pv 5)) pa_nil))) (pa_cons (pe_tup (pa_cons (pe_op op_add_str (pv 0) pe_str) (pa_cons (pe_op op_add (pv 1) pe_int) pa_nil))) pa_nil))))) (pss_one (ps_ret pe_bl)) pss_nil) (pss_one (ps_ret (pe_and (pe_call G_l_alone (hr.mono (by decide)) rfl A.l_alone.m A.l_alone.F.kp A.l_alone.b .nil pass0 (pa_cons (pv 2) (pa_cons pe_int pa_nil))) (pe_one (pe_call G_l_alone (hr.mono (by decide)) rfl A.l_alone.m A.l_alone.F.kp A.l_alone.b .nil pass0 (pa_cons (pv 4) (pa_cons pe_int pa_nil)))))))))))))), ?_⟩
    walk_at "vc"
    refine MkB.two fun dfirst hdfirst => ⟨_, rfl, dfirst, rfl, fun first hfirst => ?_⟩
    obtain ⟨z1, xfirst⟩ := mkE hdfirst hfirst
    generalize upd (upd H dfirst _) first _ = H1 at z1 xfirst ⊢
    refine ⟨by rw [show (Str.ofString "a").length = 1 by decide]; exact Nat.le_trans (show x.length + 1 ≤ 1000 by omega) (by decide), ?_⟩
    refine MkB.two fun dsecond hdsecond => ⟨_, rfl, dsecond, rfl, fun second hsecond => ?_⟩
    obtain ⟨z2, xsecond⟩ := mkE hdsecond hsecond
    generalize upd (upd H1 dsecond _) second _ = H2 at z2 xsecond ⊢
    refine MkB.two fun dthird hdthird => ⟨_, rfl, dthird, rfl, fun third hthird => ?_⟩
    obtain ⟨z3, xthird⟩ := mkE hdthird hthird
    generalize upd (upd H2 dthird _) third _ = H3 at z3 xthird ⊢
    refine ⟨by rw [show (Str.ofString "b").length = 1 by decide]; exact Nat.le_trans (show x.length + 1 ≤ 1000 by omega) (by decide), ?_⟩
    refine MkB.two fun dfourth hdfourth => ⟨_, rfl, dfourth, rfl, fun fourth hfourth => ?_⟩
    obtain ⟨z4, xfourth⟩ := mkE hdfourth hfourth
    generalize upd (upd H3 dfourth _) fourth _ = H4 at z4 xfourth ⊢
    refine fld_go (xfirst.same (z2.trans (z3.trans (z4)))) (xfN A 9) A.c_InvalidText.nf.1 (lk2 (by decide +kernel)) (fld_go (xfirst.same (z2.trans (z3.trans (z4)))) (xfN A 9) A.c_InvalidText.nf.2.1 lk1 ?_)
    refine ⟨by decide, fun p1 hp1 => ?_⟩
    have cp1 : (upd H4 p1 (.tup [.str x, .int n])) p1 = some (.tup [.str x, .int n]) := upd_same
    have z5 : Same H4 (upd H4 p1 (.tup [.str x, .int n])) := Same.new hp1
    generalize upd H4 p1 _ = H5 at z5 cp1 ⊢
    refine ⟨by decide, fun q1 hq1 => ?_⟩
    have cq1 : (upd H5 q1 (.tup [.str x, .int n])) q1 = some (.tup [.str x, .int n]) := upd_same
    have z6 : Same H5 (upd H5 q1 (.tup [.str x, .int n])) := Same.new hq1
    generalize upd H5 q1 _ = H6 at z6 cq1 ⊢
    refine alike_go (pairD ((z6) _ _ cp1) (.str x) (.int n)) (pairD cq1 (.str x) (.int n)) (shp2 (n := 8) trivial trivial) fun H7 z7 => ⟨true, rfl, iteF ?_⟩
    refine fld_go (xthird.same (z4.trans (z5.trans (z6.trans (z7))))) (xfN A 14) A.c_InvalidCommand.nf.1 (lk2 (by decide +kernel)) (fld_go (xthird.same (z4.trans (z5.trans (z6.trans (z7))))) (xfN A 14) A.c_InvalidCommand.nf.2.1 lk1 ?_)
    refine ⟨by decide, fun p2 hp2 => ?_⟩
    have cp2 : (upd H7 p2 (.tup [.str x, .int n])) p2 = some (.tup [.str x, .int n]) := upd_same
    have z8 : Same H7 (upd H7 p2 (.tup [.str x, .int n])) := Same.new hp2
    generalize upd H7 p2 _ = H8 at z8 cp2 ⊢
    refine ⟨by decide, fun q2 hq2 => ?_⟩
    have cq2 : (upd H8 q2 (.tup [.str x, .int n])) q2 = some (.tup [.str x, .int n]) := upd_same
    have z9 : Same H8 (upd H8 q2 (.tup [.str x, .int n])) := Same.new hq2
    generalize upd H8 q2 _ = H9 at z9 cq2 ⊢
    refine alike_go (pairD ((z9) _ _ cp2) (.str x) (.int n)) (pairD cq2 (.str x) (.int n)) (shp2 (n := 8) trivial trivial) fun H10 z10 => ⟨true, rfl, iteF ?_⟩
    refine fld_go (xsecond.same (z3.trans (z4.trans (z5.trans (z6.trans (z7.trans (z8.trans (z9.trans (z10))))))))) (xfN A 9) A.c_InvalidText.nf.1 (lk2 (by decide +kernel)) (fld_go (xsecond.same (z3.trans (z4.trans (z5.trans (z6.trans (z7.trans (z8.trans (z9.trans (z10))))))))) (xfN A 9) A.c_InvalidText.nf.2.1 lk1 ?_)
    refine ⟨by decide, fun p3 hp3 => ?_⟩
    have cp3 : (upd H10 p3 (.tup [.str (x ++ Str.ofString "a"), .int (n + 1)])) p3 = some (.tup [.str (x ++ Str.ofString "a"), .int (n + 1)]) := upd_same
    have z11 : Same H10 (upd H10 p3 (.tup [.str (x ++ Str.ofString "a"), .int (n + 1)])) := Same.new hp3
    generalize upd H10 p3 _ = H11 at z11 cp3 ⊢
    refine ⟨by rw [show (Str.ofString "a").length = 1 by decide]; exact Nat.le_trans (show x.length + 1 ≤ 1000 by omega) (by decide), ?_⟩
    refine ⟨by decide, fun q3 hq3 => ?_⟩
    have cq3 : (upd H11 q3 (.tup [.str (x ++ Str.ofString "a"), .int (n + 1)])) q3 = some (.tup [.str (x ++ Str.ofString "a"), .int (n + 1)]) := upd_same
    have z12 : Same H11 (upd H11 q3 (.tup [.str (x ++ Str.ofString "a"), .int (n + 1)])) := Same.new hq3
    generalize upd H11 q3 _ = H12 at z12 cq3 ⊢
    refine alike_go (pairD ((z12) _ _ cp3) (.str _) (.int _)) (pairD cq3 (.str _) (.int _)) (shp2 (n := 8) trivial trivial) fun H13 z13 => ⟨true, rfl, iteF ?_⟩
    refine fld_go (xfourth.same (z5.trans (z6.trans (z7.trans (z8.trans (z9.trans (z10.trans (z11.trans (z12.trans (z13)))))))))) (xfN A 14) A.c_InvalidCommand.nf.1 (lk2 (by decide +kernel)) (fld_go (xfourth.same (z5.trans (z6.trans (z7.trans (z8.trans (z9.trans (z10.trans (z11.trans (z12.trans (z13)))))))))) (xfN A 14) A.c_InvalidCommand.nf.2.1 lk1 ?_)
    refine ⟨by decide, fun p4 hp4 => ?_⟩
    have cp4 : (upd H13 p4 (.tup [.str (x ++ Str.ofString "b"), .int (n + 2)])) p4 = some (.tup [.str (x ++ Str.ofString "b"), .int (n + 2)]) := upd_same
    have z14 : Same H13 (upd H13 p4 (.tup [.str (x ++ Str.ofString "b"), .int (n + 2)])) := Same.new hp4
    generalize upd H13 p4 _ = H14 at z14 cp4 ⊢
    refine ⟨by rw [show (Str.ofString "b").length = 1 by decide]; exact Nat.le_trans (show x.length + 1 ≤ 1000 by omega) (by decide), ?_⟩
    refine ⟨by decide, fun q4 hq4 => ?_⟩
    have cq4 : (upd H14 q4 (.tup [.str (x ++ Str.ofString "b"), .int (n + 2)])) q4 = some (.tup [.str (x ++ Str.ofString "b"), .int (n + 2)]) := upd_same
    have z15 : Same H14 (upd H14 q4 (.tup [.str (x ++ Str.ofString "b"), .int (n + 2)])) := Same.new hq4
    generalize upd H14 q4 _ = H15 at z15 cq4 ⊢
    refine alike_go (pairD ((z15) _ _ cp4) (.str _) (.int _)) (pairD cq4 (.str _) (.int _)) (shp2 (n := 8) trivial trivial) fun H16 z16 => ⟨true, rfl, iteF ?_⟩
    have Z := (z1.trans (z2.trans (z3.trans (z4.trans (z5.trans (z6.trans (z7.trans (z8.trans (z9.trans (z10.trans (z11.trans (z12.trans (z13.trans (z14.trans (z15.trans (z16))))))))))))))))
    refine alone_go 9 (xfirst.same (z2.trans (z3.trans (z4.trans (z5.trans (z6.trans (z7.trans (z8.trans (z9.trans (z10.trans (z11.trans (z12.trans (z13.trans (z14.trans (z15.trans (z16)))))))))))))))) (by omega) rfl rfl fun HA zA => ⟨true, rfl, iteT ?_⟩
    exact alone_go 14 ((xthird.same (z4.trans (z5.trans (z6.trans (z7.trans (z8.trans (z9.trans (z10.trans (z11.trans (z12.trans (z13.trans (z14.trans (z15.trans (z16)))))))))))))).same zA) (by omega) rfl rfl fun HB zB => q _ (Z.trans (zA.trans zB))
/-! ### _law_of_word -/
def sp_words : Sp := fun vs H Q _ => ∃ (x y : Str), vs = [.str x, .str y] ∧ ∀ H', Same H H' → Q (.bl true) H'
theorem ok_l_of_word (A : All K mg) : FnOk P w K mg base CX0 10 A.l_of_word.f A.l_of_word.fd ["word", "other"] sp_words := by
  have G_Undefined_init := ok_Undefined_init (P := P) (w := w) (base := base) A
  have G_UnknownName_init := ok_UnknownName_init (P := P) (w := w) (base := base) A
  have G_NothingToUndo_init := ok_NothingToUndo_init (P := P) (w := w) (base := base) A
  have G_l_alike := ok_l_alike (P := P) (w := w) (base := base) A
  have G_l_alone := ok_l_alone (P := P) (w := w) (base := base) A
  refine A.l_of_word.F.ok sc_l_of_word (fun vs H Q E h => ?_) (fun cdv B outer s H vs Q E hr h => ?_)
  · obtain ⟨x, y, rfl, _⟩ := h
    rfl
  · obtain ⟨x, y, rfl, q⟩ := h
    refine ⟨_, (pss_cons (ps_set (i := 2) sc_l_of_word.nd rfl (by first | exact Or.inl rfl | exact Or.inr rfl) (pe_lst (pa_cons (pe_val (pmk_oex A.c_Undefined.o A.c_Undefined.i A.c_Undefined.ty G_Undefined_init (hr.mono (by decide)) A.c_Undefined.b .nil pass0 rfl A.c_Undefined.g (pa_cons (pv 0) pa_nil))) (pa_cons (pe_val (pmk_oex A.c_Undefined.o A.c_Undefined.i A.c_Undefined.ty G_Undefined_init (hr.mono (by decide)) A.c_Undefined.b .nil pass0 rfl A.c_Undefined.g (pa_cons (pv 1) pa_nil))) pa_nil)))) (pss_cons (ps_set (i := 3) sc_l_of_word.nd rfl (by first | exact Or.inl rfl | exact Or.inr rfl) (pe_lst (pa_cons (pe_val (pmk_oex A.c_UnknownName.o A.c_UnknownName.i A.c_UnknownName.ty G_UnknownName_init (hr.mono (by decide)) A.c_UnknownName.b .nil pass0 rfl A.c_UnknownName.g (pa_cons (pv 0) pa_nil))) (pa_cons (pe_val (pmk_oex A.c_UnknownName.o A.c_UnknownName.i A.c_UnknownName.ty G_UnknownName_init (hr.mono (by decide)) A.c_UnknownName.b .nil pass0 rfl A.c_UnknownName.g (pa_cons (pv 1) pa_nil))) pa_nil)))) (pss_cons (ps_set (i := 4) sc_l_of_word.nd rfl (by first | exact Or.inl rfl | exact Or.inr rfl) (pe_lst (pa_cons (pe_val (pmk_oex A.c_NothingToUndo.o A.c_NothingToUndo.i A.c_NothingToUndo.ty G_NothingToUndo_init (hr.mono (by decide)) A.c_NothingToUndo.b .nil pass0 rfl A.c_NothingToUndo.g (pa_cons (pv 0) pa_nil))) (pa_cons (pe_val (pmk_oex A.c_NothingToUndo.o A.c_NothingToUndo.i A.c_NothingToUndo.ty G_NothingToUndo_init (hr.mono (by decide)) A.c_NothingToUndo.b .nil pass0 rfl A.c_NothingToUndo.g (pa_cons (pv 1) pa_nil))) pa_nil)))) (pss_cons (ps_if (pt_not (pt_val (pe_call G_l_alike (hr.mono (by decide)) rfl A.l_alike.m A.l_alike.F.kp A.l_alike.b .nil pass0 (pa_cons (pe_tup (pa_cons (pe_fldE (pe_ix ix_list (pv 2) pe_int (fun _ _ => rfl))) (pa_cons (pe_fldE (pe_ix ix_list (pv 2) pe_int (fun _ _ => rfl))) pa_nil))) (pa_cons (pe_tup (pa_cons (pv 0) (pa_cons (pv 1) pa_nil))) pa_nil))))) (pss_one (ps_ret pe_bl)) pss_nil) (pss_cons (ps_if (pt_not (pt_val (pe_call G_l_alike (hr.mono (by decide)) rfl A.l_alike.m A.l_alike.F.kp A.l_alike.b .nil pass0 (pa_cons (pe_tup (pa_cons (pe_fldE (pe_ix ix_list (pv 3) pe_int (fun _ _ => rfl))) (pa_cons (pe_fldE (pe_ix ix_list (pv 3) pe_int (fun _ _ => rfl))) pa_nil))) (pa_cons (pe_tup (pa_cons (pv 0) (pa_cons (pv 1) pa_nil))) pa_nil))))) (pss_one (ps_ret pe_bl)) pss_nil) (pss_cons (ps_if (pt_not (pt_val (pe_call G_l_alike (hr.mono (by decide)) rfl A.l_alike.m A.l_alike.F.kp A.l_alike.b .nil pass0 (pa_cons (pe_tup (pa_cons (pe_fldE (pe_ix ix_list (pv 4) pe_int (fun _ _ => rfl))) (pa_cons (pe_fldE (pe_ix ix_list (pv 4) pe_int (fun _ _ => rfl))) pa_nil))) (pa_cons (pe_tup (pa_cons (pv 0) (pa_cons (pv 1) pa_nil))) pa_nil))))) (pss_one (ps_ret pe_bl)) pss_nil) (pss_one (ps_ret (pe_and (pe_call G_l_alone (hr.mono (by decide)) rfl A.l_alone.m A.l_alone.F.kp A.l_alone.b .nil pass0 (pa_cons (pe_ix ix_list (pv 2) pe_int (fun _ _ => rfl)) (pa_cons pe_int pa_nil))) (pe_and (pe_call G_l_alone (hr.mono (by decide)) rfl A.l_alone.m A.l_alone.F.kp A.l_alone.b .nil pass0 (pa_cons (pe_ix ix_list (pv 3) pe_int (fun _ _ => rfl)) (pa_cons pe_int pa_nil))) (pe_one (pe_call G_l_alone (hr.mono (by decide)) rfl A.l_alone.m A.l_alone.F.kp A.l_alone.b .nil pass0 (pa_cons (pe_ix ix_list (pv 4) pe_int (fun _ _ => rfl)) (pa_cons pe_int pa_nil)))))))))))))), ?_⟩
    walk_at "vc"
    refine MkB.one fun dwhat1 hdwhat1 => ⟨_, rfl, dwhat1, rfl, fun what1 hwhat1 => ?_⟩
    obtain ⟨z1, xwhat1⟩ := mkE hdwhat1 hwhat1
    generalize upd (upd H dwhat1 _) what1 _ = H1 at z1 xwhat1 ⊢
    refine MkB.one fun dwhat2 hdwhat2 => ⟨_, rfl, dwhat2, rfl, fun what2 hwhat2 => ?_⟩
    obtain ⟨z2, xwhat2⟩ := mkE hdwhat2 hwhat2
    generalize upd (upd H1 dwhat2 _) what2 _ = H2 at z2 xwhat2 ⊢
    refine ⟨by decide, fun Lwhat hLwhat => ?_⟩
    have eLwhat : (upd H2 Lwhat (.lst [.ref what1, .ref what2])) Lwhat = some (.lst [.ref what1, .ref what2]) := upd_same
    have z3 : Same H2 (upd H2 Lwhat (.lst [.ref what1, .ref what2])) := Same.new hLwhat
    generalize upd H2 Lwhat _ = H3 at z3 eLwhat ⊢
    refine MkB.one fun dname1 hdname1 => ⟨_, rfl, dname1, rfl, fun name1 hname1 => ?_⟩
    obtain ⟨z4, xname1⟩ := mkE hdname1 hname1
    generalize upd (upd H3 dname1 _) name1 _ = H4 at z4 xname1 ⊢
    refine MkB.one fun dname2 hdname2 => ⟨_, rfl, dname2, rfl, fun name2 hname2 => ?_⟩
    obtain ⟨z5, xname2⟩ := mkE hdname2 hname2
    generalize upd (upd H4 dname2 _) name2 _ = H5 at z5 xname2 ⊢
    refine ⟨by decide, fun Lname hLname => ?_⟩
    have eLname : (upd H5 Lname (.lst [.ref name1, .ref name2])) Lname = some (.lst [.ref name1, .ref name2]) := upd_same
    have z6 : Same H5 (upd H5 Lname (.lst [.ref name1, .ref name2])) := Same.new hLname
    generalize upd H5 Lname _ = H6 at z6 eLname ⊢
    refine MkB.one fun dundo1 hdundo1 => ⟨_, rfl, dundo1, rfl, fun undo1 hundo1 => ?_⟩
    obtain ⟨z7, xundo1⟩ := mkE hdundo1 hundo1
    generalize upd (upd H6 dundo1 _) undo1 _ = H7 at z7 xundo1 ⊢
    refine MkB.one fun dundo2 hdundo2 => ⟨_, rfl, dundo2, rfl, fun undo2 hundo2 => ?_⟩
    obtain ⟨z8, xundo2⟩ := mkE hdundo2 hundo2
    generalize upd (upd H7 dundo2 _) undo2 _ = H8 at z8 xundo2 ⊢
    refine ⟨by decide, fun Lundo hLundo => ?_⟩
    have eLundo : (upd H8 Lundo (.lst [.ref undo1, .ref undo2])) Lundo = some (.lst [.ref undo1, .ref undo2]) := upd_same
    have z9 : Same H8 (upd H8 Lundo (.lst [.ref undo1, .ref undo2])) := Same.new hLundo
    generalize upd H8 Lundo _ = H9 at z9 eLundo ⊢
    refine ⟨_, (SqL.of ((z4.trans (z5.trans (z6.trans (z7.trans (z8.trans (z9)))))) _ _ eLwhat)), _, rfl, fld_go (xwhat1.same (z2.trans (z3.trans (z4.trans (z5.trans (z6.trans (z7.trans (z8.trans (z9))))))))) (xfN A 10) A.c_Undefined.nf.1 rfl ⟨_, (SqL.of ((z4.trans (z5.trans (z6.trans (z7.trans (z8.trans (z9)))))) _ _ eLwhat)), _, rfl, fld_go (xwhat2.same (z3.trans (z4.trans (z5.trans (z6.trans (z7.trans (z8.trans (z9)))))))) (xfN A 10) A.c_Undefined.nf.1 rfl ?_⟩⟩
    refine ⟨by decide, fun p1 hp1 => ?_⟩
    have cp1 : (upd H9 p1 (.tup [.str x, .str y])) p1 = some (.tup [.str x, .str y]) := upd_same
    have z10 : Same H9 (upd H9 p1 (.tup [.str x, .str y])) := Same.new hp1
    generalize upd H9 p1 _ = H10 at z10 cp1 ⊢
    refine ⟨by decide, fun q1 hq1 => ?_⟩
    have cq1 : (upd H10 q1 (.tup [.str x, .str y])) q1 = some (.tup [.str x, .str y]) := upd_same
    have z11 : Same H10 (upd H10 q1 (.tup [.str x, .str y])) := Same.new hq1
    generalize upd H10 q1 _ = H11 at z11 cq1 ⊢
    refine alike_go (pairD ((z11) _ _ cp1) (.str x) (.str y)) (pairD cq1 (.str x) (.str y)) (shp2 (n := 8) trivial trivial) fun H12 z12 => ⟨true, rfl, iteF ?_⟩
    refine ⟨_, (SqL.of ((z7.trans (z8.trans (z9.trans (z10.trans (z11.trans (z12)))))) _ _ eLname)), _, rfl, fld_go (xname1.same (z5.trans (z6.trans (z7.trans (z8.trans (z9.trans (z10.trans (z11.trans (z12))))))))) (xfN A 15) A.c_UnknownName.nf.1 rfl ⟨_, (SqL.of ((z7.trans (z8.trans (z9.trans (z10.trans (z11.trans (z12)))))) _ _ eLname)), _, rfl, fld_go (xname2.same (z6.trans (z7.trans (z8.trans (z9.trans (z10.trans (z11.trans (z12)))))))) (xfN A 15) A.c_UnknownName.nf.1 rfl ?_⟩⟩
    refine ⟨by decide, fun p2 hp2 => ?_⟩
    have cp2 : (upd H12 p2 (.tup [.str x, .str y])) p2 = some (.tup [.str x, .str y]) := upd_same
    have z13 : Same H12 (upd H12 p2 (.tup [.str x, .str y])) := Same.new hp2
    generalize upd H12 p2 _ = H13 at z13 cp2 ⊢
    refine ⟨by decide, fun q2 hq2 => ?_⟩
    have cq2 : (upd H13 q2 (.tup [.str x, .str y])) q2 = some (.tup [.str x, .str y]) := upd_same
    have z14 : Same H13 (upd H13 q2 (.tup [.str x, .str y])) := Same.new hq2
    generalize upd H13 q2 _ = H14 at z14 cq2 ⊢
    refine alike_go (pairD ((z14) _ _ cp2) (.str x) (.str y)) (pairD cq2 (.str x) (.str y)) (shp2 (n := 8) trivial trivial) fun H15 z15 => ⟨true, rfl, iteF ?_⟩
    refine ⟨_, (SqL.of ((z10.trans (z11.trans (z12.trans (z13.trans (z14.trans (z15)))))) _ _ eLundo)), _, rfl, fld_go (xundo1.same (z8.trans (z9.trans (z10.trans (z11.trans (z12.trans (z13.trans (z14.trans (z15))))))))) (xfN A 16) A.c_NothingToUndo.nf.1 rfl ⟨_, (SqL.of ((z10.trans (z11.trans (z12.trans (z13.trans (z14.trans (z15)))))) _ _ eLundo)), _, rfl, fld_go (xundo2.same (z9.trans (z10.trans (z11.trans (z12.trans (z13.trans (z14.trans (z15)))))))) (xfN A 16) A.c_NothingToUndo.nf.1 rfl ?_⟩⟩
    refine ⟨by decide, fun p3 hp3 => ?_⟩
    have cp3 : (upd H15 p3 (.tup [.str x, .str y])) p3 = some (.tup [.str x, .str y]) := upd_same
    have z16 : Same H15 (upd H15 p3 (.tup [.str x, .str y])) := Same.new hp3
    generalize upd H15 p3 _ = H16 at z16 cp3 ⊢
    refine ⟨by decide, fun q3 hq3 => ?_⟩
    have cq3 : (upd H16 q3 (.tup [.str x, .str y])) q3 = some (.tup [.str x, .str y]) := upd_same
    have z17 : Same H16 (upd H16 q3 (.tup [.str x, .str y])) := Same.new hq3
    generalize upd H16 q3 _ = H17 at z17 cq3 ⊢
    refine alike_go (pairD ((z17) _ _ cp3) (.str x) (.str y)) (pairD cq3 (.str x) (.str y)) (shp2 (n := 8) trivial trivial) fun H18 z18 => ⟨true, rfl, iteF ?_⟩
    refine ⟨_, (SqL.of ((z4.trans (z5.trans (z6.trans (z7.trans (z8.trans (z9.trans (z10.trans (z11.trans (z12.trans (z13.trans (z14.trans (z15.trans (z16.trans (z17.trans (z18))))))))))))))) _ _ eLwhat)), _, rfl, alone_go 10 (xwhat1.same (z2.trans (z3.trans (z4.trans (z5.trans (z6.trans (z7.trans (z8.trans (z9.trans (z10.trans (z11.trans (z12.trans (z13.trans (z14.trans (z15.trans (z16.trans (z17.trans (z18)))))))))))))))))) (by omega) rfl rfl fun H19 z19 => ⟨true, rfl, iteT ?_⟩⟩
    refine ⟨_, (SqL.of ((z7.trans (z8.trans (z9.trans (z10.trans (z11.trans (z12.trans (z13.trans (z14.trans (z15.trans (z16.trans (z17.trans (z18.trans (z19))))))))))))) _ _ eLname)), _, rfl, alone_go 15 (xname1.same (z5.trans (z6.trans (z7.trans (z8.trans (z9.trans (z10.trans (z11.trans (z12.trans (z13.trans (z14.trans (z15.trans (z16.trans (z17.trans (z18.trans (z19)))))))))))))))) (by omega) rfl rfl fun H20 z20 => ⟨true, rfl, iteT ?_⟩⟩
    exact ⟨_, (SqL.of ((z10.trans (z11.trans (z12.trans (z13.trans (z14.trans (z15.trans (z16.trans (z17.trans (z18.trans (z19.trans (z20))))))))))) _ _ eLundo)), _, rfl, alone_go 16 (xundo1.same (z8.trans (z9.trans (z10.trans (z11.trans (z12.trans (z13.trans (z14.trans (z15.trans (z16.trans (z17.trans (z18.trans (z19.trans (z20)))))))))))))) (by omega) rfl rfl fun HZ zZ => q _ ((z1.trans (z2.trans (z3.trans (z4.trans (z5.trans (z6.trans (z7.trans (z8.trans (z9.trans (z10.trans (z11.trans (z12.trans (z13.trans (z14.trans (z15.trans (z16.trans (z17.trans (z18.trans (z19.trans (z20)))))))))))))))))))).trans zZ)⟩
/-! ### _law_of_deed -/
def sp_deeds (K : PySem.W.Frag) : Sp := fun vs H Q _ => ∃ (v1 v2 v3 v4 : V) (d1 d2 d3 d4 : PyData), vs = [v1, v2, v3, v4] ∧ Dp K H v1 d1 ∧ Dp K H v2 d2 ∧ Dp K H v3 d3 ∧ Dp K H v4 d4 ∧ Shp 8 d1 ∧ Shp 8 d2 ∧ Shp 8 d3 ∧ Shp 8 d4 ∧ ∀ H', Same H H' → Q (.bl true) H'
theorem ok_l_of_deed (A : All K mg) : FnOk P w K mg base CX0 10 A.l_of_deed.f A.l_of_deed.fd ["one", "other", "true", "false"] (sp_deeds K) := by
  have G_Refusal_init := ok_Refusal_init (P := P) (w := w) (base := base) A
  have G_Clash_init := ok_Clash_init (P := P) (w := w) (base := base) A
  have G_Refused_init := ok_Refused_init (P := P) (w := w) (base := base) A
  have G_l_alone := ok_l_alone (P := P) (w := w) (base := base) A
  have G_l_alike := ok_l_alike (P := P) (w := w) (base := base) A
  refine A.l_of_deed.F.ok sc_l_of_deed (fun vs H Q E h => ?_) (fun cdv B outer s H vs Q E hr h => ?_)
  · obtain ⟨v1, v2, v3, v4, d1, d2, d3, d4, rfl, _⟩ := h
    rfl
  · obtain ⟨v1, v2, v3, v4, d1, d2, d3, d4, rfl, h1, h2, h3, h4, s1, s2, s3, s4, q⟩ := h
    refine ⟨_, (pss_cons (ps_set (i := 4) sc_l_of_deed.nd rfl (by first | exact Or.inl rfl | exact Or.inr rfl) (pe_lst (pa_cons (pe_val (pmk_oex A.c_Refusal.o A.c_Refusal.i A.c_Refusal.ty G_Refusal_init (hr.mono (by decide)) A.c_Refusal.b .nil pass0 rfl A.c_Refusal.g (pa_cons (pv 0) (pa_cons pe_str pa_nil)))) (pa_cons (pe_val (pmk_oex A.c_Refusal.o A.c_Refusal.i A.c_Refusal.ty G_Refusal_init (hr.mono (by decide)) A.c_Refusal.b .nil pass0 rfl A.c_Refusal.g (pa_cons (pv 1) (pa_cons pe_str pa_nil)))) pa_nil)))) (pss_cons (ps_set (i := 5) sc_l_of_deed.nd rfl (by first | exact Or.inl rfl | exact Or.inr rfl) (pe_lst (pa_cons (pe_val (pmk_oex A.c_Clash.o A.c_Clash.i A.c_Clash.ty G_Clash_init (hr.mono (by decide)) A.c_Clash.b .nil pass0 rfl A.c_Clash.g (pa_cons (pv 0) (pa_cons (pv 1) pa_nil)))) (pa_cons (pe_val (pmk_oex A.c_Clash.o A.c_Clash.i A.c_Clash.ty G_Clash_init (hr.mono (by decide)) A.c_Clash.b .nil pass0 rfl A.c_Clash.g (pa_cons (pv 1) (pa_cons (pv 0) pa_nil)))) pa_nil)))) (pss_cons (ps_set (i := 6) sc_l_of_deed.nd rfl (by first | exact Or.inl rfl | exact Or.inr rfl) (pe_lst (pa_cons (pe_val (pmk_oex A.c_Refused.o A.c_Refused.i A.c_Refused.ty G_Refused_init (hr.mono (by decide)) A.c_Refused.b .nil pass0 rfl A.c_Refused.g (pa_cons (pv 2) pa_nil))) (pa_cons (pe_val (pmk_oex A.c_Refused.o A.c_Refused.i A.c_Refused.ty G_Refused_init (hr.mono (by decide)) A.c_Refused.b .nil pass0 rfl A.c_Refused.g (pa_cons (pv 3) pa_nil))) pa_nil)))) (pss_cons (ps_for PassesOwn.never rfl (pi_range1 rfl A.n_range (pa_cons pe_int pa_nil)) (pg_name (i := 7) sc_l_of_deed.nd rfl (by first | exact Or.inl rfl | exact Or.inr rfl)) (pss_cons (ps_set (i := 8) sc_l_of_deed.nd rfl (by first | exact Or.inl rfl | exact Or.inr rfl) (pe_op op_cat (pe_slice sl_list (pe_lst (pa_cons (pv 0) (pa_cons (pv 1) pa_nil))) (po_some (pv 7)) po_none) (pe_slice sl_list (pe_lst (pa_cons (pv 0) (pa_cons (pv 1) pa_nil))) po_none (po_some (pv 7))))) (pss_cons (ps_if (pt_not (pt_val (pe_call G_l_alike (hr.mono (by decide)) rfl A.l_alike.m A.l_alike.F.kp A.l_alike.b .nil pass0 (pa_cons (pe_tup (pa_cons (pe_fldE (pe_ix ix_list (pv 4) (pv 7) (fun _ _ => rfl))) (pa_cons (pe_fldE (pe_ix ix_list (pv 4) (pv 7) (fun _ _ => rfl))) pa_nil))) (pa_cons (pe_tup (pa_cons (pe_ix ix_list (pv 8) pe_int (fun _ _ => rfl)) (pa_cons (pe_ix ix_list (pe_lst (pa_cons pe_str (pa_cons pe_str pa_nil))) (pv 7) (fun _ _ => rfl)) pa_nil))) pa_nil))))) (pss_one (ps_ret pe_bl)) pss_nil) (pss_cons (ps_if (pt_not (pt_val (pe_call G_l_alike (hr.mono (by decide)) rfl A.l_alike.m A.l_alike.F.kp A.l_alike.b .nil pass0 (pa_cons (pe_tup (pa_cons (pe_fldE (pe_ix ix_list (pv 5) (pv 7) (fun _ _ => rfl))) (pa_cons (pe_fldE (pe_ix ix_list (pv 5) (pv 7) (fun _ _ => rfl))) pa_nil))) (pa_cons (pe_tup (pa_cons (pe_ix ix_list (pv 8) pe_int (fun _ _ => rfl)) (pa_cons (pe_ix ix_list (pv 8) pe_int (fun _ _ => rfl)) pa_nil))) pa_nil))))) (pss_one (ps_ret pe_bl)) pss_nil) (pss_one (ps_if (pt_not (pt_val (pe_call G_l_alike (hr.mono (by decide)) rfl A.l_alike.m A.l_alike.F.kp A.l_alike.b .nil pass0 (pa_cons (pe_fldE (pe_ix ix_list (pv 6) (pv 7) (fun _ _ => rfl))) (pa_cons (pe_ix ix_list (pe_lst (pa_cons (pv 2) (pa_cons (pv 3) pa_nil))) (pv 7) (fun _ _ => rfl)) pa_nil))))) (pss_one (ps_ret pe_bl)) pss_nil)))))) (pss_one (ps_ret (pe_and (pe_call G_l_alone (hr.mono (by decide)) rfl A.l_alone.m A.l_alone.F.kp A.l_alone.b .nil pass0 (pa_cons (pe_ix ix_list (pv 4) pe_int (fun _ _ => rfl)) (pa_cons pe_int pa_nil))) (pe_and (pe_call G_l_alone (hr.mono (by decide)) rfl A.l_alone.m A.l_alone.F.kp A.l_alone.b .nil pass0 (pa_cons (pe_ix ix_list (pv 5) pe_int (fun _ _ => rfl)) (pa_cons pe_int pa_nil))) (pe_one (pe_call G_l_alone (hr.mono (by decide)) rfl A.l_alone.m A.l_alone.F.kp A.l_alone.b .nil pass0 (pa_cons (pe_ix ix_list (pv 6) pe_int (fun _ _ => rfl)) (pa_cons pe_int pa_nil)))))))))))), ?_⟩
    walk_at "vc"
    refine MkB.two fun dr1 hdr1 => ⟨_, rfl, dr1, rfl, fun r1 hr1 => ?_⟩
    obtain ⟨z1, xr1⟩ := mkE hdr1 hr1
    generalize upd (upd H dr1 _) r1 _ = H1 at z1 xr1 ⊢
    refine MkB.two fun dr2 hdr2 => ⟨_, rfl, dr2, rfl, fun r2 hr2 => ?_⟩
    obtain ⟨z2, xr2⟩ := mkE hdr2 hr2
    generalize upd (upd H1 dr2 _) r2 _ = H2 at z2 xr2 ⊢
    refine ⟨by decide, fun Lr hLr => ?_⟩
    have eLr : (upd H2 Lr (.lst [.ref r1, .ref r2])) Lr = some (.lst [.ref r1, .ref r2]) := upd_same
    have z3 : Same H2 (upd H2 Lr (.lst [.ref r1, .ref r2])) := Same.new hLr
    generalize upd H2 Lr _ = H3 at z3 eLr ⊢
    refine MkB.two fun dc1 hdc1 => ⟨_, rfl, dc1, rfl, fun c1 hc1 => ?_⟩
    obtain ⟨z4, xc1⟩ := mkE hdc1 hc1
    generalize upd (upd H3 dc1 _) c1 _ = H4 at z4 xc1 ⊢
    refine MkB.two fun dc2 hdc2 => ⟨_, rfl, dc2, rfl, fun c2 hc2 => ?_⟩
    obtain ⟨z5, xc2⟩ := mkE hdc2 hc2
    generalize upd (upd H4 dc2 _) c2 _ = H5 at z5 xc2 ⊢
    refine ⟨by decide, fun Lc hLc => ?_⟩
    have eLc : (upd H5 Lc (.lst [.ref c1, .ref c2])) Lc = some (.lst [.ref c1, .ref c2]) := upd_same
    have z6 : Same H5 (upd H5 Lc (.lst [.ref c1, .ref c2])) := Same.new hLc
    generalize upd H5 Lc _ = H6 at z6 eLc ⊢
    refine MkB.one fun df1 hdf1 => ⟨_, rfl, df1, rfl, fun f1 hf1 => ?_⟩
    obtain ⟨z7, xf1⟩ := mkE hdf1 hf1
    generalize upd (upd H6 df1 _) f1 _ = H7 at z7 xf1 ⊢
    refine MkB.one fun df2 hdf2 => ⟨_, rfl, df2, rfl, fun f2 hf2 => ?_⟩
    obtain ⟨z8, xf2⟩ := mkE hdf2 hf2
    generalize upd (upd H7 df2 _) f2 _ = H8 at z8 xf2 ⊢
    refine ⟨by decide, fun Lf hLf => ?_⟩
    have eLf : (upd H8 Lf (.lst [.ref f1, .ref f2])) Lf = some (.lst [.ref f1, .ref f2]) := upd_same
    have z9 : Same H8 (upd H8 Lf (.lst [.ref f1, .ref f2])) := Same.new hLf
    generalize upd H8 Lf _ = H9 at z9 eLf ⊢
    have Z := (z1.trans (z2.trans (z3.trans (z4.trans (z5.trans (z6.trans (z7.trans (z8.trans (z9)))))))))
    have eLr := (z4.trans (z5.trans (z6.trans (z7.trans (z8.trans (z9)))))) _ _ eLr
    have eLc := (z7.trans (z8.trans (z9))) _ _ eLc
    have eLf := (Same.refl _) _ _ eLf
    have xr1 := xr1.same (z2.trans (z3.trans (z4.trans (z5.trans (z6.trans (z7.trans (z8.trans (z9))))))))
    have xr2 := xr2.same (z3.trans (z4.trans (z5.trans (z6.trans (z7.trans (z8.trans (z9)))))))
    have xc1 := xc1.same (z5.trans (z6.trans (z7.trans (z8.trans (z9)))))
    have xc2 := xc2.same (z6.trans (z7.trans (z8.trans (z9))))
    have xf1 := xf1.same (z8.trans (z9))
    have xf2 := xf2.same (z9)
    generalize H9 = HE at Z eLr eLc eLf xr1 xr2 xc1 xc2 xf1 xf2 ⊢
    refine ⟨by decide, by decide, ?_⟩
    refine ForB.range (fun k σ H' => Same HE H' ∧ ∃ a b, σ = [some v1, some v2, some v3, some v4, some (.ref Lr), some (.ref Lc), some (.ref Lf), a, b]) ⟨Same.refl _, none, none, rfl⟩ ?_ ?_
    · rintro k σ G hk ⟨z0, a, b, rfl⟩
      have hk2 : k = 0 ∨ k = 1 := by have : k < 2 := by simpa using hk
                                     omega
      rcases hk2 with rfl | rfl
      · walk_at "vc"
        have ZG := Z.trans z0
        refine ⟨by decide, fun p1 hp1 => ?_⟩
        have ep1 : (upd G p1 (.lst [v1, v2])) p1 = some (.lst [v1, v2]) := upd_same
        have z1 : Same G (upd G p1 (.lst [v1, v2])) := Same.new hp1
        generalize upd G p1 _ = G1 at z1 ep1 ⊢
        refine ⟨[v1, v2], SqL.of ep1, fun t1 ht1 => ?_⟩
        have et1 : (upd G1 t1 (.lst (cutV [v1, v2] (some (0 + ((0 : Nat) : Int))) none))) t1 = some (.lst (cutV [v1, v2] (some (0 + ((0 : Nat) : Int))) none)) := upd_same
        have z2 : Same G1 (upd G1 t1 (.lst (cutV [v1, v2] (some (0 + ((0 : Nat) : Int))) none))) := Same.new ht1
        generalize upd G1 t1 _ = G2 at z2 et1 ⊢
        have et1 : G2 t1 = some (.lst [v1, v2]) := et1
        refine ⟨by decide, fun p2 hp2 => ?_⟩
        have ep2 : (upd G2 p2 (.lst [v1, v2])) p2 = some (.lst [v1, v2]) := upd_same
        have z3 : Same G2 (upd G2 p2 (.lst [v1, v2])) := Same.new hp2
        generalize upd G2 p2 _ = G3 at z3 ep2 ⊢
        refine ⟨[v1, v2], SqL.of ep2, fun t2 ht2 => ?_⟩
        have et2 : (upd G3 t2 (.lst (cutV [v1, v2] none (some (0 + ((0 : Nat) : Int)))))) t2 = some (.lst (cutV [v1, v2] none (some (0 + ((0 : Nat) : Int))))) := upd_same
        have z4 : Same G3 (upd G3 t2 (.lst (cutV [v1, v2] none (some (0 + ((0 : Nat) : Int)))))) := Same.new ht2
        generalize upd G3 t2 _ = G4 at z4 et2 ⊢
        have et2 : G4 t2 = some (.lst []) := et2
        refine ⟨[v1, v2], ((z3.trans (z4)) _ _ et1), [], ((Same.refl _) _ _ et2), by show 2 + 0 ≤ sizeLine; decide, fun pr hpr => ?_⟩
        have epr : (upd G4 pr (.lst ([v1, v2] ++ []))) pr = some (.lst ([v1, v2] ++ [])) := upd_same
        have z5 : Same G4 (upd G4 pr (.lst ([v1, v2] ++ []))) := Same.new hpr
        generalize upd G4 pr _ = G5 at z5 epr ⊢
        have epr : G5 pr = some (.lst [v1, v2]) := epr
        refine ⟨_, (SqL.of ((z0.trans (z1.trans (z2.trans (z3.trans (z4.trans (z5)))))) _ _ eLr)), _, rfl, fld_go (xr1.same (z0.trans (z1.trans (z2.trans (z3.trans (z4.trans (z5))))))) (xfN A 11) A.c_Refusal.nf.1 (lk2 (by decide +kernel)) ⟨_, (SqL.of ((z0.trans (z1.trans (z2.trans (z3.trans (z4.trans (z5)))))) _ _ eLr)), _, rfl, fld_go (xr1.same (z0.trans (z1.trans (z2.trans (z3.trans (z4.trans (z5))))))) (xfN A 11) A.c_Refusal.nf.2.1 lk1 ?_⟩⟩
        refine ⟨by decide, fun q1 hq1 => ?_⟩
        have cq1 : (upd G5 q1 (.tup [v1, .str (Str.ofString "mark")])) q1 = some (.tup [v1, .str (Str.ofString "mark")]) := upd_same
        have z6 : Same G5 (upd G5 q1 (.tup [v1, .str (Str.ofString "mark")])) := Same.new hq1
        generalize upd G5 q1 _ = G6 at z6 cq1 ⊢
        refine ⟨_, SqL.of ((z6) _ _ epr), _, rfl, ?_⟩
        refine ⟨by decide, fun m1 hm1 => ?_⟩
        have em1 : (upd G6 m1 (.lst [.str (Str.ofString "mark"), .str (Str.ofString "inside")])) m1 = some (.lst [.str (Str.ofString "mark"), .str (Str.ofString "inside")]) := upd_same
        have z7 : Same G6 (upd G6 m1 (.lst [.str (Str.ofString "mark"), .str (Str.ofString "inside")])) := Same.new hm1
        generalize upd G6 m1 _ = G7 at z7 em1 ⊢
        refine ⟨_, SqL.of em1, _, rfl, ?_⟩
        refine ⟨by decide, fun q2 hq2 => ?_⟩
        have cq2 : (upd G7 q2 (.tup [v1, .str (Str.ofString "mark")])) q2 = some (.tup [v1, .str (Str.ofString "mark")]) := upd_same
        have z8 : Same G7 (upd G7 q2 (.tup [v1, .str (Str.ofString "mark")])) := Same.new hq2
        generalize upd G7 q2 _ = G8 at z8 cq2 ⊢
        refine alike_go (pairD ((z7.trans (z8)) _ _ cq1) (Dp.same (ZG.trans (z1.trans (z2.trans (z3.trans (z4.trans (z5.trans (z6.trans (z7.trans (z8))))))))) _ _ h1) (.str _)) (pairD cq2 (Dp.same (ZG.trans (z1.trans (z2.trans (z3.trans (z4.trans (z5.trans (z6.trans (z7.trans (z8))))))))) _ _ h1) (.str _)) (shp2 (n := 8) s1 trivial) fun G9 z9 => ⟨true, rfl, iteF ?_⟩
        refine ⟨_, (SqL.of ((z0.trans (z1.trans (z2.trans (z3.trans (z4.trans (z5.trans (z6.trans (z7.trans (z8.trans (z9)))))))))) _ _ eLc)), _, rfl, fld_go (xc1.same (z0.trans (z1.trans (z2.trans (z3.trans (z4.trans (z5.trans (z6.trans (z7.trans (z8.trans (z9))))))))))) (xfN A 12) A.c_Clash.nf.1 (lk2 (by decide +kernel)) ⟨_, (SqL.of ((z0.trans (z1.trans (z2.trans (z3.trans (z4.trans (z5.trans (z6.trans (z7.trans (z8.trans (z9)))))))))) _ _ eLc)), _, rfl, fld_go (xc1.same (z0.trans (z1.trans (z2.trans (z3.trans (z4.trans (z5.trans (z6.trans (z7.trans (z8.trans (z9))))))))))) (xfN A 12) A.c_Clash.nf.2.1 lk1 ?_⟩⟩
        refine ⟨by decide, fun q3 hq3 => ?_⟩
        have cq3 : (upd G9 q3 (.tup [v1, v2])) q3 = some (.tup [v1, v2]) := upd_same
        have z10 : Same G9 (upd G9 q3 (.tup [v1, v2])) := Same.new hq3
        generalize upd G9 q3 _ = G10 at z10 cq3 ⊢
        refine ⟨_, SqL.of ((z6.trans (z7.trans (z8.trans (z9.trans (z10))))) _ _ epr), _, rfl, ⟨_, SqL.of ((z6.trans (z7.trans (z8.trans (z9.trans (z10))))) _ _ epr), _, rfl, ?_⟩⟩
        refine ⟨by decide, fun q4 hq4 => ?_⟩
        have cq4 : (upd G10 q4 (.tup [v1, v2])) q4 = some (.tup [v1, v2]) := upd_same
        have z11 : Same G10 (upd G10 q4 (.tup [v1, v2])) := Same.new hq4
        generalize upd G10 q4 _ = G11 at z11 cq4 ⊢
        refine alike_go (pairD ((z11) _ _ cq3) (Dp.same (ZG.trans (z1.trans (z2.trans (z3.trans (z4.trans (z5.trans (z6.trans (z7.trans (z8.trans (z9.trans (z10.trans (z11)))))))))))) _ _ h1) (Dp.same (ZG.trans (z1.trans (z2.trans (z3.trans (z4.trans (z5.trans (z6.trans (z7.trans (z8.trans (z9.trans (z10.trans (z11)))))))))))) _ _ h2)) (pairD cq4 (Dp.same (ZG.trans (z1.trans (z2.trans (z3.trans (z4.trans (z5.trans (z6.trans (z7.trans (z8.trans (z9.trans (z10.trans (z11)))))))))))) _ _ h1) (Dp.same (ZG.trans (z1.trans (z2.trans (z3.trans (z4.trans (z5.trans (z6.trans (z7.trans (z8.trans (z9.trans (z10.trans (z11)))))))))))) _ _ h2)) (shp2 (n := 8) s1 s2) fun G12 z12 => ⟨true, rfl, iteF ?_⟩
        refine ⟨_, (SqL.of ((z0.trans (z1.trans (z2.trans (z3.trans (z4.trans (z5.trans (z6.trans (z7.trans (z8.trans (z9.trans (z10.trans (z11.trans (z12))))))))))))) _ _ eLf)), _, rfl, fld_go (xf1.same (z0.trans (z1.trans (z2.trans (z3.trans (z4.trans (z5.trans (z6.trans (z7.trans (z8.trans (z9.trans (z10.trans (z11.trans (z12)))))))))))))) (xfN A 13) A.c_Refused.nf.1 rfl ?_⟩
        refine ⟨by decide, fun m2 hm2 => ?_⟩
        have em2 : (upd G12 m2 (.lst [v3, v4])) m2 = some (.lst [v3, v4]) := upd_same
        have z13 : Same G12 (upd G12 m2 (.lst [v3, v4])) := Same.new hm2
        generalize upd G12 m2 _ = G13 at z13 em2 ⊢
        refine ⟨_, SqL.of em2, _, rfl, ?_⟩
        exact alike_go (Dp.same (ZG.trans (z1.trans (z2.trans (z3.trans (z4.trans (z5.trans (z6.trans (z7.trans (z8.trans (z9.trans (z10.trans (z11.trans (z12.trans (z13)))))))))))))) _ _ h3) (Dp.same (ZG.trans (z1.trans (z2.trans (z3.trans (z4.trans (z5.trans (z6.trans (z7.trans (z8.trans (z9.trans (z10.trans (z11.trans (z12.trans (z13)))))))))))))) _ _ h3) (s3.up) fun GZ zZ => ⟨true, rfl, iteF ⟨z0.trans ((z1.trans (z2.trans (z3.trans (z4.trans (z5.trans (z6.trans (z7.trans (z8.trans (z9.trans (z10.trans (z11.trans (z12.trans (z13))))))))))))).trans zZ), _, rfl⟩⟩
      · walk_at "vc"
        have ZG := Z.trans z0
        refine ⟨by decide, fun p1 hp1 => ?_⟩
        have ep1 : (upd G p1 (.lst [v1, v2])) p1 = some (.lst [v1, v2]) := upd_same
        have z1 : Same G (upd G p1 (.lst [v1, v2])) := Same.new hp1
        generalize upd G p1 _ = G1 at z1 ep1 ⊢
        refine ⟨[v1, v2], SqL.of ep1, fun t1 ht1 => ?_⟩
        have et1 : (upd G1 t1 (.lst (cutV [v1, v2] (some (0 + ((1 : Nat) : Int))) none))) t1 = some (.lst (cutV [v1, v2] (some (0 + ((1 : Nat) : Int))) none)) := upd_same
        have z2 : Same G1 (upd G1 t1 (.lst (cutV [v1, v2] (some (0 + ((1 : Nat) : Int))) none))) := Same.new ht1
        generalize upd G1 t1 _ = G2 at z2 et1 ⊢
        have et1 : G2 t1 = some (.lst [v2]) := et1
        refine ⟨by decide, fun p2 hp2 => ?_⟩
        have ep2 : (upd G2 p2 (.lst [v1, v2])) p2 = some (.lst [v1, v2]) := upd_same
        have z3 : Same G2 (upd G2 p2 (.lst [v1, v2])) := Same.new hp2
        generalize upd G2 p2 _ = G3 at z3 ep2 ⊢
        refine ⟨[v1, v2], SqL.of ep2, fun t2 ht2 => ?_⟩
        have et2 : (upd G3 t2 (.lst (cutV [v1, v2] none (some (0 + ((1 : Nat) : Int)))))) t2 = some (.lst (cutV [v1, v2] none (some (0 + ((1 : Nat) : Int))))) := upd_same
        have z4 : Same G3 (upd G3 t2 (.lst (cutV [v1, v2] none (some (0 + ((1 : Nat) : Int)))))) := Same.new ht2
        generalize upd G3 t2 _ = G4 at z4 et2 ⊢
        have et2 : G4 t2 = some (.lst [v1]) := et2
        refine ⟨[v2], ((z3.trans (z4)) _ _ et1), [v1], ((Same.refl _) _ _ et2), by show 1 + 1 ≤ sizeLine; decide, fun pr hpr => ?_⟩
        have epr : (upd G4 pr (.lst ([v2] ++ [v1]))) pr = some (.lst ([v2] ++ [v1])) := upd_same
        have z5 : Same G4 (upd G4 pr (.lst ([v2] ++ [v1]))) := Same.new hpr
        generalize upd G4 pr _ = G5 at z5 epr ⊢
        have epr : G5 pr = some (.lst [v2, v1]) := epr
        refine ⟨_, (SqL.of ((z0.trans (z1.trans (z2.trans (z3.trans (z4.trans (z5)))))) _ _ eLr)), _, rfl, fld_go (xr2.same (z0.trans (z1.trans (z2.trans (z3.trans (z4.trans (z5))))))) (xfN A 11) A.c_Refusal.nf.1 (lk2 (by decide +kernel)) ⟨_, (SqL.of ((z0.trans (z1.trans (z2.trans (z3.trans (z4.trans (z5)))))) _ _ eLr)), _, rfl, fld_go (xr2.same (z0.trans (z1.trans (z2.trans (z3.trans (z4.trans (z5))))))) (xfN A 11) A.c_Refusal.nf.2.1 lk1 ?_⟩⟩
        refine ⟨by decide, fun q1 hq1 => ?_⟩
        have cq1 : (upd G5 q1 (.tup [v2, .str (Str.ofString "inside")])) q1 = some (.tup [v2, .str (Str.ofString "inside")]) := upd_same
        have z6 : Same G5 (upd G5 q1 (.tup [v2, .str (Str.ofString "inside")])) := Same.new hq1
        generalize upd G5 q1 _ = G6 at z6 cq1 ⊢
        refine ⟨_, SqL.of ((z6) _ _ epr), _, rfl, ?_⟩
        refine ⟨by decide, fun m1 hm1 => ?_⟩
        have em1 : (upd G6 m1 (.lst [.str (Str.ofString "mark"), .str (Str.ofString "inside")])) m1 = some (.lst [.str (Str.ofString "mark"), .str (Str.ofString "inside")]) := upd_same
        have z7 : Same G6 (upd G6 m1 (.lst [.str (Str.ofString "mark"), .str (Str.ofString "inside")])) := Same.new hm1
        generalize upd G6 m1 _ = G7 at z7 em1 ⊢
        refine ⟨_, SqL.of em1, _, rfl, ?_⟩
        refine ⟨by decide, fun q2 hq2 => ?_⟩
        have cq2 : (upd G7 q2 (.tup [v2, .str (Str.ofString "inside")])) q2 = some (.tup [v2, .str (Str.ofString "inside")]) := upd_same
        have z8 : Same G7 (upd G7 q2 (.tup [v2, .str (Str.ofString "inside")])) := Same.new hq2
        generalize upd G7 q2 _ = G8 at z8 cq2 ⊢
        refine alike_go (pairD ((z7.trans (z8)) _ _ cq1) (Dp.same (ZG.trans (z1.trans (z2.trans (z3.trans (z4.trans (z5.trans (z6.trans (z7.trans (z8))))))))) _ _ h2) (.str _)) (pairD cq2 (Dp.same (ZG.trans (z1.trans (z2.trans (z3.trans (z4.trans (z5.trans (z6.trans (z7.trans (z8))))))))) _ _ h2) (.str _)) (shp2 (n := 8) s2 trivial) fun G9 z9 => ⟨true, rfl, iteF ?_⟩
        refine ⟨_, (SqL.of ((z0.trans (z1.trans (z2.trans (z3.trans (z4.trans (z5.trans (z6.trans (z7.trans (z8.trans (z9)))))))))) _ _ eLc)), _, rfl, fld_go (xc2.same (z0.trans (z1.trans (z2.trans (z3.trans (z4.trans (z5.trans (z6.trans (z7.trans (z8.trans (z9))))))))))) (xfN A 12) A.c_Clash.nf.1 (lk2 (by decide +kernel)) ⟨_, (SqL.of ((z0.trans (z1.trans (z2.trans (z3.trans (z4.trans (z5.trans (z6.trans (z7.trans (z8.trans (z9)))))))))) _ _ eLc)), _, rfl, fld_go (xc2.same (z0.trans (z1.trans (z2.trans (z3.trans (z4.trans (z5.trans (z6.trans (z7.trans (z8.trans (z9))))))))))) (xfN A 12) A.c_Clash.nf.2.1 lk1 ?_⟩⟩
        refine ⟨by decide, fun q3 hq3 => ?_⟩
        have cq3 : (upd G9 q3 (.tup [v2, v1])) q3 = some (.tup [v2, v1]) := upd_same
        have z10 : Same G9 (upd G9 q3 (.tup [v2, v1])) := Same.new hq3
        generalize upd G9 q3 _ = G10 at z10 cq3 ⊢
        refine ⟨_, SqL.of ((z6.trans (z7.trans (z8.trans (z9.trans (z10))))) _ _ epr), _, rfl, ⟨_, SqL.of ((z6.trans (z7.trans (z8.trans (z9.trans (z10))))) _ _ epr), _, rfl, ?_⟩⟩
        refine ⟨by decide, fun q4 hq4 => ?_⟩
        have cq4 : (upd G10 q4 (.tup [v2, v1])) q4 = some (.tup [v2, v1]) := upd_same
        have z11 : Same G10 (upd G10 q4 (.tup [v2, v1])) := Same.new hq4
        generalize upd G10 q4 _ = G11 at z11 cq4 ⊢
        refine alike_go (pairD ((z11) _ _ cq3) (Dp.same (ZG.trans (z1.trans (z2.trans (z3.trans (z4.trans (z5.trans (z6.trans (z7.trans (z8.trans (z9.trans (z10.trans (z11)))))))))))) _ _ h2) (Dp.same (ZG.trans (z1.trans (z2.trans (z3.trans (z4.trans (z5.trans (z6.trans (z7.trans (z8.trans (z9.trans (z10.trans (z11)))))))))))) _ _ h1)) (pairD cq4 (Dp.same (ZG.trans (z1.trans (z2.trans (z3.trans (z4.trans (z5.trans (z6.trans (z7.trans (z8.trans (z9.trans (z10.trans (z11)))))))))))) _ _ h2) (Dp.same (ZG.trans (z1.trans (z2.trans (z3.trans (z4.trans (z5.trans (z6.trans (z7.trans (z8.trans (z9.trans (z10.trans (z11)))))))))))) _ _ h1)) (shp2 (n := 8) s2 s1) fun G12 z12 => ⟨true, rfl, iteF ?_⟩
        refine ⟨_, (SqL.of ((z0.trans (z1.trans (z2.trans (z3.trans (z4.trans (z5.trans (z6.trans (z7.trans (z8.trans (z9.trans (z10.trans (z11.trans (z12))))))))))))) _ _ eLf)), _, rfl, fld_go (xf2.same (z0.trans (z1.trans (z2.trans (z3.trans (z4.trans (z5.trans (z6.trans (z7.trans (z8.trans (z9.trans (z10.trans (z11.trans (z12)))))))))))))) (xfN A 13) A.c_Refused.nf.1 rfl ?_⟩
        refine ⟨by decide, fun m2 hm2 => ?_⟩
        have em2 : (upd G12 m2 (.lst [v3, v4])) m2 = some (.lst [v3, v4]) := upd_same
        have z13 : Same G12 (upd G12 m2 (.lst [v3, v4])) := Same.new hm2
        generalize upd G12 m2 _ = G13 at z13 em2 ⊢
        refine ⟨_, SqL.of em2, _, rfl, ?_⟩
        exact alike_go (Dp.same (ZG.trans (z1.trans (z2.trans (z3.trans (z4.trans (z5.trans (z6.trans (z7.trans (z8.trans (z9.trans (z10.trans (z11.trans (z12.trans (z13)))))))))))))) _ _ h4) (Dp.same (ZG.trans (z1.trans (z2.trans (z3.trans (z4.trans (z5.trans (z6.trans (z7.trans (z8.trans (z9.trans (z10.trans (z11.trans (z12.trans (z13)))))))))))))) _ _ h4) (s4.up) fun GZ zZ => ⟨true, rfl, iteF ⟨z0.trans ((z1.trans (z2.trans (z3.trans (z4.trans (z5.trans (z6.trans (z7.trans (z8.trans (z9.trans (z10.trans (z11.trans (z12.trans (z13))))))))))))).trans zZ), _, rfl⟩⟩
    · rintro σ G ⟨z0, a, b, rfl⟩
      walk_at "vc"
      refine ⟨_, SqL.of (z0 _ _ eLr), _, rfl, alone_go 11 (xr1.same z0) (by omega) rfl rfl fun H1 z1 => ⟨true, rfl, iteT ?_⟩⟩
      have z01 := z0.trans z1
      refine ⟨_, SqL.of (z01 _ _ eLc), _, rfl, alone_go 12 (xc1.same z01) (by omega) rfl rfl fun H2 z2 => ⟨true, rfl, iteT ?_⟩⟩
      have z02 := z01.trans z2
      exact ⟨_, SqL.of (z02 _ _ eLf), _, rfl, alone_go 13 (xf1.same z02) (by omega) rfl rfl fun H3 z3 => q _ (Z.trans (z02.trans z3))⟩
end
end Ly
namespace Ly
open PySem PySem.Spec PyProof.Rows L2
local macro_rules | `(tactic| walk_at "vc") => `(tactic| simp only [tSeq, tAsg, tOp, tVar, tC, tRet, tRetN, tNext, tIfS, tIf, tDrop, tB, tTest, tNot, tAnd, tOr, tAndV, tOrV, tNotV, tChain, tUn, tCB, tCons, tNil, tTup, tLst, tSl, tPart, tNoPart, tCall, tBreak, tCont,
  rI, rI0, rU, gName, gNil, gCons, gSub, rSetL, L2.start, cx_K, cx_nox, tLc_eq, tFor_eq, iRng1, iRng2, iList, iTup, tM1, tYes, wipe, rIxS, rIxL, rIxT, rCat, rSlL, rEq, rNe, tMkO_eq, tVal_eq, tFldE_eq, tXfE_eq, tCallS, lenV_ref, CDiv, CDivW, CPow, CMulX,
  List.map_cons, List.map_nil, List.cons_append, List.nil_append, List.append_nil, List.length_cons, List.length_nil, List.replicate, List.getElem?_cons_zero, List.getElem?_cons_succ, List.set_cons_zero, List.set_cons_succ, Nat.reduceSub, Nat.reduceAdd,
  Option.some.injEq, V.int.injEq, V.bl.injEq, V.str.injEq, V.ref.injEq, exists_eq_left', exists_eq_left, exists_and_left, reduceCtorEq, false_and, and_false, exists_false, or_false, false_or, Bool.false_eq_true, if_false, if_true, reduceIte, decide_eq_true_eq, List.cons.injEq, and_true, true_and])
section
variable {P : Program} {w : World} {K : PySem.W.Frag} {mg : Str → Option Value} {base : Heap}
/-! ### _law_raise -/
def fOf (k : Nat) (v1 v2 v3 v4 : V) : List (Str × V) := match k with
  | 8 => [("path", v1)]
  | 9 => [("at", .int 2), ("text", .str "a(")]
  | 10 => [("what", .str "mark")]
  | 11 => [("reason", .str "mark"), ("deed", v2)]
  | 12 => [("other", v3), ("deed", v2)]
  | 13 => [("claim", v4)]
  | 14 => [("at", .int 1), ("line", .str "show")]
  | 15 => [("name", .str "abc")]
  | 16 => [("deed", .str "undo")]
  | _ => [("value", v1)]
def sp_raise (A : All K mg) : Sp := fun vs H Q E => ∃ (k : Nat) (v1 v2 v3 v4 : V), k < 17 ∧ vs = [.int (k : Int), v1, v2, v3, v4] ∧ ∀ d, H d = none → E (.ref (csN A k)) (some d) (upd H d (.xd (fOf k v1 v2 v3 v4)))
theorem ok_l_raise (A : All K mg) : FnOk P w K mg base (L2.CX P w) 3 A.l_raise.f A.l_raise.fd ["kind", "value", "deed", "other", "claim"] (sp_raise A) := by
  have G_NothingToUndo_init := ok_NothingToUndo_init (P := P) (w := w) (base := base) A
  have G_InvalidForest_init := ok_InvalidForest_init (P := P) (w := w) (base := base) A
  have G_InvalidPlot_init := ok_InvalidPlot_init (P := P) (w := w) (base := base) A
  have G_InvalidPrices_init := ok_InvalidPrices_init (P := P) (w := w) (base := base) A
  have G_InvalidMatching_init := ok_InvalidMatching_init (P := P) (w := w) (base := base) A
  have G_InvalidScript_init := ok_InvalidScript_init (P := P) (w := w) (base := base) A
  have G_InvalidTable_init := ok_InvalidTable_init (P := P) (w := w) (base := base) A
  have G_InvalidClaim_init := ok_InvalidClaim_init (P := P) (w := w) (base := base) A
  have G_InvalidNumber_init := ok_InvalidNumber_init (P := P) (w := w) (base := base) A
  have G_InvalidPath_init := ok_InvalidPath_init (P := P) (w := w) (base := base) A
  have G_InvalidText_init := ok_InvalidText_init (P := P) (w := w) (base := base) A
  have G_Undefined_init := ok_Undefined_init (P := P) (w := w) (base := base) A
  have G_Refusal_init := ok_Refusal_init (P := P) (w := w) (base := base) A
  have G_Clash_init := ok_Clash_init (P := P) (w := w) (base := base) A
  have G_Refused_init := ok_Refused_init (P := P) (w := w) (base := base) A
  have G_InvalidCommand_init := ok_InvalidCommand_init (P := P) (w := w) (base := base) A
  have G_UnknownName_init := ok_UnknownName_init (P := P) (w := w) (base := base) A
  refine A.l_raise.F.okX sc_l_raise (fun vs H Q E h => ?_) (fun cdv B outer s H vs Q E hr h => ?_)
  · obtain ⟨k, v1, v2, v3, v4, _, rfl, _⟩ := h
    rfl
  · obtain ⟨k, v1, v2, v3, v4, hk, rfl, q⟩ := h
    refine ⟨_, (pss_cons (ps_if (pt_cmpR op_eq (pv 0) pe_int (nomark _)) (pss_one (ps_raise rfl (takes_of rfl rfl rfl rfl) (pmk_oex A.c_InvalidForest.o A.c_InvalidForest.i A.c_InvalidForest.ty G_InvalidForest_init (hr.mono (by decide)) A.c_InvalidForest.b .nil pass0 rfl A.c_InvalidForest.g (pa_cons (pv 1) pa_nil)))) pss_nil) (pss_cons (ps_if (pt_cmpR op_eq (pv 0) pe_int (nomark _)) (pss_one (ps_raise rfl (takes_of rfl rfl rfl rfl) (pmk_oex A.c_InvalidPlot.o A.c_InvalidPlot.i A.c_InvalidPlot.ty G_InvalidPlot_init (hr.mono (by decide)) A.c_InvalidPlot.b .nil pass0 rfl A.c_InvalidPlot.g (pa_cons (pv 1) pa_nil)))) pss_nil) (pss_cons (ps_if (pt_cmpR op_eq (pv 0) pe_int (nomark _)) (pss_one (ps_raise rfl (takes_of rfl rfl rfl rfl) (pmk_oex A.c_InvalidPrices.o A.c_InvalidPrices.i A.c_InvalidPrices.ty G_InvalidPrices_init (hr.mono (by decide)) A.c_InvalidPrices.b .nil pass0 rfl A.c_InvalidPrices.g (pa_cons (pv 1) pa_nil)))) pss_nil) (pss_cons (ps_if (pt_cmpR op_eq (pv 0) pe_int (nomark _)) (pss_one (ps_raise rfl (takes_of rfl rfl rfl rfl) (pmk_oex A.c_InvalidMatching.o A.c_InvalidMatching.i A.c_InvalidMatching.ty G_InvalidMatching_init (hr.mono (by decide)) A.c_InvalidMatching.b .nil pass0 rfl A.c_InvalidMatching.g (pa_cons (pv 1) pa_nil)))) pss_nil) (pss_cons (ps_if (pt_cmpR op_eq (pv 0) pe_int (nomark _)) (pss_one (ps_raise rfl (takes_of rfl rfl rfl rfl) (pmk_oex A.c_InvalidScript.o A.c_InvalidScript.i A.c_InvalidScript.ty G_InvalidScript_init (hr.mono (by decide)) A.c_InvalidScript.b .nil pass0 rfl A.c_InvalidScript.g (pa_cons (pv 1) pa_nil)))) pss_nil) (pss_cons (ps_if (pt_cmpR op_eq (pv 0) pe_int (nomark _)) (pss_one (ps_raise rfl (takes_of rfl rfl rfl rfl) (pmk_oex A.c_InvalidTable.o A.c_InvalidTable.i A.c_InvalidTable.ty G_InvalidTable_init (hr.mono (by decide)) A.c_InvalidTable.b .nil pass0 rfl A.c_InvalidTable.g (pa_cons (pv 1) pa_nil)))) pss_nil) (pss_cons (ps_if (pt_cmpR op_eq (pv 0) pe_int (nomark _)) (pss_one (ps_raise rfl (takes_of rfl rfl rfl rfl) (pmk_oex A.c_InvalidClaim.o A.c_InvalidClaim.i A.c_InvalidClaim.ty G_InvalidClaim_init (hr.mono (by decide)) A.c_InvalidClaim.b .nil pass0 rfl A.c_InvalidClaim.g (pa_cons (pv 1) pa_nil)))) pss_nil) (pss_cons (ps_if (pt_cmpR op_eq (pv 0) pe_int (nomark _)) (pss_one (ps_raise rfl (takes_of rfl rfl rfl rfl) (pmk_oex A.c_InvalidNumber.o A.c_InvalidNumber.i A.c_InvalidNumber.ty G_InvalidNumber_init (hr.mono (by decide)) A.c_InvalidNumber.b .nil pass0 rfl A.c_InvalidNumber.g (pa_cons (pv 1) pa_nil)))) pss_nil) (pss_cons (ps_if (pt_cmpR op_eq (pv 0) pe_int (nomark _)) (pss_one (ps_raise rfl (takes_of rfl rfl rfl rfl) (pmk_oex A.c_InvalidPath.o A.c_InvalidPath.i A.c_InvalidPath.ty G_InvalidPath_init (hr.mono (by decide)) A.c_InvalidPath.b .nil pass0 rfl A.c_InvalidPath.g (pa_cons (pv 1) pa_nil)))) pss_nil) (pss_cons (ps_if (pt_cmpR op_eq (pv 0) pe_int (nomark _)) (pss_one (ps_raise rfl (takes_of rfl rfl rfl rfl) (pmk_oex A.c_InvalidText.o A.c_InvalidText.i A.c_InvalidText.ty G_InvalidText_init (hr.mono (by decide)) A.c_InvalidText.b .nil pass0 rfl A.c_InvalidText.g (pa_cons pe_str (pa_cons pe_int pa_nil))))) pss_nil) (pss_cons (ps_if (pt_cmpR op_eq (pv 0) pe_int (nomark _)) (pss_one (ps_raise rfl (takes_of rfl rfl rfl rfl) (pmk_oex A.c_Undefined.o A.c_Undefined.i A.c_Undefined.ty G_Undefined_init (hr.mono (by decide)) A.c_Undefined.b .nil pass0 rfl A.c_Undefined.g (pa_cons pe_str pa_nil)))) pss_nil) (pss_cons (ps_if (pt_cmpR op_eq (pv 0) pe_int (nomark _)) (pss_one (ps_raise rfl (takes_of rfl rfl rfl rfl) (pmk_oex A.c_Refusal.o A.c_Refusal.i A.c_Refusal.ty G_Refusal_init (hr.mono (by decide)) A.c_Refusal.b .nil pass0 rfl A.c_Refusal.g (pa_cons (pv 2) (pa_cons pe_str pa_nil))))) pss_nil) (pss_cons (ps_if (pt_cmpR op_eq (pv 0) pe_int (nomark _)) (pss_one (ps_raise rfl (takes_of rfl rfl rfl rfl) (pmk_oex A.c_Clash.o A.c_Clash.i A.c_Clash.ty G_Clash_init (hr.mono (by decide)) A.c_Clash.b .nil pass0 rfl A.c_Clash.g (pa_cons (pv 2) (pa_cons (pv 3) pa_nil))))) pss_nil) (pss_cons (ps_if (pt_cmpR op_eq (pv 0) pe_int (nomark _)) (pss_one (ps_raise rfl (takes_of rfl rfl rfl rfl) (pmk_oex A.c_Refused.o A.c_Refused.i A.c_Refused.ty G_Refused_init (hr.mono (by decide)) A.c_Refused.b .nil pass0 rfl A.c_Refused.g (pa_cons (pv 4) pa_nil)))) pss_nil) (pss_cons (ps_if (pt_cmpR op_eq (pv 0) pe_int (nomark _)) (pss_one (ps_raise rfl (takes_of rfl rfl rfl rfl) (pmk_oex A.c_InvalidCommand.o A.c_InvalidCommand.i A.c_InvalidCommand.ty G_InvalidCommand_init (hr.mono (by decide)) A.c_InvalidCommand.b .nil pass0 rfl A.c_InvalidCommand.g (pa_cons pe_str (pa_cons pe_int pa_nil))))) pss_nil) (pss_cons (ps_if (pt_cmpR op_eq (pv 0) pe_int (nomark _)) (pss_one (ps_raise rfl (takes_of rfl rfl rfl rfl) (pmk_oex A.c_UnknownName.o A.c_UnknownName.i A.c_UnknownName.ty G_UnknownName_init (hr.mono (by decide)) A.c_UnknownName.b .nil pass0 rfl A.c_UnknownName.g (pa_cons pe_str pa_nil)))) pss_nil) (pss_one (ps_raise rfl (takes_of rfl rfl rfl rfl) (pmk_oex A.c_NothingToUndo.o A.c_NothingToUndo.i A.c_NothingToUndo.ty G_NothingToUndo_init (hr.mono (by decide)) A.c_NothingToUndo.b .nil pass0 rfl A.c_NothingToUndo.g (pa_cons pe_str pa_nil)))))))))))))))))))), ?_⟩
    walk_at "vc"
    refine ⟨rfl, ite2 (fun c0 => ?_) (fun c0 => ?_)⟩
    · obtain rfl : k = 0 := by omega
      exact MkB.one fun d hd => q d hd
    refine ⟨rfl, ite2 (fun c1 => ?_) (fun c1 => ?_)⟩
    · obtain rfl : k = 1 := by omega
      exact MkB.one fun d hd => q d hd
    refine ⟨rfl, ite2 (fun c2 => ?_) (fun c2 => ?_)⟩
    · obtain rfl : k = 2 := by omega
      exact MkB.one fun d hd => q d hd
    refine ⟨rfl, ite2 (fun c3 => ?_) (fun c3 => ?_)⟩
    · obtain rfl : k = 3 := by omega
      exact MkB.one fun d hd => q d hd
    refine ⟨rfl, ite2 (fun c4 => ?_) (fun c4 => ?_)⟩
    · obtain rfl : k = 4 := by omega
      exact MkB.one fun d hd => q d hd
    refine ⟨rfl, ite2 (fun c5 => ?_) (fun c5 => ?_)⟩
    · obtain rfl : k = 5 := by omega
      exact MkB.one fun d hd => q d hd
    refine ⟨rfl, ite2 (fun c6 => ?_) (fun c6 => ?_)⟩
    · obtain rfl : k = 6 := by omega
      exact MkB.one fun d hd => q d hd
    refine ⟨rfl, ite2 (fun c7 => ?_) (fun c7 => ?_)⟩
    · obtain rfl : k = 7 := by omega
      exact MkB.one fun d hd => q d hd
    refine ⟨rfl, ite2 (fun c8 => ?_) (fun c8 => ?_)⟩
    · obtain rfl : k = 8 := by omega
      exact MkB.one fun d hd => q d hd
    refine ⟨rfl, ite2 (fun c9 => ?_) (fun c9 => ?_)⟩
    · obtain rfl : k = 9 := by omega
      exact MkB.two fun d hd => q d hd
    refine ⟨rfl, ite2 (fun c10 => ?_) (fun c10 => ?_)⟩
    · obtain rfl : k = 10 := by omega
      exact MkB.one fun d hd => q d hd
    refine ⟨rfl, ite2 (fun c11 => ?_) (fun c11 => ?_)⟩
    · obtain rfl : k = 11 := by omega
      exact MkB.two fun d hd => q d hd
    refine ⟨rfl, ite2 (fun c12 => ?_) (fun c12 => ?_)⟩
    · obtain rfl : k = 12 := by omega
      exact MkB.two fun d hd => q d hd
    refine ⟨rfl, ite2 (fun c13 => ?_) (fun c13 => ?_)⟩
    · obtain rfl : k = 13 := by omega
      exact MkB.one fun d hd => q d hd
    refine ⟨rfl, ite2 (fun c14 => ?_) (fun c14 => ?_)⟩
    · obtain rfl : k = 14 := by omega
      exact MkB.two fun d hd => q d hd
    refine ⟨rfl, ite2 (fun c15 => ?_) (fun c15 => ?_)⟩
    · obtain rfl : k = 15 := by omega
      exact MkB.one fun d hd => q d hd
    obtain rfl : k = 16 := by omega
    exact MkB.one fun d hd => q d hd
/-! ### _law_caught -/
def cD (k : Nat) (d1 d2 d3 d4 : PyData) : PyData := match k with
  | 8 => .tuple [.int 8, d1]
  | 9 => .tuple [.int 9, .tuple [.str "a(", .int 2]]
  | 10 => .tuple [.int 10, .str "mark"]
  | 11 => .tuple [.int 11, .tuple [d2, .str "mark"]]
  | 12 => .tuple [.int 12, .tuple [d2, d3]]
  | 13 => .tuple [.int 13, d4]
  | 14 => .tuple [.int 14, .tuple [.str "show", .int 1]]
  | 15 => .tuple [.int 15, .str "abc"]
  | 16 => .tuple [.int 16, .str "undo"]
  | _ => .tuple [.int 0, d1]
def sp_caught (K : PySem.W.Frag) : Sp := fun vs H Q _ => ∃ (k : Nat) (v1 v2 v3 v4 : V) (d1 d2 d3 d4 : PyData), k < 17 ∧ vs = [.int (k : Int), v1, v2, v3, v4] ∧ Dp K H v1 d1 ∧ Dp K H v2 d2 ∧ Dp K H v3 d3 ∧ Dp K H v4 d4 ∧
  ∀ r H', Same H H' → Dp K H' r (cD k d1 d2 d3 d4) → Q r H'
theorem ok_l_caught (A : All K mg) : FnOk P w K mg base CX0 4 A.l_caught.f A.l_caught.fd ["kind", "value", "deed", "other", "claim"] (sp_caught K) := by
  have G_l_raise := ok_l_raise (P := P) (w := w) (base := base) A
  refine A.l_caught.F.ok sc_l_caught (fun vs H Q E h => ?_) (fun cdv B outer s H vs Q E hr h => ?_)
  · obtain ⟨k, v1, v2, v3, v4, d1, d2, d3, d4, _, rfl, _⟩ := h
    rfl
  · obtain ⟨k, v1, v2, v3, v4, d1, d2, d3, d4, hk, rfl, h1, h2, h3, h4, q⟩ := h
    refine ⟨_, (pss_cons (ps_try_manyA (Wout := fun _ _ _ _ => False) rfl rfl takes0 (fun W pn xe tk _ => (pss_one (ps_expr (pe_callS G_l_raise (hr.mono (by decide)) rfl A.l_raise.m A.l_raise.F.kp A.l_raise.b (fun σ => passAt tk σ) (pa_cons (pv 0) (pa_cons (pv 1) (pa_cons (pv 2) (pa_cons (pv 3) (pa_cons (pv 4) pa_nil))))))))) (HdsA.consA (i := 5) sc_l_caught.nd rfl rfl ⟨by rfl, by decide, .inl A.c_NothingToUndo.g⟩ (fun a oe cls d pn hz hf => (pss_one (ps_ret (pe_tup (pa_cons pe_int (pa_cons (pe_xfE hz hf (pv 5)) pa_nil)))))) (HdsA.consA (i := 5) sc_l_caught.nd rfl rfl ⟨by rfl, by decide, .inl A.c_UnknownName.g⟩ (fun a oe cls d pn hz hf => (pss_one (ps_ret (pe_tup (pa_cons pe_int (pa_cons (pe_xfE hz hf (pv 5)) pa_nil)))))) (HdsA.consA (i := 5) sc_l_caught.nd rfl rfl ⟨by rfl, by decide, .inl A.c_InvalidCommand.g⟩ (fun a oe cls d pn hz hf => (pss_one (ps_ret (pe_tup (pa_cons pe_int (pa_cons (pe_tup (pa_cons (pe_xfE hz hf (pv 5)) (pa_cons (pe_xfE hz hf (pv 5)) pa_nil))) pa_nil)))))) (HdsA.consA (i := 5) sc_l_caught.nd rfl rfl ⟨by rfl, by decide, .inl A.c_Refused.g⟩ (fun a oe cls d pn hz hf => (pss_one (ps_ret (pe_tup (pa_cons pe_int (pa_cons (pe_xfE hz hf (pv 5)) pa_nil)))))) (HdsA.consA (i := 5) sc_l_caught.nd rfl rfl ⟨by rfl, by decide, .inl A.c_Clash.g⟩ (fun a oe cls d pn hz hf => (pss_one (ps_ret (pe_tup (pa_cons pe_int (pa_cons (pe_tup (pa_cons (pe_xfE hz hf (pv 5)) (pa_cons (pe_xfE hz hf (pv 5)) pa_nil))) pa_nil)))))) (HdsA.consA (i := 5) sc_l_caught.nd rfl rfl ⟨by rfl, by decide, .inl A.c_Refusal.g⟩ (fun a oe cls d pn hz hf => (pss_one (ps_ret (pe_tup (pa_cons pe_int (pa_cons (pe_tup (pa_cons (pe_xfE hz hf (pv 5)) (pa_cons (pe_xfE hz hf (pv 5)) pa_nil))) pa_nil)))))) (HdsA.consA (i := 5) sc_l_caught.nd rfl rfl ⟨by rfl, by decide, .inl A.c_Undefined.g⟩ (fun a oe cls d pn hz hf => (pss_one (ps_ret (pe_tup (pa_cons pe_int (pa_cons (pe_xfE hz hf (pv 5)) pa_nil)))))) (HdsA.consA (i := 5) sc_l_caught.nd rfl rfl ⟨by rfl, by decide, .inl A.c_InvalidText.g⟩ (fun a oe cls d pn hz hf => (pss_one (ps_ret (pe_tup (pa_cons pe_int (pa_cons (pe_tup (pa_cons (pe_xfE hz hf (pv 5)) (pa_cons (pe_xfE hz hf (pv 5)) pa_nil))) pa_nil)))))) (HdsA.consA (i := 5) sc_l_caught.nd rfl rfl ⟨by rfl, by decide, .inl A.c_InvalidPath.g⟩ (fun a oe cls d pn hz hf => (pss_one (ps_ret (pe_tup (pa_cons pe_int (pa_cons (pe_xfE hz hf (pv 5)) pa_nil)))))) (HdsA.consA (i := 5) sc_l_caught.nd rfl rfl ⟨by rfl, by decide, .inl A.c_GraftError.g⟩ (fun a oe cls d pn hz hf => (pss_one (ps_ret (pe_tup (pa_cons pe_int (pa_cons (pe_xfE hz hf (pv 5)) pa_nil)))))) HdsA.nil))))))))))) (pss_one (ps_ret (pe_tup (pa_cons pe_int (pa_cons pe_non pa_nil)))))), ?_⟩
    walk_at "vc"
    refine ⟨k, v1, v2, v3, v4, hk, rfl, fun dd hd => ?_⟩
    have z0 : Same H (upd H dd (.xd (fOf k v1 v2 v3 v4))) := Same.new hd
    have e0 : (upd H dd (.xd (fOf k v1 v2 v3 v4))) dd = some (.xd (fOf k v1 v2 v3 v4)) := upd_same
    have h1 := Dp.same z0 _ _ h1
    have h2 := Dp.same z0 _ _ h2
    have h3 := Dp.same z0 _ _ h3
    have h4 := Dp.same z0 _ _ h4
    have no : ∀ j, j < 17 → k ≠ j → PySem.W.exmOne K (.ref (csN A k)) (.ref (csN A j)) = some false := fun j hj ne => by
      have := exm_tab A ⟨k, hk⟩ ⟨j, hj⟩
      rw [decide_eq_false (fun z => ne (congrArg _root_.Fin.val z).symm)] at this
      exact this
    have yes : PySem.W.exmOne K (.ref (csN A k)) (.ref (csN A k)) = some true := exm_self (ceN A k)
    have up : PySem.W.exmOne K (.ref (csN A k)) (.ref A.c_GraftError.C) = some true := exm_up (ceN A k) A.c_GraftError.e
    generalize upd H dd (.xd (fOf k v1 v2 v3 v4)) = H1 at z0 e0 h1 h2 h3 h4 ⊢
    match k, hk with
    | 0, hk =>
      refine wA_no (no 16 (by omega) (by omega)) ?_
      refine wA_no (no 15 (by omega) (by omega)) ?_
      refine wA_no (no 14 (by omega) (by omega)) ?_
      refine wA_no (no 13 (by omega) (by omega)) ?_
      refine wA_no (no 12 (by omega) (by omega)) ?_
      refine wA_no (no 11 (by omega) (by omega)) ?_
      refine wA_no (no 10 (by omega) (by omega)) ?_
      refine wA_no (no 9 (by omega) (by omega)) ?_
      refine wA_no (no 8 (by omega) (by omega)) ?_
      refine wA_yes up fun a ha => ?_
      walk_at "vc"
      refine ⟨rfl, _, rfl, xfN A 0, A.c_InvalidForest.nf.1, dd, _, v1, rfl, e0, rfl, by decide, fun p hp => ?_⟩
      exact q _ _ (z0.trans (Same.new hp)) (pairD upd_same (.int _) (Dp.same (Same.new hp) _ _ h1))
    | 1, hk =>
      refine wA_no (no 16 (by omega) (by omega)) ?_
      refine wA_no (no 15 (by omega) (by omega)) ?_
      refine wA_no (no 14 (by omega) (by omega)) ?_
      refine wA_no (no 13 (by omega) (by omega)) ?_
      refine wA_no (no 12 (by omega) (by omega)) ?_
      refine wA_no (no 11 (by omega) (by omega)) ?_
      refine wA_no (no 10 (by omega) (by omega)) ?_
      refine wA_no (no 9 (by omega) (by omega)) ?_
      refine wA_no (no 8 (by omega) (by omega)) ?_
      refine wA_yes up fun a ha => ?_
      walk_at "vc"
      refine ⟨rfl, _, rfl, xfN A 1, A.c_InvalidPlot.nf.1, dd, _, v1, rfl, e0, rfl, by decide, fun p hp => ?_⟩
      exact q _ _ (z0.trans (Same.new hp)) (pairD upd_same (.int _) (Dp.same (Same.new hp) _ _ h1))
    | 2, hk =>
      refine wA_no (no 16 (by omega) (by omega)) ?_
      refine wA_no (no 15 (by omega) (by omega)) ?_
      refine wA_no (no 14 (by omega) (by omega)) ?_
      refine wA_no (no 13 (by omega) (by omega)) ?_
      refine wA_no (no 12 (by omega) (by omega)) ?_
      refine wA_no (no 11 (by omega) (by omega)) ?_
      refine wA_no (no 10 (by omega) (by omega)) ?_
      refine wA_no (no 9 (by omega) (by omega)) ?_
      refine wA_no (no 8 (by omega) (by omega)) ?_
      refine wA_yes up fun a ha => ?_
      walk_at "vc"
      refine ⟨rfl, _, rfl, xfN A 2, A.c_InvalidPrices.nf.1, dd, _, v1, rfl, e0, rfl, by decide, fun p hp => ?_⟩
      exact q _ _ (z0.trans (Same.new hp)) (pairD upd_same (.int _) (Dp.same (Same.new hp) _ _ h1))
    | 3, hk =>
      refine wA_no (no 16 (by omega) (by omega)) ?_
      refine wA_no (no 15 (by omega) (by omega)) ?_
      refine wA_no (no 14 (by omega) (by omega)) ?_
      refine wA_no (no 13 (by omega) (by omega)) ?_
      refine wA_no (no 12 (by omega) (by omega)) ?_
      refine wA_no (no 11 (by omega) (by omega)) ?_
      refine wA_no (no 10 (by omega) (by omega)) ?_
      refine wA_no (no 9 (by omega) (by omega)) ?_
      refine wA_no (no 8 (by omega) (by omega)) ?_
      refine wA_yes up fun a ha => ?_
      walk_at "vc"
      refine ⟨rfl, _, rfl, xfN A 3, A.c_InvalidMatching.nf.1, dd, _, v1, rfl, e0, rfl, by decide, fun p hp => ?_⟩
      exact q _ _ (z0.trans (Same.new hp)) (pairD upd_same (.int _) (Dp.same (Same.new hp) _ _ h1))
    | 4, hk =>
      refine wA_no (no 16 (by omega) (by omega)) ?_
      refine wA_no (no 15 (by omega) (by omega)) ?_
      refine wA_no (no 14 (by omega) (by omega)) ?_
      refine wA_no (no 13 (by omega) (by omega)) ?_
      refine wA_no (no 12 (by omega) (by omega)) ?_
      refine wA_no (no 11 (by omega) (by omega)) ?_
      refine wA_no (no 10 (by omega) (by omega)) ?_
      refine wA_no (no 9 (by omega) (by omega)) ?_
      refine wA_no (no 8 (by omega) (by omega)) ?_
      refine wA_yes up fun a ha => ?_
      walk_at "vc"
      refine ⟨rfl, _, rfl, xfN A 4, A.c_InvalidScript.nf.1, dd, _, v1, rfl, e0, rfl, by decide, fun p hp => ?_⟩
      exact q _ _ (z0.trans (Same.new hp)) (pairD upd_same (.int _) (Dp.same (Same.new hp) _ _ h1))
    | 5, hk =>
      refine wA_no (no 16 (by omega) (by omega)) ?_
      refine wA_no (no 15 (by omega) (by omega)) ?_
      refine wA_no (no 14 (by omega) (by omega)) ?_
      refine wA_no (no 13 (by omega) (by omega)) ?_
      refine wA_no (no 12 (by omega) (by omega)) ?_
      refine wA_no (no 11 (by omega) (by omega)) ?_
      refine wA_no (no 10 (by omega) (by omega)) ?_
      refine wA_no (no 9 (by omega) (by omega)) ?_
      refine wA_no (no 8 (by omega) (by omega)) ?_
      refine wA_yes up fun a ha => ?_
      walk_at "vc"
      refine ⟨rfl, _, rfl, xfN A 5, A.c_InvalidTable.nf.1, dd, _, v1, rfl, e0, rfl, by decide, fun p hp => ?_⟩
      exact q _ _ (z0.trans (Same.new hp)) (pairD upd_same (.int _) (Dp.same (Same.new hp) _ _ h1))
    | 6, hk =>
      refine wA_no (no 16 (by omega) (by omega)) ?_
      refine wA_no (no 15 (by omega) (by omega)) ?_
      refine wA_no (no 14 (by omega) (by omega)) ?_
      refine wA_no (no 13 (by omega) (by omega)) ?_
      refine wA_no (no 12 (by omega) (by omega)) ?_
      refine wA_no (no 11 (by omega) (by omega)) ?_
      refine wA_no (no 10 (by omega) (by omega)) ?_
      refine wA_no (no 9 (by omega) (by omega)) ?_
      refine wA_no (no 8 (by omega) (by omega)) ?_
      refine wA_yes up fun a ha => ?_
      walk_at "vc"
      refine ⟨rfl, _, rfl, xfN A 6, A.c_InvalidClaim.nf.1, dd, _, v1, rfl, e0, rfl, by decide, fun p hp => ?_⟩
      exact q _ _ (z0.trans (Same.new hp)) (pairD upd_same (.int _) (Dp.same (Same.new hp) _ _ h1))
    | 7, hk =>
      refine wA_no (no 16 (by omega) (by omega)) ?_
      refine wA_no (no 15 (by omega) (by omega)) ?_
      refine wA_no (no 14 (by omega) (by omega)) ?_
      refine wA_no (no 13 (by omega) (by omega)) ?_
      refine wA_no (no 12 (by omega) (by omega)) ?_
      refine wA_no (no 11 (by omega) (by omega)) ?_
      refine wA_no (no 10 (by omega) (by omega)) ?_
      refine wA_no (no 9 (by omega) (by omega)) ?_
      refine wA_no (no 8 (by omega) (by omega)) ?_
      refine wA_yes up fun a ha => ?_
      walk_at "vc"
      refine ⟨rfl, _, rfl, xfN A 7, A.c_InvalidNumber.nf.1, dd, _, v1, rfl, e0, rfl, by decide, fun p hp => ?_⟩
      exact q _ _ (z0.trans (Same.new hp)) (pairD upd_same (.int _) (Dp.same (Same.new hp) _ _ h1))
    | 8, hk =>
      refine wA_no (no 16 (by omega) (by omega)) ?_
      refine wA_no (no 15 (by omega) (by omega)) ?_
      refine wA_no (no 14 (by omega) (by omega)) ?_
      refine wA_no (no 13 (by omega) (by omega)) ?_
      refine wA_no (no 12 (by omega) (by omega)) ?_
      refine wA_no (no 11 (by omega) (by omega)) ?_
      refine wA_no (no 10 (by omega) (by omega)) ?_
      refine wA_no (no 9 (by omega) (by omega)) ?_
      refine wA_yes yes fun a ha => ?_
      walk_at "vc"
      refine ⟨rfl, _, rfl, xfN A 8, A.c_InvalidPath.nf.1, dd, _, v1, rfl, e0, rfl, by decide, fun p hp => ?_⟩
      exact q _ _ (z0.trans (Same.new hp)) (pairD upd_same (.int _) (Dp.same (Same.new hp) _ _ h1))
    | 9, hk =>
      refine wA_no (no 16 (by omega) (by omega)) ?_
      refine wA_no (no 15 (by omega) (by omega)) ?_
      refine wA_no (no 14 (by omega) (by omega)) ?_
      refine wA_no (no 13 (by omega) (by omega)) ?_
      refine wA_no (no 12 (by omega) (by omega)) ?_
      refine wA_no (no 11 (by omega) (by omega)) ?_
      refine wA_no (no 10 (by omega) (by omega)) ?_
      refine wA_yes yes fun a ha => ?_
      walk_at "vc"
      refine ⟨rfl, _, rfl, xfN A 9, A.c_InvalidText.nf.1, dd, _, .str "a(", rfl, e0, lk2 (by decide +kernel), rfl, _, rfl, xfN A 9, A.c_InvalidText.nf.2.1, dd, _, .int 2, rfl, e0, lk1, by decide, fun p hp => ⟨by decide, fun p2 hp2 => ?_⟩⟩
      exact q _ _ (z0.trans (Same.trans (Same.new hp) (Same.new hp2))) (pairD upd_same (.int _) (Dp.same (Same.new hp2) _ _ (pairD upd_same (.str _) (.int _))))
    | 10, hk =>
      refine wA_no (no 16 (by omega) (by omega)) ?_
      refine wA_no (no 15 (by omega) (by omega)) ?_
      refine wA_no (no 14 (by omega) (by omega)) ?_
      refine wA_no (no 13 (by omega) (by omega)) ?_
      refine wA_no (no 12 (by omega) (by omega)) ?_
      refine wA_no (no 11 (by omega) (by omega)) ?_
      refine wA_yes yes fun a ha => ?_
      walk_at "vc"
      refine ⟨rfl, _, rfl, xfN A 10, A.c_Undefined.nf.1, dd, _, .str "mark", rfl, e0, rfl, by decide, fun p hp => ?_⟩
      exact q _ _ (z0.trans (Same.new hp)) (pairD upd_same (.int _) (.str _))
    | 11, hk =>
      refine wA_no (no 16 (by omega) (by omega)) ?_
      refine wA_no (no 15 (by omega) (by omega)) ?_
      refine wA_no (no 14 (by omega) (by omega)) ?_
      refine wA_no (no 13 (by omega) (by omega)) ?_
      refine wA_no (no 12 (by omega) (by omega)) ?_
      refine wA_yes yes fun a ha => ?_
      walk_at "vc"
      refine ⟨rfl, _, rfl, xfN A 11, A.c_Refusal.nf.1, dd, _, v2, rfl, e0, lk2 (by decide +kernel), rfl, _, rfl, xfN A 11, A.c_Refusal.nf.2.1, dd, _, .str "mark", rfl, e0, lk1, by decide, fun p hp => ⟨by decide, fun p2 hp2 => ?_⟩⟩
      exact q _ _ (z0.trans (Same.trans (Same.new hp) (Same.new hp2))) (pairD upd_same (.int _) (Dp.same (Same.new hp2) _ _ (pairD upd_same (Dp.same (Same.new hp) _ _ h2) (.str _))))
    | 12, hk =>
      refine wA_no (no 16 (by omega) (by omega)) ?_
      refine wA_no (no 15 (by omega) (by omega)) ?_
      refine wA_no (no 14 (by omega) (by omega)) ?_
      refine wA_no (no 13 (by omega) (by omega)) ?_
      refine wA_yes yes fun a ha => ?_
      walk_at "vc"
      refine ⟨rfl, _, rfl, xfN A 12, A.c_Clash.nf.1, dd, _, v2, rfl, e0, lk2 (by decide +kernel), rfl, _, rfl, xfN A 12, A.c_Clash.nf.2.1, dd, _, v3, rfl, e0, lk1, by decide, fun p hp => ⟨by decide, fun p2 hp2 => ?_⟩⟩
      exact q _ _ (z0.trans (Same.trans (Same.new hp) (Same.new hp2))) (pairD upd_same (.int _) (Dp.same (Same.new hp2) _ _ (pairD upd_same (Dp.same (Same.new hp) _ _ h2) (Dp.same (Same.new hp) _ _ h3))))
    | 13, hk =>
      refine wA_no (no 16 (by omega) (by omega)) ?_
      refine wA_no (no 15 (by omega) (by omega)) ?_
      refine wA_no (no 14 (by omega) (by omega)) ?_
      refine wA_yes yes fun a ha => ?_
      walk_at "vc"
      refine ⟨rfl, _, rfl, xfN A 13, A.c_Refused.nf.1, dd, _, v4, rfl, e0, rfl, by decide, fun p hp => ?_⟩
      exact q _ _ (z0.trans (Same.new hp)) (pairD upd_same (.int _) (Dp.same (Same.new hp) _ _ h4))
    | 14, hk =>
      refine wA_no (no 16 (by omega) (by omega)) ?_
      refine wA_no (no 15 (by omega) (by omega)) ?_
      refine wA_yes yes fun a ha => ?_
      walk_at "vc"
      refine ⟨rfl, _, rfl, xfN A 14, A.c_InvalidCommand.nf.1, dd, _, .str "show", rfl, e0, lk2 (by decide +kernel), rfl, _, rfl, xfN A 14, A.c_InvalidCommand.nf.2.1, dd, _, .int 1, rfl, e0, lk1, by decide, fun p hp => ⟨by decide, fun p2 hp2 => ?_⟩⟩
      exact q _ _ (z0.trans (Same.trans (Same.new hp) (Same.new hp2))) (pairD upd_same (.int _) (Dp.same (Same.new hp2) _ _ (pairD upd_same (.str _) (.int _))))
    | 15, hk =>
      refine wA_no (no 16 (by omega) (by omega)) ?_
      refine wA_yes yes fun a ha => ?_
      walk_at "vc"
      refine ⟨rfl, _, rfl, xfN A 15, A.c_UnknownName.nf.1, dd, _, .str "abc", rfl, e0, rfl, by decide, fun p hp => ?_⟩
      exact q _ _ (z0.trans (Same.new hp)) (pairD upd_same (.int _) (.str _))
    | 16, hk =>
      refine wA_yes yes fun a ha => ?_
      walk_at "vc"
      refine ⟨rfl, _, rfl, xfN A 16, A.c_NothingToUndo.nf.1, dd, _, .str "undo", rfl, e0, rfl, by decide, fun p hp => ?_⟩
      exact q _ _ (z0.trans (Same.new hp)) (pairD upd_same (.int _) (.str _))
    | n + 17, hk => omega
end
end Ly
namespace Ly
open PySem PySem.Spec PyProof.Rows L2
local macro_rules | `(tactic| walk_at "vc") => `(tactic| simp only [tSeq, tAsg, tOp, tVar, tC, tRet, tRetN, tNext, tIfS, tIf, tDrop, tB, tTest, tNot, tAnd, tOr, tAndV, tOrV, tNotV, tChain, tUn, tCB, tCons, tNil, tTup, tLst, tSl, tPart, tNoPart, tCall, tBreak, tCont,
  rI, rI0, rU, gName, gNil, gCons, gSub, rSetL, L2.start, cx_K, cx_nox, tLc_eq, tFor_eq, iRng1, iRng2, iList, iTup, tM1, tYes, wipe, rIxS, rIxL, rIxT, rCat, rSlL, rEq, rNe, tMkO_eq, tVal_eq, tFldE_eq, tXfE_eq, tCallS, lenV_ref, CDiv, CDivW, CPow, CMulX,
  List.map_cons, List.map_nil, List.cons_append, List.nil_append, List.append_nil, List.length_cons, List.length_nil, List.replicate, List.getElem?_cons_zero, List.getElem?_cons_succ, List.set_cons_zero, List.set_cons_succ, Nat.reduceSub, Nat.reduceAdd,
  Option.some.injEq, V.int.injEq, V.bl.injEq, V.str.injEq, V.ref.injEq, exists_eq_left', exists_eq_left, exists_and_left, reduceCtorEq, false_and, and_false, exists_false, or_false, false_or, Bool.false_eq_true, if_false, if_true, reduceIte, decide_eq_true_eq, List.cons.injEq, and_true, true_and])
section
variable {P : Program} {w : World} {K : PySem.W.Frag} {mg : Str → Option Value} {base : Heap}
/-! ### _law_caught_early -/
def sp_early (K : PySem.W.Frag) : Sp := fun vs H Q _ => ∃ (k : Nat) (v1 : V) (d1 : PyData), k < 8 ∧ vs = [.int (k : Int), v1] ∧ Dp K H v1 d1 ∧ ∀ r H', Same H H' → Dp K H' r (.tuple [.int (k : Int), d1]) → Q r H'
theorem ok_l_caught_early (A : All K mg) : FnOk P w K mg base CX0 4 A.l_caught_early.f A.l_caught_early.fd ["kind", "value"] (sp_early K) := by
  have G_l_raise := ok_l_raise (P := P) (w := w) (base := base) A
  refine A.l_caught_early.F.ok sc_l_caught_early (fun vs H Q E h => ?_) (fun cdv B outer s H vs Q E hr h => ?_)
  · obtain ⟨k, v1, d1, _, rfl, _⟩ := h
    rfl
  · obtain ⟨k, v1, d1, hk, rfl, h1, q⟩ := h
    refine ⟨_, (pss_cons (ps_try_manyA (Wout := fun _ _ _ _ => False) rfl rfl takes0 (fun W pn xe tk _ => (pss_one (ps_expr (pe_callS G_l_raise (hr.mono (by decide)) rfl A.l_raise.m A.l_raise.F.kp A.l_raise.b (fun σ => passAt tk σ) (pa_cons (pv 0) (pa_cons (pv 1) (pa_cons (pe_tup pa_nil) (pa_cons (pe_tup pa_nil) (pa_cons (pe_tup pa_nil) pa_nil))))))))) (HdsA.consA (i := 2) sc_l_caught_early.nd rfl rfl ⟨by rfl, by decide, .inl A.c_InvalidNumber.g⟩ (fun a oe cls d pn hz hf => (pss_one (ps_ret (pe_tup (pa_cons pe_int (pa_cons (pe_xfE hz hf (pv 2)) pa_nil)))))) (HdsA.consA (i := 2) sc_l_caught_early.nd rfl rfl ⟨by rfl, by decide, .inl A.c_InvalidClaim.g⟩ (fun a oe cls d pn hz hf => (pss_one (ps_ret (pe_tup (pa_cons pe_int (pa_cons (pe_xfE hz hf (pv 2)) pa_nil)))))) (HdsA.consA (i := 2) sc_l_caught_early.nd rfl rfl ⟨by rfl, by decide, .inl A.c_InvalidTable.g⟩ (fun a oe cls d pn hz hf => (pss_one (ps_ret (pe_tup (pa_cons pe_int (pa_cons (pe_xfE hz hf (pv 2)) pa_nil)))))) (HdsA.consA (i := 2) sc_l_caught_early.nd rfl rfl ⟨by rfl, by decide, .inl A.c_InvalidScript.g⟩ (fun a oe cls d pn hz hf => (pss_one (ps_ret (pe_tup (pa_cons pe_int (pa_cons (pe_xfE hz hf (pv 2)) pa_nil)))))) (HdsA.consA (i := 2) sc_l_caught_early.nd rfl rfl ⟨by rfl, by decide, .inl A.c_InvalidMatching.g⟩ (fun a oe cls d pn hz hf => (pss_one (ps_ret (pe_tup (pa_cons pe_int (pa_cons (pe_xfE hz hf (pv 2)) pa_nil)))))) (HdsA.consA (i := 2) sc_l_caught_early.nd rfl rfl ⟨by rfl, by decide, .inl A.c_InvalidPrices.g⟩ (fun a oe cls d pn hz hf => (pss_one (ps_ret (pe_tup (pa_cons pe_int (pa_cons (pe_xfE hz hf (pv 2)) pa_nil)))))) (HdsA.consA (i := 2) sc_l_caught_early.nd rfl rfl ⟨by rfl, by decide, .inl A.c_InvalidPlot.g⟩ (fun a oe cls d pn hz hf => (pss_one (ps_ret (pe_tup (pa_cons pe_int (pa_cons (pe_xfE hz hf (pv 2)) pa_nil)))))) (HdsA.consA (i := 2) sc_l_caught_early.nd rfl rfl ⟨by rfl, by decide, .inl A.c_InvalidForest.g⟩ (fun a oe cls d pn hz hf => (pss_one (ps_ret (pe_tup (pa_cons pe_int (pa_cons (pe_xfE hz hf (pv 2)) pa_nil)))))) HdsA.nil))))))))) (pss_one (ps_ret (pe_tup (pa_cons pe_int (pa_cons pe_non pa_nil)))))), ?_⟩
    walk_at "vc"
    refine ⟨by decide, fun p1 hp1 => ⟨by decide, fun p2 hp2 => ⟨by decide, fun p3 hp3 => ?_⟩⟩⟩
    have z0 : Same H (upd (upd (upd H p1 (.tup [])) p2 (.tup [])) p3 (.tup [])) := (Same.new hp1).trans ((Same.new hp2).trans (Same.new hp3))
    generalize upd (upd (upd H p1 (.tup [])) p2 (.tup [])) p3 (.tup []) = H0 at z0 ⊢
    refine ⟨k, v1, .ref p1, .ref p2, .ref p3, by omega, rfl, fun dd hd => ?_⟩
    have e0 : (upd H0 dd (.xd (fOf k v1 (.ref p1) (.ref p2) (.ref p3)))) dd = some (.xd [("value", v1)]) := by
      rw [upd_same]
      match k, hk with
      | 0, _ => rfl
      | 1, _ => rfl
      | 2, _ => rfl
      | 3, _ => rfl
      | 4, _ => rfl
      | 5, _ => rfl
      | 6, _ => rfl
      | 7, _ => rfl
      | n + 8, h => omega
    have z1 : Same H (upd H0 dd (.xd (fOf k v1 (.ref p1) (.ref p2) (.ref p3)))) := z0.trans (Same.new hd)
    have h1 := Dp.same z1 _ _ h1
    have no : ∀ j, j < 17 → k ≠ j → PySem.W.exmOne K (.ref (csN A k)) (.ref (csN A j)) = some false := fun j hj ne => by
      have := exm_tab A ⟨k, by omega⟩ ⟨j, hj⟩
      rw [decide_eq_false (fun z => ne (congrArg _root_.Fin.val z).symm)] at this
      exact this
    have yes : PySem.W.exmOne K (.ref (csN A k)) (.ref (csN A k)) = some true := exm_self (ceN A k)
    generalize upd H0 dd (.xd (fOf k v1 (.ref p1) (.ref p2) (.ref p3))) = H1 at z1 e0 h1 ⊢
    match k, hk with
    | 0, hk =>
      refine wA_no (no 7 (by omega) (by omega)) ?_
      refine wA_no (no 6 (by omega) (by omega)) ?_
      refine wA_no (no 5 (by omega) (by omega)) ?_
      refine wA_no (no 4 (by omega) (by omega)) ?_
      refine wA_no (no 3 (by omega) (by omega)) ?_
      refine wA_no (no 2 (by omega) (by omega)) ?_
      refine wA_no (no 1 (by omega) (by omega)) ?_
      refine wA_yes yes fun a ha => ?_
      walk_at "vc"
      refine ⟨rfl, _, rfl, xfN A 0, A.c_InvalidForest.nf.1, dd, _, v1, rfl, e0, rfl, by decide, fun p hp => ?_⟩
      exact q _ _ (z1.trans (Same.new hp)) (pairD upd_same (.int _) (Dp.same (Same.new hp) _ _ h1))
    | 1, hk =>
      refine wA_no (no 7 (by omega) (by omega)) ?_
      refine wA_no (no 6 (by omega) (by omega)) ?_
      refine wA_no (no 5 (by omega) (by omega)) ?_
      refine wA_no (no 4 (by omega) (by omega)) ?_
      refine wA_no (no 3 (by omega) (by omega)) ?_
      refine wA_no (no 2 (by omega) (by omega)) ?_
      refine wA_yes yes fun a ha => ?_
      walk_at "vc"
      refine ⟨rfl, _, rfl, xfN A 1, A.c_InvalidPlot.nf.1, dd, _, v1, rfl, e0, rfl, by decide, fun p hp => ?_⟩
      exact q _ _ (z1.trans (Same.new hp)) (pairD upd_same (.int _) (Dp.same (Same.new hp) _ _ h1))
    | 2, hk =>
      refine wA_no (no 7 (by omega) (by omega)) ?_
      refine wA_no (no 6 (by omega) (by omega)) ?_
      refine wA_no (no 5 (by omega) (by omega)) ?_
      refine wA_no (no 4 (by omega) (by omega)) ?_
      refine wA_no (no 3 (by omega) (by omega)) ?_
      refine wA_yes yes fun a ha => ?_
      walk_at "vc"
      refine ⟨rfl, _, rfl, xfN A 2, A.c_InvalidPrices.nf.1, dd, _, v1, rfl, e0, rfl, by decide, fun p hp => ?_⟩
      exact q _ _ (z1.trans (Same.new hp)) (pairD upd_same (.int _) (Dp.same (Same.new hp) _ _ h1))
    | 3, hk =>
      refine wA_no (no 7 (by omega) (by omega)) ?_
      refine wA_no (no 6 (by omega) (by omega)) ?_
      refine wA_no (no 5 (by omega) (by omega)) ?_
      refine wA_no (no 4 (by omega) (by omega)) ?_
      refine wA_yes yes fun a ha => ?_
      walk_at "vc"
      refine ⟨rfl, _, rfl, xfN A 3, A.c_InvalidMatching.nf.1, dd, _, v1, rfl, e0, rfl, by decide, fun p hp => ?_⟩
      exact q _ _ (z1.trans (Same.new hp)) (pairD upd_same (.int _) (Dp.same (Same.new hp) _ _ h1))
    | 4, hk =>
      refine wA_no (no 7 (by omega) (by omega)) ?_
      refine wA_no (no 6 (by omega) (by omega)) ?_
      refine wA_no (no 5 (by omega) (by omega)) ?_
      refine wA_yes yes fun a ha => ?_
      walk_at "vc"
      refine ⟨rfl, _, rfl, xfN A 4, A.c_InvalidScript.nf.1, dd, _, v1, rfl, e0, rfl, by decide, fun p hp => ?_⟩
      exact q _ _ (z1.trans (Same.new hp)) (pairD upd_same (.int _) (Dp.same (Same.new hp) _ _ h1))
    | 5, hk =>
      refine wA_no (no 7 (by omega) (by omega)) ?_
      refine wA_no (no 6 (by omega) (by omega)) ?_
      refine wA_yes yes fun a ha => ?_
      walk_at "vc"
      refine ⟨rfl, _, rfl, xfN A 5, A.c_InvalidTable.nf.1, dd, _, v1, rfl, e0, rfl, by decide, fun p hp => ?_⟩
      exact q _ _ (z1.trans (Same.new hp)) (pairD upd_same (.int _) (Dp.same (Same.new hp) _ _ h1))
    | 6, hk =>
      refine wA_no (no 7 (by omega) (by omega)) ?_
      refine wA_yes yes fun a ha => ?_
      walk_at "vc"
      refine ⟨rfl, _, rfl, xfN A 6, A.c_InvalidClaim.nf.1, dd, _, v1, rfl, e0, rfl, by decide, fun p hp => ?_⟩
      exact q _ _ (z1.trans (Same.new hp)) (pairD upd_same (.int _) (Dp.same (Same.new hp) _ _ h1))
    | 7, hk =>
      refine wA_yes yes fun a ha => ?_
      walk_at "vc"
      refine ⟨rfl, _, rfl, xfN A 7, A.c_InvalidNumber.nf.1, dd, _, v1, rfl, e0, rfl, by decide, fun p hp => ?_⟩
      exact q _ _ (z1.trans (Same.new hp)) (pairD upd_same (.int _) (Dp.same (Same.new hp) _ _ h1))
    | n + 8, hk => omega
/-! ### _law_beneath -/
def sp_beneath : Sp := fun vs H Q _ => ∃ (k : Nat) (v1 v2 v3 v4 : V), k < 17 ∧ vs = [.int (k : Int), v1, v2, v3, v4] ∧ ∀ H', Same H H' → Q (.bl true) H'
theorem ok_l_beneath (A : All K mg) : FnOk P w K mg base CX0 4 A.l_beneath.f A.l_beneath.fd ["kind", "value", "deed", "other", "claim"] sp_beneath := by
  have G_l_raise := ok_l_raise (P := P) (w := w) (base := base) A
  refine A.l_beneath.F.ok sc_l_beneath (fun vs H Q E h => ?_) (fun cdv B outer s H vs Q E hr h => ?_)
  · obtain ⟨k, v1, v2, v3, v4, _, rfl, _⟩ := h
    rfl
  · obtain ⟨k, v1, v2, v3, v4, hk, rfl, q⟩ := h
    refine ⟨_, (pss_cons (ps_try_manyA (Wout := fun _ _ _ _ => False) rfl rfl takes0 (fun W pn xe tk _ => (pss_one (ps_expr (pe_callS G_l_raise (hr.mono (by decide)) rfl A.l_raise.m A.l_raise.F.kp A.l_raise.b (fun σ => passAt tk σ) (pa_cons (pv 0) (pa_cons (pv 1) (pa_cons (pv 2) (pa_cons (pv 3) (pa_cons (pv 4) pa_nil))))))))) (HdsA.cons ⟨by rfl, by decide, .inl A.c_GraftError.g⟩ (fun a oe cls d pn hz hf => (pss_one (ps_ret pe_bl))) HdsA.nil)) (pss_one (ps_ret pe_bl))), ?_⟩
    walk_at "vc"
    refine ⟨k, v1, v2, v3, v4, hk, rfl, fun dd hd => ?_⟩
    exact wA_yes0 (exm_up (ceN A k) A.c_GraftError.e) fun a ha => q _ (Same.new hd)
/-! ### law -/
theorem claim_go {H : Hp} {p : Addr} {n : Nat} {Q : VK} {E : XK} (hb : BoxAt H p n) (hn : n ≤ 500000000) (q : ∀ v d H', Nw K H H' v d → Shp 5 d → Step p H H' → BoxAt H' p (n + 500) → Q v H') : sp_claim K [.ref p] H Q E := ⟨p, n, rfl, hb, hn, q⟩
theorem of2_go {n : Nat} {H : Hp} {v u : V} {d e : PyData} {Q : VK} {E : XK} (hv : Dp K H v d) (hu : Dp K H u e) (sv : Shp n d) (su : Shp n e) (q : ∀ H', Same H H' → Q (.bl true) H') : sp_of2 K n [v, u] H Q E := ⟨v, u, d, e, rfl, hv, hu, sv, su, q⟩
theorem text_go {H : Hp} {x : Str} {n : Int} {Q : VK} {E : XK} (h : x.length ≤ 100) (q : ∀ H', Same H H' → Q (.bl true) H') : sp_text [.str x, .int n] H Q E := ⟨x, n, rfl, h, q⟩
theorem words_go {H : Hp} {x y : Str} {Q : VK} {E : XK} (q : ∀ H', Same H H' → Q (.bl true) H') : sp_words [.str x, .str y] H Q E := ⟨x, y, rfl, q⟩
theorem deeds_go {H : Hp} {v1 v2 v3 v4 : V} {d1 d2 d3 d4 : PyData} {Q : VK} {E : XK} (h1 : Dp K H v1 d1) (h2 : Dp K H v2 d2) (h3 : Dp K H v3 d3) (h4 : Dp K H v4 d4) (s1 : Shp 8 d1) (s2 : Shp 8 d2) (s3 : Shp 8 d3) (s4 : Shp 8 d4) (q : ∀ H', Same H H' → Q (.bl true) H') : sp_deeds K [v1, v2, v3, v4] H Q E :=
  ⟨v1, v2, v3, v4, d1, d2, d3, d4, rfl, h1, h2, h3, h4, s1, s2, s3, s4, q⟩
def sp_law (K : PySem.W.Frag) : Sp := fun vs H Q _ => ∃ (a : Addr) (ns : List Int), vs = [.ref a] ∧ SqL K H a (ns.map V.int) ∧ (∀ z ∈ ns, Builtin.Int.intBits z ≤ 1048576) ∧ ∀ H', Q (.bl true) H'
theorem ok_law (A : All K mg) : FnOk P w K mg base CX0 11 A.law.f A.law.fd ["script"] (sp_law K) := by
  have G_l_box := ok_l_box (P := P) (w := w) (base := base) A
  have G_l_value := ok_l_value (P := P) (w := w) (base := base) A
  have G_l_draw := ok_l_draw (P := P) (w := w) (base := base) A
  have G_l_word := ok_l_word (P := P) (w := w) (base := base) A
  have G_l_deed := ok_l_deed (P := P) (w := w) (base := base) A
  have G_l_claim := ok_l_claim (P := P) (w := w) (base := base) A
  have G_l_of_value := ok_l_of_value (P := P) (w := w) (base := base) A
  have G_l_of_path := ok_l_of_path (P := P) (w := w) (base := base) A
  have G_l_of_text := ok_l_of_text (P := P) (w := w) (base := base) A
  have G_l_of_word := ok_l_of_word (P := P) (w := w) (base := base) A
  have G_l_of_deed := ok_l_of_deed (P := P) (w := w) (base := base) A
  have G_l_alike := ok_l_alike (P := P) (w := w) (base := base) A
  have G_l_beneath := ok_l_beneath (P := P) (w := w) (base := base) A
  have G_l_caught := ok_l_caught (P := P) (w := w) (base := base) A
  have G_l_caught_early := ok_l_caught_early (P := P) (w := w) (base := base) A
  refine A.law.F.ok sc_law (fun vs H Q E h => ?_) (fun cdv B outer s H vs Q E hr h => ?_)
  · obtain ⟨a, ns, rfl, _⟩ := h
    rfl
  · obtain ⟨a, ns, rfl, hs, hbits, q⟩ := h
    refine ⟨_, (pss_cons (ps_set (i := 1) sc_law.nd rfl (by first | exact Or.inl rfl | exact Or.inr rfl) (pe_call G_l_box (hr.mono (by decide)) rfl A.l_box.m A.l_box.F.kp A.l_box.b .nil pass0 (pa_cons (pv 0) (pa_cons pe_int pa_nil)))) (pss_cons (ps_set (i := 2) sc_law.nd rfl (by first | exact Or.inl rfl | exact Or.inr rfl) (pe_call G_l_box (hr.mono (by decide)) rfl A.l_box.m A.l_box.F.kp A.l_box.b .nil pass0 (pa_cons (pv 0) (pa_cons pe_int pa_nil)))) (pss_cons (ps_set (i := 3) sc_law.nd rfl (by first | exact Or.inl rfl | exact Or.inr rfl) (pe_call G_l_value (hr.mono (by decide)) rfl A.l_value.m A.l_value.F.kp A.l_value.b .nil pass0 (pa_cons (pv 1) pa_nil))) (pss_cons (ps_set (i := 4) sc_law.nd rfl (by first | exact Or.inl rfl | exact Or.inr rfl) (pe_call G_l_value (hr.mono (by decide)) rfl A.l_value.m A.l_value.F.kp A.l_value.b .nil pass0 (pa_cons (pv 2) pa_nil))) (pss_cons (ps_set (i := 5) sc_law.nd rfl (by first | exact Or.inl rfl | exact Or.inr rfl) (pe_lst (pa_cons (pe_call G_l_word (hr.mono (by decide)) rfl A.l_word.m A.l_word.F.kp A.l_word.b .nil pass0 (pa_cons (pv 1) pa_nil)) (pa_cons (pe_call G_l_word (hr.mono (by decide)) rfl A.l_word.m A.l_word.F.kp A.l_word.b .nil pass0 (pa_cons (pv 2) pa_nil)) pa_nil)))) (pss_cons (ps_set (i := 6) sc_law.nd rfl (by first | exact Or.inl rfl | exact Or.inr rfl) (pe_call G_l_draw (hr.mono (by decide)) rfl A.l_draw.m A.l_draw.F.kp A.l_draw.b .nil pass0 (pa_cons (pv 1) (pa_cons pe_int pa_nil)))) (pss_cons (ps_set (i := 7) sc_law.nd rfl (by first | exact Or.inl rfl | exact Or.inr rfl) (pe_lst (pa_cons (pe_call G_l_deed (hr.mono (by decide)) rfl A.l_deed.m A.l_deed.F.kp A.l_deed.b .nil pass0 (pa_cons (pv 1) pa_nil)) (pa_cons (pe_call G_l_deed (hr.mono (by decide)) rfl A.l_deed.m A.l_deed.F.kp A.l_deed.b .nil pass0 (pa_cons (pv 2) pa_nil)) pa_nil)))) (pss_cons (ps_set (i := 8) sc_law.nd rfl (by first | exact Or.inl rfl | exact Or.inr rfl) (pe_lst (pa_cons (pe_call G_l_claim (hr.mono (by decide)) rfl A.l_claim.m A.l_claim.F.kp A.l_claim.b .nil pass0 (pa_cons (pv 1) pa_nil)) (pa_cons (pe_call G_l_claim (hr.mono (by decide)) rfl A.l_claim.m A.l_claim.F.kp A.l_claim.b .nil pass0 (pa_cons (pv 2) pa_nil)) pa_nil)))) (pss_cons (ps_if (PW.pt (pw_or (pt_not (pt_val (pe_call G_l_of_value (hr.mono (by decide)) rfl A.l_of_value.m A.l_of_value.F.kp A.l_of_value.b .nil pass0 (pa_cons (pv 3) (pa_cons (pv 4) pa_nil))))) (pw_or (pt_not (pt_val (pe_call G_l_of_path (hr.mono (by decide)) rfl A.l_of_path.m A.l_of_path.F.kp A.l_of_path.b .nil pass0 (pa_cons (pv 3) (pa_cons (pv 4) pa_nil))))) (pw_or1 (pt_not (pt_val (pe_call G_l_of_text (hr.mono (by decide)) rfl A.l_of_text.m A.l_of_text.F.kp A.l_of_text.b .nil pass0 (pa_cons (pe_ix ix_list (pv 5) pe_int (fun _ _ => rfl)) (pa_cons (pv 6) pa_nil))))))))) (pss_one (ps_ret pe_bl)) pss_nil) (pss_cons (ps_if (PW.pt (pw_or (pt_not (pt_val (pe_call G_l_of_word (hr.mono (by decide)) rfl A.l_of_word.m A.l_of_word.F.kp A.l_of_word.b .nil pass0 (pa_cons (pe_ix ix_list (pv 5) pe_int (fun _ _ => rfl)) (pa_cons (pe_ix ix_list (pv 5) pe_int (fun _ _ => rfl)) pa_nil))))) (pw_or1 (pt_not (pt_val (pe_call G_l_of_deed (hr.mono (by decide)) rfl A.l_of_deed.m A.l_of_deed.F.kp A.l_of_deed.b .nil pass0 (pa_cons (pe_ix ix_list (pv 7) pe_int (fun _ _ => rfl)) (pa_cons (pe_ix ix_list (pv 7) pe_int (fun _ _ => rfl)) (pa_cons (pe_ix ix_list (pv 8) pe_int (fun _ _ => rfl)) (pa_cons (pe_ix ix_list (pv 8) pe_int (fun _ _ => rfl)) pa_nil)))))))))) (pss_one (ps_ret pe_bl)) pss_nil) (pss_cons (ps_set (i := 9) sc_law.nd rfl (by first | exact Or.inl rfl | exact Or.inr rfl) (pe_op op_cat (pe_lc (own := [("kind", 10)]) (g := gName 10) rfl sc_law.nd (pi_range1 rfl A.n_range (pa_cons pe_int pa_nil)) (blkOk_by (own := [("kind", 10)]) (N := ["script", "first", "second", "one", "other", "words", "at", "deeds", "claims", "due", "kind"]) (sc := defScope s_law) (by decide +kernel)) (fun _ _ _ _ _ => pg_name (i := 10) sc_law.nd rfl (Or.inl rfl)) (fun _ _ _ _ _ => pts_nil) (fun _ _ _ _ _ => (pe_tup (pa_cons pe_int (pa_cons (pv 3) pa_nil))))) (pe_lst (pa_cons (pe_tup (pa_cons pe_int (pa_cons (pv 3) pa_nil))) (pa_cons (pe_tup (pa_cons pe_int (pa_cons (pe_tup (pa_cons pe_str (pa_cons pe_int pa_nil))) pa_nil))) (pa_cons (pe_tup (pa_cons pe_int (pa_cons pe_str pa_nil))) (pa_cons (pe_tup (pa_cons pe_int (pa_cons (pe_tup (pa_cons (pe_ix ix_list (pv 7) pe_int (fun _ _ => rfl)) (pa_cons pe_str pa_nil))) pa_nil))) pa_nil))))))) (pss_cons (ps_set (i := 9) sc_law.nd rfl (by first | exact Or.inl rfl | exact Or.inr rfl) (pe_op op_cat (pv 9) (pe_lst (pa_cons (pe_tup (pa_cons pe_int (pa_cons (pe_tup (pa_cons (pe_ix ix_list (pv 7) pe_int (fun _ _ => rfl)) (pa_cons (pe_ix ix_list (pv 7) pe_int (fun _ _ => rfl)) pa_nil))) pa_nil))) (pa_cons (pe_tup (pa_cons pe_int (pa_cons (pe_ix ix_list (pv 8) pe_int (fun _ _ => rfl)) pa_nil))) (pa_cons (pe_tup (pa_cons pe_int (pa_cons (pe_tup (pa_cons pe_str (pa_cons pe_int pa_nil))) pa_nil))) (pa_cons (pe_tup (pa_cons pe_int (pa_cons pe_str pa_nil))) (pa_cons (pe_tup (pa_cons pe_int (pa_cons pe_str pa_nil))) pa_nil)))))))) (pss_cons (ps_for PassesOwn.never rfl (pi_range1 rfl A.n_range (pa_cons pe_int pa_nil)) (pg_name (i := 10) sc_law.nd rfl (by first | exact Or.inl rfl | exact Or.inr rfl)) (pss_cons (ps_if (pt_not (pt_val (pe_call G_l_alike (hr.mono (by decide)) rfl A.l_alike.m A.l_alike.F.kp A.l_alike.b .nil pass0 (pa_cons (pe_call G_l_caught (hr.mono (by decide)) rfl A.l_caught.m A.l_caught.F.kp A.l_caught.b .nil pass0 (pa_cons (pv 10) (pa_cons (pv 3) (pa_cons (pe_ix ix_list (pv 7) pe_int (fun _ _ => rfl)) (pa_cons (pe_ix ix_list (pv 7) pe_int (fun _ _ => rfl)) (pa_cons (pe_ix ix_list (pv 8) pe_int (fun _ _ => rfl)) pa_nil)))))) (pa_cons (pe_ix ix_list (pv 9) (pv 10) (fun _ _ => rfl)) pa_nil))))) (pss_one (ps_ret pe_bl)) pss_nil) (pss_cons (ps_if (PW.pt (pw_and (pt_cmpR op_lt (pv 10) pe_int (nomark _)) (pw_and1 (pt_not (pt_val (pe_call G_l_alike (hr.mono (by decide)) rfl A.l_alike.m A.l_alike.F.kp A.l_alike.b .nil pass0 (pa_cons (pe_call G_l_caught_early (hr.mono (by decide)) rfl A.l_caught_early.m A.l_caught_early.F.kp A.l_caught_early.b .nil pass0 (pa_cons (pv 10) (pa_cons (pv 3) pa_nil))) (pa_cons (pe_tup (pa_cons (pv 10) (pa_cons (pv 3) pa_nil))) pa_nil)))))))) (pss_one (ps_ret pe_bl)) pss_nil) (pss_one (ps_if (pt_not (pt_val (pe_call G_l_beneath (hr.mono (by decide)) rfl A.l_beneath.m A.l_beneath.F.kp A.l_beneath.b .nil pass0 (pa_cons (pv 10) (pa_cons (pv 3) (pa_cons (pe_ix ix_list (pv 7) pe_int (fun _ _ => rfl)) (pa_cons (pe_ix ix_list (pv 7) pe_int (fun _ _ => rfl)) (pa_cons (pe_ix ix_list (pv 8) pe_int (fun _ _ => rfl)) pa_nil)))))))) (pss_one (ps_ret pe_bl)) pss_nil))))) (pss_one (ps_ret pe_bl))))))))))))))), ?_⟩
    walk_at "vc"
    refine ⟨a, ns, 0, rfl, hs, hbits, fun p b c z hp hv => ?_⟩
    have hs1 := SqL.same hs (Same.new (o := boxL b c z) hp)
    refine ⟨a, ns, 1, rfl, hs1, hbits, fun r b2 c2 z2 hr2 hv2 => ?_⟩
    have npr : p ≠ r := fun e => by rw [← e, upd_same] at hr2; cases hr2
    have bp : BoxAt (upd (upd H p (boxL b c z)) r (boxL b2 c2 z2)) p 0 := ⟨b, c, z, by rw [upd_ne npr, upd_same], hv⟩
    have br : BoxAt (upd (upd H p (boxL b c z)) r (boxL b2 c2 z2)) r 0 := ⟨b2, c2, z2, upd_same, hv2⟩
    generalize upd (upd H p (boxL b c z)) r (boxL b2 c2 z2) = H0 at bp br ⊢
    have dp := bp.dom
    have dr := br.dom
    have fr : ∀ a, H0 a = none → H0 a = none := fun _ h => h
    refine value_go bp (by omega) fun v1 d1 H1 nv1 shv1 s1 bp => ?_
    have nv1 := Nw.old fr _ _ nv1
    have br := br.step s1 (Ne.symm npr)
    have fr : ∀ a, H1 a = none → H0 a = none := fun a h => fr a (s1.fresh h)
    refine value_go br (by omega) fun v2 d2 H2 nv2 shv2 s2 br => ?_
    have nv2 := Nw.old fr _ _ nv2
    have bp := bp.step s2 npr
    have nv1 := Nw.step nv1 s2 dr
    have fr : ∀ a, H2 a = none → H0 a = none := fun a h => fr a (s2.fresh h)
    refine word_go bp (by omega) fun x H3 hx s3 bp => ?_
    have br := br.step s3 (Ne.symm npr)
    have nv1 := Nw.step nv1 s3 dp
    have nv2 := Nw.step nv2 s3 dp
    have fr : ∀ a, H3 a = none → H0 a = none := fun a h => fr a (s3.fresh h)
    refine word_go br (by omega) fun y H4 hy s4 br => ?_
    have bp := bp.step s4 npr
    have nv1 := Nw.step nv1 s4 dr
    have nv2 := Nw.step nv2 s4 dr
    have fr : ∀ a, H4 a = none → H0 a = none := fun a h => fr a (s4.fresh h)
    refine ⟨by decide, fun lw hlw => ?_⟩
    have nelwp : lw ≠ p := Ne.symm (box_ne bp hlw)
    have nelwr : lw ≠ r := Ne.symm (box_ne br hlw)
    have elw : (upd H4 lw (.lst [.str x, .str y])) lw = some (.lst [.str x, .str y]) := upd_same
    have s5 : Step p H4 (upd H4 lw (.lst [.str x, .str y])) := Step.new hlw
    have bp := bp.new (o := (.lst [.str x, .str y])) hlw
    generalize upd H4 lw (.lst [.str x, .str y]) = H5 at elw s5 bp ⊢
    have br := br.step s5 (Ne.symm npr)
    have nv1 := Nw.step nv1 s5 dp
    have nv2 := Nw.step nv2 s5 dp
    have fr : ∀ a, H5 a = none → H0 a = none := fun a h => fr a (s5.fresh h)
    refine draw_go bp (by decide) (by decide) (by omega) fun at_ H6 at_0 at_1 s6 bp => ?_
    have br := br.step s6 (Ne.symm npr)
    have nv1 := Nw.step nv1 s6 dp
    have nv2 := Nw.step nv2 s6 dp
    have elw := s6.keep lw _ nelwp elw
    have fr : ∀ a, H6 a = none → H0 a = none := fun a h => fr a (s6.fresh h)
    refine deed_go bp (by omega) fun v3 d3 H7 nv3 shv3 s7 bp => ?_
    have nv3 := Nw.old fr _ _ nv3
    have br := br.step s7 (Ne.symm npr)
    have nv1 := Nw.step nv1 s7 dp
    have nv2 := Nw.step nv2 s7 dp
    have elw := s7.keep lw _ nelwp elw
    have fr : ∀ a, H7 a = none → H0 a = none := fun a h => fr a (s7.fresh h)
    refine deed_go br (by omega) fun v4 d4 H8 nv4 shv4 s8 br => ?_
    have nv4 := Nw.old fr _ _ nv4
    have bp := bp.step s8 npr
    have nv1 := Nw.step nv1 s8 dr
    have nv2 := Nw.step nv2 s8 dr
    have nv3 := Nw.step nv3 s8 dr
    have elw := s8.keep lw _ nelwr elw
    have fr : ∀ a, H8 a = none → H0 a = none := fun a h => fr a (s8.fresh h)
    refine ⟨by decide, fun ld hld => ?_⟩
    have neldp : ld ≠ p := Ne.symm (box_ne bp hld)
    have neldr : ld ≠ r := Ne.symm (box_ne br hld)
    have eld : (upd H8 ld (.lst [v3, v4])) ld = some (.lst [v3, v4]) := upd_same
    have s9 : Step p H8 (upd H8 ld (.lst [v3, v4])) := Step.new hld
    have bp := bp.new (o := (.lst [v3, v4])) hld
    generalize upd H8 ld (.lst [v3, v4]) = H9 at eld s9 bp ⊢
    have br := br.step s9 (Ne.symm npr)
    have nv1 := Nw.step nv1 s9 dp
    have nv2 := Nw.step nv2 s9 dp
    have nv3 := Nw.step nv3 s9 dp
    have nv4 := Nw.step nv4 s9 dp
    have elw := s9.keep lw _ nelwp elw
    have fr : ∀ a, H9 a = none → H0 a = none := fun a h => fr a (s9.fresh h)
    refine claim_go bp (by omega) fun v5 d5 H10 nv5 shv5 s10 bp => ?_
    have nv5 := Nw.old fr _ _ nv5
    have br := br.step s10 (Ne.symm npr)
    have nv1 := Nw.step nv1 s10 dp
    have nv2 := Nw.step nv2 s10 dp
    have nv3 := Nw.step nv3 s10 dp
    have nv4 := Nw.step nv4 s10 dp
    have elw := s10.keep lw _ nelwp elw
    have eld := s10.keep ld _ neldp eld
    have fr : ∀ a, H10 a = none → H0 a = none := fun a h => fr a (s10.fresh h)
    refine claim_go br (by omega) fun v6 d6 H11 nv6 shv6 s11 br => ?_
    have nv6 := Nw.old fr _ _ nv6
    have bp := bp.step s11 npr
    have nv1 := Nw.step nv1 s11 dr
    have nv2 := Nw.step nv2 s11 dr
    have nv3 := Nw.step nv3 s11 dr
    have nv4 := Nw.step nv4 s11 dr
    have nv5 := Nw.step nv5 s11 dr
    have elw := s11.keep lw _ nelwr elw
    have eld := s11.keep ld _ neldr eld
    have fr : ∀ a, H11 a = none → H0 a = none := fun a h => fr a (s11.fresh h)
    refine ⟨by decide, fun lc hlc => ?_⟩
    have nelcp : lc ≠ p := Ne.symm (box_ne bp hlc)
    have nelcr : lc ≠ r := Ne.symm (box_ne br hlc)
    have elc : (upd H11 lc (.lst [v5, v6])) lc = some (.lst [v5, v6]) := upd_same
    have s12 : Step p H11 (upd H11 lc (.lst [v5, v6])) := Step.new hlc
    have bp := bp.new (o := (.lst [v5, v6])) hlc
    generalize upd H11 lc (.lst [v5, v6]) = H12 at elc s12 bp ⊢
    have br := br.step s12 (Ne.symm npr)
    have nv1 := Nw.step nv1 s12 dp
    have nv2 := Nw.step nv2 s12 dp
    have nv3 := Nw.step nv3 s12 dp
    have nv4 := Nw.step nv4 s12 dp
    have nv5 := Nw.step nv5 s12 dp
    have nv6 := Nw.step nv6 s12 dp
    have elw := s12.keep lw _ nelwp elw
    have eld := s12.keep ld _ neldp eld
    have fr : ∀ a, H12 a = none → H0 a = none := fun a h => fr a (s12.fresh h)
    have g1 := Nw.dp _ _ nv1
    have g2 := Nw.dp _ _ nv2
    have g3 := Nw.dp _ _ nv3
    have g4 := Nw.dp _ _ nv4
    have g5 := Nw.dp _ _ nv5
    have g6 := Nw.dp _ _ nv6
    clear nv1 nv2 nv3 nv4 nv5 nv6 bp br fr
    generalize H12 = G at elw eld elc g1 g2 g3 g4 g5 g6 ⊢
    refine of2_go g1 g2 (shv1.mono (by decide)) (shv2.mono (by decide)) fun G1 z1 => ⟨true, rfl, iteF ?_⟩
    refine of2_go (Dp.same (z1) _ _ g1) (Dp.same (z1) _ _ g2) (shv1.mono (by decide)) (shv2.mono (by decide)) fun G2 z2 => ⟨true, rfl, iteF ?_⟩
    refine ⟨_, (SqL.of ((z1.trans (z2)) _ _ elw)), _, rfl, ?_⟩
    refine text_go (Nat.le_trans hx.len (by decide)) fun G3 z3 => ⟨true, rfl, iteF ?_⟩
    refine ⟨_, (SqL.of ((z1.trans (z2.trans (z3))) _ _ elw)), _, rfl, ⟨_, (SqL.of ((z1.trans (z2.trans (z3))) _ _ elw)), _, rfl, ?_⟩⟩
    refine words_go fun G4 z4 => ⟨true, rfl, iteF ?_⟩
    refine ⟨_, (SqL.of ((z1.trans (z2.trans (z3.trans (z4)))) _ _ eld)), _, rfl, ⟨_, (SqL.of ((z1.trans (z2.trans (z3.trans (z4)))) _ _ eld)), _, rfl, ⟨_, (SqL.of ((z1.trans (z2.trans (z3.trans (z4)))) _ _ elc)), _, rfl, ⟨_, (SqL.of ((z1.trans (z2.trans (z3.trans (z4)))) _ _ elc)), _, rfl, ?_⟩⟩⟩⟩
    refine deeds_go (Dp.same (z1.trans (z2.trans (z3.trans (z4)))) _ _ g3) (Dp.same (z1.trans (z2.trans (z3.trans (z4)))) _ _ g4) (Dp.same (z1.trans (z2.trans (z3.trans (z4)))) _ _ g5) (Dp.same (z1.trans (z2.trans (z3.trans (z4)))) _ _ g6) (shv3.mono (by decide)) (shv4.mono (by decide)) (shv5.mono (by decide)) (shv6.mono (by decide)) fun G5 z5 => ⟨true, rfl, iteF ?_⟩
    have g1 := (Dp.same (z1.trans (z2.trans (z3.trans (z4.trans (z5))))) _ _ g1)
    have g2 := (Dp.same (z1.trans (z2.trans (z3.trans (z4.trans (z5))))) _ _ g2)
    have g3 := (Dp.same (z1.trans (z2.trans (z3.trans (z4.trans (z5))))) _ _ g3)
    have g4 := (Dp.same (z1.trans (z2.trans (z3.trans (z4.trans (z5))))) _ _ g4)
    have g5 := (Dp.same (z1.trans (z2.trans (z3.trans (z4.trans (z5))))) _ _ g5)
    have g6 := (Dp.same (z1.trans (z2.trans (z3.trans (z4.trans (z5))))) _ _ g6)
    have elw := (z1.trans (z2.trans (z3.trans (z4.trans (z5))))) _ _ elw
    have eld := (z1.trans (z2.trans (z3.trans (z4.trans (z5))))) _ _ eld
    have elc := (z1.trans (z2.trans (z3.trans (z4.trans (z5))))) _ _ elc
    clear elw
    generalize G5 = N at g1 g2 g3 g4 g5 g6 eld elc ⊢
    refine ⟨by decide, by decide, fun D hD => ?_⟩
    refine LcB.range (fun i H' => ∃ xs, H' D = some (.lst xs) ∧ xs.length = i ∧ (∀ x ∈ xs, ∃ t, x = .ref t ∧ t ≠ D ∧ H' t = some (.tup [.int 0, v1])) ∧ Same N H') ⟨[], upd_same, rfl, by simp, Same.new hD⟩ ?_ ?_
    · rintro i H1 hi ⟨xs, e1, hl, hx, z1⟩
      walk_at "vc"
      refine ⟨by decide, fun t ht => ?_⟩
      have nDt : D ≠ t := ne_of_none e1 ht
      have hi8 : i < 8 := hi
      refine ⟨xs, by rw [upd_ne nDt]; exact e1, Nat.lt_of_lt_of_le (show xs.length < 100 by omega) (by decide), xs ++ [.ref t], upd_same, by rw [List.length_append, hl]; rfl, fun x hx' => ?_, fun b' o' e' => ?_⟩
      · rcases List.mem_append.mp hx' with h | h
        · obtain ⟨t', rfl, n', e'⟩ := hx x h
          exact ⟨t', rfl, n', by rw [upd_ne n', upd_ne (ne_of_none e' ht)]; exact e'⟩
        · obtain rfl : x = .ref t := by simpa using h
          exact ⟨t, rfl, Ne.symm nDt, by rw [upd_ne (Ne.symm nDt), upd_same]⟩
      · rw [upd_ne (ne_of_none e' hD), upd_ne (ne_of_none (z1 _ _ e') ht)]
        exact z1 _ _ e'
    rintro M ⟨xs, e1, hl, hx, zM⟩
    have hl : xs.length = 8 := hl
    have g1 := Dp.same zM _ _ g1
    have g3 := Dp.same zM _ _ g3
    have g4 := Dp.same zM _ _ g4
    have g5 := Dp.same zM _ _ g5
    have eld := zM _ _ eld
    have elc := zM _ _ elc
    have fx : ∀ i, i < 8 → ∃ u, xs[i]? = some u ∧ Dp K M u (.tuple [.int 0, d1]) := by
      intro i hi
      have hi' : i < xs.length := by omega
      obtain ⟨t, e, _, et⟩ := hx _ (List.getElem_mem hi')
      exact ⟨_, List.getElem?_eq_getElem hi', by rw [e]; exact pairD et (.int 0) g1⟩
    clear zM hx hD g2 g6
    refine ⟨by decide, fun t8 ht8 => ?_⟩
    have ct8 : (upd M t8 (.tup [.int 8, v1])) t8 = some (.tup [.int 8, v1]) := upd_same
    have z1 : Same M (upd M t8 (.tup [.int 8, v1])) := Same.new ht8
    generalize upd M t8 _ = M1 at z1 ct8 ⊢
    refine ⟨by decide, fun t9a ht9a => ?_⟩
    have ct9a : (upd M1 t9a (.tup [.str (Str.ofString "a("), .int 2])) t9a = some (.tup [.str (Str.ofString "a("), .int 2]) := upd_same
    have z2 : Same M1 (upd M1 t9a (.tup [.str (Str.ofString "a("), .int 2])) := Same.new ht9a
    generalize upd M1 t9a _ = M2 at z2 ct9a ⊢
    refine ⟨by decide, fun t9 ht9 => ?_⟩
    have ct9 : (upd M2 t9 (.tup [.int 9, .ref t9a])) t9 = some (.tup [.int 9, .ref t9a]) := upd_same
    have z3 : Same M2 (upd M2 t9 (.tup [.int 9, .ref t9a])) := Same.new ht9
    generalize upd M2 t9 _ = M3 at z3 ct9 ⊢
    refine ⟨by decide, fun t10 ht10 => ?_⟩
    have ct10 : (upd M3 t10 (.tup [.int 10, .str (Str.ofString "mark")])) t10 = some (.tup [.int 10, .str (Str.ofString "mark")]) := upd_same
    have z4 : Same M3 (upd M3 t10 (.tup [.int 10, .str (Str.ofString "mark")])) := Same.new ht10
    generalize upd M3 t10 _ = M4 at z4 ct10 ⊢
    refine ⟨_, (SqL.of ((z1.trans (z2.trans (z3.trans (z4)))) _ _ eld)), _, rfl, ?_⟩
    refine ⟨by decide, fun t11a ht11a => ?_⟩
    have ct11a : (upd M4 t11a (.tup [v3, .str (Str.ofString "mark")])) t11a = some (.tup [v3, .str (Str.ofString "mark")]) := upd_same
    have z5 : Same M4 (upd M4 t11a (.tup [v3, .str (Str.ofString "mark")])) := Same.new ht11a
    generalize upd M4 t11a _ = M5 at z5 ct11a ⊢
    refine ⟨by decide, fun t11 ht11 => ?_⟩
    have ct11 : (upd M5 t11 (.tup [.int 11, .ref t11a])) t11 = some (.tup [.int 11, .ref t11a]) := upd_same
    have z6 : Same M5 (upd M5 t11 (.tup [.int 11, .ref t11a])) := Same.new ht11
    generalize upd M5 t11 _ = M6 at z6 ct11 ⊢
    refine ⟨by decide, fun L2 hL2 => ?_⟩
    have eL2 : (upd M6 L2 (.lst [.ref t8, .ref t9, .ref t10, .ref t11])) L2 = some (.lst [.ref t8, .ref t9, .ref t10, .ref t11]) := upd_same
    have z7 : Same M6 (upd M6 L2 (.lst [.ref t8, .ref t9, .ref t10, .ref t11])) := Same.new hL2
    generalize upd M6 L2 _ = M7 at z7 eL2 ⊢
    refine ⟨D, rfl, xs, (z1.trans (z2.trans (z3.trans (z4.trans (z5.trans (z6.trans (z7))))))) _ _ e1, [.ref t8, .ref t9, .ref t10, .ref t11], eL2, by rw [hl]; show 8 + 4 ≤ sizeLine; decide, fun L3 hL3 => ?_⟩
    have eL3 : (upd M7 L3 (.lst (xs ++ [.ref t8, .ref t9, .ref t10, .ref t11]))) L3 = some (.lst (xs ++ [.ref t8, .ref t9, .ref t10, .ref t11])) := upd_same
    have z8 : Same M7 (upd M7 L3 (.lst (xs ++ [.ref t8, .ref t9, .ref t10, .ref t11]))) := Same.new hL3
    generalize upd M7 L3 _ = M8 at z8 eL3 ⊢
    refine ⟨_, (SqL.of ((z1.trans (z2.trans (z3.trans (z4.trans (z5.trans (z6.trans (z7.trans (z8)))))))) _ _ eld)), _, rfl, ⟨_, (SqL.of ((z1.trans (z2.trans (z3.trans (z4.trans (z5.trans (z6.trans (z7.trans (z8)))))))) _ _ eld)), _, rfl, ?_⟩⟩
    refine ⟨by decide, fun t12a ht12a => ?_⟩
    have ct12a : (upd M8 t12a (.tup [v3, v4])) t12a = some (.tup [v3, v4]) := upd_same
    have z9 : Same M8 (upd M8 t12a (.tup [v3, v4])) := Same.new ht12a
    generalize upd M8 t12a _ = M9 at z9 ct12a ⊢
    refine ⟨by decide, fun t12 ht12 => ?_⟩
    have ct12 : (upd M9 t12 (.tup [.int 12, .ref t12a])) t12 = some (.tup [.int 12, .ref t12a]) := upd_same
    have z10 : Same M9 (upd M9 t12 (.tup [.int 12, .ref t12a])) := Same.new ht12
    generalize upd M9 t12 _ = M10 at z10 ct12 ⊢
    refine ⟨_, (SqL.of ((z1.trans (z2.trans (z3.trans (z4.trans (z5.trans (z6.trans (z7.trans (z8.trans (z9.trans (z10)))))))))) _ _ elc)), _, rfl, ?_⟩
    refine ⟨by decide, fun t13 ht13 => ?_⟩
    have ct13 : (upd M10 t13 (.tup [.int 13, v5])) t13 = some (.tup [.int 13, v5]) := upd_same
    have z11 : Same M10 (upd M10 t13 (.tup [.int 13, v5])) := Same.new ht13
    generalize upd M10 t13 _ = M11 at z11 ct13 ⊢
    refine ⟨by decide, fun t14a ht14a => ?_⟩
    have ct14a : (upd M11 t14a (.tup [.str (Str.ofString "show"), .int 1])) t14a = some (.tup [.str (Str.ofString "show"), .int 1]) := upd_same
    have z12 : Same M11 (upd M11 t14a (.tup [.str (Str.ofString "show"), .int 1])) := Same.new ht14a
    generalize upd M11 t14a _ = M12 at z12 ct14a ⊢
    refine ⟨by decide, fun t14 ht14 => ?_⟩
    have ct14 : (upd M12 t14 (.tup [.int 14, .ref t14a])) t14 = some (.tup [.int 14, .ref t14a]) := upd_same
    have z13 : Same M12 (upd M12 t14 (.tup [.int 14, .ref t14a])) := Same.new ht14
    generalize upd M12 t14 _ = M13 at z13 ct14 ⊢
    refine ⟨by decide, fun t15 ht15 => ?_⟩
    have ct15 : (upd M13 t15 (.tup [.int 15, .str (Str.ofString "abc")])) t15 = some (.tup [.int 15, .str (Str.ofString "abc")]) := upd_same
    have z14 : Same M13 (upd M13 t15 (.tup [.int 15, .str (Str.ofString "abc")])) := Same.new ht15
    generalize upd M13 t15 _ = M14 at z14 ct15 ⊢
    refine ⟨by decide, fun t16 ht16 => ?_⟩
    have ct16 : (upd M14 t16 (.tup [.int 16, .str (Str.ofString "undo")])) t16 = some (.tup [.int 16, .str (Str.ofString "undo")]) := upd_same
    have z15 : Same M14 (upd M14 t16 (.tup [.int 16, .str (Str.ofString "undo")])) := Same.new ht16
    generalize upd M14 t16 _ = M15 at z15 ct16 ⊢
    refine ⟨by decide, fun L4 hL4 => ?_⟩
    have eL4 : (upd M15 L4 (.lst [.ref t12, .ref t13, .ref t14, .ref t15, .ref t16])) L4 = some (.lst [.ref t12, .ref t13, .ref t14, .ref t15, .ref t16]) := upd_same
    have z16 : Same M15 (upd M15 L4 (.lst [.ref t12, .ref t13, .ref t14, .ref t15, .ref t16])) := Same.new hL4
    generalize upd M15 L4 _ = M16 at z16 eL4 ⊢
    refine ⟨xs ++ [.ref t8, .ref t9, .ref t10, .ref t11], (z9.trans (z10.trans (z11.trans (z12.trans (z13.trans (z14.trans (z15.trans (z16)))))))) _ _ eL3, [.ref t12, .ref t13, .ref t14, .ref t15, .ref t16], eL4, by rw [List.length_append, hl]; show 8 + 4 + 5 ≤ sizeLine; decide, fun L5 hL5 => ?_⟩
    have eL5 : (upd M16 L5 (.lst ((xs ++ [.ref t8, .ref t9, .ref t10, .ref t11]) ++ [.ref t12, .ref t13, .ref t14, .ref t15, .ref t16]))) L5 = some (.lst ((xs ++ [.ref t8, .ref t9, .ref t10, .ref t11]) ++ [.ref t12, .ref t13, .ref t14, .ref t15, .ref t16])) := upd_same
    have z17 : Same M16 (upd M16 L5 (.lst ((xs ++ [.ref t8, .ref t9, .ref t10, .ref t11]) ++ [.ref t12, .ref t13, .ref t14, .ref t15, .ref t16]))) := Same.new hL5
    generalize upd M16 L5 _ = M17 at z17 eL5 ⊢
    have Z := (z1.trans (z2.trans (z3.trans (z4.trans (z5.trans (z6.trans (z7.trans (z8.trans (z9.trans (z10.trans (z11.trans (z12.trans (z13.trans (z14.trans (z15.trans (z16.trans (z17)))))))))))))))))
    have ct8 := (z2.trans (z3.trans (z4.trans (z5.trans (z6.trans (z7.trans (z8.trans (z9.trans (z10.trans (z11.trans (z12.trans (z13.trans (z14.trans (z15.trans (z16.trans (z17)))))))))))))))) _ _ ct8
    have ct9a := (z3.trans (z4.trans (z5.trans (z6.trans (z7.trans (z8.trans (z9.trans (z10.trans (z11.trans (z12.trans (z13.trans (z14.trans (z15.trans (z16.trans (z17))))))))))))))) _ _ ct9a
    have ct9 := (z4.trans (z5.trans (z6.trans (z7.trans (z8.trans (z9.trans (z10.trans (z11.trans (z12.trans (z13.trans (z14.trans (z15.trans (z16.trans (z17)))))))))))))) _ _ ct9
    have ct10 := (z5.trans (z6.trans (z7.trans (z8.trans (z9.trans (z10.trans (z11.trans (z12.trans (z13.trans (z14.trans (z15.trans (z16.trans (z17))))))))))))) _ _ ct10
    have ct11a := (z6.trans (z7.trans (z8.trans (z9.trans (z10.trans (z11.trans (z12.trans (z13.trans (z14.trans (z15.trans (z16.trans (z17)))))))))))) _ _ ct11a
    have ct11 := (z7.trans (z8.trans (z9.trans (z10.trans (z11.trans (z12.trans (z13.trans (z14.trans (z15.trans (z16.trans (z17))))))))))) _ _ ct11
    have ct12a := (z10.trans (z11.trans (z12.trans (z13.trans (z14.trans (z15.trans (z16.trans (z17)))))))) _ _ ct12a
    have ct12 := (z11.trans (z12.trans (z13.trans (z14.trans (z15.trans (z16.trans (z17))))))) _ _ ct12
    have ct13 := (z12.trans (z13.trans (z14.trans (z15.trans (z16.trans (z17)))))) _ _ ct13
    have ct14a := (z13.trans (z14.trans (z15.trans (z16.trans (z17))))) _ _ ct14a
    have ct14 := (z14.trans (z15.trans (z16.trans (z17)))) _ _ ct14
    have ct15 := (z15.trans (z16.trans (z17))) _ _ ct15
    have ct16 := (z16.trans (z17)) _ _ ct16
    have g1 := Dp.same Z _ _ g1
    have g3 := Dp.same Z _ _ g3
    have g4 := Dp.same Z _ _ g4
    have g5 := Dp.same Z _ _ g5
    have eld := Z _ _ eld
    have elc := Z _ _ elc
    have fx : ∀ i, i < 8 → ∃ u, xs[i]? = some u ∧ Dp K M17 u (.tuple [.int 0, d1]) := fun i hi => let ⟨u, h1, h2⟩ := fx i hi; ⟨u, h1, Dp.same Z _ _ h2⟩
    generalize M17 = HE at ct8 ct9a ct9 ct10 ct11a ct11 ct12a ct12 ct13 ct14a ct14 ct15 ct16 g1 g3 g4 g5 eld elc fx eL5 ⊢
    have due : ∀ i, i < 17 → ∃ u, ((xs ++ [.ref t8, .ref t9, .ref t10, .ref t11]) ++ [.ref t12, .ref t13, .ref t14, .ref t15, .ref t16])[i]? = some u ∧ Dp K HE u (cD i d1 d3 d4 d5) := by
      intro i hi
      rcases Nat.lt_or_ge i 8 with h8 | h8
      · obtain ⟨u, hu, hd⟩ := fx i h8
        refine ⟨u, by rw [List.append_assoc, List.getElem?_append_left (by omega)]; exact hu, ?_⟩
        have ec : cD i d1 d3 d4 d5 = .tuple [.int 0, d1] := by
          match i, h8 with
          | 0, _ => rfl
          | 1, _ => rfl
          | 2, _ => rfl
          | 3, _ => rfl
          | 4, _ => rfl
          | 5, _ => rfl
          | 6, _ => rfl
          | 7, _ => rfl
          | n + 8, h => omega
        rw [ec]
        exact hd
      · rw [List.append_assoc, List.getElem?_append_right (by omega), hl]
        match i, hi, h8 with
        | 8, _, _ => exact ⟨_, rfl, pairD ct8 (.int _) g1⟩
        | 9, _, _ => exact ⟨_, rfl, pairD ct9 (.int _) (pairD ct9a (.str _) (.int _))⟩
        | 10, _, _ => exact ⟨_, rfl, pairD ct10 (.int _) (.str _)⟩
        | 11, _, _ => exact ⟨_, rfl, pairD ct11 (.int _) (pairD ct11a g3 (.str _))⟩
        | 12, _, _ => exact ⟨_, rfl, pairD ct12 (.int _) (pairD ct12a g3 g4)⟩
        | 13, _, _ => exact ⟨_, rfl, pairD ct13 (.int _) g5⟩
        | 14, _, _ => exact ⟨_, rfl, pairD ct14 (.int _) (pairD ct14a (.str _) (.int _))⟩
        | 15, _, _ => exact ⟨_, rfl, pairD ct15 (.int _) (.str _)⟩
        | 16, _, _ => exact ⟨_, rfl, pairD ct16 (.int _) (.str _)⟩
        | n + 17, h, _ => omega
    have shp : ∀ i, i < 17 → Shp 9 (cD i d1 d3 d4 d5) := by
      have a1 : Shp 8 d1 := shv1.mono (by decide)
      have a3 : Shp 8 d3 := shv3.mono (by decide)
      have a4 : Shp 7 d4 := shv4.mono (by decide)
      have a3' : Shp 7 d3 := shv3.mono (by decide)
      have a5 : Shp 8 d5 := shv5.mono (by decide)
      intro i hi
      match i, hi with
      | 8, _ => exact shp2 trivial a1
      | 9, _ => exact shp2 trivial (shp2 (n := 7) trivial trivial)
      | 10, _ => exact shp2 (n := 8) trivial trivial
      | 11, _ => exact shp2 trivial (shp2 a3' trivial)
      | 12, _ => exact shp2 trivial (shp2 a3' a4)
      | 13, _ => exact shp2 trivial a5
      | 14, _ => exact shp2 trivial (shp2 (n := 7) trivial trivial)
      | 15, _ => exact shp2 (n := 8) trivial trivial
      | 16, _ => exact shp2 (n := 8) trivial trivial
      | 0, _ => exact shp2 trivial a1
      | 1, _ => exact shp2 trivial a1
      | 2, _ => exact shp2 trivial a1
      | 3, _ => exact shp2 trivial a1
      | 4, _ => exact shp2 trivial a1
      | 5, _ => exact shp2 trivial a1
      | 6, _ => exact shp2 trivial a1
      | 7, _ => exact shp2 trivial a1
      | n + 17, h => omega
    refine ⟨by decide, by decide, ?_⟩
    refine ForB.range (fun i σ H' => Same HE H' ∧ ∃ x, σ = [some (V.ref a), some (V.ref p), some (V.ref r), some v1, some v2, some (V.ref lw), some (V.int at_), some (V.ref ld), some (V.ref lc), some (V.ref L5), x]) ⟨Same.refl _, none, rfl⟩ ?_ ?_
    · rintro i σ G0 hi ⟨z0, x, rfl⟩
      have hi17 : i < 17 := hi
      obtain ⟨u, hu, hd⟩ := due i hi17
      have hs9 := shp i hi17
      walk_at "vc"
      rw [Int.zero_add]
      refine ⟨_, SqL.of (z0 _ _ eld), _, rfl, ⟨_, SqL.of (z0 _ _ eld), _, rfl, ⟨_, SqL.of (z0 _ _ elc), _, rfl, ?_⟩⟩⟩
      refine ⟨i, v1, v3, v4, v5, d1, d3, d4, d5, hi17, rfl, Dp.same z0 _ _ g1, Dp.same z0 _ _ g3, Dp.same z0 _ _ g4, Dp.same z0 _ _ g5, fun res G1 z1 dres => ?_⟩
      have z01 := z0.trans z1
      refine ⟨_, SqL.of (z01 _ _ eL5), u, atI_nat hu, alike_go dres (Dp.same z01 _ _ hd) hs9 fun G2 z2 => ⟨true, rfl, iteF ?_⟩⟩
      have z02 := z01.trans z2
      refine ite2 (fun c => ?_) (fun c => ?_)
      · refine ⟨i, v1, d1, by omega, rfl, Dp.same z02 _ _ g1, fun r2 G3 z3 dr2 => ⟨by decide, fun pp hpp => ?_⟩⟩
        have z4 : Same G3 (upd G3 pp (.tup [.int (i : Int), v1])) := Same.new hpp
        refine alike_go (Dp.same z4 _ _ dr2) (pairD upd_same (.int _) (Dp.same ((z02.trans z3).trans z4) _ _ g1)) (shp2 (n := 8) trivial (shv1.mono (by decide))) fun G5 z5 => ⟨true, rfl, iteF ?_⟩
        have zz := ((z02.trans z3).trans z4).trans z5
        refine ⟨_, SqL.of (zz _ _ eld), _, rfl, ⟨_, SqL.of (zz _ _ eld), _, rfl, ⟨_, SqL.of (zz _ _ elc), _, rfl, ?_⟩⟩⟩
        exact ⟨i, v1, v3, v4, v5, hi17, rfl, fun G6 z6 => ⟨true, rfl, iteF ⟨zz.trans z6, _, rfl⟩⟩⟩
      · refine ⟨_, SqL.of (z02 _ _ eld), _, rfl, ⟨_, SqL.of (z02 _ _ eld), _, rfl, ⟨_, SqL.of (z02 _ _ elc), _, rfl, ?_⟩⟩⟩
        exact ⟨i, v1, v3, v4, v5, hi17, rfl, fun G6 z6 => ⟨true, rfl, iteF ⟨z02.trans z6, _, rfl⟩⟩⟩
    · rintro σ G0 ⟨z0, x, rfl⟩
      walk_at "vc"
      exact q _
end
end Ly
namespace Ly
open PySem PySem.Spec PyProof.Rows L2
theorem fin {l : PySem.W.OpenLaw} {w : World} {K : PySem.W.Frag} {mg : Str → Option Value} {fa : Addr} (A : All K mg) (hfa : mg "law" = some (.ref fa)) :
    ∃ fd : FuncData, (∀ (s : Shared) (v : Value), BindsTo s fd ⟨[v], []⟩ [("script", v)]) ∧ ∀ base : Heap, K.In base → base.Ns mainGlobals mg → FnOk l.prog w K mg base CX0 11 fa fd ["script"] (sp_law K) := by
  have e := A.law.m
  rw [hfa] at e
  have e2 : fa = A.law.f := Value.ref.inj (Option.some.inj e)
  rw [e2]
  exact ⟨A.law.fd, A.law.one (fun _ _ _ _ _ _ _ => rfl), fun base _ _ => ok_law A⟩
theorem walk {l : PySem.W.OpenLaw} {q : Program} {loose : List Str} {XP : (Str → Option Value) → Heap → Prop} {YP : World → Heap → Prop} {d : DefRec} {K : Params → PySem.W.Frag} (hn : l.most = some 63) (hdf : d.params.defaults = [])
    (hY : ∀ (w : World) (h : Heap), YP w h → (K w.params).In h)
    (F : ∀ (w : World) (mg : Str → Option Value) (fa : Addr) (h : Heap), (K w.params).In h → h.Ns mainGlobals mg → mg d.name = some (.ref fa) →
      ∃ fd : FuncData, (∀ (s : Shared) (u : Value), BindsTo s fd ⟨[u], []⟩ [("script", u)]) ∧ ∀ base : Heap, (K w.params).In base → base.Ns mainGlobals mg → FnOk l.prog w (K w.params) mg base CX0 11 fa fd ["script"] (sp_law (K w.params))) :
    PySem.W.WalkO q loose XP YP l.row.toRowW d [] (fun f vs => PySem.call f vs) :=
  L2.walk_ofB (n := 63) (k := 11) (x := "script") (CX := fun _ => CX0) (sp := fun w => sp_law (K w.params)) hn (by decide) hdf ⟨rfl, by decide, by decide⟩ hY F (fun _ _ a ns _ hb _ hS => ⟨a, ns, rfl, hS, hb, fun _ => rfl⟩) fun _ _ _ _ _ z => z
end Ly
open PySem PySem.W PyProof.Rows in
set_option maxRecDepth 100000 in
set_option maxHeartbeats 0 in
theorem PySem.Challenge.cw_graftbook_k01_errors_holds : PySem.Challenge.rw_graftbook_k01_errors.Holds := by
  w_on; o_law; k_head; (case hw => w_witness2)
  k_fill
  refine Ly.walk (l := PySem.Challenge.rw_graftbook_k01_errors) rfl rfl (fun w h Y => PySem.W.kIn_of Y) ?F
  case F =>
    intro w mg fa h KX G hmg
    refine Ly.fin ?A hmg
    case A =>
      refine' { c_GraftError := ?x_c_GraftError, l_cell := ?x_l_cell, l_mix := ?x_l_mix, l_box := ?x_l_box, l_draw := ?x_l_draw, l_word := ?x_l_word, l_plain := ?x_l_plain, l_value := ?x_l_value, l_alike := ?x_l_alike, l_deed := ?x_l_deed, l_claim := ?x_l_claim, l_kinds := ?x_l_kinds, l_alone := ?x_l_alone, l_of_value := ?x_l_of_value, l_of_path := ?x_l_of_path, l_of_text := ?x_l_of_text, l_of_word := ?x_l_of_word, l_of_deed := ?x_l_of_deed, l_raise := ?x_l_raise, l_caught := ?x_l_caught, l_caught_early := ?x_l_caught_early, l_beneath := ?x_l_beneath, law := ?x_law, c_InvalidForest := ?x_c_InvalidForest, c_InvalidPlot := ?x_c_InvalidPlot, c_InvalidPrices := ?x_c_InvalidPrices, c_InvalidMatching := ?x_c_InvalidMatching, c_InvalidScript := ?x_c_InvalidScript, c_InvalidTable := ?x_c_InvalidTable, c_InvalidClaim := ?x_c_InvalidClaim, c_InvalidNumber := ?x_c_InvalidNumber, c_InvalidPath := ?x_c_InvalidPath, c_InvalidText := ?x_c_InvalidText, c_Undefined := ?x_c_Undefined, c_Refusal := ?x_c_Refusal, c_Clash := ?x_c_Clash, c_Refused := ?x_c_Refused, c_InvalidCommand := ?x_c_InvalidCommand, c_UnknownName := ?x_c_UnknownName, c_NothingToUndo := ?x_c_NothingToUndo, oc := ?x_oc, n_ValueError := ?x_n_ValueError, n_tuple := ?x_n_tuple, n_isinstance := ?x_n_isinstance, n_bool := ?x_n_bool, n_str := ?x_n_str, n_range := ?x_n_range, n_len := ?x_n_len, n_int := ?x_n_int, n_max := ?x_n_max, n_list := ?x_n_list }
      case x_c_GraftError =>
        refine' Ly.mkExc0 KX G ?a ?l
        (case a => k_is)
        (case l => k_is)
      case x_l_cell =>
        refine' Ly.mkDef KX G (fun _ _ _ _ _ _ us hl => match us, hl with | [_, _], _ => rfl) ?a ?l ?c ?k
        (case a => k_is)
        (case l => k_is)
        (case c => k_is)
        (case k => k_is)
      case x_l_mix =>
        refine' Ly.mkDef KX G (fun _ _ _ _ _ _ us hl => match us, hl with | [_, _], _ => rfl) ?a ?l ?c ?k
        (case a => k_is)
        (case l => k_is)
        (case c => k_is)
        (case k => k_is)
      case x_l_box =>
        refine' Ly.mkDef KX G (fun _ _ _ _ _ _ us hl => match us, hl with | [_, _], _ => rfl) ?a ?l ?c ?k
        (case a => k_is)
        (case l => k_is)
        (case c => k_is)
        (case k => k_is)
      case x_l_draw =>
        refine' Ly.mkDef KX G (fun _ _ _ _ _ _ us hl => match us, hl with | [_, _], _ => rfl) ?a ?l ?c ?k
        (case a => k_is)
        (case l => k_is)
        (case c => k_is)
        (case k => k_is)
      case x_l_word =>
        refine' Ly.mkDef KX G (fun _ _ _ _ _ _ us hl => match us, hl with | [_], _ => rfl) ?a ?l ?c ?k
        (case a => k_is)
        (case l => k_is)
        (case c => k_is)
        (case k => k_is)
      case x_l_plain =>
        refine' Ly.mkDef KX G (fun _ _ _ _ _ _ us hl => match us, hl with | [_], _ => rfl) ?a ?l ?c ?k
        (case a => k_is)
        (case l => k_is)
        (case c => k_is)
        (case k => k_is)
      case x_l_value =>
        refine' Ly.mkDef KX G (fun _ _ _ _ _ _ us hl => match us, hl with | [_], _ => rfl) ?a ?l ?c ?k
        (case a => k_is)
        (case l => k_is)
        (case c => k_is)
        (case k => k_is)
      case x_l_alike =>
        refine' Ly.mkDef KX G (fun _ _ _ _ _ _ us hl => match us, hl with | [_, _], _ => rfl) ?a ?l ?c ?k
        (case a => k_is)
        (case l => k_is)
        (case c => k_is)
        (case k => k_is)
      case x_l_deed =>
        refine' Ly.mkDef KX G (fun _ _ _ _ _ _ us hl => match us, hl with | [_], _ => rfl) ?a ?l ?c ?k
        (case a => k_is)
        (case l => k_is)
        (case c => k_is)
        (case k => k_is)
      case x_l_claim =>
        refine' Ly.mkDef KX G (fun _ _ _ _ _ _ us hl => match us, hl with | [_], _ => rfl) ?a ?l ?c ?k
        (case a => k_is)
        (case l => k_is)
        (case c => k_is)
        (case k => k_is)
      case x_l_kinds =>
        refine' Ly.mkDef KX G (fun _ _ _ _ _ _ us hl => match us, hl with | [_], _ => rfl) ?a ?l ?c ?k
        (case a => k_is)
        (case l => k_is)
        (case c => k_is)
        (case k => k_is)
      case x_l_alone =>
        refine' Ly.mkDef KX G (fun _ _ _ _ _ _ us hl => match us, hl with | [_, _], _ => rfl) ?a ?l ?c ?k
        (case a => k_is)
        (case l => k_is)
        (case c => k_is)
        (case k => k_is)
      case x_l_of_value =>
        refine' Ly.mkDef KX G (fun _ _ _ _ _ _ us hl => match us, hl with | [_, _], _ => rfl) ?a ?l ?c ?k
        (case a => k_is)
        (case l => k_is)
        (case c => k_is)
        (case k => k_is)
      case x_l_of_path =>
        refine' Ly.mkDef KX G (fun _ _ _ _ _ _ us hl => match us, hl with | [_, _], _ => rfl) ?a ?l ?c ?k
        (case a => k_is)
        (case l => k_is)
        (case c => k_is)
        (case k => k_is)
      case x_l_of_text =>
        refine' Ly.mkDef KX G (fun _ _ _ _ _ _ us hl => match us, hl with | [_, _], _ => rfl) ?a ?l ?c ?k
        (case a => k_is)
        (case l => k_is)
        (case c => k_is)
        (case k => k_is)
      case x_l_of_word =>
        refine' Ly.mkDef KX G (fun _ _ _ _ _ _ us hl => match us, hl with | [_, _], _ => rfl) ?a ?l ?c ?k
        (case a => k_is)
        (case l => k_is)
        (case c => k_is)
        (case k => k_is)
      case x_l_of_deed =>
        refine' Ly.mkDef KX G (fun _ _ _ _ _ _ us hl => match us, hl with | [_, _, _, _], _ => rfl) ?a ?l ?c ?k
        (case a => k_is)
        (case l => k_is)
        (case c => k_is)
        (case k => k_is)
      case x_l_raise =>
        refine' Ly.mkDef KX G (fun _ _ _ _ _ _ us hl => match us, hl with | [_, _, _, _, _], _ => rfl) ?a ?l ?c ?k
        (case a => k_is)
        (case l => k_is)
        (case c => k_is)
        (case k => k_is)
      case x_l_caught =>
        refine' Ly.mkDef KX G (fun _ _ _ _ _ _ us hl => match us, hl with | [_, _, _, _, _], _ => rfl) ?a ?l ?c ?k
        (case a => k_is)
        (case l => k_is)
        (case c => k_is)
        (case k => k_is)
      case x_l_caught_early =>
        refine' Ly.mkDef KX G (fun _ _ _ _ _ _ us hl => match us, hl with | [_, _], _ => rfl) ?a ?l ?c ?k
        (case a => k_is)
        (case l => k_is)
        (case c => k_is)
        (case k => k_is)
      case x_l_beneath =>
        refine' Ly.mkDef KX G (fun _ _ _ _ _ _ us hl => match us, hl with | [_, _, _, _, _], _ => rfl) ?a ?l ?c ?k
        (case a => k_is)
        (case l => k_is)
        (case c => k_is)
        (case k => k_is)
      case x_law =>
        refine' Ly.mkDef KX G (fun _ _ _ _ _ _ us hl => match us, hl with | [_], _ => rfl) ?a ?l ?c ?k
        (case a => k_is)
        (case l => k_is)
        (case c => k_is)
        (case k => k_is)
      case x_c_InvalidForest =>
        refine' Ly.mkExc KX G _ (fun _ _ _ _ _ _ us hl => match us, hl with | [_, _], _ => rfl) ?ag ?a ?l ?sa ?kC ?i ?ty ?ga ?gg ?ca ⟨?f0, trivial⟩ ?lf ?c ?k
        (case ag => k_is)
        (case a => k_is)
        (case l => k_is)
        (case sa => k_is)
        (case kC => k_is)
        (case i => k_is)
        (case ty => k_is)
        (case ga => k_is)
        (case gg => k_is)
        (case ca => k_is)
        (case f0 => k_is)
        (case lf => k_is)
        (case c => k_is)
        (case k => k_is)
      case x_c_InvalidPlot =>
        refine' Ly.mkExc KX G _ (fun _ _ _ _ _ _ us hl => match us, hl with | [_, _], _ => rfl) ?ag ?a ?l ?sa ?kC ?i ?ty ?ga ?gg ?ca ⟨?f0, trivial⟩ ?lf ?c ?k
        (case ag => k_is)
        (case a => k_is)
        (case l => k_is)
        (case sa => k_is)
        (case kC => k_is)
        (case i => k_is)
        (case ty => k_is)
        (case ga => k_is)
        (case gg => k_is)
        (case ca => k_is)
        (case f0 => k_is)
        (case lf => k_is)
        (case c => k_is)
        (case k => k_is)
      case x_c_InvalidPrices =>
        refine' Ly.mkExc KX G _ (fun _ _ _ _ _ _ us hl => match us, hl with | [_, _], _ => rfl) ?ag ?a ?l ?sa ?kC ?i ?ty ?ga ?gg ?ca ⟨?f0, trivial⟩ ?lf ?c ?k
        (case ag => k_is)
        (case a => k_is)
        (case l => k_is)
        (case sa => k_is)
        (case kC => k_is)
        (case i => k_is)
        (case ty => k_is)
        (case ga => k_is)
        (case gg => k_is)
        (case ca => k_is)
        (case f0 => k_is)
        (case lf => k_is)
        (case c => k_is)
        (case k => k_is)
      case x_c_InvalidMatching =>
        refine' Ly.mkExc KX G _ (fun _ _ _ _ _ _ us hl => match us, hl with | [_, _], _ => rfl) ?ag ?a ?l ?sa ?kC ?i ?ty ?ga ?gg ?ca ⟨?f0, trivial⟩ ?lf ?c ?k
        (case ag => k_is)
        (case a => k_is)
        (case l => k_is)
        (case sa => k_is)
        (case kC => k_is)
        (case i => k_is)
        (case ty => k_is)
        (case ga => k_is)
        (case gg => k_is)
        (case ca => k_is)
        (case f0 => k_is)
        (case lf => k_is)
        (case c => k_is)
        (case k => k_is)
      case x_c_InvalidScript =>
        refine' Ly.mkExc KX G _ (fun _ _ _ _ _ _ us hl => match us, hl with | [_, _], _ => rfl) ?ag ?a ?l ?sa ?kC ?i ?ty ?ga ?gg ?ca ⟨?f0, trivial⟩ ?lf ?c ?k
        (case ag => k_is)
        (case a => k_is)
        (case l => k_is)
        (case sa => k_is)
        (case kC => k_is)
        (case i => k_is)
        (case ty => k_is)
        (case ga => k_is)
        (case gg => k_is)
        (case ca => k_is)
        (case f0 => k_is)
        (case lf => k_is)
        (case c => k_is)
        (case k => k_is)
      case x_c_InvalidTable =>
        refine' Ly.mkExc KX G _ (fun _ _ _ _ _ _ us hl => match us, hl with | [_, _], _ => rfl) ?ag ?a ?l ?sa ?kC ?i ?ty ?ga ?gg ?ca ⟨?f0, trivial⟩ ?lf ?c ?k
        (case ag => k_is)
        (case a => k_is)
        (case l => k_is)
        (case sa => k_is)
        (case kC => k_is)
        (case i => k_is)
        (case ty => k_is)
        (case ga => k_is)
        (case gg => k_is)
        (case ca => k_is)
        (case f0 => k_is)
        (case lf => k_is)
        (case c => k_is)
        (case k => k_is)
      case x_c_InvalidClaim =>
        refine' Ly.mkExc KX G _ (fun _ _ _ _ _ _ us hl => match us, hl with | [_, _], _ => rfl) ?ag ?a ?l ?sa ?kC ?i ?ty ?ga ?gg ?ca ⟨?f0, trivial⟩ ?lf ?c ?k
        (case ag => k_is)
        (case a => k_is)
        (case l => k_is)
        (case sa => k_is)
        (case kC => k_is)
        (case i => k_is)
        (case ty => k_is)
        (case ga => k_is)
        (case gg => k_is)
        (case ca => k_is)
        (case f0 => k_is)
        (case lf => k_is)
        (case c => k_is)
        (case k => k_is)
      case x_c_InvalidNumber =>
        refine' Ly.mkExc KX G _ (fun _ _ _ _ _ _ us hl => match us, hl with | [_, _], _ => rfl) ?ag ?a ?l ?sa ?kC ?i ?ty ?ga ?gg ?ca ⟨?f0, trivial⟩ ?lf ?c ?k
        (case ag => k_is)
        (case a => k_is)
        (case l => k_is)
        (case sa => k_is)
        (case kC => k_is)
        (case i => k_is)
        (case ty => k_is)
        (case ga => k_is)
        (case gg => k_is)
        (case ca => k_is)
        (case f0 => k_is)
        (case lf => k_is)
        (case c => k_is)
        (case k => k_is)
      case x_c_InvalidPath =>
        refine' Ly.mkExc KX G _ (fun _ _ _ _ _ _ us hl => match us, hl with | [_, _], _ => rfl) ?ag ?a ?l ?sa ?kC ?i ?ty ?ga ?gg ?ca ⟨?f0, trivial⟩ ?lf ?c ?k
        (case ag => k_is)
        (case a => k_is)
        (case l => k_is)
        (case sa => k_is)
        (case kC => k_is)
        (case i => k_is)
        (case ty => k_is)
        (case ga => k_is)
        (case gg => k_is)
        (case ca => k_is)
        (case f0 => k_is)
        (case lf => k_is)
        (case c => k_is)
        (case k => k_is)
      case x_c_InvalidText =>
        refine' Ly.mkExc KX G _ (fun _ _ _ _ _ _ us hl => match us, hl with | [_, _, _], _ => rfl) ?ag ?a ?l ?sa ?kC ?i ?ty ?ga ?gg ?ca ⟨?f0, ?f1, trivial⟩ ?lf ?c ?k
        (case ag => k_is)
        (case a => k_is)
        (case l => k_is)
        (case sa => k_is)
        (case kC => k_is)
        (case i => k_is)
        (case ty => k_is)
        (case ga => k_is)
        (case gg => k_is)
        (case ca => k_is)
        (case f0 => k_is)
        (case f1 => k_is)
        (case lf => k_is)
        (case c => k_is)
        (case k => k_is)
      case x_c_Undefined =>
        refine' Ly.mkExc KX G _ (fun _ _ _ _ _ _ us hl => match us, hl with | [_, _], _ => rfl) ?ag ?a ?l ?sa ?kC ?i ?ty ?ga ?gg ?ca ⟨?f0, trivial⟩ ?lf ?c ?k
        (case ag => k_is)
        (case a => k_is)
        (case l => k_is)
        (case sa => k_is)
        (case kC => k_is)
        (case i => k_is)
        (case ty => k_is)
        (case ga => k_is)
        (case gg => k_is)
        (case ca => k_is)
        (case f0 => k_is)
        (case lf => k_is)
        (case c => k_is)
        (case k => k_is)
      case x_c_Refusal =>
        refine' Ly.mkExc KX G _ (fun _ _ _ _ _ _ us hl => match us, hl with | [_, _, _], _ => rfl) ?ag ?a ?l ?sa ?kC ?i ?ty ?ga ?gg ?ca ⟨?f0, ?f1, trivial⟩ ?lf ?c ?k
        (case ag => k_is)
        (case a => k_is)
        (case l => k_is)
        (case sa => k_is)
        (case kC => k_is)
        (case i => k_is)
        (case ty => k_is)
        (case ga => k_is)
        (case gg => k_is)
        (case ca => k_is)
        (case f0 => k_is)
        (case f1 => k_is)
        (case lf => k_is)
        (case c => k_is)
        (case k => k_is)
      case x_c_Clash =>
        refine' Ly.mkExc KX G _ (fun _ _ _ _ _ _ us hl => match us, hl with | [_, _, _], _ => rfl) ?ag ?a ?l ?sa ?kC ?i ?ty ?ga ?gg ?ca ⟨?f0, ?f1, trivial⟩ ?lf ?c ?k
        (case ag => k_is)
        (case a => k_is)
        (case l => k_is)
        (case sa => k_is)
        (case kC => k_is)
        (case i => k_is)
        (case ty => k_is)
        (case ga => k_is)
        (case gg => k_is)
        (case ca => k_is)
        (case f0 => k_is)
        (case f1 => k_is)
        (case lf => k_is)
        (case c => k_is)
        (case k => k_is)
      case x_c_Refused =>
        refine' Ly.mkExc KX G _ (fun _ _ _ _ _ _ us hl => match us, hl with | [_, _], _ => rfl) ?ag ?a ?l ?sa ?kC ?i ?ty ?ga ?gg ?ca ⟨?f0, trivial⟩ ?lf ?c ?k
        (case ag => k_is)
        (case a => k_is)
        (case l => k_is)
        (case sa => k_is)
        (case kC => k_is)
        (case i => k_is)
        (case ty => k_is)
        (case ga => k_is)
        (case gg => k_is)
        (case ca => k_is)
        (case f0 => k_is)
        (case lf => k_is)
        (case c => k_is)
        (case k => k_is)
      case x_c_InvalidCommand =>
        refine' Ly.mkExc KX G _ (fun _ _ _ _ _ _ us hl => match us, hl with | [_, _, _], _ => rfl) ?ag ?a ?l ?sa ?kC ?i ?ty ?ga ?gg ?ca ⟨?f0, ?f1, trivial⟩ ?lf ?c ?k
        (case ag => k_is)
        (case a => k_is)
        (case l => k_is)
        (case sa => k_is)
        (case kC => k_is)
        (case i => k_is)
        (case ty => k_is)
        (case ga => k_is)
        (case gg => k_is)
        (case ca => k_is)
        (case f0 => k_is)
        (case f1 => k_is)
        (case lf => k_is)
        (case c => k_is)
        (case k => k_is)
      case x_c_UnknownName =>
        refine' Ly.mkExc KX G _ (fun _ _ _ _ _ _ us hl => match us, hl with | [_, _], _ => rfl) ?ag ?a ?l ?sa ?kC ?i ?ty ?ga ?gg ?ca ⟨?f0, trivial⟩ ?lf ?c ?k
        (case ag => k_is)
        (case a => k_is)
        (case l => k_is)
        (case sa => k_is)
        (case kC => k_is)
        (case i => k_is)
        (case ty => k_is)
        (case ga => k_is)
        (case gg => k_is)
        (case ca => k_is)
        (case f0 => k_is)
        (case lf => k_is)
        (case c => k_is)
        (case k => k_is)
      case x_c_NothingToUndo =>
        refine' Ly.mkExc KX G _ (fun _ _ _ _ _ _ us hl => match us, hl with | [_, _], _ => rfl) ?ag ?a ?l ?sa ?kC ?i ?ty ?ga ?gg ?ca ⟨?f0, trivial⟩ ?lf ?c ?k
        (case ag => k_is)
        (case a => k_is)
        (case l => k_is)
        (case sa => k_is)
        (case kC => k_is)
        (case i => k_is)
        (case ty => k_is)
        (case ga => k_is)
        (case gg => k_is)
        (case ca => k_is)
        (case f0 => k_is)
        (case lf => k_is)
        (case c => k_is)
        (case k => k_is)
      case x_oc =>
        refine' ⟨?a, ?b⟩
        (case a => k_is)
        (case b => k_is)
      case x_n_ValueError =>
        refine' PySem.W.mg_none_of KX G ?a
        (case a => k_is)
      case x_n_tuple =>
        refine' PySem.W.mg_none_of KX G ?a
        (case a => k_is)
      case x_n_isinstance =>
        refine' PySem.W.mg_none_of KX G ?a
        (case a => k_is)
      case x_n_bool =>
        refine' PySem.W.mg_none_of KX G ?a
        (case a => k_is)
      case x_n_str =>
        refine' PySem.W.mg_none_of KX G ?a
        (case a => k_is)
      case x_n_range =>
        refine' PySem.W.mg_none_of KX G ?a
        (case a => k_is)
      case x_n_len =>
        refine' PySem.W.mg_none_of KX G ?a
        (case a => k_is)
      case x_n_int =>
        refine' PySem.W.mg_none_of KX G ?a
        (case a => k_is)
      case x_n_max =>
        refine' PySem.W.mg_none_of KX G ?a
        (case a => k_is)
      case x_n_list =>
        refine' PySem.W.mg_none_of KX G ?a
        (case a => k_is)
