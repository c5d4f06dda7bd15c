import PyProof.Rows.All
import Wide.All
import OpenK.AllK
import Wide.FinOn
import HandS.ForMost
import HandS.Exc
import HandS.ExcOwn
import HandS.ExcInit
import HandS.TryMany
import HandS.Wide
import HandS.IsInst
import HandS.WordsExc
import HandS.ExcField
import HandS.ExcIs
import HandS.ExcValue
import HandS.EndBits
import KE.KExcIs
import HandS.AnyAll
import HandS.EndTab
import KE.LtData
import KE.DataMinMax
import HandS.Star
import HandS.Rev
import HandS.RevRange
import HandS.Zip
import HandS.TupAny
import PySem.Challenge.RW_graftbook_k02_forests
set_option Elab.async false
set_option linter.all false
set_option maxRecDepth 100000
set_option maxHeartbeats 4000000
namespace Ly
open PySem PySem.Spec PyProof.Rows L2
/-! ### greater products -/
def CMulX (i j : Int) : Prop := i.natAbs.log2 + j.natAbs.log2 < 100000000
theorem CMulX.ok {i j : Int} (h : CMulX i j) : IntMulOk i j := by
  have b : ∀ x : Int, Builtin.Int.intBits x ≤ x.natAbs.log2 + 1 := fun x => by
    unfold Builtin.Int.intBits
    split <;> omega
  have h1 := b i
  have h2 := b j
  have h3 : i.natAbs.log2 + j.natAbs.log2 < 100000000 := h
  have e : bitsLine = 134217728 := by decide
  unfold IntMulOk
  intro z
  rw [Bool.and_eq_true] at z
  have z2 := z.2
  unfold Builtin.Int.intTooBig at z2
  have z3 := of_decide_eq_true z2
  rw [e] at z3
  omega
theorem op_mulX {X : Cx} : OpR X (binaryOp .Mult) (rI CMulX fun i j => .int (i * j)) := opI fun _ _ _ _ _ _ _ hc q => mul_int q hc.ok

/-! ### an exception that was made and is held as a value: its class C, its own dict dd -/
def exv (a C dd : Addr) : HO := .ext fun h => ∃ (oe : Obj) (vs : Array Value), h.get? a = some oe ∧ Zc (.ref C) (some dd) oe ∧ oe.data = .fields vs
theorem exv_at {P : Program} {w : World} {H : Hp} {h : Heap} {a C dd : Addr} (hok : HOk P w H h) (e : H a = some (exv a C dd)) : ∃ (oe : Obj) (vs : Array Value), h.get? a = some oe ∧ Zc (.ref C) (some dd) oe ∧ oe.data = .fields vs :=
  (show ObjOk P w H h a (.ext fun h => ∃ (oe : Obj) (vs : Array Value), h.get? a = some oe ∧ Zc (.ref C) (some dd) oe ∧ oe.data = .fields vs) from hok a _ e).1
/-- what makes an exception of a class with a dict, as an expression -/
def tVal (t : L2.St → Hp → XK → Prop) : TE := fun σ H Q => t σ H fun cls d H' => ∃ C dd, cls = .ref C ∧ d = some dd ∧ ∀ a, H' a = none → Q (.ref a) (upd H' a (exv a C dd))
theorem pe_val {X : Cx} {e : Expr} {t : L2.St → Hp → XK → Prop} (m : PMk X e t) : PE X e (tVal t) := by
  constructor
  intro pins s σ H Q I h
  refine thn (m pins s σ H _ I h) ?_
  rintro u ⟨h2, g2, d2, t2, os2⟩ ⟨a, oe, vs, sI, H', cls, d, hu, J, hk, hno, hat, hz, hdat, -, hn, hos, hg, -, C, dd, hc, hd, q⟩
  subst hu hc hd
  have new : ObjOk X.prog X.w (upd H' a (exv a C dd)) h2 a (exv a C dd) := ⟨⟨oe, vs, hat, hz, hdat⟩, ⟨oe, hat⟩, fun _ _ ⟨o, v, z, r⟩ kk => ⟨o, v, kk o z, r⟩⟩
  have K := J.call (ch := []) (g' := g2) (d' := d2) (t' := t2) (Un.laidN (fs := frs X.stack) (ex := []) hk hno hn) (HOk.laidN J.hok hk hn new) hg (fun b z => absurd z List.not_mem_nil)
  refine ⟨.ref a, _, ?_, rfl, q a hn⟩
  have e : os2 = sI.os := hos
  subst e
  exact K
/-! ### fields -/
/-- e.n, e the exception that the suite holds; its class is told behind -/
def tXfE (K : PySem.W.Frag) (a : Addr) (cls : Value) (d : Option Addr) (n : Str) (te : TE) : TE := fun σ H Q => te σ H fun x H1 => x = .ref a ∧ ∃ C, cls = .ref C ∧ XfC K C ∧ PySem.W.findIn K (.ref C) n = some none ∧ ∃ (dd : Addr) (fs : List (Str × V)) (v : V), d = some dd ∧ H1 dd = some (.xd fs) ∧ fs.lookup n = some v ∧ Q v H1
theorem pe_xfE {X : Cx} {a : Addr} {oe : Obj} {cls : Value} {d : Option Addr} {pn : List (Addr × Obj)} {e : Expr} {te : TE} {pos : Pos} {n : Str}
    (hz : Zc cls d oe) (hf : ∃ vs, oe.data = .fields vs) (he : PE (X.suite a ((a, oe) :: pn)) e te) (hb : attributeBase e n X.env (eval e X.env) = eval e X.env := by rfl) :
    PE (X.suite a ((a, oe) :: pn)) (.Attribute e n pos) (tXfE X.K a cls d n te) := by
  refine ⟨fun pins s σ H Q I h => ?_⟩
  refine attr_of hb (thn (he.run pins s σ H _ I h) fun u s1 hh => ?_)
  obtain ⟨x, H1, I1, rx, ex, C, ec, T, hno, dd, fs, v, ed, ea, l, q⟩ := hh
  subst ex
  obtain rfl : u = Value.ref a := rx
  subst ec
  subst ed
  obtain ⟨ha, _⟩ := I1.pin (a, oe) (List.mem_append_left _ List.mem_cons_self)
  obtain ⟨vs, hd⟩ := hf
  have hx : ObjOk X.prog X.w H1 s1.heap dd (.xd fs) := I1.hok dd _ ea
  obtain ⟨mA, hns, hr⟩ := hx
  obtain ⟨od, ho, hl⟩ := lookIn_ns hns
  obtain ⟨u, hu, ru⟩ := RelO.some_of (v := v) (o := mA n) (by rw [← l]; exact hr n)
  have J : PySem.W.InstAt s1.heap a oe C (some od) := ⟨ha, hz.1, by unfold PySem.W.notCls; rw [hd] <;> rfl, by rw [hz.2]; exact ho⟩
  exact HandSPX.exc_get I1.kIn J T.ga T.gg T.exC (PySem.W.findObj_own T.hdC hno rfl (by rw [hl, hu])) (handed_of ru) ⟨v, H1, I1.tok _, ru, q⟩
/-- e.n, e an exception that is held as a value -/
def tFldE (K : PySem.W.Frag) (n : Str) (te : TE) : TE := fun σ H Q => te σ H fun x H1 => ∃ (a C dd : Addr) (fs : List (Str × V)) (v : V), x = .ref a ∧ H1 a = some (exv a C dd) ∧ H1 dd = some (.xd fs) ∧ XfC K C ∧ PySem.W.findIn K (.ref C) n = some none ∧ fs.lookup n = some v ∧ Q v H1
theorem exv_inst {X : Cx} {pins : List (Addr × Obj)} {σ : L2.St} {H : Hp} {s : Shared} {a C dd : Addr} {fs : List (Str × V)} (I : Inv X pins σ H s) (ha : H a = some (exv a C dd)) (hd : H dd = some (.xd fs)) :
    ∃ (ox od : Obj) (mA : Str → Option Value), PySem.W.InstAt s.heap a ox C (some od) ∧ (∀ f, RelO (fs.lookup f) (mA f)) ∧ ∀ name, PySem.W.lookIn name od = some (mA name) := by
  obtain ⟨oe, vs, ho, hz, hf⟩ := exv_at I.hok ha
  obtain ⟨mA, hns, hr⟩ := (show ObjOk X.prog X.w H s.heap dd (.xd fs) from I.hok dd _ hd)
  obtain ⟨od, hod, hl⟩ := lookIn_ns hns
  refine ⟨oe, od, mA, ⟨ho, hz.1, ?_, ?_⟩, hr, hl⟩
  · simp only [PySem.W.notCls, hf]
  · rw [hz.2]
    exact hod
theorem pe_fldE {X : Cx} {e : Expr} {te : TE} {pos : Pos} {n : Str} (he : PE X e te) (hb : attributeBase e n X.env (eval e X.env) = eval e X.env := by rfl) :
    PE X (.Attribute e n pos) (tFldE X.K n te) := by
  constructor
  intro pins s σ H Q I h
  refine attr_of hb (thn (he.run pins s σ H _ I h) ?_)
  rintro u s1 ⟨x, H1, I1, rx, a, C, dd, fs, v, rfl, ea, ed, T, hno, l, q⟩
  cases (show u = Value.ref a from rx)
  obtain ⟨ox, od, mA, J, hr, hl⟩ := exv_inst I1 ea ed
  have hv := hr n
  rw [l] at hv
  obtain ⟨u, hu, ru⟩ := RelO.some_of hv
  exact HandSPX.exc_get I1.kIn J T.ga T.gg T.exC (PySem.W.findObj_own T.hdC hno rfl (by rw [hl, hu])) (handed_of ru) ⟨v, H1, I1.tok _, ru, q⟩
/-! ### isinstance of a made exception -/
def rIsX (K : PySem.W.Frag) : List V → Hp → VK → Prop := fun xs H Q => ∃ (c : V) (cv : Value) (b : Bool) (a C dd : Addr) (fs : List (Str × V)), xs = [.ref a, c] ∧ ClsV c cv ∧ H a = some (exv a C dd) ∧ H dd = some (.xd fs) ∧ L2.ExcC K C ∧ PySem.W.kitOne K (.ref C) cv = some b ∧ Q (.bl b) H
theorem call_isX {X : Cx} : CallR X (.builtin "isinstance") (rIsX X.K) := by
  intro pins s σ H xs us Q I r h
  obtain ⟨c, cv, b, a, C, dd, fs, rfl, hcv, ha, hd, E, e, q⟩ := h
  cases r with
  | cons rx rr =>
    cases rr with
    | cons rt rr =>
      cases rr
      cases rx
      have ec := hcv.eq rt
      subst ec
      obtain ⟨ox, od, mA, J, hr, hl⟩ := exv_inst I ha hd
      have hcl : (PySem.W.clsIn X.K C).isSome = true := by
        obtain ⟨cd, hc, _⟩ := PySem.W.any_some E.hd
        rw [hc]
        rfl
      exact PySem.W.kia_one (PySem.W.kitx_exc hcl E.hg E.hk E.hs E.ha E.hn E.ht E.hm) I.kIn J e (fun z => nomatch z) fun tk => ⟨.bl b, H, I.kept (t' := tk) fun _ _ z => z, rfl, q⟩
/-! ### several except clauses, each with a name or without -/
structure HdA where
  c : Value
  i : Option Nat
  ts : Addr → Value → Option Addr → TS
def wManyA (K : PySem.W.Frag) (Wout : WX) (D : Ends) : List HdA → WX
  | [] => Wout
  | ⟨c, some i, ts⟩ :: r => fun cls d σ H => ∃ b, PySem.W.exmOne K cls c = some b ∧ (b = true → ∀ a, H a = none → ts a cls d { nx := fun σ' H' => D.nx (σ'.set i none) H', rt := D.rt, bk := fun σ' H' => D.bk (σ'.set i none) H', ct := fun σ' H' => D.ct (σ'.set i none) H' } (σ.set i (some (.ref a))) H) ∧
      (b = false → wManyA K Wout D r cls d σ H)
  | ⟨c, none, ts⟩ :: r => fun cls d σ H => ∃ b, PySem.W.exmOne K cls c = some b ∧ (b = true → ∀ a, H a = none → ts a cls d D σ H) ∧ (b = false → wManyA K Wout D r cls d σ H)
inductive HdsA (X : Cx) : List ExceptHandler → List HdA → Prop
  | nil : HdsA X [] []
  | cons {x : Str} {c : Value} {ts : Addr → Value → Option Addr → TS} {b₀ : Stmt} {suite : List Stmt} {np pos' : Pos} {hds : List ExceptHandler} {l : List HdA} (hc : Names X x c)
      (hsu : ∀ (a : Addr) (oe : Obj) (cls : Value) (d : Option Addr) (pn : List (Addr × Obj)), Zc cls d oe → (∃ vs, oe.data = .fields vs) → PSs (X.suite a ((a, oe) :: pn)) (b₀ :: suite) (ts a cls d)) (r : HdsA X hds l) :
      HdsA X (.ExceptHandler (some (.Name x np)) none (b₀ :: suite) pos' :: hds) (⟨c, none, ts⟩ :: l)
  | consA {x n : Str} {i : Nat} {c : Value} {ts : Addr → Value → Option Addr → TS} {b₀ : Stmt} {suite : List Stmt} {np pos' : Pos} {hds : List ExceptHandler} {l : List HdA} (hN : X.N.Nodup) (hi : X.N[i]? = some n) (hln : X.env.kindOf n = some .local) (hc : Names X x c)
      (hsu : ∀ (a : Addr) (oe : Obj) (cls : Value) (d : Option Addr) (pn : List (Addr × Obj)), Zc cls d oe → (∃ vs, oe.data = .fields vs) → PSs (X.suite a ((a, oe) :: pn)) (b₀ :: suite) (ts a cls d)) (r : HdsA X hds l) :
      HdsA X (.ExceptHandler (some (.Name x np)) (some n) (b₀ :: suite) pos' :: hds) (⟨c, some i, ts⟩ :: l)
/-- an exception of the class cls, its dict d, that the frame has noted and is about to handle: J0 the state without it, J the state with it, s -/
structure Hot (X : Cx) (pins : List (Addr × Obj)) (σ : L2.St) (H : Hp) (a : Addr) (cls : Value) (d : Option Addr) (s : Shared) : Prop where
  ok : X.Ok
  frames : X.A.frames = some (X.env :: X.outer)
  own : X.env.frame = some X.env.locals
  stk : X.stack = X.env :: X.outer
  free : H a = none
  bits : ∃ (B : Heap) (sI : Shared), Inv X pins σ H sI ∧ (∀ b o, sI.heap.get? b = some o → b ∉ frs X.stack → B.get? b = some o) ∧ sI.heap.UpToSlots s.heap ∧ HandSPX.FlyingZ B (X.env :: X.outer) a (Zc cls d) s.heap ∧ s.os = sI.os ∧ AllBare s.gens
section
variable {X : Cx} {pins : List (Addr × Obj)} {σ : L2.St} {H : Hp} {a : Addr} {cls : Value} {d : Option Addr} {s : Shared} {Wout : WX} {D : Ends}
/-- the suite's context holds, with the exception pinned -/
theorem Hot.pinned (h : Hot X pins σ H a cls d s) : ∃ oe, Zc cls d oe ∧ (∃ vs, oe.data = .fields vs) ∧ s.heap.get? a = some oe ∧ Inv (X.suite a ((a, oe) :: (X.pn ++ pins))) [] σ H s ∧ X.K.In s.heap := by
  obtain ⟨B, sI, J, near, up, fly, os, bare⟩ := h.bits
  have I := J.landed near fly.1 up os bare
  obtain ⟨oe, vs, at_, z, data⟩ := fly.there
  have apart : a ∉ frs (X.env :: X.outer) := by
    intro bad
    obtain ⟨_, o2, at2, nf⟩ := fly.2.2.1.mem bad
    rw [at_] at at2
    exact nf vs (by rw [← Option.some.inj at2]; exact data)
  have n1 : a ≠ X.env.locals := by
    rintro rfl
    exact apart (List.mem_filterMap.mpr ⟨X.env, List.mem_cons_self, h.own⟩)
  have n2 : a ∉ X.fs := by
    intro bad
    obtain ⟨e, he, q⟩ := List.mem_filterMap.mp bad
    exact apart (List.mem_filterMap.mpr ⟨e, List.mem_cons_of_mem _ he, q⟩)
  exact ⟨oe, z, ⟨vs, data⟩, at_, I.suite at_ data h.free n1 n2, I.kIn⟩
/-- another look at its flight -/
theorem Hot.moved (h : Hot X pins σ H a cls d s) {Q : Unit → Shared → Prop} {M : Model} {A : Around} {E : Value → Shared → Prop} (q : ∀ s', Hot X pins σ H a cls d s' → Q () s') : wpAny M A (setFlight (.ref a) none) Q E s := by
  obtain ⟨B, sI, J, near, up, fly, os, bare⟩ := h.bits
  exact HandSPX.lands_againZ fly fun g fly' up' => q _ ⟨h.ok, h.frames, h.own, h.stk, h.free, B, sI, J, near, up.trans up', fly', os, bare⟩
/-- no clause takes it -/
theorem Hot.out (h : Hot X pins σ H a cls d s) (tk : Takes X Wout) (w : Wout cls d σ H) : wpAny (model X.prog X.w) X.A (handleBy (.ref a) X.env []) (SP X pins D) X.xe s := by
  obtain ⟨B, sI, J, near, up, fly, os, bare⟩ := h.bits
  obtain ⟨_, _, _, oe, vs, T, _, _, at_, _, data, one, _⟩ := id fly
  have up_ : wpAny (model X.prog X.w) X.A (setFlight (.ref a) X.env.frame) (fun _ t => wpAny (model X.prog X.w) X.A (throw (.ref a) : Sem Flow) (SP X pins D) X.xe t) X.xe s := by
    rw [h.own]
    refine HandSPX.setFlight_upZ fly fun g held up' => wpAny_throw (tk _ _ ⟨a, B, sI, pins, σ, H, cls, d, rfl, J, near, up.trans up', ?_, h.free, os, bare, w⟩)
    rw [h.stk]
    exact Or.inr (Or.inr held)
  refine wpAny_handleBy_nil ?_
  unfold PySem.passOn
  refine wpAny_bind (wpAny_field at_ data one ?_)
  rw [if_neg (by simp)]
  first
    | exact wpAny_bind (wpAny_pure (wpAny_bind up_))
    | exact wpAny_bind up_
/-- the clause's class is looked at -/
theorem Hot.test (h : Hot X pins σ H a cls d s) {x : Str} {c : Value} {np : Pos} {Q : Value → Shared → Prop} {E : Value → Shared → Prop} (hc : Names X x c) (q : Q c s) : wpAny (model X.prog X.w) (X.A.mark (some (.ref a))) (eval (.Name x np) X.env) Q E s := by
  obtain ⟨oe, _, _, _, S, _⟩ := h.pinned
  rcases hc with ⟨g, dbg, m | ⟨m, v, n⟩⟩
  · exact ld_glob (X := X.suite a ((a, oe) :: (X.pn ++ pins))) S g m q dbg
  · exact ld_blt (X := X.suite a ((a, oe) :: (X.pn ++ pins))) S g m v q n dbg
theorem Hot.is (h : Hot X pins σ H a cls d s) {c : Value} {b : Bool} (e : PySem.W.exmOne X.K cls c = some b) : PySem.W.Looks (model X.prog X.w) s.heap (excMatches (.ref a) c) b := by
  obtain ⟨oe, z, _, at_, _, kin⟩ := h.pinned
  exact PySem.W.exm_one kin (fun A Q E t k q => wpAny_typeOf_ref (k _ _ at_) (by rw [z.1]; exact q)) e
/-- the clauses, one after the other -/
theorem Hot.handled (h : Hot X pins σ H a cls d s) (tk : Takes X Wout) : ∀ {hds : List ExceptHandler} {l : List HdA}, HdsA X hds l → wManyA X.K Wout D l cls d σ H →
    wpAny (model X.prog X.w) X.A (handleBy (.ref a) X.env hds) (SP X pins D) X.xe s
  | _, _, .nil, w => h.out tk w
  | _, _, .cons hc hsu r, w => by
    obtain ⟨b, e, yes, no⟩ := w
    refine wpAny_handleBy_cons (codeAny_handlers_test (h.test hc ((h.is e).here ?_))) (fun q => nomatch q)
    cases b with
    | false => exact h.handled tk r (no rfl)
    | true =>
      refine codeAny_handlers_suite (h.moved fun s' h' => ?_)
      obtain ⟨oe, z, f, _, S, _⟩ := h'.pinned
      refine wpAny_mono ((hsu a oe cls d (X.pn ++ pins) z f).run [] _ _ H _ S (yes rfl a h.free)) ?_ (fun _ _ z => z.elim)
      rintro (_ | _ | _ | u) t q
      · exact let ⟨σ6, H6, S6, q6⟩ := q; ⟨σ6, H6, S6.unsuite h.ok, q6⟩
      · exact let ⟨σ6, H6, S6, q6⟩ := q; ⟨σ6, H6, S6.unsuite h.ok, q6⟩
      · exact let ⟨σ6, H6, S6, q6⟩ := q; ⟨σ6, H6, S6.unsuite h.ok, q6⟩
      · exact let ⟨v6, σ6, H6, S6, r6, q6⟩ := q; ⟨v6, σ6, H6, S6.unsuite h.ok, r6, q6⟩
  | _, _, .consA (n := n) (i := i) (pos' := pos') hN hi hln hc hsu r, w => by
    obtain ⟨b, e, yes, no⟩ := w
    refine wpAny_handleBy_cons (codeAny_handlers_test (h.test hc ((h.is e).here ?_))) (fun q => nomatch q)
    cases b with
    | false => exact h.handled tk r (no rfl)
    | true =>
      refine codeAny_handlers_suite_as (h.moved fun s' h' => ?_)
      obtain ⟨oe, z, f, _, S, _⟩ := h'.pinned
      refine store_ok (X := X.suite a ((a, oe) :: (X.pn ++ pins))) (v := .ref a) S hN hi (.inl hln) rfl (fun t T => ?_) (.inr hln)
      have off : ∀ {σ6 : L2.St} {H6 : Hp} {Q : Shared → Prop} {t6 : Shared}, Inv (X.suite a ((a, oe) :: (X.pn ++ pins))) [] σ6 H6 t6 → (∀ t7, Inv X pins (σ6.set i none) H6 t7 → Q t7) →
          wpAny (model X.prog X.w) X.A (do bindName X.env n .none; unbindBehindTheSuite X.env n pos') (fun _ t7 => Q t7) X.xe t6 := fun S6 k => gone_ok (S6.unsuite h.ok) hN hi hln k
      refine wpAny_mono ((hsu a oe cls d (X.pn ++ pins) z f).run [] t _ H _ T (yes rfl a h.free)) ?_ (fun _ _ z => z.elim)
      rintro (_ | _ | _ | u) t6 q
      · exact let ⟨_, _, S6, q6⟩ := q; off S6 fun _ J => ⟨_, _, J, q6⟩
      · exact let ⟨_, _, S6, q6⟩ := q; off S6 fun _ J => ⟨_, _, J, q6⟩
      · exact let ⟨_, _, S6, q6⟩ := q; off S6 fun _ J => ⟨_, _, J, q6⟩
      · exact let ⟨_, _, _, S6, r6, q6⟩ := q; off S6 fun _ J => ⟨_, _, _, J, r6, q6⟩
end
theorem ps_try_manyA {X : Cx} {body : List Stmt} {h₀ : ExceptHandler} {hds : List ExceptHandler} {l : List HdA} {pos : Pos} {tb : WX → TS} {Wout : WX} (stk : X.stack = X.env :: X.outer) (own : X.env.frame = some X.env.locals) (tk : Takes X Wout)
    (hb : ∀ (W : WX) (pn : List (Addr × Obj)) (xe : Value → Shared → Prop), Takes (X.tr pn xe) W → PassesOwn (model X.prog X.w) X.A X.env xe → PSs (X.tr pn xe) body (tb W))
    (hh : HdsA X (h₀ :: hds) l) : PS X (.Try body (h₀ :: hds) [] [] pos) (fun D σ H => tb (wManyA X.K Wout D l) D σ H) := by
  constructor
  intro pins s σ H D I h
  have ok := I.ok
  have frames : X.A.frames = some (X.env :: X.outer) := by rw [ok.frames, stk]
  refine wpAny_Try_except (wpAny_mono ((hb (wManyA X.K Wout D l) (X.pn ++ pins) _ ?_ PassesOwn.looking).run [] s σ H D (I.toTry _) h) ?_ (fun e t he => he))
  · rintro u t ⟨a, B, sI, pins', σ', H', cls, d, rfl, J', near, up, sky, na, os, bare, w⟩
    have sky' : Sky B (X.env :: X.outer) a (Zc cls d) X.env.locals t.heap := by rw [← stk]; exact sky
    refine Sky.land Zc.steady frames own sky' fun g fly up' => ?_
    exact (Hot.handled (X := X) (pins := pins) (s := { t with heap := g }) ⟨ok, frames, own, stk, na, B, sI, J'.ofTry ok, near, up.trans up', fly, os, bare⟩ tk hh w)
  · rintro (_ | _ | _ | u) t q
    · exact wpAny_execs_nil (let ⟨σ', H', J, q'⟩ := q; ⟨σ', H', J.ofTry ok, q'⟩)
    · exact let ⟨σ', H', J, q'⟩ := q; ⟨σ', H', J.ofTry ok, q'⟩
    · exact let ⟨σ', H', J, q'⟩ := q; ⟨σ', H', J.ofTry ok, q'⟩
    · exact let ⟨v, σ', H', J, r, q'⟩ := q; ⟨v, σ', H', J.ofTry ok, r, q'⟩
end Ly
namespace Ly
open PySem PySem.Spec PyProof.Rows L2
/-! ### what the top wrote -/
structure DefAt (K : PySem.W.Frag) (mg : Str → Option Value) (x : Str) (st : Stmt) (ps : List Str) where
  f : Addr
  fd : FuncData
  F : Fun K x x st f fd
  m : mg x = some (.ref f)
  b : Binds K fd ps []
/-! ### classes of errors -/
abbrev veT : List Value := [.type "ValueError", .type "Exception", .type "BaseException", .type "object"]
/-- a class of errors at C, by its name and what stands above it -/
structure ClsE (K : PySem.W.Frag) (C : Addr) (nm : Str) (bm : List Value) : Prop where
  cl : ∃ q N bs sn sub ab col dd k0 k1 k2 k3 k5, K.lookup C = some (excClassObj nm q C N bs bm true sn sub ab col dd k0 k1 k2 k3 k5 "ValueError.__new__")
theorem ClsE.get {K : PySem.W.Frag} {C : Addr} {nm : Str} {bm : List Value} (h : ClsE K C nm bm) : ∃ cd, PySem.W.clsIn K C = some cd ∧ cd.name = nm ∧ cd.mro = .ref C :: bm ∧ cd.hasDict = true := by
  obtain ⟨q, N, bs, sn, sub, ab, col, dd, k0, k1, k2, k3, k5, e⟩ := h.cl
  refine ⟨{ name := nm, bases := bs, mro := .ref C :: bm, ns := N, qualname := q, hasDict := true, slotNames := sn, subclasses := sub, abstract := ab, collection := col, hasDel := false }, ?_, rfl, rfl, rfl⟩
  unfold PySem.W.clsIn
  rw [e] <;> rfl
theorem ClsE.ty {K : PySem.W.Frag} {C : Addr} {nm : Str} {bm : List Value} (h : ClsE K C nm bm) : PySem.W.typeIn K (.ref C) = some (.type "type") := by
  obtain ⟨q, N, bs, sn, sub, ab, col, dd, k0, k1, k2, k3, k5, e⟩ := h.cl
  show (K.lookup C).map (·.cls) = _
  rw [e] <;> rfl
theorem ClsE.mro {K : PySem.W.Frag} {C : Addr} {nm : Str} {bm : List Value} (h : ClsE K C nm bm) (b : Value) : PySem.W.mroIn K C b = some ((Value.ref C :: bm).contains b) := by
  obtain ⟨cd, e, _, m, _⟩ := h.get
  unfold PySem.W.mroIn
  rw [e]
  show (if cd.mro.isEmpty = true then none else some (cd.mro.contains b)) = _
  rw [m]
  rfl
theorem ClsE.sub {K : PySem.W.Frag} {C : Addr} {nm : Str} {bm : List Value} (h : ClsE K C nm bm) (b : Value) : PySem.W.subIn K (.ref C) b = some ((Value.ref C :: bm).contains b) := h.mro b
theorem ClsE.hd {K : PySem.W.Frag} {C : Addr} {nm : Str} {bm : List Value} (h : ClsE K C nm bm) : PySem.W.hasDictIn K C = true := by
  obtain ⟨cd, e, _, _, d⟩ := h.get
  unfold PySem.W.hasDictIn
  rw [e]
  exact d
theorem ClsE.ne {K : PySem.W.Frag} {C D : Addr} {n m : Str} {bm bm' : List Value} (h : ClsE K C n bm) (h' : ClsE K D m bm') (x : n ≠ m) : C ≠ D := fun e => by
  subst e
  obtain ⟨cd, e1, e2, _⟩ := h.get
  obtain ⟨cd', e1', e2', _⟩ := h'.get
  rw [e1] at e1'
  cases e1'
  exact x (e2.symm.trans e2')
theorem ClsE.one {K : PySem.W.Frag} {C : Addr} {nm : Str} {bm : List Value} (h : ClsE K C nm bm) (t : Value) : PySem.W.kitCls K t (.ref C) = PySem.W.subIn K t (.ref C) := by
  obtain ⟨cd, e, _⟩ := h.get
  show (if ((PySem.W.clsIn K C).isSome && PySem.W.typeIn K (.ref C) == some (.type "type")) = true then PySem.W.subIn K t (.ref C) else none) = _
  rw [e, h.ty]
  rfl
section
variable {K : PySem.W.Frag} {C D G : Addr} {n m g : Str}
theorem beq_ref {a b : Addr} (h : a ≠ b) : ((Value.ref a) == (Value.ref b)) = false := beq_eq_false_iff_ne.mpr fun z => h (Value.ref.inj z)
theorem cont_ne (h1 : C ≠ D) (h2 : G ≠ D) : ((Value.ref C :: Value.ref G :: veT).contains (Value.ref D)) = false := by
  simp [List.contains_cons, h1.symm, h2.symm]
theorem cont_up : ((Value.ref C :: Value.ref G :: veT).contains (Value.ref G)) = true := by simp
theorem kit_self (t : Value) : PySem.W.kitOne K t t = some true := by simp [PySem.W.kitOne]
theorem kit_ne (a : ClsE K C n (.ref G :: veT)) (b : ClsE K D m (.ref G :: veT)) (c : ClsE K G g veT) (h : n ≠ m) (h' : g ≠ m) : PySem.W.kitOne K (.ref C) (.ref D) = some false := by
  have e1 := a.ne b h
  have e2 := c.ne b h'
  unfold PySem.W.kitOne
  rw [beq_ref e1, if_neg Bool.false_ne_true, b.one, a.sub, cont_ne e1 e2]
theorem kit_up (a : ClsE K C n (.ref G :: veT)) (c : ClsE K G g veT) : PySem.W.kitOne K (.ref C) (.ref G) = some true := by
  unfold PySem.W.kitOne
  split
  · rfl
  · rw [c.one, a.sub, cont_up]
theorem kit_ve (a : ClsE K C n (.ref G :: veT)) : PySem.W.kitOne K (.ref C) (.type "ValueError") = some true := by
  unfold PySem.W.kitOne
  rw [if_neg (by simp)]
  show (if PySem.W.kitMeta "ValueError" = true then PySem.W.subIn K (.ref C) (.type "ValueError") else none) = some true
  rw [if_pos (by decide +kernel), a.sub]
  simp [veT]
theorem exm_eq (a : ClsE K D m (.ref G :: veT)) (t : Value) : PySem.W.exmOne K t (.ref D) = PySem.W.subIn K t (.ref D) := by
  unfold PySem.W.exmOne
  rw [a.sub, a.one, show ((Value.ref D :: Value.ref G :: veT).contains (Value.type "BaseException")) = true by simp [veT]]
  rfl
theorem exm_eq0 (a : ClsE K D m veT) (t : Value) : PySem.W.exmOne K t (.ref D) = PySem.W.subIn K t (.ref D) := by
  unfold PySem.W.exmOne
  rw [a.sub, a.one, show ((Value.ref D :: veT).contains (Value.type "BaseException")) = true by simp [veT]]
  rfl
theorem exm_ne (a : ClsE K C n (.ref G :: veT)) (b : ClsE K D m (.ref G :: veT)) (c : ClsE K G g veT) (h : n ≠ m) (h' : g ≠ m) : PySem.W.exmOne K (.ref C) (.ref D) = some false := by
  rw [exm_eq b, a.sub, cont_ne (a.ne b h) (c.ne b h')]
theorem exm_self (a : ClsE K C n (.ref G :: veT)) : PySem.W.exmOne K (.ref C) (.ref C) = some true := by
  rw [exm_eq a, a.sub]
  simp
theorem exm_up (a : ClsE K C n (.ref G :: veT)) (c : ClsE K G g veT) : PySem.W.exmOne K (.ref C) (.ref G) = some true := by
  rw [exm_eq0 c, a.sub, cont_up]
end
def nofs (K : PySem.W.Frag) (C : Addr) : List Str → Prop
  | [] => True
  | n :: r => PySem.W.findIn K (.ref C) n = some none ∧ nofs K C r
structure ExcAt0 (K : PySem.W.Frag) (mg : Str → Option Value) (x : Str) where
  C : Addr
  g : mg x = some (.ref C)
  e : ClsE K C x veT
structure ExcAt (K : PySem.W.Frag) (mg : Str → Option Value) (x q : Str) (st : Stmt) (ps fs : List Str) (G : Addr) where
  C : Addr
  f : Addr
  fd : FuncData
  g : mg x = some (.ref C)
  e : ClsE K C x (.ref G :: veT)
  sa : PySem.W.findIn K (.ref C) "__setattr__" = some (some (.builtin "object.__setattr__"))
  kC : PySem.W.keepIn K (.ref C) = true
  i : PySem.W.findIn K (.ref C) "__init__" = some (some (.ref f))
  ty : PySem.W.typeIn K (.ref f) = some (.type "function")
  ga : PySem.W.findIn K (.ref C) "__getattribute__" = some (some (.builtin "BaseException.__getattribute__"))
  gg : PySem.W.findIn K (.ref C) "__getattr__" = some none
  ca : PySem.W.findIn K (.ref C) "__class__" = some (some (.builtin "object.__class__"))
  nf : nofs K C fs
  F : Fun K "__init__" q st f fd
  b : Binds K fd ps []
/-- what is so of object.__class__ -/
structure ObjCls (K : PySem.W.Frag) : Prop where
  hn : PySem.W.specialIn K (.builtin "object.__class__") "__get__" = some (some (.builtin "getset_descriptor.__get__"))
  ht : PySem.W.takesIn K (.builtin "object.__class__") = some true
section
variable {K : PySem.W.Frag} {mg : Str → Option Value} {x q : Str} {st : Stmt} {ps fs : List Str} {G : Addr}
theorem ExcAt.o (a : ExcAt K mg x q st ps fs G) : OexC K a.C := by
  obtain ⟨q, N, bs, sn, sub, ab, col, dd, k0, k1, k2, k3, k5, e⟩ := a.e.cl
  exact { cls := ⟨_, q, N, bs, _, sn, sub, ab, col, dd, k0, k1, k2, k3, k5, e, rfl⟩, sa := a.sa, exC := by rw [a.e.sub]; simp [veT], tyC := a.e.ty, kC := a.kC }
theorem ExcAt.xf (a : ExcAt K mg x q st ps fs G) : XfC K a.C := ⟨a.ga, a.gg, by rw [a.e.sub]; simp [veT], a.e.hd⟩
theorem ExcAt.ec (a : ExcAt K mg x q st ps fs G) (o : ObjCls K) : L2.ExcC K a.C := ⟨a.ga, a.gg, by rw [a.e.sub]; simp [veT], a.e.hd, a.ca, o.hn, o.ht, by rw [a.e.mro]; simp [veT]⟩
end
/-! ### making them -/
def sp_init1 (C : Addr) (n : Str) : Sp := fun vs H Q _ => ∃ (a : Addr) (v : V), vs = [.ref a, v] ∧ H a = some (exo a C none) ∧ ∀ dx, H dx = none → dx ≠ a → Q .non (upd (upd H dx (exd dx [(n, v)])) a (exo a C (some dx)))
def sp_init2 (C : Addr) (n m : Str) : Sp := fun vs H Q _ => ∃ (a : Addr) (v w : V), vs = [.ref a, v, w] ∧ H a = some (exo a C none) ∧ ∀ dx, H dx = none → dx ≠ a → Q .non (upd (upd (upd H dx (exd dx [(n, v)])) a (exo a C (some dx))) dx (exd dx [(m, w), (n, v)]))
def MkB (C : Addr) (sp : Sp) (vs : List V) (H1 : Hp) (Q : XK) : Prop := vs.length ≤ 1000 ∧ ∀ a, H1 a = none → sp (.ref a :: (vs ++ [])) (upd H1 a (exo a C none))
  (fun v H2 => v = .non ∧ ∃ (d : Addr) (fs : List (Str × V)), H2 a = some (exo a C (some d)) ∧ H2 d = some (exd d fs) ∧ H1 d = none ∧ Q (.ref C) (some d) (upd (del H2 a) d (.xd fs))) (fun _ _ _ => False)
theorem tMkO_eq {C : Addr} {sp : Sp} {ta : TA} {σ : L2.St} {H : Hp} {Q : XK} : tMkO C sp [] ta σ H Q = ta σ H fun vs H1 => MkB C sp vs H1 Q := rfl
theorem tVal_eq {t : L2.St → Hp → XK → Prop} {σ : L2.St} {H : Hp} {Q : VK} : tVal t σ H Q = t σ H fun cls d H' => ∃ C dd, cls = .ref C ∧ d = some dd ∧ ∀ a, H' a = none → Q (.ref a) (upd H' a (exv a C dd)) := rfl
theorem MkB.one {C : Addr} {n : Str} {v : V} {H : Hp} {Q : XK} (q : ∀ d, H d = none → Q (.ref C) (some d) (upd H d (.xd [(n, v)]))) : MkB C (sp_init1 C n) [v] H Q := by
  refine ⟨by simp, fun a ha => ⟨a, v, rfl, upd_same, fun dx hdx ne => ⟨rfl, dx, [(n, v)], upd_same, by rw [upd_ne ne, upd_same], ?_, ?_⟩⟩⟩
  · rw [upd_ne ne] at hdx
    exact hdx
  · rw [upd_ne ne] at hdx
    have e : upd (del (upd (upd (upd H a (exo a C none)) dx (exd dx [(n, v)])) a (exo a C (some dx))) a) dx (.xd [(n, v)]) = upd H dx (.xd [(n, v)]) := by
      funext b
      by_cases h1 : b = dx
      · rw [h1, upd_same, upd_same]
      · rw [upd_ne h1, upd_ne h1]
        by_cases h2 : b = a
        · rw [h2, del_same, ha]
        · rw [del_ne h2, upd_ne h2, upd_ne h1, upd_ne h2]
    rw [e]
    exact q dx hdx
theorem MkB.two {C : Addr} {n m : Str} {v w : V} {H : Hp} {Q : XK} (q : ∀ d, H d = none → Q (.ref C) (some d) (upd H d (.xd [(m, w), (n, v)]))) : MkB C (sp_init2 C n m) [v, w] H Q := by
  refine ⟨by simp, fun a ha => ⟨a, v, w, rfl, upd_same, fun dx hdx ne => ⟨rfl, dx, [(m, w), (n, v)], by rw [upd_ne (Ne.symm ne), upd_same], upd_same, ?_, ?_⟩⟩⟩
  · rw [upd_ne ne] at hdx
    exact hdx
  · rw [upd_ne ne] at hdx
    have e : upd (del (upd (upd (upd (upd H a (exo a C none)) dx (exd dx [(n, v)])) a (exo a C (some dx))) dx (exd dx [(m, w), (n, v)])) a) dx (.xd [(m, w), (n, v)]) = upd H dx (.xd [(m, w), (n, v)]) := by
      funext b
      by_cases h1 : b = dx
      · rw [h1, upd_same, upd_same]
      · rw [upd_ne h1, upd_ne h1]
        by_cases h2 : b = a
        · rw [h2, del_same, ha]
        · rw [del_ne h2, upd_ne h1, upd_ne h2, upd_ne h1, upd_ne h2]
    rw [e]
    exact q dx hdx
theorem init1_run {K : PySem.W.Frag} {mg : Str → Option Value} {x q p : Str} {st : Stmt} {ps : List Str} {G : Addr} {n : Str} {vs : List V} {H : Hp} {Q : VK} {E : XK} (a : ExcAt K mg x q st ps [n] G) (h : sp_init1 a.C n vs H Q E) :
    tOst K n (tVar 0) (tVar 1) { nx := fun _ H' => Q .non H', rt := Q } (L2.start ["self", p] vs) H := by
  obtain ⟨b, v, rfl, e, k⟩ := h
  exact ⟨_, rfl, _, rfl, b, a.C, rfl, a.o, a.nf.1, .inl ⟨e, k⟩⟩
theorem init2_run {K : PySem.W.Frag} {mg : Str → Option Value} {x q p p' : Str} {st : Stmt} {ps : List Str} {G : Addr} {n m : Str} {vs : List V} {H : Hp} {Q : VK} {E : XK} (a : ExcAt K mg x q st ps [n, m] G) (h : sp_init2 a.C n m vs H Q E) :
    tSeq (tOst K n (tVar 0) (tVar 1)) (tOst K m (tVar 0) (tVar 2)) { nx := fun _ H' => Q .non H', rt := Q } (L2.start ["self", p, p'] vs) H := by
  obtain ⟨b, v, w, rfl, e, k⟩ := h
  refine ⟨_, rfl, _, rfl, b, a.C, rfl, a.o, a.nf.1, .inl ⟨e, fun dx h1 h2 => ?_⟩⟩
  exact ⟨_, rfl, _, rfl, b, a.C, rfl, a.o, a.nf.2.1, .inr ⟨dx, [(n, v)], upd_same, by rw [upd_ne h2, upd_same], by show 1 ≤ 900; decide, k dx h1 h2⟩⟩

/-! ### the reading as conditions -/
local macro_rules | `(tactic| walk_at "vc") => `(tactic| simp only [tSeq, tAsg, tOp, tVar, tC, tRet, tRetN, tNext, tIfS, tIf, tDrop, tB, tTest, tNot, tAnd, tOr, tAndV, tOrV, tNotV, tChain, tUn, tCB, tCons, tNil, tTup, tLst, tSl, tPart, tNoPart, tCall, tBreak, tCont,
  rI, rI0, rU, gName, gNil, gCons, gSub, rSetL, start,
  List.map_cons, List.map_nil, List.cons_append, List.nil_append, List.append_nil, List.length_cons, List.length_nil, List.replicate, List.getElem?_cons_zero, List.getElem?_cons_succ, List.set_cons_zero, List.set_cons_succ, Nat.reduceSub, Nat.reduceAdd,
  Option.some.injEq, V.int.injEq, V.bl.injEq, V.str.injEq, V.ref.injEq, exists_eq_left', exists_eq_left, exists_and_left, reduceCtorEq, false_and, and_false, exists_false, or_false, false_or, Bool.false_eq_true, if_false, if_true, reduceIte, decide_eq_true_eq, List.cons.injEq, and_true, true_and])

/-! ### boxes that numbers are drawn from -/
def boxL (b c z : Int) : HO := .lst [.int b, .int c, .int z]
structure BoxV (n : Nat) (b c z : Int) : Prop where
  b0 : 0 ≤ b
  bs : b.natAbs.log2 ≤ 1048700
  c0 : 0 ≤ c
  cn : c ≤ (n : Int)
  zs : z.natAbs.log2 ≤ 1048700
def BoxAt (H : Hp) (p : Addr) (n : Nat) : Prop := ∃ b c z, H p = some (boxL b c z) ∧ BoxV n b c z
theorem BoxV.mono {n m : Nat} {b c z : Int} (h : BoxV n b c z) (l : n ≤ m) : BoxV m b c z := ⟨h.b0, h.bs, h.c0, Int.le_trans h.cn (by omega), h.zs⟩
theorem BoxAt.mono {H : Hp} {p : Addr} {n m : Nat} (h : BoxAt H p n) (l : n ≤ m) : BoxAt H p m := let ⟨b, c, z, e, v⟩ := h; ⟨b, c, z, e, v.mono l⟩
theorem log2_le_of {a b : Nat} (h : a ≤ b) : a.log2 ≤ b.log2 := by
  rcases Nat.eq_zero_or_pos a with rfl | ha
  · simp
  · exact (Nat.le_log2 (by omega)).mpr (Nat.le_trans (Nat.log2_self_le (by omega)) h)
theorem log2_small {a k : Nat} (h : a < 2 ^ k) (hk : 0 < k) : a.log2 < k := by
  rcases Nat.eq_zero_or_pos a with rfl | ha
  · simpa using hk
  · exact (Nat.log2_lt (by omega)).mpr h

/-! ### the heap, but for p, stays -/
structure Step (p : Addr) (H H' : Hp) : Prop where
  keep : ∀ b o, b ≠ p → H b = some o → H' b = some o
  dom : ∀ b, H b ≠ none → H' b ≠ none
theorem Step.refl {p : Addr} {H : Hp} : Step p H H := ⟨fun _ _ _ e => e, fun _ e => e⟩
theorem Step.trans {p : Addr} {H H1 H2 : Hp} (a : Step p H H1) (b : Step p H1 H2) : Step p H H2 := ⟨fun c o n e => b.keep c o n (a.keep c o n e), fun c e => b.dom c (a.dom c e)⟩
theorem Step.box {p : Addr} {H : Hp} {o : HO} : Step p H (upd H p o) := by
  refine ⟨fun b u n e => by rw [upd_ne n]; exact e, fun b e => ?_⟩
  by_cases h : b = p
  · subst h; rw [upd_same]; simp
  · rw [upd_ne h]; exact e
theorem Step.new {p a : Addr} {H : Hp} {o : HO} (h : H a = none) : Step p H (upd H a o) := by
  refine ⟨fun b u n e => by rw [upd_ne (ne_of_none e h)]; exact e, fun b e => ?_⟩
  by_cases hb : b = a
  · subst hb; rw [upd_same]; simp
  · rw [upd_ne hb]; exact e
theorem Step.fresh {p a : Addr} {H H' : Hp} (s : Step p H H') (h : H' a = none) : H a = none := by
  cases e : H a with
  | none => rfl
  | some o => exact absurd h (s.dom a (by rw [e]; simp))
/-- an object that stood new and alone may change -/
theorem Step.mut {p a : Addr} {H H' : Hp} {o : HO} (s : Step p H H') (h : H a = none) : Step p H (upd H' a o) := by
  refine ⟨fun b u n e => by rw [upd_ne (ne_of_none e h)]; exact s.keep b u n e, fun b e => ?_⟩
  by_cases hb : b = a
  · subst hb; rw [upd_same]; simp
  · rw [upd_ne hb]; exact s.dom b e
theorem BoxAt.step {p q : Addr} {H H' : Hp} {n : Nat} (h : BoxAt H q n) (s : Step p H H') (ne : q ≠ p) : BoxAt H' q n := let ⟨b, c, z, e, v⟩ := h; ⟨b, c, z, s.keep q _ ne e, v⟩
theorem Same.of_step {p : Addr} {H H' : Hp} (s : Step p H H') (h : H p = none) : Same H H' := fun b o e => s.keep b o (ne_of_none e h) e
theorem Step.of_same {p : Addr} {H H' : Hp} (s : Same H H') : Step p H H' := ⟨fun b o _ e => s b o e, fun b e => by
  cases q : H b with
  | none => exact absurd q e
  | some o => rw [s b o q]; simp⟩

/-! ### data whose objects are new behind H0 -/
mutual
inductive Nw (K : PySem.W.Frag) (H0 H : Hp) : V → PyData → Prop
  | non : Nw K H0 H .non .none
  | bl (b : Bool) : Nw K H0 H (.bl b) (.bool b)
  | int (i : Int) : Nw K H0 H (.int i) (.int i)
  | str (x : Str) : Nw K H0 H (.str x) (.str x)
  | lst {a : Addr} {xs : List V} {ds : List PyData} : H0 a = none → H a = some (.lst xs) → NwAll K H0 H xs ds → Nw K H0 H (.ref a) (.list ds)
  | tup {a : Addr} {xs : List V} {ds : List PyData} : H0 a = none → H a = some (.tup xs) → NwAll K H0 H xs ds → Nw K H0 H (.ref a) (.tuple ds)
inductive NwAll (K : PySem.W.Frag) (H0 H : Hp) : List V → List PyData → Prop
  | nil : NwAll K H0 H [] []
  | cons {v : V} {vs : List V} {d : PyData} {ds : List PyData} : Nw K H0 H v d → NwAll K H0 H vs ds → NwAll K H0 H (v :: vs) (d :: ds)
end
section
variable {K : PySem.W.Frag} {H0 H H' : Hp}
mutual
theorem Nw.imp (h0 : ∀ a, H0 a = none → ∀ o, H a = some o → H' a = some o) : ∀ (d : PyData) (v : V), Nw K H0 H v d → Nw K H0 H' v d
  | .none, _, h => by cases h; exact .non
  | .bool b, _, h => by cases h; exact .bl b
  | .int i, _, h => by cases h; exact .int i
  | .str x, _, h => by cases h; exact .str x
  | .list ds, _, h => by cases h with | lst a b c => exact .lst a (h0 _ a _ b) (NwAll.imp h0 ds _ c)
  | .tuple ds, _, h => by cases h with | tup a b c => exact .tup a (h0 _ a _ b) (NwAll.imp h0 ds _ c)
  | .dict _, _, h => by cases h
theorem NwAll.imp (h0 : ∀ a, H0 a = none → ∀ o, H a = some o → H' a = some o) : ∀ (ds : List PyData) (vs : List V), NwAll K H0 H vs ds → NwAll K H0 H' vs ds
  | [], _, h => by cases h; exact .nil
  | d :: ds, _, h => by cases h with | cons a b => exact .cons (Nw.imp h0 d _ a) (NwAll.imp h0 ds _ b)
end
mutual
theorem Nw.old {H1 : Hp} (h0 : ∀ a, H1 a = none → H0 a = none) : ∀ (d : PyData) (v : V), Nw K H1 H v d → Nw K H0 H v d
  | .none, _, h => by cases h; exact .non
  | .bool b, _, h => by cases h; exact .bl b
  | .int i, _, h => by cases h; exact .int i
  | .str x, _, h => by cases h; exact .str x
  | .list ds, _, h => by cases h with | lst a b c => exact .lst (h0 _ a) b (NwAll.old h0 ds _ c)
  | .tuple ds, _, h => by cases h with | tup a b c => exact .tup (h0 _ a) b (NwAll.old h0 ds _ c)
  | .dict _, _, h => by cases h
theorem NwAll.old {H1 : Hp} (h0 : ∀ a, H1 a = none → H0 a = none) : ∀ (ds : List PyData) (vs : List V), NwAll K H1 H vs ds → NwAll K H0 H vs ds
  | [], _, h => by cases h; exact .nil
  | d :: ds, _, h => by cases h with | cons a b => exact .cons (Nw.old h0 d _ a) (NwAll.old h0 ds _ b)
end
mutual
theorem Nw.dp : ∀ (d : PyData) (v : V), Nw K H0 H v d → Dp K H v d
  | .none, _, h => by cases h; exact .non
  | .bool b, _, h => by cases h; exact .bl b
  | .int i, _, h => by cases h; exact .int i
  | .str x, _, h => by cases h; exact .str x
  | .list ds, _, h => by cases h with | lst a b c => exact .lst (SqL.of b) (NwAll.dp ds _ c)
  | .tuple ds, _, h => by cases h with | tup a b c => exact .tup (SqT.of b) (NwAll.dp ds _ c)
  | .dict _, _, h => by cases h
theorem NwAll.dp : ∀ (ds : List PyData) (vs : List V), NwAll K H0 H vs ds → DpAll K H vs ds
  | [], _, h => by cases h; exact .nil
  | d :: ds, _, h => by cases h with | cons a b => exact .cons (Nw.dp d _ a) (NwAll.dp ds _ b)
end
theorem Nw.step {p : Addr} {d : PyData} {v : V} (h : Nw K H0 H v d) (s : Step p H H') (hp : H0 p ≠ none) : Nw K H0 H' v d :=
  Nw.imp (fun a ha o e => s.keep a o (fun z => hp (z ▸ ha)) e) d v h
theorem NwAll.step {p : Addr} {ds : List PyData} {vs : List V} (h : NwAll K H0 H vs ds) (s : Step p H H') (hp : H0 p ≠ none) : NwAll K H0 H' vs ds :=
  NwAll.imp (fun a ha o e => s.keep a o (fun z => hp (z ▸ ha)) e) ds vs h
end
section
variable {K : PySem.W.Frag} {H H' : Hp}
theorem SqL.same {a : Addr} {xs : List V} (h : SqL K H a xs) (s : Same H H') : SqL K H' a xs := s.seq h
theorem SqT.same {a : Addr} {xs : List V} (h : SqT K H a xs) (s : Same H H') : SqT K H' a xs := by
  rcases h with (h | ⟨o, h⟩) | h
  · exact .inl (.inl (s _ _ h))
  · exact .inl (.inr ⟨o, s _ _ h⟩)
  · exact .inr h
mutual
theorem Dp.same (s : Same H H') : ∀ (d : PyData) (v : V), Dp K H v d → Dp K H' v d
  | .none, _, h => by cases h; exact .non
  | .bool b, _, h => by cases h; exact .bl b
  | .int i, _, h => by cases h; exact .int i
  | .str x, _, h => by cases h; exact .str x
  | .list ds, _, h => by cases h with | lst a b => exact .lst (SqL.same a s) (DpAll.same s ds _ b)
  | .tuple ds, _, h => by cases h with | tup a b => exact .tup (SqT.same a s) (DpAll.same s ds _ b)
  | .dict _, _, h => by cases h
theorem DpAll.same (s : Same H H') : ∀ (ds : List PyData) (vs : List V), DpAll K H vs ds → DpAll K H' vs ds
  | [], _, h => by cases h; exact .nil
  | d :: ds, _, h => by cases h with | cons a b => exact .cons (Dp.same s d _ a) (DpAll.same s ds _ b)
end
theorem Same.new {a : Addr} {o : HO} (h : H a = none) : Same H (upd H a o) := fun b u e => by rw [upd_ne (ne_of_none e h)]; exact e
end
/-! ### depth -/
mutual
def dep : PyData → Nat
  | .list ds => depAll ds + 1
  | .tuple ds => depAll ds + 1
  | _ => 0
def depAll : List PyData → Nat
  | [] => 0
  | d :: ds => max (dep d) (depAll ds)
end
theorem dep_mem : ∀ {ds : List PyData} {i : Nat} {d : PyData}, ds[i]? = some d → dep d ≤ depAll ds
  | [], _, _, h => by simp at h
  | e :: ds, 0, d, h => by
    have z : e = d := by simpa using h
    subst z
    unfold depAll
    omega
  | e :: ds, i + 1, d, h => by
    have := dep_mem (ds := ds) (i := i) (d := d) (by simpa using h)
    unfold depAll
    omega
theorem DpAll.len {K : PySem.W.Frag} {H : Hp} : ∀ {vs : List V} {ds : List PyData}, DpAll K H vs ds → vs.length = ds.length
  | _, _, .nil => rfl
  | _, _, .cons _ t => by simp [DpAll.len t]
theorem DpAll.get {K : PySem.W.Frag} {H : Hp} : ∀ {vs : List V} {ds : List PyData} {i : Nat}, DpAll K H vs ds → i < ds.length → ∃ v d, vs[i]? = some v ∧ ds[i]? = some d ∧ Dp K H v d
  | _, _, i, .nil, h => by simp at h
  | _, _, 0, .cons a _, _ => ⟨_, _, rfl, rfl, a⟩
  | _, _, i + 1, .cons _ t, h => by
    obtain ⟨v, d, h1, h2, h3⟩ := DpAll.get (i := i) t (by simpa using h)
    exact ⟨v, d, by simpa using h1, by simpa using h2, h3⟩
end Ly
namespace Ly
open PySem PySem.Spec PyProof.Rows L2
theorem cx_K {CX : CXT} {P : Program} {w : World} {K : PySem.W.Frag} {mg : Str → Option Value} {base : Heap} {N : List Str} {qual : Str} {scope : Scope} {f : Addr} {cd : Value} {A : Around} {outer : List Env} {s : Shared} {H : Hp} {E : XK} :
    (cxOf CX P w K mg base N qual scope f cd A outer s H E).K = K := rfl
theorem cx_nox {X : Cx} : X.nox.K = X.K := rfl
theorem lenV_ref {K : PySem.W.Frag} {p : Addr} {H : Hp} {n : Nat} : LenV K (.ref p) H n = ((∃ xs, SqL K H p xs ∧ n = xs.length) ∨ ∃ xs, SqT K H p xs ∧ n = xs.length) := rfl
theorem intd {a b : Int} (h : a = b) {Q : V → Hp → Prop} {H : Hp} (q : Q (.int a) H) : Q (.int b) H := h ▸ q
end Ly
namespace Ly
open PySem PySem.Spec PyProof.Rows L2
theorem rIx_l {K : PySem.W.Frag} {H : Hp} {p : Addr} {xs : List V} {i : Int} {v : V} {Q : VK} (h : SqL K H p xs) (e : atI xs i = some v) (q : Q v H) : rIx K (.ref p) (.int i) H Q := .inl ⟨p, xs, i, v, rfl, rfl, h, e, q⟩
theorem rIx_t {K : PySem.W.Frag} {H : Hp} {p : Addr} {xs : List V} {i : Int} {v : V} {Q : VK} (h : SqT K H p xs) (e : atI xs i = some v) (q : Q v H) : rIx K (.ref p) (.int i) H Q := .inr (.inl ⟨p, xs, i, v, rfl, rfl, h, e, q⟩)
theorem rIx_s {K : PySem.W.Frag} {H : Hp} {z : Str} {i : Int} {c : Nat} {Q : VK} (l : z.length ≤ sizeLine) (e : atI z.cps.toList i = some c) (q : Q (.str ⟨#[c]⟩) H) : rIx K (.str z) (.int i) H Q := .inr (.inr ⟨z, i, c, rfl, rfl, l, e, q⟩)
theorem lg64 {a : Int} (h : a.natAbs < 2 ^ 64) : a.natAbs.log2 < 64 := log2_small h (by decide)
theorem lg_of {a b : Int} (h : a.natAbs ≤ b.natAbs) : a.natAbs.log2 ≤ b.natAbs.log2 := log2_le_of h
theorem log2_two {a k : Nat} (h : a ≤ 2 ^ k) : a.log2 ≤ k := by
  have := log2_le_of h
  rwa [Nat.log2_two_pow] at this
theorem intBits_log2 {z : Int} (n : Nat) (h : Builtin.Int.intBits z ≤ n) : z.natAbs.log2 ≤ n := by
  unfold Builtin.Int.intBits at h
  split at h <;> rename_i e
  · simp only [beq_iff_eq] at e
    subst e
    simp
  · omega
end Ly
namespace Ly
open PySem PySem.Spec PyProof.Rows L2
/-! ### comprehensions and loops, folded -/
def LcB (J : It) (D : Addr) (g : TG) (tt : TT) (te : TE) (vs : List Nat) (σ : L2.St) (H1 : Hp) (Q : VK) : Prop := ∃ W : Nat → Nat → Hp → Prop, (∃ m, W 0 m (upd H1 D (.lst []))) ∧ ∀ i m H, W i m H →
  (J.stop i H ∧ Q (.ref D) H) ∨ (J.go i H ∧ ∃ Nx : Hp → Prop, (∀ H', Nx H' → ∃ m', m' < m ∧ W (i + 1) m' H') ∧ ∀ x H', J.yld i H x H' → g x (wipe σ vs) H' fun σ2 H2 => wipe σ2 vs = wipe σ vs ∧ tt σ2 H2 fun b H3 =>
    if b = true then te σ2 H3 fun y H4 => ∃ acc, H4 D = some (.lst acc) ∧ acc.length < sizeLine ∧ Nx (upd H4 D (.lst (acc ++ [y]))) else Nx H3)
theorem tLc_eq {wi : TI} {g : TG} {tt : TT} {te : TE} {vs : List Nat} {σ : L2.St} {H : Hp} {Q : VK} : tLc wi g tt te vs σ H Q = wi σ H fun J H1 => ∀ D, H1 D = none → LcB J D g tt te vs σ H1 Q := rfl
theorem LcB.range {lo : Int} {n : Nat} {D : Addr} {g : TG} {tt : TT} {te : TE} {vs : List Nat} {σ : L2.St} {H1 : Hp} {Q : VK} (Pv : Nat → Hp → Prop) (h0 : Pv 0 (upd H1 D (.lst [])))
    (hs : ∀ i H, i < n → Pv i H → g (.int (lo + i)) (wipe σ vs) H fun σ2 H2 => wipe σ2 vs = wipe σ vs ∧ tt σ2 H2 fun b H3 =>
      if b = true then te σ2 H3 fun y H4 => ∃ acc, H4 D = some (.lst acc) ∧ acc.length < sizeLine ∧ Pv (i + 1) (upd H4 D (.lst (acc ++ [y]))) else Pv (i + 1) H3) (hd : ∀ H, Pv n H → Q (.ref D) H) : LcB (Itr lo n) D g tt te vs σ H1 Q :=
  lc_range (Qd := fun H => Q (.ref D) H) Pv h0 hs hd
theorem LcB.list {K : PySem.W.Frag} {a : Addr} {xs : List V} {D : Addr} {g : TG} {tt : TT} {te : TE} {vs : List Nat} {σ : L2.St} {H1 : Hp} {Q : VK} (Pv : Nat → Hp → Prop) (h0 : Pv 0 (upd H1 D (.lst []))) (hl : ∀ i H, i ≤ xs.length → Pv i H → SqL K H a xs)
    (hs : ∀ i x H, xs[i]? = some x → Pv i H → g x (wipe σ vs) H fun σ2 H2 => wipe σ2 vs = wipe σ vs ∧ tt σ2 H2 fun b H3 =>
      if b = true then te σ2 H3 fun y H4 => ∃ acc, H4 D = some (.lst acc) ∧ acc.length < sizeLine ∧ Pv (i + 1) (upd H4 D (.lst (acc ++ [y]))) else Pv (i + 1) H3) (hd : ∀ H, Pv xs.length H → Q (.ref D) H) : LcB (Itl K a) D g tt te vs σ H1 Q :=
  lc_list (Qd := fun H => Q (.ref D) H) Pv h0 hl hs hd
theorem LcB.tup {K : PySem.W.Frag} {a : Addr} {xs : List V} {D : Addr} {g : TG} {tt : TT} {te : TE} {vs : List Nat} {σ : L2.St} {H1 : Hp} {Q : VK} (Pv : Nat → Hp → Prop) (h0 : Pv 0 (upd H1 D (.lst []))) (hl : ∀ i H, i ≤ xs.length → Pv i H → SqT K H a xs)
    (hs : ∀ i x H, xs[i]? = some x → Pv i H → g x (wipe σ vs) H fun σ2 H2 => wipe σ2 vs = wipe σ vs ∧ tt σ2 H2 fun b H3 =>
      if b = true then te σ2 H3 fun y H4 => ∃ acc, H4 D = some (.lst acc) ∧ acc.length < sizeLine ∧ Pv (i + 1) (upd H4 D (.lst (acc ++ [y]))) else Pv (i + 1) H3) (hd : ∀ H, Pv xs.length H → Q (.ref D) H) : LcB (Itt K a) D g tt te vs σ H1 Q :=
  lc_tup (Qd := fun H => Q (.ref D) H) Pv h0 hl hs hd
def ForB (J : It) (g : TG) (tb : TS) (D : Ends) (σ : L2.St) (H1 : Hp) : Prop := ∃ W : Nat → Nat → L2.St → Hp → Prop, (∃ m, W 0 m σ H1) ∧ ∀ i m σ H, W i m σ H →
  (J.stop i H ∧ D.nx σ H) ∨ (J.go i H ∧ ∃ N : L2.St → Hp → Prop, (∀ σ' H', N σ' H' → ∃ m', m' < m ∧ W (i + 1) m' σ' H') ∧ ∀ x H', J.yld i H x H' → g x σ H' fun σ2 H2 => tb { D with nx := N, ct := N, bk := D.nx } σ2 H2)
theorem tFor_eq {wi : TI} {g : TG} {tb : TS} {D : Ends} {σ : L2.St} {H : Hp} : tFor wi g tb D σ H = wi σ H fun J H1 => ForB J g tb D σ H1 := rfl
theorem ForB.range {lo : Int} {n : Nat} {g : TG} {tb : TS} {D : Ends} {σ : L2.St} {H : Hp} (Pv : Nat → L2.St → Hp → Prop) (h0 : Pv 0 σ H)
    (hs : ∀ i σ H, i < n → Pv i σ H → g (.int (lo + i)) σ H fun σ2 H2 => tb { D with nx := Pv (i + 1), ct := Pv (i + 1), bk := D.nx } σ2 H2) (hd : ∀ σ H, Pv n σ H → D.nx σ H) : ForB (Itr lo n) g tb D σ H := for_range Pv h0 hs hd
theorem ForB.list {K : PySem.W.Frag} {a : Addr} {xs : List V} {g : TG} {tb : TS} {D : Ends} {σ : L2.St} {H : Hp} (Pv : Nat → L2.St → Hp → Prop) (h0 : Pv 0 σ H) (hl : ∀ i σ H, i ≤ xs.length → Pv i σ H → SqL K H a xs)
    (hs : ∀ i x σ H, xs[i]? = some x → Pv i σ H → g x σ H fun σ2 H2 => tb { D with nx := Pv (i + 1), ct := Pv (i + 1), bk := D.nx } σ2 H2) (hd : ∀ σ H, Pv xs.length σ H → D.nx σ H) : ForB (Itl K a) g tb D σ H := for_list Pv h0 hl hs hd
theorem ForB.tup {K : PySem.W.Frag} {a : Addr} {xs : List V} {g : TG} {tb : TS} {D : Ends} {σ : L2.St} {H : Hp} (Pv : Nat → L2.St → Hp → Prop) (h0 : Pv 0 σ H) (hl : ∀ i σ H, i ≤ xs.length → Pv i σ H → SqT K H a xs)
    (hs : ∀ i x σ H, xs[i]? = some x → Pv i σ H → g x σ H fun σ2 H2 => tb { D with nx := Pv (i + 1), ct := Pv (i + 1), bk := D.nx } σ2 H2) (hd : ∀ σ H, Pv xs.length σ H → D.nx σ H) : ForB (Itt K a) g tb D σ H := for_tup Pv h0 hl hs hd
end Ly
namespace Ly
open PySem PySem.Spec PyProof.Rows L2
/-- the field n of the exception x -/
def FldB (K : PySem.W.Frag) (n : Str) (x : V) (H : Hp) (R : V → Hp → Prop) : Prop := ∃ (a C dd : Addr) (fs : List (Str × V)) (v : V), x = .ref a ∧ H a = some (exv a C dd) ∧ H dd = some (.xd fs) ∧ XfC K C ∧ PySem.W.findIn K (.ref C) n = some none ∧ fs.lookup n = some v ∧ R v H
theorem tFldE_eq {K : PySem.W.Frag} {n : Str} {te : TE} {σ : L2.St} {H : Hp} {Q : VK} : tFldE K n te σ H Q = te σ H fun x H1 => FldB K n x H1 Q := rfl
end Ly
namespace Ly
open PySem PySem.Spec PyProof.Rows L2
/-- the field n of the exception that the suite holds -/
def XfB (K : PySem.W.Frag) (a : Addr) (cls : Value) (d : Option Addr) (n : Str) (x : V) (H : Hp) (R : V → Hp → Prop) : Prop := x = .ref a ∧ ∃ C, cls = .ref C ∧ XfC K C ∧ PySem.W.findIn K (.ref C) n = some none ∧ ∃ (dd : Addr) (fs : List (Str × V)) (v : V), d = some dd ∧ H dd = some (.xd fs) ∧ fs.lookup n = some v ∧ R v H
theorem tXfE_eq {K : PySem.W.Frag} {a : Addr} {cls : Value} {d : Option Addr} {n : Str} {te : TE} {σ : L2.St} {H : Hp} {Q : VK} : tXfE K a cls d n te σ H Q = te σ H fun x H1 => XfB K a cls d n x H1 Q := rfl
theorem wA_no {K : PySem.W.Frag} {Wout : WX} {D : Ends} {c cls : Value} {i : Option Nat} {ts : Addr → Value → Option Addr → TS} {r : List HdA} {d : Option Addr} {σ : L2.St} {H : Hp} (e : PySem.W.exmOne K cls c = some false) (h : wManyA K Wout D r cls d σ H) : wManyA K Wout D (⟨c, i, ts⟩ :: r) cls d σ H := by
  cases i <;> exact ⟨false, e, (fun q => nomatch q), fun _ => h⟩
theorem wA_yes {K : PySem.W.Frag} {Wout : WX} {D : Ends} {c cls : Value} {i : Nat} {ts : Addr → Value → Option Addr → TS} {r : List HdA} {d : Option Addr} {σ : L2.St} {H : Hp} (e : PySem.W.exmOne K cls c = some true)
    (h : ∀ a, H a = none → ts a cls d { nx := fun σ' H' => D.nx (σ'.set i none) H', rt := D.rt, bk := fun σ' H' => D.bk (σ'.set i none) H', ct := fun σ' H' => D.ct (σ'.set i none) H' } (σ.set i (some (.ref a))) H) : wManyA K Wout D (⟨c, some i, ts⟩ :: r) cls d σ H :=
  ⟨true, e, fun _ => h, (fun q => nomatch q)⟩
theorem wA_yes0 {K : PySem.W.Frag} {Wout : WX} {D : Ends} {c cls : Value} {ts : Addr → Value → Option Addr → TS} {r : List HdA} {d : Option Addr} {σ : L2.St} {H : Hp} (e : PySem.W.exmOne K cls c = some true)
    (h : ∀ a, H a = none → ts a cls d D σ H) : wManyA K Wout D (⟨c, none, ts⟩ :: r) cls d σ H := ⟨true, e, fun _ => h, (fun q => nomatch q)⟩
end Ly
namespace Ly
open PySem PySem.Spec PyProof.Rows L2
section
variable {K : PySem.W.Frag} {h : Heap} {mg : Str → Option Value}
def mkDef {x : Str} {st : Stmt} {ps : List Str} {f : Addr} {oc kV doc pm cdv ct : Value} {od an : Option Addr} {osl : Array (Option Value)} (X : K.In h) (G : h.Ns mainGlobals mg)
    (hb : ∀ (kV doc pm : Value) (an : Option Addr) (cdv ct : Value) (us : List Value), us.length = ps.length → bindArgs (PySem.W.fnOf x x (defArgs st) (defBody st) (defScope st) .none kV doc pm an cdv ct) ⟨us, []⟩ = pure (ps.zip us))
    (a : PySem.W.nsIn K mainGlobals x = some (some (.ref f))) (l : K.lookup f = some ⟨oc, od, .func (PySem.W.fnOf x x (defArgs st) (defBody st) (defScope st) .none kV doc pm an cdv ct), osl⟩)
    (c : PySem.W.codeIn K cdv x = true) (k : PySem.W.keepIn K (.ref f) = true) : DefAt K mg x st ps :=
  ⟨f, _, fun_mk l c k, PySem.W.mg_of X G a, (fun_mk (st := st) l c k).binds hb⟩
def mkExc0 {x : Str} {C : Addr} {q : Str} {N : Addr} {bs : List Value} {sn : List Str} {sub : List Value} {ab : Bool} {col : Option Bool} {dd : Option Addr} {k0 k1 k2 k3 k5 : Option Value} (X : K.In h) (G : h.Ns mainGlobals mg)
    (a : PySem.W.nsIn K mainGlobals x = some (some (.ref C))) (l : K.lookup C = some (excClassObj x q C N bs veT true sn sub ab col dd k0 k1 k2 k3 k5 "ValueError.__new__")) : ExcAt0 K mg x :=
  ⟨C, PySem.W.mg_of X G a, ⟨q, N, bs, sn, sub, ab, col, dd, k0, k1, k2, k3, k5, l⟩⟩
def mkExc {g x qi : Str} {C G0 f : Addr} {q : Str} {N : Addr} {bs : List Value} {sn : List Str} {sub : List Value} {ab : Bool} {col : Option Bool} {dd : Option Addr} {k0 k1 k2 k3 k5 : Option Value} {st : Stmt} {ps fs : List Str}
    {oc kV doc pm cdv ct : Value} {od an : Option Addr} {osl : Array (Option Value)} (X : K.In h) (G : h.Ns mainGlobals mg) (g0 : ExcAt0 K mg g)
    (hb : ∀ (kV doc pm : Value) (an : Option Addr) (cdv ct : Value) (us : List Value), us.length = ps.length → bindArgs (PySem.W.fnOf "__init__" qi (defArgs st) (defBody st) (defScope st) .none kV doc pm an cdv ct) ⟨us, []⟩ = pure (ps.zip us))
    (ag : PySem.W.nsIn K mainGlobals g = some (some (.ref G0))) (a : PySem.W.nsIn K mainGlobals x = some (some (.ref C)))
    (l : K.lookup C = some (excClassObj x q C N bs (.ref G0 :: veT) true sn sub ab col dd k0 k1 k2 k3 k5 "ValueError.__new__"))
    (sa : PySem.W.findIn K (.ref C) "__setattr__" = some (some (.builtin "object.__setattr__"))) (kC : PySem.W.keepIn K (.ref C) = true)
    (i : PySem.W.findIn K (.ref C) "__init__" = some (some (.ref f))) (ty : PySem.W.typeIn K (.ref f) = some (.type "function"))
    (ga : PySem.W.findIn K (.ref C) "__getattribute__" = some (some (.builtin "BaseException.__getattribute__"))) (gg : PySem.W.findIn K (.ref C) "__getattr__" = some none)
    (ca : PySem.W.findIn K (.ref C) "__class__" = some (some (.builtin "object.__class__"))) (nf : nofs K C fs)
    (lf : K.lookup f = some ⟨oc, od, .func (PySem.W.fnOf "__init__" qi (defArgs st) (defBody st) (defScope st) .none kV doc pm an cdv ct), osl⟩) (c : PySem.W.codeIn K cdv qi = true) (k : PySem.W.keepIn K (.ref f) = true) :
    ExcAt K mg x qi st ps fs g0.C :=
  { C := C, f := f, fd := _, g := PySem.W.mg_of X G a, e := ⟨q, N, bs, sn, sub, ab, col, dd, k0, k1, k2, k3, k5, by
      have e1 := g0.g
      rw [PySem.W.mg_of X G ag] at e1
      have e2 : G0 = g0.C := Value.ref.inj (Option.some.inj e1)
      rw [← e2]
      exact l⟩,
    sa := sa, kC := kC, i := i, ty := ty, ga := ga, gg := gg, ca := ca, nf := nf, F := fun_mk lf c k, b := (fun_mk (st := st) lf c k).binds hb }
theorem DefAt.one {x p : Str} {st : Stmt} (d : DefAt K mg x st [p]) (hb : ∀ (kV doc pm : Value) (an : Option Addr) (cdv ct : Value) (u : Value), bindArgs (PySem.W.fnOf x x (defArgs st) (defBody st) (defScope st) .none kV doc pm an cdv ct) ⟨[u], []⟩ = pure [(p, u)]) (s : Shared) (u : Value) : BindsTo s d.fd ⟨[u], []⟩ [(p, u)] := by
  obtain ⟨oc, od, kV, doc, pm, an, cdv, ct, osl, e, _, _⟩ := d.F.ex
  rw [e]
  exact .of_eq (hb kV doc pm an cdv ct u)
end
end Ly
namespace Ly
open PySem PySem.Spec PyProof.Rows L2
/-- a constant of the module -/
structure ConstAt (mg : Str → Option Value) (x : Str) (v : V) where
  u : Value
  g : mg x = some u
  r : RelV v u
/-- a def that holds a generator expression: its code object at c, whose table is at P -/
structure DefAtC (K : PySem.W.Frag) (mg : Str → Option Value) (x : Str) (st : Stmt) (ps : List Str) where
  f : Addr
  c : Addr
  fd : FuncData
  ex : ∃ (oc : Value) (od : Option Addr) (kV doc pm : Value) (an : Option Addr) (ct : Value) (osl : Array (Option Value)),
    fd = PySem.W.fnOf x x (defArgs st) (defBody st) (defScope st) .none kV doc pm an (.ref c) ct ∧ K.lookup f = some ⟨oc, od, .func fd, osl⟩ ∧ PySem.W.codeIn K (.ref c) x = true
  kp : PySem.W.keepIn K (.ref f) = true
  m : mg x = some (.ref f)
  b : Binds K fd ps []
theorem DefAtC.ok {P : Program} {w : World} {K : PySem.W.Frag} {mg : Str → Option Value} {base : Heap} {x : Str} {st : Stmt} {N ps : List Str} {k : Nat} {sp : Sp} (d : DefAtC K mg x st ps) (S : FnScope N ps (defScope st)) (len : ∀ vs H Q E, sp vs H Q E → vs.length = ps.length)
    (hbody : ∀ (A : Around) (outer : List Env) (s : Shared) (H : Hp) (vs : List V) (Q : VK) (E : XK), Room k (A.deeper (envOfC x (defScope st) s.heap.objs.size d.f (.ref d.c))) → sp vs H Q E →
      ∃ t, PSs (cxOf CX0 P w K mg base N x (defScope st) d.f (.ref d.c) A outer s H E).nox (defBody st) t ∧ t { nx := fun _ H' => Q .non H', rt := Q } (L2.start N vs) H) : FnOk P w K mg base CX0 (k + 1) d.f d.fd ps sp := by
  obtain ⟨oc, od, kV, doc, pm, an, ct, osl, e, lk, hcd⟩ := d.ex
  rw [e] at lk ⊢
  refine fn_of lk hcd S len fun A outer s H vs Q E hr hsp => ?_
  obtain ⟨t, h, q⟩ := hbody A outer s H vs Q E hr hsp
  exact ⟨t, h.nox, q⟩
end Ly
namespace Ly
open PySem PySem.Spec PyProof.Rows L2
theorem DefAt.kp {K : PySem.W.Frag} {mg : Str → Option Value} {x : Str} {st : Stmt} {ps : List Str} (d : DefAt K mg x st ps) : PySem.W.keepIn K (.ref d.f) = true := d.F.kp
end Ly
namespace Ly
open PySem PySem.Spec PyProof.Rows L2
open GxR (TabG Tabbed GenS Ready)
/-- a test of the sign c that may read the module's names -/
def EltG (X : Cx) (scope : Scope) (x : Str) (elt : Expr) (pb : Nat → Bool) : Prop :=
  ∀ (cenv : Env) (A' : Around) (E' : Value → Shared → Prop) (c : Nat) (t : Tok) (s₂ : Shared) (m₂ : Str → Option Value), cenv.scope = scope → cenv.globals = mainGlobals → (∀ b o, X.base.get? b = some o → s₂.heap.get? b = some o) →
    s₂.heap.Ns cenv.locals m₂ → m₂ x = some (.str ⟨#[c]⟩ t) → wpAny (model X.prog X.w) A' (eval elt cenv) (fun y s₃ => y = .bool (pb c) ∧ Keeps s₂ s₃) E' s₂
/-- x in NAME, NAME a text of the module -/
theorem elt_in {X : Cx} {scope : Scope} {x N z : Str} {u0 : Value} {p1 p2 p3 : Pos} (glob : X.base.Ns mainGlobals X.mg) (hk : scope.kind = .function) (hl : scope.names.lookup x = some .local) (hg : scope.names.lookup N = some .globalImplicit) (hm : X.mg N = some u0) (hu : RelV (.str z) u0)
    (hd : (x == ("__debug__" : Str)) = false := by decide) (hd2 : (N == ("__debug__" : Str)) = false := by decide) :
    EltG X scope x (.Compare (.Name x p1) [.In] [.Name N p2] p3) (fun c => decide (c ∈ z.cps.toList)) := by
  obtain ⟨t, rfl⟩ := hu
  intro cenv A' E' c u s₂ m₂ hs hG keep hn hx
  refine wpAny_Compare1 (wpAny_Name (wpAny_loadName_local (by rw [hs]; exact hk) (show cenv.scope.names.lookup x = some .local by rw [hs]; exact hl) hn hx ?_) hd)
  refine Calls.Name_function_global (by rw [hs]; exact hk) (show cenv.scope.names.lookup N = some .globalImplicit by rw [hs]; exact hg) (Calls.loadGlobal_global (by rw [hG]; exact glob.keeps keep) hm ?_) hd2
  exact PyProof.Rows.in_str ⟨congrArg Value.bool (PySem.StrLaws.found_one z c), GxR.keeps_tok _ _⟩
section
variable {X : Cx} {pins : List (Addr × Obj)} {σ : L2.St} {H : Hp} {s : Shared}
theorem gen_txt {c P : Addr} {elt iter : Expr} {x : Str} {px gpos : Pos} {scope : Scope} {pb : Nat → Bool} {te : TE} {k : Nat} {Q' : Value → Shared → Prop} {R : Str → Hp → Prop}
    (hr : Room k X.A) (TB : GxR.TabB X.base X.mg c P) (hcode : X.env.code = .ref c) (S : GenS X.env scope x) (hi : PE X iter te) (hel : EltG X scope x elt pb)
    (hs : ∀ v, genFold iter X.env v = pure v) (I : Inv X pins σ H s) (h : te σ H fun v H1 => ∃ a : Str, v = .str a ∧ TabG H1 P ∧ R a H1)
    (hQ : ∀ a H1 g s5, R a H1 → Ready X pins σ H1 P a pb g s5 → Q' (.ref g) s5) :
    wpAny (model X.prog X.w) X.A (eval (.GeneratorExp elt [⟨.Name x px, iter, [], 0⟩] scope gpos) X.env) Q' X.xe s := by
  refine wpAny_GeneratorExp_walksQ hr.hd S.co (closure_ok S.free) S.cell S.dot S.loc S.kind (Nat.lt_of_le_of_lt (Nat.le_trans (Nat.le_add_right _ _) (Nat.le_add_right _ _)) hr.dp) ?_ hs
  refine thn (hi.run pins s σ H _ I h) ?_
  rintro xv s1 ⟨v, H1, I1, r1, a, rfl, ⟨ps, hP, trip⟩, q1⟩
  obtain ⟨t, rfl⟩ := id r1
  refine wpAny_pyIter_str fun o St W hst => ?_
  -- the table, the script's own code object, the heap with the iterator
  have tab1 : s1.heap.get? P = some { cls := .none, data := .fields ps } := I1.hok P _ hP
  have ltP : P < s1.heap.objs.size := Heap.lt_size tab1
  have tab2 : (s1.heap.push o).get? P = some { cls := .none, data := .fields ps } := Heap.get?_push_of_some _ tab1
  have code2 : PySem.W.CodeHd (s1.heap.push o) c P := TB.code.keeps fun b u e => Heap.get?_push_of_some _ (I1.bk b u e)
  have lim2 : (s1.heap.push o).NoLimit := I1.nolimit.push o
  have sz2 : (s1.heap.push o).objs.size = s1.heap.objs.size + 1 := Heap.size_push ..
  have ltS : cStatics < s1.heap.objs.size := by
    obtain ⟨_, hn, _⟩ := I1.nolimit
    exact hn.lt
  have neS : cStatics ≠ P := by
    rintro e
    obtain ⟨_, ⟨o', es, ep, ho, hd, _⟩, _⟩ := I1.nolimit
    rw [e, tab1] at ho
    cases ho
    cases hd
  refine ⟨lim2, ?_⟩
  -- from any state in which the table may have grown
  have go : ∀ (code : Value) (h3 : Heap) (tk : Nat) (ps' : Array Value), Heap.ExtBut P (s1.heap.push o) h3 → (s1.heap.push o).objs.size ≤ h3.objs.size → h3.get? P = some { cls := .none, data := .fields ps' } → (∃ more, ps' = ps ++ more) → TriplesOk ps'.toList →
      wpAny (model X.prog X.w) X.A (builtinsFor X.env.globals X.env.builtins) (fun bi s₄ =>
        ∃ Ia fp wr n₀ Pf St₀ pz F, Value.ref s1.heap.objs.size = .ref Ia ∧ (∀ A' : Around, A'.handled = none → Walks X.prog X.w A' Ia fp wr n₀ Pf St₀) ∧ St₀ 0 s₄.heap ∧ (∀ b ∈ fp, b < s₄.heap.objs.size) ∧ s₄.heap.NoLimit ∧ cStatics ∉ wr ∧
          (∀ href : Heap, (∀ b o, s₄.heap.get? b = some o → href.get? b = some o) →
            QuietGen X.prog X.w (genEnv scope (cloFrom X.env.cells scope.names []) s₄.heap.objs.size code bi X.env) x [] elt (List.range s₄.heap.objs.size) wr Pf pz F href) ∧
          (∀ a h₅ tk gs, gs.bare = true → s₄.heap.objs.size < a → h₅.objs.size = a + 1 → (∀ b o, s₄.heap.get? b = some o → h₅.get? b = some o) →
            WalksS X.prog X.w X.A.in4 a (a :: s₄.heap.objs.size :: List.range s₄.heap.objs.size) (s₄.heap.objs.size :: wr) (GenOnlyQ s₄.gens.size) (passing pz n₀ 0).length
              (fun j y => ∃ i, (passing pz n₀ 0)[j]? = some i ∧ F i y) (GenAt X.prog X.w X.A.in4 a s₄.gens.size s₄.heap.objs.size (List.range s₄.heap.objs.size) wr pz n₀ F) →
            GenAt X.prog X.w X.A.in4 a s₄.gens.size s₄.heap.objs.size (List.range s₄.heap.objs.size) wr pz n₀ F 0 { s₄ with gens := s₄.gens.push gs, toks := tk, heap := h₅ } →
            Q' (.ref a) { s₄ with gens := s₄.gens.push gs, toks := tk, heap := h₅ })) X.xe { s1 with heap := h3, toks := tk } := by
    intro code h3 tk ps' ext le3 tab3 grown trip3
    obtain ⟨bm, ob, e1, e2, e3, e4, e5, e6, e7, e8⟩ := TB.bm
    have old3 : ∀ b u, b ≠ P → s1.heap.get? b = some u → h3.get? b = some u := fun b u n e => ext b u n (Heap.get?_push_of_some _ e)
    have lt3 : s1.heap.objs.size < h3.objs.size := by omega
    refine wpAny_builtinsFor (m := X.mg) (by rw [I1.ok.glob]; exact ((I1.mod.glob.keeps I1.bk).push o).extBut ext TB.gP) e1 e2 (old3 _ _ e4 (I1.bk _ _ e5)) e6 e7 e8 ?_
    refine ⟨s1.heap.objs.size, [s1.heap.objs.size], [s1.heap.objs.size], a.cps.size, SignAt a, St, (fun _ => true), (fun i y => ∃ cc, a.cps[i]? = some cc ∧ y = .bool (pb cc)), rfl, W, ?_, ?_, lim2.extBut ext neS, ?_, ?_, ?_⟩
    · refine (W X.A hr.hd).frame _ _ _ hst fun b hb u e => ext b u ?_ e
      rintro rfl
      simp only [List.mem_singleton] at hb
      exact Nat.lt_irrefl _ (hb ▸ ltP)
    · intro b hb
      simp only [List.mem_singleton] at hb
      rw [hb]
      exact lt3
    · simp only [List.mem_singleton]
      exact fun z => Nat.lt_irrefl _ (z ▸ ltS)
    · intro href old
      have keepB : ∀ (s₂ : Shared), (∀ b ∈ List.range h3.objs.size, b ∉ [s1.heap.objs.size] → ∀ o, href.get? b = some o → s₂.heap.get? b = some o) → ∀ b o, X.base.get? b = some o → s₂.heap.get? b = some o := by
        intro s₂ hk b o e
        have e1 := I1.bk b o e
        have nP : b ≠ P := by
          rintro rfl
          have z := (I1.bs b o e).2
          rw [hP] at z
          cases z
        refine hk b (List.mem_range.mpr (Nat.lt_trans (Heap.lt_size e1) lt3)) ?_ o (old b o (old3 b o nP e1))
        simp only [List.mem_singleton]
        exact fun z => Nat.lt_irrefl _ (z ▸ Heap.lt_size e1)
      constructor
      · intro A' E' i v s₂ m₂ hA hPv hn hm hk
        simp only [List.forIn_nil]
        exact wpAny_pure ⟨rfl, GxR.keeps_refl _⟩
      · intro A' E' i v s₂ m₂ hA hPv hp hn hm hk
        obtain ⟨cc, u, hcc, rfl⟩ := hPv
        exact wpAny_mono (hel _ A' E' cc u s₂ m₂ rfl I1.ok.glob (keepB s₂ hk) hn hm) (fun y s3 r => ⟨⟨cc, hcc, r.1⟩, r.2⟩) fun _ _ e => e
    · intro g h5 tk5 gs hgb hag hsz5 hk5 W5 hat
      simp only [GxR.passing_true, List.length_range] at W5
      refine hQ a H1 g _ q1 ⟨_, _, _, _, _, W5.in4_1, hat, ?_, ?_⟩
      · rintro j y sj Qj Ej ⟨i, hij, cc, hcc, rfl⟩ hQj
        obtain ⟨hj, ej⟩ := List.getElem?_eq_some_iff.mp hij
        rw [List.getElem_range] at ej
        subst ej
        have e9 : a.cps.toList[j]? = some cc := by rw [Array.getElem?_toList]; exact hcc
        have hQ2 : Qj (GxR.trF pb a.cps.toList j) sj := hQj
        rw [GxR.trF_some e9] at hQ2
        exact wpAny_truthy_bool hQ2
      · intro s' mv
        obtain ⟨more, rfl⟩ := grown
        have away : ∀ b u, s1.heap.get? b = some u → b ∉ h3.objs.size :: [s1.heap.objs.size] := by
          intro b u e bad
          have hl := Heap.lt_size e
          simp only [List.mem_cons, List.not_mem_nil, or_false] at bad
          rcases bad with z | z
          · have z' : b = h3.objs.size := z
            rw [z'] at hl
            exact Nat.lt_irrefl _ (Nat.lt_trans lt3 hl)
          · exact Nat.lt_irrefl _ (z ▸ hl)
        have J := GxR.inv_tab (more := more) (h' := s'.heap) (g' := s'.gens) (d' := s'.drawn) (t' := s'.toks) I1 hP (fun b u n e => mv.heap b u (away b u e) (hk5 b u (old3 b u n e)))
          (mv.heap P _ (away P _ tab1) (hk5 P _ tab3)) (AllBare.movedS (I1.bare.push hgb) mv)
        rw [GxR.sh_eta s1 s' mv.os] at J
        exact ⟨upd H1 P (.tbl (ps ++ more)), ⟨⟨ps ++ more, upd_same, trip3⟩, fun b n => upd_ne n⟩, J⟩
  cases hf : codeAmong gpos ps.toList with
  | some cv =>
    exact wpAny_genexprCode_hit hcode (code2.code tab2 trip) hf (go cv (s1.heap.push o) s1.toks ps (Heap.ExtBut.refl _ _) (Nat.le_refl _) tab2 ⟨#[], by simp⟩ trip)
  | none =>
    refine wpAny_genexprCodeX hcode (code2.code tab2 trip) (code2.tab tab2) hf fun c' h' tk ext le lt ok' _ tab' _ => ?_
    obtain ⟨_, _, _, _, _, _, _, _, _, _, _, _, _, _, _, _, _, _, _, tr, _⟩ := ok'
    exact go _ h' tk _ ext (Nat.le_trans le (Nat.le_of_lt lt)) tab'.2 ⟨_, rfl⟩ tr
/-- all(test for x in e), e a text, the test one that may read the module -/
theorem pe_allT {c P : Addr} {elt iter : Expr} {x : Str} {px p pos gpos : Pos} {scope : Scope} {pb : Nat → Bool} {te : TE} {k : Nat}
    (hr : Room k X.A) (hg : Gl X "all") (hm : X.mg "all" = none) (hb : bootBuiltins "all" = some (.builtin "all")) (TB : GxR.TabB X.base X.mg c P) (hcode : X.env.code = .ref c) (S : GenS X.env scope x) (hi : PE X iter te) (hel : EltG X scope x elt pb)
    (hs : ∀ v, genFold iter X.env v = pure v)
    (he : starEach [.GeneratorExp elt [⟨.Name x px, iter, [], 0⟩] scope gpos] X.env = (false, eval (.GeneratorExp elt [⟨.Name x px, iter, [], 0⟩] scope gpos) X.env) :: starEach [] X.env := by rfl) :
    PE X (.Call (.Name "all" p) [.GeneratorExp elt [⟨.Name x px, iter, [], 0⟩] scope gpos] [] pos) (GxR.tAllS P pb te) := by
  constructor
  intro pins s σ H Q I h
  refine wpAny_Call_Name_kw (ld_blt I hg hm hb (PyProof.Rows.callWith_builtin1 ?_ he (by rfl)))
  rw [he]
  show wpAny _ _ (spliced ((false, eval (.GeneratorExp elt [⟨.Name x px, iter, [], 0⟩] scope gpos) X.env) :: backTo pos (starEach [] X.env))) _ _ s
  refine Calls.spliced_cons (gen_txt (R := fun a H1 => ∀ H2, Tabbed P H1 H2 → Q (.bl (a.cps.toList.all pb)) H2) hr TB hcode S hi hel hs I h ?_)
  rintro a H1 g s5 hR ⟨fp, wr, G, F, St, W, hst, htr, hI⟩
  refine Calls.spliced_nil (call_all_walkS (W.self 0 _ _ _ hst ⟨g, fp, wr, G, _, F, St, _, rfl, W, hst, htr, fun s' mv => ?_⟩))
  obtain ⟨H2, hT, J⟩ := hI s' mv
  exact ⟨.bl _, H2, J, rfl, by rw [GxR.all_signs a pb]; exact hR H2 hT⟩
end
end Ly
namespace Ly
open PySem PySem.Spec PyProof.Rows L2
/-! ### calls of a def with a star; calls by keywords alone -/
section
variable {X : Cx} {CX : CXT} {k : Nat} {f C : Addr} {fd : FuncData} {ps ks : List Str} {sp : Sp} {E : XK} {ES : L2.St → XK} {x m : Str} {p pos apos kpos : Pos} {e o : Expr} {es : List Expr} {kws : List Keyword} {te ta : TE} {t tk : TA}
theorem run_fnRS {pins : List (Addr × Obj)} {σ : L2.St} {H : Hp} {s : Shared} {Q : VK} {us : List Value} {vs : List V} (F : FnR X.prog X.w X.K X.mg X.base CX k f sp) (hr : Room k X.A) (hx : PassesAt CX X σ (ES σ)) (I : Inv X pins σ H s) (r : Vals vs us) (h : sp vs H Q (ES σ)) :
    codeAny (model X.prog X.w) X.A (.call (.ref f) ⟨us, []⟩) (fun r s' => match r with | .ok (.ret v) => EP X pins σ Q v s' | .ok _ => False | .error e => X.xe e s') s := by
  refine codeAny_mono (F X.A X.stack s H us vs Q (ES σ) hr I.env0 r h) fun r s' hq => ?_
  cases r with
  | error e => exact hx pins H s e s' I hq
  | ok fl =>
    cases fl with
    | ret u => exact I.after hq
    | next => exact False.elim hq
    | brk => exact False.elim hq
    | cont => exact False.elim hq
theorem pe_callRS (F : FnR X.prog X.w X.K X.mg X.base CX k f sp) (hr : Room k X.A) (hg : Gl X x) (hm : X.mg x = some (.ref f)) (hk : PySem.W.keepIn X.K (.ref f) = true) (hx : ∀ σ, PassesAt CX X σ (ES σ))
    (ha : PA X (e :: es) t) (hdb : (x == ("__debug__" : Str)) = false := by decide) (he : starEach (e :: es) X.env = (false, eval e X.env) :: starEach es X.env := by rfl) (hpl : (backTo pos (starEach es X.env)).any (·.1) = false := by rfl) :
    PE X (.Call (.Name x p) (e :: es) [] pos) (tCallS sp ES t) := by
  refine ⟨fun pins s σ H Q I h => ?_⟩
  refine wpAny_Call_Name_kw (ld_glob I hg hm ?_ hdb)
  refine PySem.W.callWith_K (h₀ := X.base) I.ok.mod.kin hk (thn (ha.run pos pins s σ H _ I h) fun us s1 ⟨vs, H1, I1, r, q⟩ => ⟨I1.kIn, ?_⟩) he hpl
  exact wpAny_call (run_fnRS F hr (hx σ) I1 r q)
/-- how a call by keywords alone binds -/
def KB0 (K : PySem.W.Frag) (fd : FuncData) (ps ks : List Str) (g : List Value → List Value) : Prop := ∀ (s : Shared) (ws : List Value), K.In s.heap → ws.length = ks.length → BindsTo s fd ⟨[], ks.zip ws⟩ (ps.zip (g ws))
def tCallK0 (sp : Sp) (n : Nat) (gV : List V → List V) (E : XK) (tk : TA) : TE := fun σ H Q => tk σ H fun zs H2 => zs.length = n ∧ sp (gV zs) H2 Q E
theorem pe_callK0 {g : List Value → List Value} {gV : List V → List V} (F : FnOk X.prog X.w X.K X.mg X.base CX k f fd ps sp) (hr : Room k X.A) (hg : Gl X x) (hm : X.mg x = some (.ref f)) (hk : PySem.W.keepIn X.K (.ref f) = true) (hb : KB0 X.K fd ps ks g)
    (hrel : ∀ {zs : List V} {ws : List Value}, Vals zs ws → Vals (gV zs) (g ws)) (hx : Passes CX X E)
    (hkw : PK X kws tk) (hall : (backToKw pos (keywordEach kws X.env)).all (·.1.isSome) = true := by rfl) (hks : (backToKw pos (keywordEach kws X.env)).filterMap (·.1) = ks := by rfl)
    (hdb : (x == ("__debug__" : Str)) = false := by decide)
    (hpl : ((backTo pos (starEach [] X.env)).any (·.1) || (backToKw pos (keywordEach kws X.env)).any (·.1.isNone)) = false := by rfl) :
    PE X (.Call (.Name x p) [] kws pos) (tCallK0 sp ks.length gV E tk) := by
  refine ⟨fun pins s σ H Q I h => ?_⟩
  refine wpAny_Call_Name_kw (ld_glob I hg hm ?_ hdb)
  refine PySem.W.callWith_KW0 (h₀ := X.base) I.ok.mod.kin hk hall (thn (hkw.run pos pins s σ H _ I h) fun ws s2 ⟨zs, H2, I2, rz, hl, q2⟩ => ⟨I2.kIn, ?_⟩) hpl
  rw [hks]
  have r2 := hrel rz
  have hl2 : (g ws).length = ps.length := by rw [← r2.length]; exact F.len _ _ _ _ q2
  refine wpAny_call (codeAny_mono (F.run X.A X.stack s2 H2 ⟨[], ks.zip ws⟩ (g ws) (gV zs) Q E hr I2.env0 (hb s2 ws I2.kIn (by rw [← rz.length]; exact hl)) r2 q2) fun r s' hq => ?_)
  cases r with
  | error e => exact hx pins σ H2 s2 e s' I2 hq
  | ok fl =>
    cases fl with
    | ret u => exact I2.after hq
    | next => exact False.elim hq
    | brk => exact False.elim hq
    | cont => exact False.elim hq
end
/-! ### x < y of data at any depth -/
section
variable {X : Cx}
def rLtD (K : PySem.W.Frag) : R2 := fun x y H Q => ∃ d e, Dp K H x d ∧ Dp K H y e ∧ PySem.W.alike d e = true ∧ d ≠ .none ∧ min d.depth e.depth ≤ 60 ∧ Q (.bl (PySem.W.dataLt d e)) H
theorem op_ltDD (hu : X.A.units + 64 < cLine) : OpR X (compareOp .Lt) (rLtD X.K) := by
  intro pins s σ H x y v u Q I rx ry h
  obtain ⟨d, e, hd, he, ha, hn, hz, q⟩ := h
  obtain ⟨as, r1⟩ := Dp.reads I d x v hd rx
  obtain ⟨bs, r2⟩ := Dp.reads I e y u he ry
  exact PySem.W.rcLt_alike d e X.A s v u as bs r1 r2 ha hn (by omega) _ _ _ _ ⟨.bl _, H, I, rfl, q⟩
/-! ### max(t, default=d), t a tuple of ints -/
def RMaxD (K : PySem.W.Frag) (x y : V) (H : Hp) (Q : VK) : Prop := ∃ (a : Addr) (ns : List Int), x = .ref a ∧ SqT K H a (ns.map V.int) ∧ (ns = [] → Q y H) ∧ ∀ n r, ns = n :: r → Q (.int (r.foldl max n)) H
theorem alike_ints (ns : List Int) : PySem.W.AlikeAll (ns.map PyData.int) := by
  refine ⟨fun x hx y hy => ?_, fun x hx => ?_⟩
  · obtain ⟨i, _, rfl⟩ := List.mem_map.mp hx
    obtain ⟨j, _, rfl⟩ := List.mem_map.mp hy
    rfl
  · obtain ⟨i, _, rfl⟩ := List.mem_map.mp hx
    exact fun z => nomatch z
theorem dpAll_ints {K : PySem.W.Frag} {H : Hp} : ∀ ns : List Int, DpAll K H (ns.map V.int) (ns.map PyData.int)
  | [] => .nil
  | _ :: ns => .cons (.int _) (dpAll_ints ns)
theorem depth_ints : ∀ ns : List Int, PyData.depthAll (ns.map PyData.int) ≤ 1
  | [] => by simp [PyData.depthAll]
  | n :: ns => by
    have := depth_ints ns
    simp only [List.map_cons, PyData.depthAll, PyData.depth]
    omega
def tMaxD (K : PySem.W.Frag) (t tk : TA) : TE := fun σ H Q => t σ H fun vs H1 => tk σ H1 fun zs H2 => ∃ x y, vs = [x] ∧ zs = [y] ∧ RMaxD K x y H2 Q
theorem maxD_int : ∀ (v : Value) (h : Heap) (m : Int) (bs : List Addr), Reads h v (.int m) bs → RelV (.int m) v := fun v h m bs r => by
  cases r
  exact ⟨_, rfl⟩
theorem pe_maxDef {e d : Expr} {t tk : TA} {p pos kpos : Pos} (hc : X.calm = true) (hu : X.A.units + 64 < cLine) (hg : Gl X "max") (hm : X.mg "max" = none) (hv : bootBuiltins "max" = some (.builtin "max")) (ha : PA X [e] t) (hkw : PK X [⟨some "default", d, kpos⟩] tk)
    (hs : starEach [e] X.env = (false, eval e X.env) :: starEach [] X.env := by rfl) (hpl : (backTo pos (starEach [e] X.env)).any (·.1) = false := by rfl) :
    PE X (.Call (.Name "max" p) [e] [⟨some "default", d, kpos⟩] pos) (tMaxD X.K t tk) := by
  refine ⟨fun pins s σ H Q I h => ?_⟩
  refine wpAny_Call_Name_kw (ld_blt I hg hm hv ?_ (by decide) (by decide))
  refine PyProof.Rows.callWith_kw (thn (ha.run pos pins s σ H _ I h) fun us s1 ⟨vs, H1, I1, r1, q1⟩ => thn (hkw.run pos pins s1 σ H1 _ I1 q1) fun ws s2 ⟨zs, H2, I2, r2, q2⟩ => ?_) (by rw [hs]; rfl) hpl
  obtain ⟨x, y, rfl, rfl, a, ns, rfl, hT, h0, hq⟩ := q2
  cases r1 with
  | cons ra rn =>
    cases rn
    cases ra
    cases r2 with
    | cons ry rn =>
      cases rn
      rename_i d0 _
      obtain ⟨its, rv, p1, hz⟩ := I2.tuple hT
      obtain ⟨as, hrd⟩ := Dp.readsAll I2 _ _ its (dpAll_ints ns) rv
      refine PySem.W.max_tuple_default (I2.ok.hd hc) p1 (by simpa using hrd) (alike_ints ns) (by have := depth_ints ns; omega) (fun e h' tk' hk => ?_) (fun y ys i v h' tk' bs e hv' hr' hk => ?_)
      · have en : ns = [] := by simpa using e
        exact ⟨_, H2, I2.kept hk, ry, h0 en⟩
      · cases ns with
        | nil => cases e
        | cons n r =>
          have e1 : PyData.int n = y := (List.cons.inj e).1
          have e2 : r.map PyData.int = ys := (List.cons.inj e).2
          subst e1 e2
          rw [PySem.W.maxD_ints] at hr'
          exact ⟨.int _, H2, I2.kept hk, maxD_int _ _ _ _ hr', hq n r rfl⟩
end
/-! ### walks of any kind -/
theorem LcB.gen {J : It} {n : Nat} {D : Addr} {g : TG} {tt : TT} {te : TE} {vs : List Nat} {σ : L2.St} {H1 : Hp} {Q : VK} (Pv : Nat → Hp → Prop) (h0 : Pv 0 (upd H1 D (.lst []))) (hgo : ∀ i H, i < n → Pv i H → J.go i H) (hst : ∀ H, Pv n H → J.stop n H)
    (hs : ∀ i H x H', i < n → Pv i H → J.yld i H x H' → g x (wipe σ vs) H' fun σ2 H2 => wipe σ2 vs = wipe σ vs ∧ tt σ2 H2 fun b H3 =>
      if b = true then te σ2 H3 fun y H4 => ∃ acc, H4 D = some (.lst acc) ∧ acc.length < sizeLine ∧ Pv (i + 1) (upd H4 D (.lst (acc ++ [y]))) else Pv (i + 1) H3) (hd : ∀ H, Pv n H → Q (.ref D) H) : LcB J D g tt te vs σ H1 Q := by
  refine ⟨fun i m H => i + m = n ∧ Pv i H, ⟨n, by omega, h0⟩, fun i m H ⟨e, hp⟩ => ?_⟩
  rcases Nat.eq_or_lt_of_le (show i ≤ n by omega) with h | h
  · subst h
    exact .inl ⟨hst H hp, hd H hp⟩
  · exact .inr ⟨hgo i H h hp, fun H' => Pv (i + 1) H', fun H' hn => ⟨m - 1, by omega, by omega, hn⟩, fun x H' hy => hs i H x H' h hp hy⟩
theorem ForB.gen {J : It} {n : Nat} {g : TG} {tb : TS} {D : Ends} {σ : L2.St} {H : Hp} (Pv : Nat → L2.St → Hp → Prop) (h0 : Pv 0 σ H) (hgo : ∀ i σ H, i < n → Pv i σ H → J.go i H) (hst : ∀ σ H, Pv n σ H → J.stop n H)
    (hs : ∀ i σ H x H', i < n → Pv i σ H → J.yld i H x H' → g x σ H' fun σ2 H2 => tb { D with nx := Pv (i + 1), ct := Pv (i + 1), bk := D.nx } σ2 H2) (hd : ∀ σ H, Pv n σ H → D.nx σ H) : ForB J g tb D σ H := by
  refine ⟨fun i m σ H => i + m = n ∧ Pv i σ H, ⟨n, by omega, h0⟩, fun i m σ H ⟨e, hp⟩ => ?_⟩
  rcases Nat.eq_or_lt_of_le (show i ≤ n by omega) with h | h
  · subst h
    exact .inl ⟨hst σ H hp, hd σ H hp⟩
  · exact .inr ⟨hgo i σ H h hp, Pv (i + 1), fun σ' H' hn => ⟨m - 1, by omega, by omega, hn⟩, fun x H' hy => hs i σ H x H' h hp hy⟩
/-- reversed(range(..)) -/
theorem LcB.rng {lo c : Int} {n : Nat} {D : Addr} {g : TG} {tt : TT} {te : TE} {vs : List Nat} {σ : L2.St} {H1 : Hp} {Q : VK} (Pv : Nat → Hp → Prop) (h0 : Pv 0 (upd H1 D (.lst [])))
    (hs : ∀ i H, i < n → Pv i H → g (.int (lo + (i : Nat) * c)) (wipe σ vs) H fun σ2 H2 => wipe σ2 vs = wipe σ vs ∧ tt σ2 H2 fun b H3 =>
      if b = true then te σ2 H3 fun y H4 => ∃ acc, H4 D = some (.lst acc) ∧ acc.length < sizeLine ∧ Pv (i + 1) (upd H4 D (.lst (acc ++ [y]))) else Pv (i + 1) H3) (hd : ∀ H, Pv n H → Q (.ref D) H) : LcB (Itc lo c n) D g tt te vs σ H1 Q :=
  LcB.gen (n := n) Pv h0 (fun i H h _ => h) (fun H _ => Nat.le_refl n) (fun i H x H' h hp ⟨e1, e2⟩ => by rw [e1, e2]; exact hs i H h hp) hd
theorem ForB.rng {lo c : Int} {n : Nat} {g : TG} {tb : TS} {D : Ends} {σ : L2.St} {H : Hp} (Pv : Nat → L2.St → Hp → Prop) (h0 : Pv 0 σ H)
    (hs : ∀ i σ H, i < n → Pv i σ H → g (.int (lo + (i : Nat) * c)) σ H fun σ2 H2 => tb { D with nx := Pv (i + 1), ct := Pv (i + 1), bk := D.nx } σ2 H2) (hd : ∀ σ H, Pv n σ H → D.nx σ H) : ForB (Itc lo c n) g tb D σ H :=
  ForB.gen (n := n) Pv h0 (fun i σ H h _ => h) (fun σ H _ => Nat.le_refl n) (fun i σ H x H' h hp ⟨e1, e2⟩ => by rw [e1, e2]; exact hs i σ H h hp) hd
/-- reversed(t), t a tuple -/
theorem LcB.revT {K : PySem.W.Frag} {a : Addr} {xs : List V} {D : Addr} {g : TG} {tt : TT} {te : TE} {vs : List Nat} {σ : L2.St} {H1 : Hp} {Q : VK} (Pv : Nat → Hp → Prop) (h0 : Pv 0 (upd H1 D (.lst []))) (hl : ∀ i H, Pv i H → SqT K H a xs)
    (hs : ∀ i H x, i < xs.length → xs[xs.length - 1 - i]? = some x → Pv i H → g x (wipe σ vs) H fun σ2 H2 => wipe σ2 vs = wipe σ vs ∧ tt σ2 H2 fun b H3 =>
      if b = true then te σ2 H3 fun y H4 => ∃ acc, H4 D = some (.lst acc) ∧ acc.length < sizeLine ∧ Pv (i + 1) (upd H4 D (.lst (acc ++ [y]))) else Pv (i + 1) H3) (hd : ∀ H, Pv xs.length H → Q (.ref D) H) : LcB (RT.ItvT K a xs.length) D g tt te vs σ H1 Q :=
  LcB.gen (n := xs.length) Pv h0 (fun i H h hp => ⟨h, xs, xs[xs.length - 1 - i]'(by omega), hl i H hp, List.getElem?_eq_getElem (by omega)⟩) (fun H _ => Nat.le_refl _)
    (fun i H x H' h hp ⟨e1, e2⟩ => by rw [e1]; exact hs i H x h (e2 xs (hl i H hp)) hp) hd
/-- zip of two tuples of one length -/
theorem ForB.zipT {K : PySem.W.Frag} {a b : Addr} {xs ys : List V} {g : TG} {tb : TS} {D : Ends} {σ : L2.St} {H : Hp} (hl : xs.length = ys.length) (Pv : Nat → L2.St → Hp → Prop) (h0 : Pv 0 σ H) (hq : ∀ i σ H, Pv i σ H → SqT K H a xs ∧ SqT K H b ys)
    (hs : ∀ i x y T σ H, xs[i]? = some x → ys[i]? = some y → Pv i σ H → H T = none → g (.ref T) σ (upd H T (.tup [x, y])) fun σ2 H2 => tb { D with nx := Pv (i + 1), ct := Pv (i + 1), bk := D.nx } σ2 H2) (hd : ∀ σ H, Pv xs.length σ H → D.nx σ H) : ForB (RZ.ItzT K a b) g tb D σ H :=
  ForB.gen (n := xs.length) Pv h0 (fun i σ H h hp => ⟨xs, ys, xs[i], ys[i]'(by omega), (hq i σ H hp).1, (hq i σ H hp).2, List.getElem?_eq_getElem h, List.getElem?_eq_getElem (by omega)⟩) (fun σ H hp => ⟨xs, ys, (hq _ σ H hp).1, (hq _ σ H hp).2, .inl (Nat.le_refl _)⟩)
    (fun i σ H x H' h hp hy => by
      obtain ⟨T, u, v, rfl, hT, rfl, e1, e2⟩ := hy
      exact hs i u v T σ H (e1 xs (hq i σ H hp).1) (e2 ys (hq i σ H hp).2) hp hT) hd
/-! ### xs[i] op= e, the list's item read -/
theorem pget_list {X : Cx} : PGet X (rIxL X.K) := by
  intro pins s σ H x y v u Q I rx ry h
  obtain ⟨p, xs, i, z, rfl, rfl, hq, he, q⟩ := h
  cases rx
  obtain ⟨t, rfl⟩ := ry
  obtain ⟨its, r, pl, hz⟩ := I.list hq
  obtain ⟨j, h1, h2, h3, h4, h5⟩ := atI_get he
  obtain ⟨w, ew, rw'⟩ := r.get h2
  have hl := r.length
  have hn := line63
  have fin : EP X pins σ Q w s := ⟨z, H, I, rw', q⟩
  by_cases h0 : 0 ≤ i
  · have hj : i.toNat = j := by
      rw [seqIndex_of h0 h5] at h1
      exact Option.some.inj h1
    exact wpAny_getItem_list pl.isList h0 (by omega) (by rw [hj]; simpa using ew) fin
  · have hj : (i + (its.toArray.size : Int)).toNat = j := by
      rw [seqIndex_neg (by omega) h4] at h1
      rw [List.size_toArray, ← hl]
      exact Option.some.inj h1
    exact wpAny_getItem_list_neg pl.isList (by omega) (by rw [List.size_toArray] <;> omega) (by omega) (by rw [hj]; simpa using ew) fin
/-! ### a def with a star -/
structure DefAtS (K : PySem.W.Frag) (mg : Str → Option Value) (x : Str) (st : Stmt) (pv : Str) where
  f : Addr
  fd : FuncData
  F : Fun K x x st f fd
  m : mg x = some (.ref f)
  hb : ∀ rest : List Value, bindArgs fd ⟨rest, []⟩ = (newTuple rest >>= fun t => pure [(pv, t)])
theorem DefAtS.kp {K : PySem.W.Frag} {mg : Str → Option Value} {x pv : Str} {st : Stmt} (d : DefAtS K mg x st pv) : PySem.W.keepIn K (.ref d.f) = true := d.F.kp
theorem DefAtS.okX {P : Program} {w : World} {K : PySem.W.Frag} {mg : Str → Option Value} {base : Heap} {x pv : Str} {st : Stmt} {N : List Str} {k : Nat} {sp : Sp} (d : DefAtS K mg x st pv) (S : FnScope N [pv] (defScope st))
    (hbody : ∀ (cdv : Value) (A : Around) (outer : List Env) (s : Shared) (H : Hp) (vs : List V) (Q : VK) (E : XK), Room k (A.deeper (envOfC x (defScope st) s.heap.objs.size d.f cdv)) → sp vs H Q E →
      ∃ t, PSs (cxOf (L2.CX P w) P w K mg base N x (defScope st) d.f cdv A outer s H E) (defBody st) t ∧ t { nx := fun _ H' => Q .non H', rt := Q } (L2.start N vs) H) :
    FnR P w K mg base (L2.CX P w) (k + 1) d.f (fun vs H Q E => vs.length ≤ sizeLine ∧ ∀ p, H p = none → sp [V.ref p] (upd H p (.tup vs)) Q E) := by
  obtain ⟨oc, od, kV, doc, pm, an, cdv, ct, osl, e, lk, hcd⟩ := d.F.ex
  have hb := d.hb
  rw [e] at lk hb
  refine FnR.imp (StX.fn_star (ps := []) (sp := sp) lk hcd S StX.cxUp (fun us rest hl => ?_) (fun A outer s H vs Q E hr hsp => hbody cdv A outer s H vs Q E hr hsp)) fun vs H Q E h => ⟨[], vs, rfl, rfl, h.1, h.2⟩
  have : us = [] := List.eq_nil_of_length_eq_zero hl
  subst this
  exact hb rest
section
variable {K : PySem.W.Frag} {h : Heap} {mg : Str → Option Value}
def mkDefS {x pv : Str} {st : Stmt} {f : Addr} {oc kV doc pm cdv ct : Value} {od an : Option Addr} {osl : Array (Option Value)} (X : K.In h) (G : h.Ns mainGlobals mg)
    (hb : ∀ (kV doc pm : Value) (an : Option Addr) (cdv ct : Value) (rest : List Value), bindArgs (PySem.W.fnOf x x (defArgs st) (defBody st) (defScope st) .none kV doc pm an cdv ct) ⟨rest, []⟩ = (newTuple rest >>= fun t => pure [(pv, t)]))
    (a : PySem.W.nsIn K mainGlobals x = some (some (.ref f))) (l : K.lookup f = some ⟨oc, od, .func (PySem.W.fnOf x x (defArgs st) (defBody st) (defScope st) .none kV doc pm an cdv ct), osl⟩)
    (c : PySem.W.codeIn K cdv x = true) (k : PySem.W.keepIn K (.ref f) = true) : DefAtS K mg x st pv :=
  ⟨f, _, fun_mk l c k, PySem.W.mg_of X G a, hb _ _ _ _ _ _⟩
/-- a call by keywords alone of a def of the top -/
theorem DefAt.k0 {x : Str} {st : Stmt} {ps ks : List Str} {g : List Value → List Value} (d : DefAt K mg x st ps)
    (hb : ∀ (kV doc pm : Value) (an : Option Addr) (cdv ct : Value) (ws : List Value), ws.length = ks.length → bindArgs (PySem.W.fnOf x x (defArgs st) (defBody st) (defScope st) .none kV doc pm an cdv ct) ⟨[], ks.zip ws⟩ = pure (ps.zip (g ws))) : KB0 K d.fd ps ks g := by
  obtain ⟨oc, od, kV, doc, pm, an, cdv, ct, osl, e, _, _⟩ := d.F.ex
  intro s ws _ hl
  rw [e]
  exact .of_eq (hb kV doc pm an cdv ct ws hl)
end
end Ly
namespace Ly
open PySem PySem.Spec PyProof.Rows L2
theorem vals_reverse {vs : List V} {us : List Value} (h : Vals vs us) : Vals vs.reverse us.reverse := by
  induction h with
  | nil => exact .nil
  | cons r _ ih =>
    rw [List.reverse_cons, List.reverse_cons]
    exact ih.append (.cons r .nil)
end Ly
namespace Ly
open PySem PySem.Spec PyProof.Rows L2
theorem gTup_go {K : PySem.W.Frag} {n : Nat} {t : TGs} {a : Addr} {xs : List V} {σ : L2.St} {H : Hp} {Q : L2.St → Hp → Prop} (h : SqT K H a xs) (hl : xs.length = n) (q : t xs σ H Q) : gTup K n t (.ref a) σ H Q := ⟨a, xs, rfl, h, hl, q⟩
theorem DpAll.take_snoc {K : PySem.W.Frag} {H : Hp} {α : Type} {acc : List V} {v : V} {ks : List α} {f : α → PyData} {i : Nat} {j : α} (h : DpAll K H acc ((ks.take i).map f)) (e : ks[i]? = some j) (hv : Dp K H v (f j)) : DpAll K H (acc ++ [v]) ((ks.take (i + 1)).map f) := by
  rw [List.take_succ, e]
  simp only [Option.toList_some, List.map_append, List.map_cons, List.map_nil]
  induction acc generalizing ks i with
  | nil =>
    cases hh : (ks.take i).map f with
    | nil => exact .cons hv .nil
    | cons _ _ => rw [hh] at h; cases h
  | cons a acc ih =>
    cases ks with
    | nil => simp at e
    | cons k ks =>
      cases i with
      | zero => simp at h; cases h
      | succ i =>
        simp only [List.take_succ_cons, List.map_cons, List.cons_append] at h ⊢
        cases h with
        | cons h1 h2 => exact .cons h1 (ih (ks := ks) (i := i) h2 (by simpa using e))
theorem DpAll.right {K : PySem.W.Frag} {H : Hp} : ∀ {vs : List V} {as : List PyData} {b : PyData}, DpAll K H vs (as ++ [b]) → ∃ us v, vs = us ++ [v] ∧ DpAll K H us as ∧ Dp K H v b
  | _, [], b, h => by
    cases h with
    | cons h1 h2 => cases h2; exact ⟨[], _, rfl, .nil, h1⟩
  | _, a :: as, b, h => by
    cases h with
    | cons h1 h2 =>
      obtain ⟨us, v, rfl, h3, h4⟩ := DpAll.right h2
      exact ⟨_ :: us, v, rfl, .cons h1 h3, h4⟩
theorem DpAll.app' {K : PySem.W.Frag} {H : Hp} : ∀ {xs ys : List V} {ds es : List PyData}, DpAll K H xs ds → DpAll K H ys es → DpAll K H (xs ++ ys) (ds ++ es)
  | _, _, _, _, .nil, h => h
  | _, _, _, _, .cons a b, h => .cons a (DpAll.app' b h)
/-- a tuple's items -/
theorem Dp.tup_inv {K : PySem.W.Frag} {H : Hp} {v : V} {ds : List PyData} (h : Dp K H v (.tuple ds)) : ∃ a xs, v = .ref a ∧ SqT K H a xs ∧ DpAll K H xs ds := by
  cases h with
  | tup a b => exact ⟨_, _, rfl, a, b⟩
theorem Dp.int_inv {K : PySem.W.Frag} {H : Hp} {v : V} {i : Int} (h : Dp K H v (.int i)) : v = .int i := by cases h; rfl
theorem Dp.str_inv {K : PySem.W.Frag} {H : Hp} {v : V} {i : Str} (h : Dp K H v (.str i)) : v = .str i := by cases h; rfl
theorem Dp.tup2_inv {K : PySem.W.Frag} {H : Hp} {v : V} {x y : PyData} (h : Dp K H v (.tuple [x, y])) : ∃ a u1 u2, v = .ref a ∧ SqT K H a [u1, u2] ∧ Dp K H u1 x ∧ Dp K H u2 y := by
  obtain ⟨a, xs, rfl, h1, h2⟩ := Dp.tup_inv h
  cases h2 with
  | cons g1 g2 => cases g2 with
    | cons g2 g3 => cases g3; exact ⟨a, _, _, rfl, h1, g1, g2⟩
theorem Dp.tup3_inv {K : PySem.W.Frag} {H : Hp} {v : V} {x y z : PyData} (h : Dp K H v (.tuple [x, y, z])) : ∃ a u1 u2 u3, v = .ref a ∧ SqT K H a [u1, u2, u3] ∧ Dp K H u1 x ∧ Dp K H u2 y ∧ Dp K H u3 z := by
  obtain ⟨a, xs, rfl, h1, h2⟩ := Dp.tup_inv h
  cases h2 with
  | cons g1 g2 => cases g2 with
    | cons g2 g3 => cases g3 with
      | cons g3 g4 => cases g4; exact ⟨a, _, _, _, rfl, h1, g1, g2, g3⟩
theorem Same.mut {H H' : Hp} {a : Addr} {o : HO} (s : Same H H') (h : H a = none) : Same H (upd H' a o) := fun b u e => by rw [upd_ne (ne_of_none e h)]; exact s b u e
theorem none_ne {H : Hp} {a b : Addr} {o : HO} (h : H a = some o) (k : H b = none) : a ≠ b := by rintro rfl; rw [h] at k; cases k
theorem gCons_cons {t : TG} {u : TGs} {v : V} {r : List V} {σ : L2.St} {H : Hp} {Q : L2.St → Hp → Prop} : gCons t u (v :: r) σ H Q = t v σ H fun σ' H' => u r σ' H' Q := by
  unfold gCons
  apply propext
  constructor
  · rintro ⟨v', r', e, h⟩
    cases e
    exact h
  · intro h
    exact ⟨_, _, rfl, h⟩
theorem gNil_nil {σ : L2.St} {H : Hp} {Q : L2.St → Hp → Prop} : gNil [] σ H Q = Q σ H := by
  unfold gNil
  exact propext ⟨fun h => h.2, fun h => ⟨rfl, h⟩⟩
theorem ixN_at {n j : Nat} (hj : j < n) : ixN n (j : Int) = some j := by
  unfold ixN
  rw [if_pos (by omega), if_pos (by omega)]
  simp
theorem dpAll_map {K : PySem.W.Frag} {H : Hp} {α : Type} {f : α → V} {g : α → PyData} (h : ∀ a, Dp K H (f a) (g a)) : ∀ {l : List α}, DpAll K H (l.map f) (l.map g)
  | [] => .nil
  | a :: l => .cons (h a) (dpAll_map h)
end Ly
namespace Ly
open PySem PySem.Spec
/-! ### preorder, by parents (no Python here) -/
structure Pre (p : Nat → Int) (n : Nat) : Prop where
  lo : ∀ k, k < n → -1 ≤ p k
  hi : ∀ k, k < n → p k < (k : Int)
  pre : ∀ m j k : Nat, m < j → j < k → k < n → p j < (m : Int) → p k ≠ (m : Int)
/-- the nodes from m on whose parent is q -/
def kf (p : Nat → Int) (n m : Nat) (q : Int) : List Nat := (List.range' m (n - m)).filter fun j => decide (p j = q)
abbrev kids (p : Nat → Int) (n : Nat) (q : Int) : List Nat := kf p n 0 q
theorem range'_step {m n : Nat} (h : m < n) : List.range' m (n - m) = m :: List.range' (m + 1) (n - (m + 1)) := by
  rw [show n - m = (n - (m + 1)) + 1 by omega, List.range'_succ]
theorem kf_yes {p : Nat → Int} {n m : Nat} {q : Int} (h : m < n) (e : p m = q) : kf p n m q = m :: kf p n (m + 1) q := by
  unfold kf
  rw [range'_step h, List.filter_cons_of_pos (by simpa using e)]
theorem kf_no {p : Nat → Int} {n m : Nat} {q : Int} (h : m < n) (e : p m ≠ q) : kf p n m q = kf p n (m + 1) q := by
  unfold kf
  rw [range'_step h, List.filter_cons_of_neg (by simpa using e)]
theorem kf_end {p : Nat → Int} {n : Nat} {q : Int} : kf p n n q = [] := by simp [kf]
theorem kf_mem {p : Nat → Int} {n m j : Nat} {q : Int} : j ∈ kf p n m q ↔ m ≤ j ∧ j < n ∧ p j = q := by
  unfold kf
  rw [List.mem_filter, List.mem_range'_1, decide_eq_true_eq]
  omega
theorem kf_below {p : Nat → Int} {n : Nat} (h : Pre p n) {k : Nat} (hk : k < n) : ∀ {m : Nat}, m ≤ k + 1 → kf p n m (k : Int) = kf p n (k + 1) k := by
  intro m hm
  obtain ⟨d, rfl⟩ : ∃ d, m = k + 1 - d := ⟨k + 1 - m, by omega⟩
  induction d with
  | zero => rfl
  | succ d ih =>
    rcases Nat.lt_or_ge d (k + 1) with h1 | h1
    · have h2 : k + 1 - (d + 1) < n := by omega
      have h3 := h.hi _ h2
      rw [kf_no h2 (by omega), show k + 1 - (d + 1) + 1 = k + 1 - d by omega]
      exact ih (by omega)
    · rw [show k + 1 - (d + 1) = k + 1 - d by omega]
      exact ih (by omega)
theorem kf_len {p : Nat → Int} {n m : Nat} {q : Int} : (kf p n m q).length ≤ n := by
  unfold kf
  refine Nat.le_trans (List.length_filter_le _ _) ?_
  rw [List.length_range']
  omega
theorem kf_nodup {p : Nat → Int} {n m : Nat} {q : Int} : (kf p n m q).Nodup := by
  unfold kf
  exact List.Pairwise.filter _ (List.nodup_range' (step := 1))
/-- the place of a node among its parent's children -/
def pl (p : Nat → Int) (n : Nat) (j : Nat) : Int := ((kids p n (p j)).idxOf j : Nat)
theorem pl_eq {p : Nat → Int} {n c j : Nat} {q : Int} (h : (kids p n q)[c]? = some j) : pl p n j = (c : Nat) ∧ p j = q ∧ j < n := by
  have hm := kf_mem.mp (List.mem_of_getElem? h)
  obtain ⟨hc, e⟩ := List.getElem?_eq_some_iff.mp h
  have : (kids p n q).idxOf j = c := by
    rw [← e]
    exact List.Nodup.idxOf_getElem kf_nodup c hc
  unfold pl
  rw [hm.2.2, this]
  exact ⟨rfl, rfl, hm.2.1⟩
/-! trees: r puts the children in their turn -/
def trG (r : List Nat → List Nat) (p : Nat → Int) (n : Nat) (w : Nat → Str) : Nat → Nat → PyData
  | 0, _ => .none
  | f + 1, k => .tuple [.str (w k), .tuple ((r (kids p n k)).map (trG r p n w f))]
def Turns (r : List Nat → List Nat) : Prop := ∀ l x, x ∈ r l → x ∈ l
theorem turns_id : Turns id := fun _ _ h => h
theorem turns_rev : Turns List.reverse := fun _ _ h => List.mem_reverse.mp h
section
variable {r : List Nat → List Nat} {p : Nat → Int} {n : Nat} {w : Nat → Str}
theorem trG_eq (hr : Turns r) (h : Pre p n) : ∀ (f g k : Nat), k < n → n - k ≤ f → n - k ≤ g → trG r p n w f k = trG r p n w g k
  | 0, _, _, _, _, _ => by omega
  | _ + 1, 0, _, _, _, _ => by omega
  | f + 1, g + 1, k, hk, h1, h2 => by
    unfold trG
    congr 4
    apply List.map_congr_left
    intro j hj
    have hj := kf_mem.mp (hr _ _ hj)
    have := h.hi j hj.2.1
    exact trG_eq hr h f g j hj.2.1 (by omega) (by omega)
def trR (r : List Nat → List Nat) (p : Nat → Int) (n : Nat) (w : Nat → Str) (k : Nat) : PyData := trG r p n w (n - k) k
theorem trR_eq (hr : Turns r) (h : Pre p n) {k : Nat} (hk : k < n) : trR r p n w k = .tuple [.str (w k), .tuple ((r (kids p n k)).map (trR r p n w))] := by
  unfold trR
  rw [show n - k = (n - (k + 1)) + 1 by omega, trG]
  congr 4
  apply List.map_congr_left
  intro j hj
  have hj := kf_mem.mp (hr _ _ hj)
  have := h.hi j hj.2.1
  exact trG_eq hr h _ _ j hj.2.1 (by omega) (by omega)
end
/-- the tree at node k, the forest; and both mirrored -/
abbrev tr (p : Nat → Int) (n : Nat) (w : Nat → Str) : Nat → PyData := trR id p n w
abbrev mi (p : Nat → Int) (n : Nat) (w : Nat → Str) : Nat → PyData := trR List.reverse p n w
def foD (p : Nat → Int) (n : Nat) (w : Nat → Str) : PyData := .tuple ((kids p n (-1)).map (tr p n w))
def miD (p : Nat → Int) (n : Nat) (w : Nat → Str) : PyData := .tuple ((kids p n (-1)).reverse.map (mi p n w))
/-! what is left to visit at node m -/
def sk (p : Nat → Int) (n m : Nat) : List Nat := (List.range' m (n - m)).filter fun j => decide (p j < (m : Int))
def sk' (p : Nat → Int) (n m : Nat) : List Nat := (List.range' (m + 1) (n - (m + 1))).filter fun j => decide (p j < (m : Int))
theorem filt_split {p : Nat → Int} {m : Int} : ∀ L : List Nat, L.Pairwise (fun j k => p j < m → p k ≠ m) → L.filter (fun j => decide (p j < m + 1)) = L.filter (fun j => decide (p j = m)) ++ L.filter (fun j => decide (p j < m))
  | [], _ => rfl
  | j :: L, h => by
    obtain ⟨h1, h2⟩ := List.pairwise_cons.mp h
    have ih := filt_split L h2
    rcases Int.lt_trichotomy (p j) m with c | c | c
    · have e : L.filter (fun j => decide (p j = m)) = [] := List.filter_eq_nil_iff.mpr fun k hk => by simpa using h1 k hk c
      rw [List.filter_cons_of_pos (by simp; omega), List.filter_cons_of_neg (by simp; omega), List.filter_cons_of_pos (by simpa using c), ih, e]
      rfl
    · rw [List.filter_cons_of_pos (by simp; omega), List.filter_cons_of_pos (by simpa using c), List.filter_cons_of_neg (by simp; omega), ih]
      rfl
    · rw [List.filter_cons_of_neg (by simp; omega), List.filter_cons_of_neg (by simp; omega), List.filter_cons_of_neg (by simp; omega), ih]
theorem sk_zero {p : Nat → Int} {n : Nat} (h : Pre p n) : sk p n 0 = kids p n (-1) := by
  unfold sk kids kf
  apply List.filter_congr
  intro j hj
  have hj' := List.mem_range'_1.mp hj
  have := h.lo j (by omega)
  simp only [decide_eq_decide]
  omega
theorem sk_cons {p : Nat → Int} {n m : Nat} (h : Pre p n) (hm : m < n) : sk p n m = m :: sk' p n m := by
  unfold sk sk'
  rw [range'_step hm, List.filter_cons_of_pos (by simpa using h.hi m hm)]
theorem sk_next {p : Nat → Int} {n m : Nat} (h : Pre p n) (hm : m < n) : sk p n (m + 1) = kids p n m ++ sk' p n m := by
  rw [kids, kf_below h hm (by omega)]
  unfold sk sk' kf
  rw [show ((m + 1 : Nat) : Int) = (m : Int) + 1 by omega]
  refine filt_split _ ?_
  have key : ∀ (c a : Nat), m < a → a + c ≤ n → (List.range' a c).Pairwise (fun j k => p j < (m : Int) → p k ≠ (m : Int)) := by
    intro c
    induction c with
    | zero => intro a _ _; simp
    | succ c ih =>
      intro a h1 h2
      rw [List.range'_succ]
      refine List.pairwise_cons.mpr ⟨fun k hk hp => ?_, ih (a + 1) (by omega) (by omega)⟩
      have hk := List.mem_range'_1.mp hk
      exact h.pre m a k h1 (by omega) (by omega) hp
  exact key _ _ (by omega) (by omega)
theorem sk_end {p : Nat → Int} {n : Nat} : sk p n n = [] := by simp [sk]
/-! depths -/
def dp (p : Nat → Int) (k : Nat) : Nat := if h : 0 ≤ p k ∧ (p k).toNat < k then dp p (p k).toNat + 1 else 0
termination_by k
decreasing_by exact h.2
theorem dp_root {p : Nat → Int} {k : Nat} (h : p k < 0) : dp p k = 0 := by
  rw [dp, dif_neg (by omega)]
theorem dp_kid {p : Nat → Int} {k q : Nat} (h : p k = (q : Int)) (hq : q < k) : dp p k = dp p q + 1 := by
  rw [dp, dif_pos ⟨by omega, by omega⟩, show (p k).toNat = q by omega]
theorem dp_le {p : Nat → Int} : ∀ k, dp p k ≤ k := by
  intro k
  induction k using Nat.strongRecOn with
  | ind k ih =>
    rw [dp]
    split
    · rename_i h
      have := ih _ h.2
      omega
    · omega
/-- the path of a node -/
def pa (p : Nat → Int) (n k : Nat) : List Int := (if h : 0 ≤ p k ∧ (p k).toNat < k then pa p n (p k).toNat else []) ++ [pl p n k]
termination_by k
decreasing_by exact h.2
theorem pa_root {p : Nat → Int} {n k : Nat} (h : p k < 0) : pa p n k = [pl p n k] := by
  rw [pa, dif_neg (by omega)]
  rfl
theorem pa_kid {p : Nat → Int} {n k q : Nat} (h : p k = (q : Int)) (hq : q < k) : pa p n k = pa p n q ++ [pl p n k] := by
  rw [pa, dif_pos ⟨by omega, by omega⟩, show (p k).toNat = q by omega]
theorem pa_len {p : Nat → Int} {n : Nat} (h : Pre p n) : ∀ k, k < n → (pa p n k).length = dp p k + 1 := by
  intro k
  induction k using Nat.strongRecOn with
  | ind k ih =>
    intro hk
    have b := h.hi k hk
    rcases Int.lt_or_le (p k) 0 with c | c
    · rw [pa_root c, dp_root c]; rfl
    · obtain ⟨q, hq⟩ : ∃ q : Nat, p k = (q : Int) := ⟨(p k).toNat, by omega⟩
      rw [pa_kid hq (by omega), dp_kid hq (by omega), List.length_append, ih q (by omega) (by omega)]
      rfl
/-! ends of subtrees -/
def fst (q : Nat → Bool) : Nat → Nat → Nat
  | m, 0 => m
  | m, c + 1 => if q m = true then m else fst q (m + 1) c
theorem fst_ge (q : Nat → Bool) : ∀ c m, m ≤ fst q m c ∧ fst q m c ≤ m + c
  | 0, m => by simp [fst]
  | c + 1, m => by
    have := fst_ge q c (m + 1)
    unfold fst
    split <;> omega
theorem fst_no (q : Nat → Bool) : ∀ c m i, m ≤ i → i < fst q m c → q i = false
  | 0, m, i, h1, h2 => by simp [fst] at h2; omega
  | c + 1, m, i, h1, h2 => by
    unfold fst at h2
    split at h2
    · omega
    · rename_i h
      rcases Nat.eq_or_lt_of_le h1 with e | e
      · subst e; simpa using h
      · exact fst_no q c (m + 1) i e h2
theorem fst_yes (q : Nat → Bool) : ∀ c m, fst q m c < m + c → q (fst q m c) = true
  | 0, m, h => by simp [fst] at h
  | c + 1, m, h => by
    unfold fst at h ⊢
    split at h <;> rename_i hq
    · rw [if_pos hq]; exact hq
    · rw [if_neg hq]; exact fst_yes q c (m + 1) (by omega)
theorem fst_unique (q : Nat → Bool) {c m e : Nat} (h1 : m ≤ e) (h2 : e ≤ m + c) (h3 : ∀ i, m ≤ i → i < e → q i = false) (h4 : e < m + c → q e = true) : fst q m c = e := by
  have a := fst_ge q c m
  rcases Nat.lt_trichotomy (fst q m c) e with z | z | z
  · have := h3 _ a.1 z
    have b := fst_yes q c m (by omega)
    rw [this] at b; cases b
  · exact z
  · have := fst_no q c m e h1 z
    rw [h4 (by omega)] at this; cases this
/-- the first node behind the subtree of k -/
def en (p : Nat → Int) (n k : Nat) : Nat := fst (fun j => decide (p j < (k : Int))) (k + 1) (n - (k + 1))
/-- the first node from m on whose parent is at most k -/
def nx (p : Nat → Int) (n m k : Nat) : Nat := fst (fun j => decide (p j ≤ (k : Int))) m (n - m)
section
variable {p : Nat → Int} {n : Nat}
theorem en_ge {k : Nat} (hk : k < n) : k + 1 ≤ en p n k ∧ en p n k ≤ n := by
  have := fst_ge (fun j => decide (p j < (k : Int))) (n - (k + 1)) (k + 1)
  unfold en
  omega
theorem en_in {k i : Nat} (h1 : k < i) (h2 : i < en p n k) : (k : Int) ≤ p i := by
  have := fst_no _ _ _ i h1 h2
  simpa using this
theorem en_at {k : Nat} (hk : k < n) (h : en p n k < n) : p (en p n k) < (k : Int) := by
  have := fst_yes (fun j => decide (p j < (k : Int))) (n - (k + 1)) (k + 1) (show en p n k < _ by omega)
  exact of_decide_eq_true this
theorem en_kid (h : Pre p n) {k i : Nat} (hi : i < n) (e : p i = (k : Int)) : i < en p n k := by
  have hk : k < i := by have := h.hi i hi; omega
  rcases Nat.lt_or_ge i (en p n k) with z | z
  · exact z
  · have g := en_ge (p := p) (n := n) (k := k) (by omega)
    have a := en_at (p := p) (n := n) (k := k) (by omega) (by omega)
    rcases Nat.eq_or_lt_of_le z with c | c
    · rw [c] at a; omega
    · exact absurd e (h.pre k _ i (by omega) c hi a)
theorem en_sub {j k : Nat} (hj : j < n) (h1 : j < k) (h2 : k < en p n j) : en p n k ≤ en p n j := by
  have g := en_ge (p := p) hj
  have gk := en_ge (p := p) (n := n) (k := k) (by omega)
  rcases Nat.lt_or_ge (en p n j) (en p n k) with c | c
  · have a := en_at (p := p) hj (by omega)
    have := en_in (p := p) (n := n) (k := k) (i := en p n j) (by omega) c
    omega
  · exact c
/-- no node behind the subtree of j hangs below j -/
theorem en_out (h : Pre p n) {j k q : Nat} (hj : j < n) (hk : k < n) (h1 : en p n j ≤ k) (e : p k = (q : Int)) : q < j ∨ en p n j ≤ q := by
  have g := en_ge (p := p) hj
  have a := en_at (p := p) hj (by omega)
  rcases Nat.lt_or_ge q j with c | c
  · exact .inl c
  · rcases Nat.lt_or_ge q (en p n j) with d | d
    · exfalso
      rcases Nat.eq_or_lt_of_le h1 with z | z
      · rw [z] at a; omega
      · exact h.pre q (en p n j) k d z hk (by omega) e
    · exact .inr d
theorem dp_in (h : Pre p n) {k : Nat} : ∀ i, k < i → i < n → i < en p n k → dp p k < dp p i := by
  intro i
  induction i using Nat.strongRecOn with
  | ind i ih =>
    intro h1 hn h2
    have a := en_in h1 h2
    have b := h.hi i hn
    obtain ⟨q, hq⟩ : ∃ q : Nat, p i = (q : Int) := ⟨(p i).toNat, by omega⟩
    rw [dp_kid hq (by omega)]
    rcases Nat.eq_or_lt_of_le (show k ≤ q by omega) with c | c
    · subst c; omega
    · have := ih q (by omega) c (by omega) (by omega)
      omega
theorem dp_out (h : Pre p n) {j : Nat} (hj : j < n) : ∀ k, k < n → en p n j ≤ k → dp p k ≤ dp p j + (k - en p n j) := by
  intro k
  induction k using Nat.strongRecOn with
  | ind k ih =>
    intro hk h1
    have b := h.hi k hk
    rcases Int.lt_or_le (p k) 0 with c | c
    · rw [dp_root c]; omega
    · obtain ⟨q, hq⟩ : ∃ q : Nat, p k = (q : Int) := ⟨(p k).toNat, by omega⟩
      rw [dp_kid hq (by omega)]
      rcases en_out h hj hk h1 hq with d | d
      · have g := en_ge (p := p) hj
        have e1 := en_kid h hk hq
        have := dp_in h (k := q) j d hj (by omega)
        omega
      · have := ih q (by omega) (by omega) d
        omega
/-- a node's number by postorder -/
def pst (p : Nat → Int) (n k : Nat) : Nat := en p n k - dp p k - 1
theorem pst_eq {k : Nat} (hk : k < n) : pst p n k + dp p k + 1 = en p n k := by
  have := en_ge (p := p) hk
  have := dp_le (p := p) k
  unfold pst
  omega
theorem pst_lt {k : Nat} (hk : k < n) : pst p n k < n := by
  have := en_ge (p := p) hk
  have := pst_eq (p := p) hk
  omega
theorem pst_ne (h : Pre p n) {j k : Nat} (hk : k < n) (hjk : j < k) : pst p n j ≠ pst p n k := by
  have e1 := pst_eq (p := p) (n := n) (k := j) (by omega)
  have e2 := pst_eq (p := p) hk
  have g := en_ge (p := p) hk
  rcases Nat.lt_or_ge k (en p n j) with c | c
  · have a := en_sub (p := p) (by omega) hjk c
    have b := dp_in h k hjk hk c
    omega
  · have b := dp_out h (j := j) (by omega) k hk c
    omega
theorem pst_inj (h : Pre p n) {j k : Nat} (hj : j < n) (hk : k < n) (e : pst p n j = pst p n k) : j = k := by
  rcases Nat.lt_trichotomy j k with c | c | c
  · exact absurd e (pst_ne h hk c)
  · exact c
  · exact absurd e.symm (pst_ne h hj c)
end
/-- pigeons -/
theorem pigeon : ∀ (n : Nat) (f : Nat → Nat), (∀ k, k < n → f k < n) → (∀ j k, j < n → k < n → f j = f k → j = k) → ∀ v, v < n → ∃ k, k < n ∧ f k = v
  | 0, _, _, _, v, hv => by omega
  | n + 1, f, h1, h2, v, hv => by
    -- g: f with the value n put where f n was
    let g : Nat → Nat := fun k => if f k = n then f n else f k
    have hg : ∀ k, k < n → g k < n := by
      intro k hk
      have a := h1 k (by omega)
      have b := h1 n (by omega)
      show (if f k = n then f n else f k) < n
      split
      · rename_i e
        rcases Nat.lt_or_ge (f n) n with c | c
        · exact c
        · have := h2 k n (by omega) (by omega) (by omega)
          omega
      · omega
    have hi : ∀ j k, j < n → k < n → g j = g k → j = k := by
      intro j k hj hk e
      have e : (if f j = n then f n else f j) = (if f k = n then f n else f k) := e
      split at e <;> split at e <;> rename_i a b
      · exact h2 j k (by omega) (by omega) (by omega)
      · have := h2 n k (by omega) (by omega) e; omega
      · have := h2 j n (by omega) (by omega) e; omega
      · exact h2 j k (by omega) (by omega) e
    by_cases hv2 : f n = v
    · exact ⟨n, by omega, hv2⟩
    · rcases Nat.lt_or_ge v n with c | c
      · obtain ⟨k, hk, e⟩ := pigeon n g hg hi v c
        have e : (if f k = n then f n else f k) = v := e
        split at e
        · exact absurd e hv2
        · exact ⟨k, by omega, e⟩
      · -- v = n
        have hvn : v = n := by omega
        subst hvn
        rcases Nat.lt_or_ge (f v) v with d | d
        · obtain ⟨k, hk, e⟩ := pigeon v g hg hi (f v) d
          have e : (if f k = v then f v else f k) = f v := e
          split at e
          · rename_i z; exact ⟨k, by omega, z⟩
          · have := h2 k v (by omega) (by omega) e; omega
        · have := h1 v (by omega); omega
theorem pst_onto {p : Nat → Int} {n : Nat} (h : Pre p n) {v : Nat} (hv : v < n) : ∃ k, k < n ∧ pst p n k = v := pigeon n (pst p n) (fun k hk => pst_lt hk) (fun j k hj hk e => pst_inj h hj hk e) v hv
/-- what stands v-th by postorder -/
def inv (p : Nat → Int) (n v : Nat) : Nat := ((List.range n).find? fun k => pst p n k == v).getD 0
theorem inv_pst {p : Nat → Int} {n : Nat} (h : Pre p n) {k : Nat} (hk : k < n) : inv p n (pst p n k) = k := by
  unfold inv
  cases e : (List.range n).find? fun j => pst p n j == pst p n k with
  | none =>
    have := List.find?_eq_none.mp e k (List.mem_range.mpr hk)
    simp at this
  | some j =>
    have h1 := List.mem_range.mp (List.mem_of_find?_eq_some e)
    have h2 := List.find?_some e
    exact pst_inj h h1 hk (by simpa using h2)
/-! sizes, summed up from the end: after all nodes from m on -/
def szM (p : Nat → Int) (n m k : Nat) : Nat := 1 + (en p n k - nx p n (max m (k + 1)) k)
section
variable {p : Nat → Int} {n : Nat}
theorem szM_start {k : Nat} (hk : k < n) : szM p n n k = 1 := by
  have := en_ge (p := p) hk
  unfold szM nx
  rw [show max n (k + 1) = n by omega, Nat.sub_self]
  show 1 + (en p n k - n) = 1
  omega
theorem nx_self (h : Pre p n) {k : Nat} (hk : k < n) : nx p n (k + 1) k = k + 1 := by
  unfold nx
  refine fst_unique _ (by omega) (by omega) (fun i h1 h2 => by omega) fun hlt => ?_
  have := h.hi (k + 1) (by omega)
  exact decide_eq_true (by omega)
theorem szM_done (h : Pre p n) {m k : Nat} (hk : k < n) (hm : m ≤ k + 1) : szM p n m k + k = en p n k := by
  unfold szM
  rw [show max m (k + 1) = k + 1 by omega, nx_self h hk]
  have := en_ge (p := p) hk
  omega
theorem nx_step {m k : Nat} (hm : m < n) (hp : (k : Int) < p m) : nx p n m k = nx p n (m + 1) k := by
  unfold nx
  rw [show n - m = (n - (m + 1)) + 1 by omega, fst, if_neg (by simp; omega)]
theorem nx_here {m k : Nat} (hm : m < n) (hp : p m ≤ (k : Int)) : nx p n m k = m := by
  unfold nx
  rw [show n - m = (n - (m + 1)) + 1 by omega, fst, if_pos (by simp; omega)]
/-- the parent's size grows by the child's -/
theorem szM_kid (h : Pre p n) {i k : Nat} (hi : i < n) (e : p i = (k : Int)) : szM p n i k = szM p n (i + 1) k + szM p n (i + 1) i := by
  have hk : k < i := by have := h.hi i hi; omega
  have d := szM_done h (m := i + 1) hi (Nat.le_refl _)
  have l1 := en_kid h hi e
  have l2 := en_sub (p := p) (by omega) hk l1
  have g := en_ge (p := p) hi
  have e1 : nx p n (i + 1) k = en p n i := by
    unfold nx
    refine fst_unique _ (by omega) (by omega) (fun x h1 h2 => ?_) fun hlt => ?_
    · have := en_in (p := p) (n := n) (k := i) (i := x) (by omega) h2
      exact decide_eq_false (by omega)
    · have a := en_at (p := p) hi (by omega)
      refine decide_eq_true ?_
      rcases Int.lt_or_le (k : Int) (p (en p n i)) with c | c
      · exfalso
        obtain ⟨q, hq⟩ : ∃ q : Nat, p (en p n i) = (q : Int) := ⟨(p (en p n i)).toNat, by omega⟩
        exact h.pre q i (en p n i) (by omega) (by omega) (by omega) (by omega) hq
      · exact c
  unfold szM at d ⊢
  rw [show max i (k + 1) = i by omega, nx_here hi (by omega), show max (i + 1) (k + 1) = i + 1 by omega, e1]
  rw [show max (i + 1) (i + 1) = i + 1 by omega] at d ⊢
  omega
/-- all others stay -/
theorem szM_rest (h : Pre p n) {i k : Nat} (hi : i < n) (hk : k < n) (e : p i ≠ (k : Int)) : szM p n i k = szM p n (i + 1) k := by
  unfold szM
  rcases Nat.lt_or_ge k i with c | c
  · rw [show max i (k + 1) = i by omega, show max (i + 1) (k + 1) = i + 1 by omega]
    rcases Int.lt_or_le (p i) (k : Int) with d | d
    · have : en p n k ≤ i := by
        rcases Nat.lt_or_ge i (en p n k) with z | z
        · have := en_in (p := p) c z
          omega
        · exact z
      have g1 := fst_ge (fun j => decide (p j ≤ (k : Int))) (n - i) i
      have g2 := fst_ge (fun j => decide (p j ≤ (k : Int))) (n - (i + 1)) (i + 1)
      show 1 + (en p n k - fst _ i (n - i)) = 1 + (en p n k - fst _ (i + 1) (n - (i + 1)))
      omega
    · rw [nx_step hi (by omega)]
  · rw [show max i (k + 1) = max (i + 1) (k + 1) by omega]
end
end Ly
namespace Ly
open PySem PySem.Spec PyProof.Rows L2
def top (i : Nat) : Stmt := PySem.Challenge.pw_graftbook_k02_forests.main.body.getD i (.Pass ⟨0, 0, 0, 0⟩)
abbrev s_InvalidForest_init : Stmt := (inClass (top 2) 0)
theorem sc_InvalidForest_init : FnScope ["self", "value"] ["self", "value"] (defScope s_InvalidForest_init) := ⟨rfl, rfl, rfl, by decide +kernel, rfl, by decide +kernel, by decide +kernel⟩
abbrev s_is_word : Stmt := (top 6)
theorem sc_is_word : FnScope ["value", "letter"] ["value"] (defScope s_is_word) := ⟨rfl, rfl, rfl, by decide +kernel, rfl, by decide +kernel, by decide +kernel⟩
abbrev s_is_tuple_of : Stmt := (top 7)
theorem sc_is_tuple_of : FnScope ["value", "length"] ["value", "length"] (defScope s_is_tuple_of) := ⟨rfl, rfl, rfl, by decide +kernel, rfl, by decide +kernel, by decide +kernel⟩
abbrev s_listed : Stmt := (top 9)
theorem sc_listed : FnScope ["a", "found", "ahead", "place", "tree", "parent", "word", "children", "number", "k"] ["a"] (defScope s_listed) := ⟨rfl, rfl, rfl, by decide +kernel, rfl, by decide +kernel, by decide +kernel⟩
abbrev s_node_words : Stmt := (top 10)
theorem sc_node_words : FnScope ["a", "word", "_"] ["a"] (defScope s_node_words) := ⟨rfl, rfl, rfl, by decide +kernel, rfl, by decide +kernel, by decide +kernel⟩
abbrev s_node_parents : Stmt := (top 11)
theorem sc_node_parents : FnScope ["a", "_", "parent"] ["a"] (defScope s_node_parents) := ⟨rfl, rfl, rfl, by decide +kernel, rfl, by decide +kernel, by decide +kernel⟩
abbrev s_node_paths : Stmt := (top 12)
theorem sc_node_paths : FnScope ["a", "paths", "_", "parent", "place", "above"] ["a"] (defScope s_node_paths) := ⟨rfl, rfl, rfl, by decide +kernel, rfl, by decide +kernel, by decide +kernel⟩
abbrev s_node_depths : Stmt := (top 13)
theorem sc_node_depths : FnScope ["a", "path"] ["a"] (defScope s_node_depths) := ⟨rfl, rfl, rfl, by decide +kernel, rfl, by decide +kernel, by decide +kernel⟩
abbrev s_node_sizes : Stmt := (top 14)
theorem sc_node_sizes : FnScope ["a", "parents", "sizes", "i"] ["a"] (defScope s_node_sizes) := ⟨rfl, rfl, rfl, by decide +kernel, rfl, by decide +kernel, by decide +kernel⟩
abbrev s_node_posts : Stmt := (top 15)
theorem sc_node_posts : FnScope ["a", "sizes", "depths", "i"] ["a"] (defScope s_node_posts) := ⟨rfl, rfl, rfl, by decide +kernel, rfl, by decide +kernel, by decide +kernel⟩
abbrev s_in_postorder : Stmt := (top 16)
theorem sc_in_postorder : FnScope ["a", "values", "placed", "post", "value"] ["a", "values"] (defScope s_in_postorder) := ⟨rfl, rfl, rfl, by decide +kernel, rfl, by decide +kernel, by decide +kernel⟩
abbrev s_is_forest : Stmt := (top 18)
theorem sc_is_forest : FnScope ["value", "rows", "row", "tree"] ["value"] (defScope s_is_forest) := ⟨rfl, rfl, rfl, by decide +kernel, rfl, by decide +kernel, by decide +kernel⟩
abbrev s_need_forests : Stmt := (top 19)
theorem sc_need_forests : FnScope ["values", "value"] ["values"] (defScope s_need_forests) := ⟨rfl, rfl, rfl, by decide +kernel, rfl, by decide +kernel, by decide +kernel⟩
abbrev s_forest_size : Stmt := (top 20)
theorem sc_forest_size : FnScope ["a"] ["a"] (defScope s_forest_size) := ⟨rfl, rfl, rfl, by decide +kernel, rfl, by decide +kernel, by decide +kernel⟩
abbrev s_forest_depth : Stmt := (top 21)
theorem sc_forest_depth : FnScope ["a"] ["a"] (defScope s_forest_depth) := ⟨rfl, rfl, rfl, by decide +kernel, rfl, by decide +kernel, by decide +kernel⟩
abbrev s_forest_words : Stmt := (top 22)
theorem sc_forest_words : FnScope ["a"] ["a"] (defScope s_forest_words) := ⟨rfl, rfl, rfl, by decide +kernel, rfl, by decide +kernel, by decide +kernel⟩
abbrev s_words_behind : Stmt := (top 23)
theorem sc_words_behind : FnScope ["a"] ["a"] (defScope s_words_behind) := ⟨rfl, rfl, rfl, by decide +kernel, rfl, by decide +kernel, by decide +kernel⟩
abbrev s_forest_joined : Stmt := (top 24)
theorem sc_forest_joined : FnScope ["a", "b"] ["a", "b"] (defScope s_forest_joined) := ⟨rfl, rfl, rfl, by decide +kernel, rfl, by decide +kernel, by decide +kernel⟩
abbrev s_forest_turned : Stmt := (top 25)
theorem sc_forest_turned : FnScope ["a"] ["a"] (defScope s_forest_turned) := ⟨rfl, rfl, rfl, by decide +kernel, rfl, by decide +kernel, by decide +kernel⟩
abbrev s_turned : Stmt := (top 26)
theorem sc_turned : FnScope ["a", "word", "children"] ["a"] (defScope s_turned) := ⟨rfl, rfl, rfl, by decide +kernel, rfl, by decide +kernel, by decide +kernel⟩
abbrev s_forest_below : Stmt := (top 27)
theorem sc_forest_below : FnScope ["a", "b"] ["a", "b"] (defScope s_forest_below) := ⟨rfl, rfl, rfl, by decide +kernel, rfl, by decide +kernel, by decide +kernel⟩
abbrev s_forest_rank : Stmt := (top 28)
theorem sc_forest_rank : FnScope ["a", "words"] ["a"] (defScope s_forest_rank) := ⟨rfl, rfl, rfl, by decide +kernel, rfl, by decide +kernel, by decide +kernel⟩
abbrev s_l_cell : Stmt := (top 30)
theorem sc_l_cell : FnScope ["script", "k"] ["script", "k"] (defScope s_l_cell) := ⟨rfl, rfl, rfl, by decide +kernel, rfl, by decide +kernel, by decide +kernel⟩
abbrev s_l_mix : Stmt := (top 31)
theorem sc_l_mix : FnScope ["cell", "salt", "one"] ["cell", "salt"] (defScope s_l_mix) := ⟨rfl, rfl, rfl, by decide +kernel, rfl, by decide +kernel, by decide +kernel⟩
abbrev s_l_box : Stmt := (top 32)
theorem sc_l_box : FnScope ["script", "at", "cell"] ["script", "at"] (defScope s_l_box) := ⟨rfl, rfl, rfl, by decide +kernel, rfl, by decide +kernel, by decide +kernel⟩
abbrev s_l_draw : Stmt := (top 33)
theorem sc_l_draw : FnScope ["box", "many", "drawn"] ["box", "many"] (defScope s_l_draw) := ⟨rfl, rfl, rfl, by decide +kernel, rfl, by decide +kernel, by decide +kernel⟩
abbrev s_l_word : Stmt := (top 34)
theorem sc_l_word : FnScope ["box", "size", "k"] ["box"] (defScope s_l_word) := ⟨rfl, rfl, rfl, by decide +kernel, rfl, by decide +kernel, by decide +kernel⟩
abbrev s_l_parents : Stmt := (top 35)
theorem sc_l_parents : FnScope ["box", "many", "parents", "chain", "k", "at"] ["box", "many"] (defScope s_l_parents) := ⟨rfl, rfl, rfl, by decide +kernel, rfl, by decide +kernel, by decide +kernel⟩
abbrev s_l_forest : Stmt := (top 36)
theorem sc_l_forest : FnScope ["words", "parents", "rows", "k", "row"] ["words", "parents"] (defScope s_l_forest) := ⟨rfl, rfl, rfl, by decide +kernel, rfl, by decide +kernel, by decide +kernel⟩
abbrev s_l_sizes : Stmt := (top 37)
theorem sc_l_sizes : FnScope ["parents", "sizes", "k"] ["parents"] (defScope s_l_sizes) := ⟨rfl, rfl, rfl, by decide +kernel, rfl, by decide +kernel, by decide +kernel⟩
abbrev s_l_depths : Stmt := (top 38)
theorem sc_l_depths : FnScope ["parents", "depths", "k"] ["parents"] (defScope s_l_depths) := ⟨rfl, rfl, rfl, by decide +kernel, rfl, by decide +kernel, by decide +kernel⟩
abbrev s_l_posts : Stmt := (top 39)
theorem sc_l_posts : FnScope ["parents", "sizes", "depths", "k"] ["parents"] (defScope s_l_posts) := ⟨rfl, rfl, rfl, by decide +kernel, rfl, by decide +kernel, by decide +kernel⟩
abbrev s_l_drawn : Stmt := (top 40)
theorem sc_l_drawn : FnScope ["box", "many", "parents", "k"] ["box"] (defScope s_l_drawn) := ⟨rfl, rfl, rfl, by decide +kernel, rfl, by decide +kernel, by decide +kernel⟩
abbrev s_l_bad_word : Stmt := (top 41)
theorem sc_l_bad_word : FnScope ["box", "words"] ["box"] (defScope s_l_bad_word) := ⟨rfl, rfl, rfl, by decide +kernel, rfl, by decide +kernel, by decide +kernel⟩
abbrev s_l_bad_tree : Stmt := (top 42)
theorem sc_l_bad_tree : FnScope ["box", "word", "children", "kind"] ["box", "word", "children"] (defScope s_l_bad_tree) := ⟨rfl, rfl, rfl, by decide +kernel, rfl, by decide +kernel, by decide +kernel⟩
abbrev s_l_bad : Stmt := (top 43)
theorem sc_l_bad : FnScope ["box", "words", "parents", "many", "wholes", "spoilt", "rows", "k", "row", "tree"] ["box", "words", "parents"] (defScope s_l_bad) := ⟨rfl, rfl, rfl, by decide +kernel, rfl, by decide +kernel, by decide +kernel⟩
abbrev s_l_alike : Stmt := (top 44)
theorem sc_l_alike : FnScope ["told", "due", "k"] ["told", "due"] (defScope s_l_alike) := ⟨rfl, rfl, rfl, by decide +kernel, rfl, by decide +kernel, by decide +kernel⟩
abbrev s_l_behind : Stmt := (top 45)
theorem sc_l_behind : FnScope ["words", "parents", "posts", "row", "word", "k"] ["words", "parents"] (defScope s_l_behind) := ⟨rfl, rfl, rfl, by decide +kernel, rfl, by decide +kernel, by decide +kernel⟩
abbrev s_l_mirrored : Stmt := (top 46)
theorem sc_l_mirrored : FnScope ["words", "parents", "rows", "k", "row"] ["words", "parents"] (defScope s_l_mirrored) := ⟨rfl, rfl, rfl, by decide +kernel, rfl, by decide +kernel, by decide +kernel⟩
abbrev s_l_other : Stmt := (top 47)
theorem sc_l_other : FnScope ["box", "words", "parents", "mode", "row", "shape", "k"] ["box", "words", "parents"] (defScope s_l_other) := ⟨rfl, rfl, rfl, by decide +kernel, rfl, by decide +kernel, by decide +kernel⟩
abbrev s_l_asked : Stmt := (top 48)
theorem sc_l_asked : FnScope ["which", "a", "b", "e"] ["which", "a", "b"] (defScope s_l_asked) := ⟨rfl, rfl, rfl, by decide +kernel, rfl, by decide +kernel, by decide +kernel⟩
abbrev s_l_by_name : Stmt := (top 49)
theorem sc_l_by_name : FnScope ["a", "b", "answers"] ["a", "b"] (defScope s_l_by_name) := ⟨rfl, rfl, rfl, by decide +kernel, rfl, by decide +kernel, by decide +kernel⟩
abbrev s_l_due : Stmt := (top 50)
theorem sc_l_due : FnScope ["first", "second", "words", "parents", "many", "depth", "one", "below", "due"] ["first", "second"] (defScope s_l_due) := ⟨rfl, rfl, rfl, by decide +kernel, rfl, by decide +kernel, by decide +kernel⟩
abbrev s_law : Stmt := (top 51)
theorem sc_law : FnScope ["script", "box", "far", "first", "second", "a", "b", "due", "which", "bad", "other"] ["script"] (defScope s_law) := ⟨rfl, rfl, rfl, by decide +kernel, rfl, by decide +kernel, by decide +kernel⟩
structure All (K : PySem.W.Frag) (mg : Str → Option Value) where
  is_word : DefAtC K mg "is_word" s_is_word ["value"]
  is_tuple_of : DefAt K mg "is_tuple_of" s_is_tuple_of ["value", "length"]
  listed : DefAt K mg "_listed" s_listed ["a"]
  node_words : DefAt K mg "node_words" s_node_words ["a"]
  node_parents : DefAt K mg "node_parents" s_node_parents ["a"]
  node_paths : DefAt K mg "node_paths" s_node_paths ["a"]
  node_depths : DefAt K mg "node_depths" s_node_depths ["a"]
  node_sizes : DefAt K mg "node_sizes" s_node_sizes ["a"]
  node_posts : DefAt K mg "node_posts" s_node_posts ["a"]
  in_postorder : DefAt K mg "in_postorder" s_in_postorder ["a", "values"]
  is_forest : DefAt K mg "is_forest" s_is_forest ["value"]
  need_forests : DefAtS K mg "need_forests" s_need_forests "values"
  forest_size : DefAt K mg "forest_size" s_forest_size ["a"]
  forest_depth : DefAt K mg "forest_depth" s_forest_depth ["a"]
  forest_words : DefAt K mg "forest_words" s_forest_words ["a"]
  words_behind : DefAt K mg "words_behind" s_words_behind ["a"]
  forest_joined : DefAt K mg "forest_joined" s_forest_joined ["a", "b"]
  forest_turned : DefAt K mg "forest_turned" s_forest_turned ["a"]
  turned : DefAt K mg "_turned" s_turned ["a"]
  forest_below : DefAt K mg "forest_below" s_forest_below ["a", "b"]
  forest_rank : DefAt K mg "forest_rank" s_forest_rank ["a"]
  l_cell : DefAt K mg "_law_cell" s_l_cell ["script", "k"]
  l_mix : DefAt K mg "_law_mix" s_l_mix ["cell", "salt"]
  l_box : DefAt K mg "_law_box" s_l_box ["script", "at"]
  l_draw : DefAt K mg "_law_draw" s_l_draw ["box", "many"]
  l_word : DefAt K mg "_law_word" s_l_word ["box"]
  l_parents : DefAt K mg "_law_parents" s_l_parents ["box", "many"]
  l_forest : DefAt K mg "_law_forest" s_l_forest ["words", "parents"]
  l_sizes : DefAt K mg "_law_sizes" s_l_sizes ["parents"]
  l_depths : DefAt K mg "_law_depths" s_l_depths ["parents"]
  l_posts : DefAt K mg "_law_posts" s_l_posts ["parents"]
  l_drawn : DefAt K mg "_law_drawn" s_l_drawn ["box"]
  l_bad_word : DefAt K mg "_law_bad_word" s_l_bad_word ["box"]
  l_bad_tree : DefAt K mg "_law_bad_tree" s_l_bad_tree ["box", "word", "children"]
  l_bad : DefAt K mg "_law_bad" s_l_bad ["box", "words", "parents"]
  l_alike : DefAt K mg "_law_alike" s_l_alike ["told", "due"]
  l_behind : DefAt K mg "_law_behind" s_l_behind ["words", "parents"]
  l_mirrored : DefAt K mg "_law_mirrored" s_l_mirrored ["words", "parents"]
  l_other : DefAt K mg "_law_other" s_l_other ["box", "words", "parents"]
  l_asked : DefAt K mg "_law_asked" s_l_asked ["which", "a", "b"]
  l_by_name : DefAt K mg "_law_by_name" s_l_by_name ["a", "b"]
  l_due : DefAt K mg "_law_due" s_l_due ["first", "second"]
  law : DefAt K mg "law" s_law ["script"]
  c_GraftError : ExcAt0 K mg "GraftError"
  c_InvalidForest : ExcAt K mg "InvalidForest" "InvalidForest.__init__" s_InvalidForest_init ["self", "value"] ["value"] c_GraftError.C
  k_LETTERS : ConstAt mg "LETTERS" (V.str (Str.ofString "abcdefghijklmnopqrstuvwxyz"))
  k_LONGEST_WORD : ConstAt mg "LONGEST_WORD" (V.int 8)
  oc : ObjCls K
  tP : Addr
  tab : PySem.W.tabIn K "is_word" = some (is_word.c, tP)
  tN : K.lookup tP = none
  n_ValueError : mg "ValueError" = none
  n_all : mg "all" = none
  n_tuple : mg "tuple" = none
  n_reversed : mg "reversed" = none
  n_zip : mg "zip" = none
  n_len : mg "len" = none
  n_max : mg "max" = none
  n_range : mg "range" = none
  n_isinstance : mg "isinstance" = none
  n_bool : mg "bool" = none
  n_str : mg "str" = none
  n_list : mg "list" = none
  n_int : mg "int" = none
end Ly
namespace Ly
open PySem PySem.Spec PyProof.Rows L2
local macro_rules | `(tactic| walk_at "vc") => `(tactic| simp only [tSeq, tAsg, tOp, tVar, tC, tRet, tRetN, tNext, tIfS, tIf, tDrop, tB, tTest, tNot, tAnd, tOr, tAndV, tOrV, tNotV, tChain, tUn, tCB, tCons, tNil, tTup, tLst, tSl, tPart, tNoPart, tCall, tBreak, tCont,
  rI, rI0, rU, gName, gNil_nil, gCons_cons, gSub, rSetL, L2.start, cx_K, cx_nox, tLc_eq, tFor_eq, iRng1, iRng2, iList, iTup, tM1, tYes, wipe, rIxS, rIxL, rIxT, rCat, rSlL, rEq, rNe, rPop, rAppend, tBM, tBM0, tMkO_eq, tVal_eq, tFldE_eq, tXfE_eq, tCallS, lenV_ref, iRevR, tRg1, RT.iRevA, RZ.iZipA, tDGet, sDPut, tDNewK, tAugS, ipI, tMaxD, tCallK0, rRep, rExtend, CDiv, CDivW, CPow, CMulX,
  List.map_cons, List.map_nil, List.cons_append, List.nil_append, List.append_nil, List.length_cons, List.length_nil, List.replicate, List.getElem?_cons_zero, List.getElem?_cons_succ, List.set_cons_zero, List.set_cons_succ, Nat.reduceSub, Nat.reduceAdd,
  Option.some.injEq, V.int.injEq, V.bl.injEq, V.str.injEq, V.ref.injEq, exists_eq_left', exists_eq_left, exists_and_left, reduceCtorEq, false_and, and_false, exists_false, or_false, false_or, Bool.false_eq_true, if_false, if_true, reduceIte, decide_eq_true_eq, List.cons.injEq, and_true, true_and])
section
variable {P : Program} {w : World} {K : PySem.W.Frag} {mg : Str → Option Value} {base : Heap}
/-! ### _law_cell -/
def cellOf (ns : List Int) (k : Nat) : Int := ns.getD k 0
def sp_cell (K : PySem.W.Frag) : Sp := fun vs H Q _ => ∃ (a : Addr) (ns : List Int) (k : Nat), vs = [.ref a, .int (k : Int)] ∧ SqL K H a (ns.map V.int) ∧ Q (.int (cellOf ns k)) H
theorem ok_l_cell (A : All K mg) : FnOk P w K mg base CX0 1 A.l_cell.f A.l_cell.fd ["script", "k"] (sp_cell K) := by
  refine A.l_cell.F.ok sc_l_cell (fun vs H Q E h => ?_) (fun cdv B outer s H vs Q E hr h => ?_)
  · obtain ⟨a, ns, k, rfl, _⟩ := h
    rfl
  · obtain ⟨a, ns, k, rfl, hs, q⟩ := h
    refine ⟨_, (pss_cons (ps_if (pt_cmpR op_lt (pv 1) (pe_callB (r := fun xs H Q => ∃ x n, xs = [x] ∧ LenV K x H n ∧ Q (V.int n) H) call_len (by rfl) A.n_len PySem.boot_len (pa_cons (pv 0) pa_nil)) (nomark _)) (pss_one (ps_ret (pe_ix (r := rIx K) ix_seq (pv 0) (pv 1) (fun _ _ => rfl)))) pss_nil) (pss_one (ps_ret pe_int))), ?_⟩
    walk_at "vc"
    refine ⟨_, .inl ⟨_, hs, rfl⟩, ?_⟩
    rw [List.length_map]
    refine ite2 (fun c => ?_) (fun c => ?_)
    · refine .inl ⟨a, _, _, _, rfl, rfl, hs, atI_nat (by rw [List.getElem?_map, List.getElem?_eq_getElem (show k < ns.length by omega)]; rfl), ?_⟩
      unfold cellOf at q
      rw [List.getD_eq_getElem?_getD, List.getElem?_eq_getElem (show k < ns.length by omega)] at q
      exact q
    · unfold cellOf at q
      rw [List.getD_eq_getElem?_getD, List.getElem?_eq_none (show ns.length ≤ k by omega)] at q
      exact q
/-! ### _law_mix -/
def sp_mix : Sp := fun vs H Q _ => ∃ (c s : Int), vs = [.int c, .int s] ∧ c.natAbs.log2 ≤ 1048700 ∧ s.natAbs.log2 ≤ 1048700 ∧ ∀ r : Int, 0 ≤ r → Q (.int r) H
theorem ok_l_mix (A : All K mg) : FnOk P w K mg base CX0 1 A.l_mix.f A.l_mix.fd ["cell", "salt"] sp_mix := by
  refine A.l_mix.F.ok sc_l_mix (fun vs H Q E h => ?_) (fun cdv B outer s H vs Q E hr h => ?_)
  · obtain ⟨c, z, rfl, _⟩ := h
    rfl
  · obtain ⟨c, z, rfl, hc, hz, q⟩ := h
    refine ⟨_, (pss_cons (ps_set (i := 2) sc_l_mix.nd rfl (by first | exact Or.inl rfl | exact Or.inr rfl) (pe_op op_mod (pe_callTy call_int1 (by rfl) A.n_int (by decide +kernel) (pa_cons (pe_op op_add (pe_op op_add (pe_op op_mulX (pv 0) pe_int) (pe_op op_mulX (pv 1) pe_int)) pe_int) pa_nil)) pe_int)) (pss_one (ps_ret (pe_op op_mod (pe_callTy call_int1 (by rfl) A.n_int (by decide +kernel) (pa_cons (pe_op op_add (pe_op op_add (pe_op op_mulX (pv 2) (pv 2)) (pe_op op_mulX (pv 2) pe_int)) (pe_op op_mulX (pv 1) pe_int)) pa_nil)) pe_int)))), ?_⟩
    walk_at "vc"
    have e1 : (Int.natAbs 48271).log2 < 64 := lg64 (by decide)
    have e2 : (Int.natAbs 69621).log2 < 64 := lg64 (by decide)
    have e3 : (Int.natAbs 16807).log2 < 64 := lg64 (by decide)
    have e4 : (Int.natAbs 7919).log2 < 64 := lg64 (by decide)
    have m1 : 0 ≤ (c * 48271 + z * 69621 + 12345) % 2147483647 := Int.emod_nonneg _ (by decide)
    have m2 : (c * 48271 + z * 69621 + 12345) % 2147483647 < 2147483647 := Int.emod_lt_of_pos _ (by decide)
    generalize (c * 48271 + z * 69621 + 12345) % 2147483647 = y at m1 m2
    have e5 : y.natAbs.log2 < 64 := lg64 (by omega)
    exact ⟨by omega, by omega, by decide, by omega, by omega, by omega, by decide, q _ (Int.emod_nonneg _ (by decide))⟩
/-! ### _law_box -/
def sp_box (K : PySem.W.Frag) : Sp := fun vs H Q _ => ∃ (a : Addr) (ns : List Int) (k : Nat), vs = [.ref a, .int (k : Int)] ∧ SqL K H a (ns.map V.int) ∧ (∀ z ∈ ns, Builtin.Int.intBits z ≤ 1048576) ∧
  ∀ p b c z, H p = none → BoxV 0 b c z → Q (.ref p) (upd H p (boxL b c z))
theorem ok_l_box (A : All K mg) : FnOk P w K mg base CX0 2 A.l_box.f A.l_box.fd ["script", "at"] (sp_box K) := by
  have G_l_cell := ok_l_cell (P := P) (w := w) (base := base) A
  refine A.l_box.F.ok sc_l_box (fun vs H Q E h => ?_) (fun cdv B outer s H vs Q E hr h => ?_)
  · obtain ⟨a, ns, k, rfl, _⟩ := h
    rfl
  · obtain ⟨a, ns, k, rfl, hs, hb, q⟩ := h
    refine ⟨_, (pss_cons (ps_set (i := 2) sc_l_box.nd rfl (by first | exact Or.inl rfl | exact Or.inr rfl) (pe_call G_l_cell (hr.mono (by decide)) rfl A.l_cell.m A.l_cell.kp A.l_cell.b .nil pass0 (pa_cons (pv 0) (pa_cons (pv 1) pa_nil)))) (pss_one (ps_ret (pe_lst (pa_cons (pe_callB (call_max2 rfl) (by rfl) A.n_max (by decide +kernel) (pa_cons pe_int (pa_cons (pe_op op_sub (pv 2) (pe_op op_pow pe_int pe_int)) pa_nil))) (pa_cons pe_int (pa_cons (pv 2) pa_nil))))))), ?_⟩
    walk_at "vc"
    refine ⟨a, ns, k, rfl, hs, ⟨by decide, by decide, by decide⟩, cellOf ns k, rfl, 0, _, ⟨rfl, rfl⟩, by decide, fun p hp => ?_⟩
    have hc : (cellOf ns k).natAbs.log2 ≤ 1048576 := by
      unfold cellOf
      rw [List.getD_eq_getElem?_getD]
      cases e : ns[k]? with
      | none => simp
      | some y => exact intBits_log2 _ (hb y (List.mem_of_getElem? e))
    refine q p _ _ _ hp ⟨?_, ?_, by decide, by decide, by omega⟩
    · split <;> omega
    · split
      · exact Nat.le_trans (log2_le_of (show (cellOf ns k - 10 ^ Int.toNat 18).natAbs ≤ (cellOf ns k).natAbs by have : (10 : Int) ^ Int.toNat 18 = 1000000000000000000 := by decide
                                                                                                                omega)) (by omega)
      · simp
/-! ### _law_draw -/
def sp_draw : Sp := fun vs H Q _ => ∃ (p : Addr) (m : Int) (n : Nat), vs = [.ref p, .int m] ∧ 0 < m ∧ m < 2 ^ 40 ∧ BoxAt H p n ∧ n ≤ 1000000000 ∧
  ∀ d b c z, 0 ≤ d → d < m → BoxV (n + 1) b c z → Q (.int d) (upd H p (boxL b c z))
theorem ok_l_draw (A : All K mg) : FnOk P w K mg base CX0 2 A.l_draw.f A.l_draw.fd ["box", "many"] sp_draw := by
  have G_l_mix := ok_l_mix (P := P) (w := w) (base := base) A
  refine A.l_draw.F.ok sc_l_draw (fun vs H Q E h => ?_) (fun cdv B outer s H vs Q E hr h => ?_)
  · obtain ⟨p, m, n, rfl, _⟩ := h
    rfl
  · obtain ⟨p, m, n, rfl, m0, m1, ⟨b, c, z, hp, hv⟩, hn, q⟩ := h
    refine ⟨_, (pss_cons (ps_if (pt_cmpR op_gt (pe_ix (r := rIx K) ix_seq (pv 0) pe_int (fun _ _ => rfl)) pe_int (nomark _)) (pss_cons (ps_set (i := 2) sc_l_draw.nd rfl (by first | exact Or.inl rfl | exact Or.inr rfl) (pe_op op_mod (pe_callTy call_int1 (by rfl) A.n_int (by decide +kernel) (pa_cons (pe_ix (r := rIx K) ix_seq (pv 0) pe_int (fun _ _ => rfl)) pa_nil)) (pv 1))) (pss_cons (ps_asg (pe_op op_fdivW (pe_ix (r := rIx K) ix_seq (pv 0) pe_int (fun _ _ => rfl)) (pv 1)) (pg_sub (pv 0) pe_int set_list)) (pss_one (ps_ret (pv 2))))) pss_nil) (pss_cons (ps_asg (pe_op op_add (pe_ix (r := rIx K) ix_seq (pv 0) pe_int (fun _ _ => rfl)) pe_int) (pg_sub (pv 0) pe_int set_list)) (pss_one (ps_ret (pe_op op_mod (pe_callTy call_int1 (by rfl) A.n_int (by decide +kernel) (pa_cons (pe_call G_l_mix (hr.mono (by decide)) rfl A.l_mix.m A.l_mix.kp A.l_mix.b .nil pass0 (pa_cons (pe_ix (r := rIx K) ix_seq (pv 0) pe_int (fun _ _ => rfl)) (pa_cons (pe_ix (r := rIx K) ix_seq (pv 0) pe_int (fun _ _ => rfl)) pa_nil))) pa_nil)) (pv 1)))))), ?_⟩
    walk_at "vc"
    refine rIx_l (SqL.of hp) rfl ?_
    refine ⟨b, rfl, ite2 (fun hb => ?_) (fun hb => ?_)⟩
    · refine rIx_l (SqL.of hp) rfl (.inl ⟨b, rfl, m0, rIx_l (SqL.of hp) rfl ⟨b, rfl, ⟨m0, ?_⟩, _, hp, 0, rfl, ?_⟩⟩)
      · exact Nat.lt_of_lt_of_le (log2_small (k := 40) (by omega) (by decide)) (by decide)
      · refine q _ _ c z (Int.emod_nonneg _ (by omega)) (Int.emod_lt_of_pos _ m0) ⟨Int.ediv_nonneg hv.b0 (by omega), ?_, hv.c0, Int.le_trans hv.cn (by omega), hv.zs⟩
        have h1 : b / m ≤ b := Int.ediv_le_self _ hv.b0
        have h0 : 0 ≤ b / m := Int.ediv_nonneg hv.b0 (by omega)
        exact Nat.le_trans (log2_le_of (by omega)) hv.bs
    · have hv' : BoxV (n + 1) b (c + 1) z := ⟨hv.b0, hv.bs, by have := hv.c0; omega, by have := hv.cn; omega, hv.zs⟩
      have hp' : (upd H p (boxL b (c + 1) z)) p = some (boxL b (c + 1) z) := upd_same
      refine rIx_l (SqL.of hp) rfl ⟨c, rfl, _, hp, 1, rfl, ?_⟩
      refine rIx_l (SqL.of hp') rfl (rIx_l (SqL.of hp') rfl ⟨z, c + 1, rfl, hv.zs, ?_, fun r hr0 => .inl ⟨r, rfl, m0, ?_⟩⟩)
      · have h1 := hv.c0
        have h2 := hv.cn
        exact Nat.le_trans (Nat.le_of_lt (lg64 (by omega))) (by decide)
      · exact q _ _ _ _ (Int.emod_nonneg _ (by omega)) (Int.emod_lt_of_pos _ m0) hv'
end
end Ly
namespace Ly
open PySem PySem.Spec PyProof.Rows L2
open TL (joinL tl tl_join join_eq len_tl)
local macro_rules | `(tactic| walk_at "vc") => `(tactic| simp only [tSeq, tAsg, tOp, tVar, tC, tRet, tRetN, tNext, tIfS, tIf, tDrop, tB, tTest, tNot, tAnd, tOr, tAndV, tOrV, tNotV, tChain, tUn, tCB, tCons, tNil, tTup, tLst, tSl, tPart, tNoPart, tCall, tBreak, tCont,
  rI, rI0, rU, gName, gNil_nil, gCons_cons, gSub, rSetL, L2.start, cx_K, cx_nox, tLc_eq, tFor_eq, iRng1, iRng2, iList, iTup, tM1, tYes, wipe, rIxS, rIxL, rIxT, rCat, rSlL, rEq, rNe, rPop, rAppend, tBM, tBM0, tMkO_eq, tVal_eq, tFldE_eq, tXfE_eq, tCallS, lenV_ref, iRevR, tRg1, RT.iRevA, RZ.iZipA, tDGet, sDPut, tDNewK, tAugS, ipI, tMaxD, tCallK0, rRep, rExtend, CDiv, CDivW, CPow, CMulX,
  List.map_cons, List.map_nil, List.cons_append, List.nil_append, List.append_nil, List.length_cons, List.length_nil, List.replicate, List.getElem?_cons_zero, List.getElem?_cons_succ, List.set_cons_zero, List.set_cons_succ, Nat.reduceSub, Nat.reduceAdd,
  Option.some.injEq, V.int.injEq, V.bl.injEq, V.str.injEq, V.ref.injEq, exists_eq_left', exists_eq_left, exists_and_left, reduceCtorEq, false_and, and_false, exists_false, or_false, false_or, Bool.false_eq_true, if_false, if_true, reduceIte, decide_eq_true_eq, List.cons.injEq, and_true, true_and])
section
variable {P : Program} {w : World} {K : PySem.W.Frag} {mg : Str → Option Value} {base : Heap}
/-! ### _law_word -/
structure IsW (x : Str) : Prop where
  pos : 1 ≤ x.length
  len : x.length ≤ 8
  abc : ∀ c ∈ x.cps.toList, 97 ≤ c ∧ c ≤ 122
def sp_word : Sp := fun vs H Q _ => ∃ (p : Addr) (n : Nat), vs = [.ref p] ∧ BoxAt H p n ∧ n ≤ 900000000 ∧
  ∀ x H', IsW x → Step p H H' → BoxAt H' p (n + 10) → Q (.str x) H'
theorem draw_go {H : Hp} {p : Addr} {m : Int} {n : Nat} {Q : VK} {E : XK} (hb : BoxAt H p n) (m0 : 0 < m) (m1 : m < 2 ^ 40) (hn : n ≤ 1000000000) (q : ∀ d H', 0 ≤ d → d < m → Step p H H' → BoxAt H' p (n + 1) → Q (.int d) H') : sp_draw [.ref p, .int m] H Q E :=
  ⟨p, m, n, rfl, m0, m1, hb, hn, fun d b c z h0 h1 hv => q d _ h0 h1 Step.box ⟨b, c, z, upd_same, hv⟩⟩
theorem abc26 : ∀ k : Fin 26, atI (Str.ofString "abcdefghijklmnopqrstuvwxyz").cps.toList ((k.val : Nat) : Int) = some (97 + k.val) := by decide +kernel
theorem abc26' {d : Int} (h0 : 0 ≤ d) (h1 : d < 26) : atI (Str.ofString "abcdefghijklmnopqrstuvwxyz").cps.toList d = some (97 + d.toNat) := by
  have := abc26 ⟨d.toNat, by omega⟩
  rwa [show (((⟨d.toNat, by omega⟩ : Fin 26).val : Nat) : Int) = d by show ((d.toNat : Nat) : Int) = d; omega] at this
theorem abc3 {d : Int} (h0 : 0 ≤ d) (h1 : d < 3) : atI (Str.ofString "abc").cps.toList d = some (97 + d.toNat) := by
  have key : ∀ k : Fin 3, atI (Str.ofString "abc").cps.toList ((k.val : Nat) : Int) = some (97 + k.val) := by decide +kernel
  have := key ⟨d.toNat, by omega⟩
  rwa [show (((⟨d.toNat, by omega⟩ : Fin 3).val : Nat) : Int) = d by show ((d.toNat : Nat) : Int) = d; omega] at this
theorem joinL_nil : ∀ l : List (List Nat), joinL [] l = l.flatten
  | [] => rfl
  | [a] => by simp [joinL]
  | a :: b :: r => by
    rw [show joinL [] (a :: b :: r) = a ++ ([] ++ joinL [] (b :: r)) from rfl, joinL_nil (b :: r)]
    simp
/-- one sign -/
def Sgn (x : Str) : Prop := ∃ c : Nat, x = ⟨#[c]⟩ ∧ 97 ≤ c ∧ c ≤ 122
theorem joined {l : List Str} (h : ∀ x ∈ l, Sgn x) : (tl (Txt.join (Str.ofString "") l)).length = l.length ∧ ∀ c ∈ tl (Txt.join (Str.ofString "") l), 97 ≤ c ∧ c ≤ 122 := by
  rw [join_eq, tl_join, show tl (Str.ofString "") = [] by decide +kernel, joinL_nil]
  induction l with
  | nil => simp
  | cons x r ih =>
    obtain ⟨c, rfl, h1, h2⟩ := h x List.mem_cons_self
    obtain ⟨i1, i2⟩ := ih fun y hy => h y (List.mem_cons_of_mem _ hy)
    refine ⟨?_, ?_⟩
    · rw [List.map_cons, List.flatten_cons, List.length_append, i1]
      simp [tl]
      omega
    · intro d hd
      rw [List.map_cons, List.flatten_cons, List.mem_append] at hd
      rcases hd with hd | hd
      · have : d = c := by simpa [tl] using hd
        subst this
        exact ⟨h1, h2⟩
      · exact i2 d hd
theorem sgn_sum {l : List Str} (h : ∀ x ∈ l, Sgn x) : (l.map (·.length)).sum = l.length := by
  induction l with
  | nil => rfl
  | cons x r ih =>
    obtain ⟨c, rfl, _⟩ := h x List.mem_cons_self
    rw [List.map_cons, List.sum_cons, ih fun y hy => h y (List.mem_cons_of_mem _ hy)]
    simp [Str.length]
    omega
theorem ok_l_word (A : All K mg) : FnOk P w K mg base CX0 3 A.l_word.f A.l_word.fd ["box"] sp_word := by
  have G_l_draw := ok_l_draw (P := P) (w := w) (base := base) A
  refine A.l_word.F.ok sc_l_word (fun vs H Q E h => ?_) (fun cdv B outer s H vs Q E hr h => ?_)
  · obtain ⟨p, n, rfl, _⟩ := h
    rfl
  · obtain ⟨p, n, rfl, hb, hn, q⟩ := h
    refine ⟨_, (pss_cons (ps_if (pt_cmpR op_gt (pe_call G_l_draw (hr.mono (by decide)) rfl A.l_draw.m A.l_draw.kp A.l_draw.b .nil pass0 (pa_cons (pv 0) (pa_cons pe_int pa_nil))) pe_int (nomark _)) (pss_one (ps_ret (pe_ix (r := rIxS) ix_str pe_str (pe_call G_l_draw (hr.mono (by decide)) rfl A.l_draw.m A.l_draw.kp A.l_draw.b .nil pass0 (pa_cons (pv 0) (pa_cons pe_int pa_nil))) (fun _ _ => rfl)))) pss_nil) (pss_cons (ps_set (i := 1) sc_l_word.nd rfl (by first | exact Or.inl rfl | exact Or.inr rfl) (pe_op op_add pe_int (pe_call G_l_draw (hr.mono (by decide)) rfl A.l_draw.m A.l_draw.kp A.l_draw.b .nil pass0 (pa_cons (pv 0) (pa_cons pe_int pa_nil))))) (pss_one (ps_ret (pe_join pe_str (pe_lc (own := [("k", 2)]) (g := gName 2) rfl sc_l_word.nd (pi_range1 rfl A.n_range (pa_cons (pv 1) pa_nil)) (blkOk_by (own := [("k", 2)]) (N := ["box", "size", "k"]) (sc := defScope s_l_word) (by decide +kernel)) (fun _ _ _ _ _ => pg_name (i := 2) sc_l_word.nd rfl (Or.inl rfl)) (fun _ _ _ _ _ => pts_nil) (fun _ _ _ _ _ => (pe_ix (r := rIxS) ix_str pe_str (pe_call G_l_draw (hr.mono (by decide)) rfl A.l_draw.m A.l_draw.kp A.l_draw.b .nil pass0 (pa_cons (pv 0) (pa_cons pe_int pa_nil))) (fun _ _ => rfl))))))))), ?_⟩
    walk_at "vc"
    refine draw_go hb (by decide) (by decide) (by omega) fun d H1 d0 d1 s1 b1 => ?_
    refine ⟨d, rfl, ite2 (fun c => ?_) (fun c => ?_)⟩
    · refine draw_go b1 (by decide) (by decide) (by omega) fun i H2 i0 i1 s2 b2 => ⟨i, rfl, by decide, _, abc3 i0 i1, ?_⟩
      refine q _ _ ⟨Nat.le_refl 1, (by decide : 1 ≤ 8), fun c hc => ?_⟩ (s1.trans s2) (b2.mono (by omega))
      have : c = 97 + i.toNat := by simpa using hc
      omega
    · refine draw_go b1 (by decide) (by decide) (by omega) fun i H2 i0 i1 s2 b2 => ⟨i, rfl, ⟨_, rfl⟩, by omega, by omega, fun D hD => ?_⟩
      refine LcB.range (fun k H' => ∃ acc : List Str, H' D = some (.lst (acc.map V.str)) ∧ acc.length = k ∧ (∀ x ∈ acc, Sgn x) ∧ Step p H2 H' ∧ BoxAt H' p (n + 2 + k)) ?_ ?_ ?_
      · have hpD : p ≠ D := fun z => by obtain ⟨_, _, _, e, _⟩ := b2; rw [z, hD] at e; cases e
        exact ⟨[], upd_same, rfl, fun x hx => by simp at hx, Step.new hD, by obtain ⟨b, c, z, e, v⟩ := b2; exact ⟨b, c, z, by rw [upd_ne hpD]; exact e, v⟩⟩
      · rintro k H3 hk ⟨acc, hD3, hl, hs, s3, b3⟩
        walk_at "vc"
        refine draw_go b3 (by decide) (by decide) (by omega) fun j H4 j0 j1 s4 b4 => ⟨j, rfl, by decide, _, abc26' j0 j1, ?_⟩
        have hpD : D ≠ p := fun z => by obtain ⟨_, _, _, e, _⟩ := b2; rw [← z, hD] at e; cases e
        have hD4 : H4 D = some (.lst (acc.map V.str)) := s4.keep _ _ hpD hD3
        refine ⟨_, hD4, ?_, acc ++ [⟨#[97 + j.toNat]⟩], ?_, ?_, ?_, (s3.trans s4).mut hD, ?_⟩
        · rw [List.length_map]
          exact Nat.lt_of_lt_of_le (show acc.length < 100 by omega) (by decide)
        · rw [upd_same, List.map_append]
          rfl
        · rw [List.length_append, hl]
          rfl
        · intro x hx
          rcases List.mem_append.mp hx with hx | hx
          · exact hs x hx
          · obtain rfl : x = ⟨#[97 + j.toNat]⟩ := by simpa using hx
            exact ⟨_, rfl, by omega, by omega⟩
        · obtain ⟨b, c, z, e, v⟩ := b4
          exact ⟨b, c, z, by rw [upd_ne (Ne.symm hpD)]; exact e, v.mono (by omega)⟩
      · rintro H3 ⟨acc, hD3, hl, hs, s3, b3⟩
        obtain ⟨j1, j2⟩ := joined hs
        refine ⟨D, rfl, acc, .inl (SqL.of hD3), ?_, q _ _ ⟨?_, ?_, j2⟩ ((s1.trans s2).trans s3) (b3.mono (by omega))⟩
        · rw [sgn_sum hs, show (Str.ofString "").length = 0 by decide]
          omega
        · rw [len_tl, j1]
          omega
        · rw [len_tl, j1]
          omega
end
end Ly
namespace Ly
open PySem PySem.Spec PyProof.Rows L2
local macro_rules | `(tactic| walk_at "vc") => `(tactic| simp only [tSeq, tAsg, tOp, tVar, tC, tRet, tRetN, tNext, tIfS, tIf, tDrop, tB, tTest, tNot, tAnd, tOr, tAndV, tOrV, tNotV, tChain, tUn, tCB, tCons, tNil, tTup, tLst, tSl, tPart, tNoPart, tCall, tBreak, tCont,
  rI, rI0, rU, gName, gNil_nil, gCons_cons, gSub, rSetL, L2.start, cx_K, cx_nox, tLc_eq, tFor_eq, iRng1, iRng2, iList, iTup, tM1, tYes, wipe, rIxS, rIxL, rIxT, rCat, rSlL, rEq, rNe, rPop, rAppend, tBM, tBM0, tMkO_eq, tVal_eq, tFldE_eq, tXfE_eq, tCallS, lenV_ref, iRevR, tRg1, RT.iRevA, RZ.iZipA, tDGet, sDPut, tDNewK, tAugS, ipI, tMaxD, tCallK0, rRep, rExtend, CDiv, CDivW, CPow, CMulX,
  List.map_cons, List.map_nil, List.cons_append, List.nil_append, List.append_nil, List.length_cons, List.length_nil, List.replicate, List.getElem?_cons_zero, List.getElem?_cons_succ, List.set_cons_zero, List.set_cons_succ, Nat.reduceSub, Nat.reduceAdd,
  Option.some.injEq, V.int.injEq, V.bl.injEq, V.str.injEq, V.ref.injEq, exists_eq_left', exists_eq_left, exists_and_left, reduceCtorEq, false_and, and_false, exists_false, or_false, false_or, Bool.false_eq_true, if_false, if_true, reduceIte, decide_eq_true_eq, List.cons.injEq, and_true, true_and])
section
variable {P : Program} {w : World} {K : PySem.W.Frag} {mg : Str → Option Value} {base : Heap}
/-! ### _law_alike -/
def Shp : Nat → PyData → Prop
  | 0, _ => False
  | _ + 1, .none => True
  | _ + 1, .bool _ => True
  | _ + 1, .int _ => True
  | _ + 1, .str _ => True
  | n + 1, .list ds => ds.length ≤ 1000 ∧ ∀ d ∈ ds, Shp n d
  | n + 1, .tuple ds => ds.length ≤ 1000 ∧ ∀ d ∈ ds, Shp n d
  | _ + 1, .dict _ => False
def tyD : PyData → String
  | .none => "NoneType"
  | .bool _ => "bool"
  | .int _ => "int"
  | .str _ => "str"
  | .list _ => "list"
  | .tuple _ => "tuple"
  | .dict _ => "dict"
theorem tyL {H : Hp} {a : Addr} {xs : List V} (h : SqL K H a xs) : TyX K H (.ref a) (.type "list") := by
  rcases h with (h | ⟨o, h⟩) | ⟨o, its, n, hk, hc, _⟩
  · exact .base (.lst h)
  · exact .base (.frz h)
  · exact .kList hk hc
theorem tyT {H : Hp} {a : Addr} {xs : List V} (h : SqT K H a xs) : TyX K H (.ref a) (.type "tuple") := by
  rcases h with (h | ⟨o, h⟩) | ⟨o, its, n, hk, hc, _⟩
  · exact .base (.tup h)
  · exact .fTuple h
  · exact .kTuple hk hc
theorem Dp.ty {H : Hp} {v : V} {d : PyData} (h : Dp K H v d) : TyX K H v (.type (tyD d)) := by
  cases h with
  | non => exact .base .non
  | bl b => exact .base (.bl b)
  | int i => exact .base (.int i)
  | str x => exact .base (.str x)
  | lst a _ => exact tyL a
  | tup a _ => exact tyT a
theorem isi_go {H : Hp} {v : V} {a b : String} {r : Bool} {Q : VK} (t : TyX K H v (.type a)) (k : kitB a b = some r) (q : Q (.bl r) H) : rIsi K [v, .ty b] H Q := ⟨v, .ty b, .type a, .type b, r, rfl, .ty b, t, kit_ty k, q⟩
def kitL (a : String) : List String → Option Bool
  | [] => some false
  | b :: r => match kitB a b with
    | some true => some true
    | some false => kitL a r
    | none => none
theorem kitL_any {a : String} : ∀ {bs : List String} {r : Bool}, kitL a bs = some r → PySem.W.kitAny K (.type a) (bs.map Value.type) = some r
  | [], r, h => by cases h; rfl
  | b :: bs, r, h => by
    unfold kitL at h
    split at h
    · rename_i q
      cases h
      exact kitAny_cons (kit_ty q) (fun z => nomatch z) (fun _ => rfl)
    · rename_i q
      exact kitAny_cons (kit_ty q) (fun _ => kitL_any h) (fun z => nomatch z)
    · cases h
theorem clsv_all : ∀ {bs : List String}, Paired ClsV (bs.map V.ty) (bs.map Value.type)
  | [] => .nil
  | _ :: _ => .cons (.ty _) clsv_all
theorem isiT_go {H : Hp} {v : V} {a : String} {bs : List String} {r : Bool} {tp : Addr} {Q : VK} (t : TyX K H v (.type a)) (ht : H tp = some (.tup (bs.map V.ty))) (k : kitL a bs = some r) (q : Q (.bl r) H) : rIsiT K [v, .ref tp] H Q :=
  ⟨v, tp, bs.map V.ty, .type a, bs.map Value.type, r, rfl, ht, clsv_all, t, kitL_any k, q⟩
def sp_alike (K : PySem.W.Frag) (n : Nat) : Sp := fun vs H Q _ => ∃ (v u : V) (d : PyData), vs = [v, u] ∧ Dp K H v d ∧ Dp K H u d ∧ Shp n d ∧ ∀ H', Same H H' → Q (.bl true) H'
theorem ok_l_alike_n (A : All K mg) : ∀ n, FnOk P w K mg base CX0 n A.l_alike.f A.l_alike.fd ["told", "due"] (sp_alike K n)
  | 0 => ⟨fun vs H Q E ⟨_, _, _, _, _, _, h, _⟩ => h.elim, fun _ _ _ _ _ _ _ _ _ _ _ _ _ ⟨_, _, _, _, _, _, h, _⟩ => h.elim⟩
  | n + 1 => by
    have G_l_alike := ok_l_alike_n A n
    refine A.l_alike.F.ok sc_l_alike (fun vs H Q E h => ?_) (fun cdv B outer s H vs Q E hr h => ?_)
    · obtain ⟨v, u, d, rfl, _⟩ := h
      rfl
    · obtain ⟨v, u, d, rfl, hv, hu, hd, q⟩ := h
      refine ⟨_, (pss_cons (ps_if (pt_val (pe_callB call_isiT (by rfl) A.n_isinstance (by decide +kernel) (pa_cons (pv 1) (pa_cons (pe_tup (pa_cons (pe_bltn (v := V.ty "tuple") (u := Value.type "tuple") (by rfl) A.n_tuple (by decide +kernel) rfl) (pa_cons (pe_bltn (v := V.ty "list") (u := Value.type "list") (by rfl) A.n_list (by decide +kernel) rfl) pa_nil))) pa_nil)))) (pss_cons (ps_if (PW.pt (pw_or (pt_cmpR op_ne (pe_callB call_isi (by rfl) A.n_isinstance (by decide +kernel) (pa_cons (pv 0) (pa_cons (pe_bltn (v := V.ty "tuple") (u := Value.type "tuple") (by rfl) A.n_tuple (by decide +kernel) rfl) pa_nil))) (pe_callB call_isi (by rfl) A.n_isinstance (by decide +kernel) (pa_cons (pv 1) (pa_cons (pe_bltn (v := V.ty "tuple") (u := Value.type "tuple") (by rfl) A.n_tuple (by decide +kernel) rfl) pa_nil))) (nomark _)) (pw_or1 (pt_cmpR op_ne (pe_callB call_isi (by rfl) A.n_isinstance (by decide +kernel) (pa_cons (pv 0) (pa_cons (pe_bltn (v := V.ty "list") (u := Value.type "list") (by rfl) A.n_list (by decide +kernel) rfl) pa_nil))) (pe_callB call_isi (by rfl) A.n_isinstance (by decide +kernel) (pa_cons (pv 1) (pa_cons (pe_bltn (v := V.ty "list") (u := Value.type "list") (by rfl) A.n_list (by decide +kernel) rfl) pa_nil))) (nomark _))))) (pss_one (ps_ret pe_bl)) pss_nil) (pss_cons (ps_if (pt_cmpR op_ne (pe_callB (r := fun xs H Q => ∃ x n, xs = [x] ∧ LenV K x H n ∧ Q (V.int n) H) call_len (by rfl) A.n_len PySem.boot_len (pa_cons (pv 0) pa_nil)) (pe_callB (r := fun xs H Q => ∃ x n, xs = [x] ∧ LenV K x H n ∧ Q (V.int n) H) call_len (by rfl) A.n_len PySem.boot_len (pa_cons (pv 1) pa_nil)) (nomark _)) (pss_one (ps_ret pe_bl)) pss_nil) (pss_cons (ps_for PassesOwn.never rfl (pi_range1 rfl A.n_range (pa_cons (pe_callB (r := fun xs H Q => ∃ x n, xs = [x] ∧ LenV K x H n ∧ Q (V.int n) H) call_len (by rfl) A.n_len PySem.boot_len (pa_cons (pv 1) pa_nil)) pa_nil)) (pg_name (i := 2) sc_l_alike.nd rfl (by first | exact Or.inl rfl | exact Or.inr rfl)) (pss_one (ps_if (pt_not (pt_val (pe_call G_l_alike hr rfl A.l_alike.m A.l_alike.kp A.l_alike.b .nil pass0 (pa_cons (pe_ix (r := rIx K) ix_seq (pv 0) (pv 2) (fun _ _ => rfl)) (pa_cons (pe_ix (r := rIx K) ix_seq (pv 1) (pv 2) (fun _ _ => rfl)) pa_nil))))) (pss_one (ps_ret pe_bl)) pss_nil))) (pss_one (ps_ret pe_bl))))) pss_nil) (pss_cons (ps_if (pt_cmpR op_isN (pv 1) pe_non (nomark _)) (pss_one (ps_ret (pe_cmpR op_isN (pv 0) pe_non (nomark _)))) pss_nil) (pss_cons (ps_if (pt_val (pe_callB call_isi (by rfl) A.n_isinstance (by decide +kernel) (pa_cons (pv 1) (pa_cons (pe_bltn (v := V.ty "bool") (u := Value.type "bool") (by rfl) A.n_bool (by decide +kernel) rfl) pa_nil)))) (pss_one (ps_ret (pe_and (pe_callB call_isi (by rfl) A.n_isinstance (by decide +kernel) (pa_cons (pv 0) (pa_cons (pe_bltn (v := V.ty "bool") (u := Value.type "bool") (by rfl) A.n_bool (by decide +kernel) rfl) pa_nil))) (pe_one (pe_cmpR op_eq (pv 0) (pv 1) (nomark _)))))) pss_nil) (pss_cons (ps_if (pt_val (pe_callB call_isi (by rfl) A.n_isinstance (by decide +kernel) (pa_cons (pv 1) (pa_cons (pe_bltn (v := V.ty "str") (u := Value.type "str") (by rfl) A.n_str (by decide +kernel) rfl) pa_nil)))) (pss_one (ps_ret (pe_and (pe_callB call_isi (by rfl) A.n_isinstance (by decide +kernel) (pa_cons (pv 0) (pa_cons (pe_bltn (v := V.ty "str") (u := Value.type "str") (by rfl) A.n_str (by decide +kernel) rfl) pa_nil))) (pe_one (pe_cmpR op_eq (pv 0) (pv 1) (nomark _)))))) pss_nil) (pss_one (ps_ret (pe_and (pe_callB call_isi (by rfl) A.n_isinstance (by decide +kernel) (pa_cons (pv 0) (pa_cons (pe_bltn (v := V.ty "int") (u := Value.type "int") (by rfl) A.n_int (by decide +kernel) rfl) pa_nil))) (pe_and (pe_not (pe_callB call_isi (by rfl) A.n_isinstance (by decide +kernel) (pa_cons (pv 0) (pa_cons (pe_bltn (v := V.ty "bool") (u := Value.type "bool") (by rfl) A.n_bool (by decide +kernel) rfl) pa_nil)))) (pe_one (pe_cmpR op_eq (pv 0) (pv 1) (nomark _))))))))))), ?_⟩
      walk_at "vc"
      refine ⟨by decide, fun p hp => ?_⟩
      have sp : Same H (upd H p (HO.tup [V.ty "tuple", V.ty "list"])) := Same.new hp
      have hp' : (upd H p (HO.tup [V.ty "tuple", V.ty "list"])) p = some (.tup ([("tuple" : String), "list"].map V.ty)) := upd_same
      have hv' := Dp.same sp d v hv
      have hu' := Dp.same sp d u hu
      have q' : ∀ H', Same (upd H p (HO.tup [V.ty "tuple", V.ty "list"])) H' → Q (V.bl true) H' := fun H' z => q H' (sp.trans z)
      generalize upd H p (HO.tup [V.ty "tuple", V.ty "list"]) = H1 at hp' hv' hu' q'
      have tv := Dp.ty hv'
      have tu := Dp.ty hu'
      -- a list or a tuple
      have seq : ∀ (ds : List PyData) (a b : Addr) (xs ys : List V), ds.length ≤ 1000 → (∀ d ∈ ds, Shp n d) → DpAll K H1 xs ds → DpAll K H1 ys ds → (SqL K H1 a xs ∨ SqT K H1 a xs) → (SqL K H1 b ys ∨ SqT K H1 b ys) → ∀ D : Ends, (∀ σ H', Same H1 H' → D.nx σ H') →
          ForB (Itr 0 ((ds.length : Int)).toNat) (gName 2) (tIfS (tNot (tB (tCall (sp_alike K n) [] E0 (tCons (tOp (rIx K) (tVar 0) (tVar 2)) (tCons (tOp (rIx K) (tVar 1) (tVar 2)) tNil))))) (tRet (tC (V.bl false))) tNext) D [some (.ref a), some (.ref b), none] H1 := by
        intro ds a b xs ys hlen hsh hx hy ha hb D hD
        refine ForB.range (fun i σ H' => Same H1 H' ∧ ∃ k, σ = [some (.ref a), some (.ref b), k]) ⟨Same.refl _, none, rfl⟩ ?_ fun σ H' ⟨z, _⟩ => hD σ H' z
        rintro i σ H' hi ⟨z, k, rfl⟩
        have hi' : i < ds.length := by omega
        obtain ⟨x, d1, e1, e2, e3⟩ := DpAll.get hx hi'
        obtain ⟨y, d2, f1, f2, f3⟩ := DpAll.get hy hi'
        obtain rfl : d1 = d2 := Option.some.inj (e2.symm.trans f2)
        have ix : ∀ {c : Addr} {zs : List V} {w : V} {R : VK}, (SqL K H1 c zs ∨ SqT K H1 c zs) → zs[i]? = some w → R w H' → rIx K (.ref c) (.int (0 + (i : Int))) H' R := by
          intro c zs w R hc hw r
          rw [Int.zero_add]
          rcases hc with hc | hc
          · exact rIx_l (SqL.same hc z) (atI_nat hw) r
          · exact rIx_t (SqT.same hc z) (atI_nat hw) r
        walk_at "vc"
        refine ix ha e1 (ix hb f1 ?_)
        refine ⟨x, y, d1, rfl, Dp.same z _ _ e3, Dp.same z _ _ f3, hsh _ (List.mem_of_getElem? e2), fun H2 z2 => ?_⟩
        exact ⟨true, rfl, iteF ⟨z.trans z2, _, rfl⟩⟩
      cases d with
      | none =>
        cases hv'
        cases hu'
        exact isiT_go (a := "NoneType") (r := false) tu hp' (by decide +kernel) ⟨_, rfl, iteF (by rw [if_pos rfl]; exact q' _ (Same.refl _))⟩
      | bool b =>
        cases hv'
        cases hu'
        refine isiT_go (a := "bool") (r := false) tu hp' (by decide +kernel) ⟨_, rfl, iteF ?_⟩
        rw [if_neg (by simp)]
        exact isi_go (a := "bool") (r := true) tu (by decide +kernel) ⟨_, rfl, iteT (isi_go (a := "bool") (r := true) tu (by decide +kernel) ⟨_, rfl, iteT ⟨rfl, by simpa using q' _ (Same.refl _)⟩⟩)⟩
      | str b =>
        cases hv'
        cases hu'
        refine isiT_go (a := "str") (r := false) tu hp' (by decide +kernel) ⟨_, rfl, iteF ?_⟩
        rw [if_neg (by simp)]
        exact isi_go (a := "str") (r := false) tu (by decide +kernel) ⟨_, rfl, iteF (isi_go (a := "str") (r := true) tu (by decide +kernel) ⟨_, rfl, iteT (isi_go (a := "str") (r := true) tu (by decide +kernel) ⟨_, rfl, iteT ⟨rfl, by simpa using q' _ (Same.refl _)⟩⟩)⟩)⟩
      | int b =>
        cases hv'
        cases hu'
        refine isiT_go (a := "int") (r := false) tu hp' (by decide +kernel) ⟨_, rfl, iteF ?_⟩
        rw [if_neg (by simp)]
        exact isi_go (a := "int") (r := false) tu (by decide +kernel) ⟨_, rfl, iteF (isi_go (a := "int") (r := false) tu (by decide +kernel) ⟨_, rfl, iteF (isi_go (a := "int") (r := true) tu (by decide +kernel) ⟨_, rfl, iteT (isi_go (a := "int") (r := false) tu (by decide +kernel) ⟨_, rfl, iteT ⟨rfl, by simpa using q' _ (Same.refl _)⟩⟩)⟩)⟩)⟩
      | dict _ => exact hd.elim
      | list ds =>
        obtain ⟨hlen, hsh⟩ := hd
        cases hv' with
        | lst ha hx =>
          cases hu' with
          | lst hb hy =>
            refine isiT_go (a := "list") (r := true) tu hp' (by decide +kernel) ⟨_, rfl, iteT ?_⟩
            refine isi_go (a := "list") (r := false) tv (by decide +kernel) (isi_go (a := "list") (r := false) tu (by decide +kernel) ⟨rfl, iteNS rfl ?_⟩)
            refine isi_go (a := "list") (r := true) tv (by decide +kernel) (isi_go (a := "list") (r := true) tu (by decide +kernel) ⟨rfl, iteNS rfl ?_⟩)
            refine ⟨_, .inl ⟨_, ha, rfl⟩, _, .inl ⟨_, hb, rfl⟩, rfl, ?_⟩
            rw [DpAll.len hx, DpAll.len hy]
            refine iteNS rfl ⟨ds.length, .inl ⟨_, hb, (DpAll.len hy).symm⟩, by omega, by omega, ?_⟩
            exact seq ds _ _ _ _ hlen hsh hx hy (.inl ha) (.inl hb) _ fun σ H' z => q' H' z
      | tuple ds =>
        obtain ⟨hlen, hsh⟩ := hd
        cases hv' with
        | tup ha hx =>
          cases hu' with
          | tup hb hy =>
            refine isiT_go (a := "tuple") (r := true) tu hp' (by decide +kernel) ⟨_, rfl, iteT ?_⟩
            refine isi_go (a := "tuple") (r := true) tv (by decide +kernel) (isi_go (a := "tuple") (r := true) tu (by decide +kernel) ⟨rfl, iteNS rfl ?_⟩)
            refine isi_go (a := "tuple") (r := false) tv (by decide +kernel) (isi_go (a := "tuple") (r := false) tu (by decide +kernel) ⟨rfl, iteNS rfl ?_⟩)
            refine ⟨_, .inr ⟨_, ha, rfl⟩, _, .inr ⟨_, hb, rfl⟩, rfl, ?_⟩
            rw [DpAll.len hx, DpAll.len hy]
            refine iteNS rfl ⟨ds.length, .inr ⟨_, hb, (DpAll.len hy).symm⟩, by omega, by omega, ?_⟩
            exact seq ds _ _ _ _ hlen hsh hx hy (.inr ha) (.inr hb) _ fun σ H' z => q' H' z
theorem ok_l_alike (A : All K mg) : FnOk P w K mg base CX0 36 A.l_alike.f A.l_alike.fd ["told", "due"] (sp_alike K 36) := ok_l_alike_n A _
end
end Ly
namespace Ly
open PySem PySem.Spec PyProof.Rows L2
open TL (joinL tl tl_join join_eq len_tl)
open GxR (TabG Tabbed)
local macro_rules | `(tactic| walk_at "vc") => `(tactic| simp only [tSeq, tAsg, tOp, tVar, tC, tRet, tRetN, tNext, tIfS, tIf, tDrop, tB, tTest, tNot, tAnd, tOr, tAndV, tOrV, tNotV, tChain, tUn, tCB, tCons, tNil, tTup, tLst, tSl, tPart, tNoPart, tCall, tBreak, tCont,
  rI, rI0, rU, gName, gNil_nil, gCons_cons, gSub, rSetL, L2.start, cx_K, cx_nox, tLc_eq, tFor_eq, iRng1, iRng2, iList, iTup, tM1, tYes, wipe, rIxS, rIxL, rIxT, rCat, rSlL, rEq, rNe, rPop, rAppend, tBM, tBM0, tMkO_eq, tVal_eq, tFldE_eq, tXfE_eq, tCallS, lenV_ref, iRevR, tRg1, RT.iRevA, RZ.iZipA, tDGet, sDPut, tDNewK, tAugS, ipI, tMaxD, tCallK0, rRep, rExtend, CDiv, CDivW, CPow, CMulX,
  List.map_cons, List.map_nil, List.cons_append, List.nil_append, List.append_nil, List.length_cons, List.length_nil, List.replicate, List.getElem?_cons_zero, List.getElem?_cons_succ, List.set_cons_zero, List.set_cons_succ, Nat.reduceSub, Nat.reduceAdd,
  Option.some.injEq, V.int.injEq, V.bl.injEq, V.str.injEq, V.ref.injEq, exists_eq_left', exists_eq_left, exists_and_left, reduceCtorEq, false_and, and_false, exists_false, or_false, false_or, Bool.false_eq_true, if_false, if_true, reduceIte, decide_eq_true_eq, List.cons.injEq, and_true, true_and])
section
variable {P : Program} {w : World} {K : PySem.W.Frag} {mg : Str → Option Value} {base : Heap} {T : Addr}
/-! ### heaps where the table at T may grow -/
structure Up (T : Addr) (H H' : Hp) : Prop where
  keep : ∀ b o, b ≠ T → H b = some o → H' b = some o
  tab : TabG H T → TabG H' T
theorem Up.refl {H : Hp} : Up T H H := ⟨fun _ _ _ e => e, id⟩
theorem Up.trans {H H1 H2 : Hp} (a : Up T H H1) (b : Up T H1 H2) : Up T H H2 := ⟨fun c o n e => b.keep c o n (a.keep c o n e), fun h => b.tab (a.tab h)⟩
theorem Up.of_same {H H' : Hp} (s : Same H H') : Up T H H' := ⟨fun b o _ e => s b o e, fun ⟨ps, h, t⟩ => ⟨ps, s _ _ h, t⟩⟩
theorem Up.of_tab {H H' : Hp} (s : Tabbed T H H') : Up T H H' := ⟨fun b o n e => by rw [s.2 b n]; exact e, fun _ => s.1⟩
theorem Up.new {H : Hp} {a : Addr} {o : HO} (h : H a = none) : Up T H (upd H a o) := Up.of_same (Same.new h)
theorem ne_tab {H : Hp} {a : Addr} {o : HO} (t : TabG H T) (e : H a = some o) (no : ∀ ps, o ≠ .tbl ps) : a ≠ T := by
  obtain ⟨ps, h, _⟩ := t
  intro z
  rw [z, h] at e
  exact no ps (Option.some.inj e).symm
theorem SqL.up {H H' : Hp} {a : Addr} {xs : List V} (h : SqL K H a xs) (u : Up T H H') (t : TabG H T) : SqL K H' a xs := by
  rcases h with (h | ⟨o, h⟩) | h
  · exact .inl (.inl (u.keep _ _ (ne_tab t h (fun _ z => nomatch z)) h))
  · exact .inl (.inr ⟨o, u.keep _ _ (ne_tab t h (fun _ z => nomatch z)) h⟩)
  · exact .inr h
theorem SqT.up {H H' : Hp} {a : Addr} {xs : List V} (h : SqT K H a xs) (u : Up T H H') (t : TabG H T) : SqT K H' a xs := by
  rcases h with (h | ⟨o, h⟩) | h
  · exact .inl (.inl (u.keep _ _ (ne_tab t h (fun _ z => nomatch z)) h))
  · exact .inl (.inr ⟨o, u.keep _ _ (ne_tab t h (fun _ z => nomatch z)) h⟩)
  · exact .inr h
section
variable {H H' : Hp} (u : Up T H H') (t : TabG H T)
include u t
mutual
theorem Dp.up : ∀ (d : PyData) (v : V), Dp K H v d → Dp K H' v d
  | .none, _, h => by cases h; exact .non
  | .bool b, _, h => by cases h; exact .bl b
  | .int i, _, h => by cases h; exact .int i
  | .str x, _, h => by cases h; exact .str x
  | .list ds, _, h => by cases h with | lst a b => exact .lst (SqL.up a u t) (DpAll.up ds _ b)
  | .tuple ds, _, h => by cases h with | tup a b => exact .tup (SqT.up a u t) (DpAll.up ds _ b)
  | .dict _, _, h => by cases h
theorem DpAll.up : ∀ (ds : List PyData) (vs : List V), DpAll K H vs ds → DpAll K H' vs ds
  | [], _, h => by cases h; exact .nil
  | d :: ds, _, h => by cases h with | cons a b => exact .cons (Dp.up d _ a) (DpAll.up ds _ b)
end
end
/-! ### data that is small -/
mutual
def Sml : PyData → Prop
  | .str x => x.length ≤ 1000
  | .list ds => ds.length ≤ 1000 ∧ SmlAll ds
  | .tuple ds => ds.length ≤ 1000 ∧ SmlAll ds
  | .dict _ => False
  | _ => True
def SmlAll : List PyData → Prop
  | [] => True
  | d :: ds => Sml d ∧ SmlAll ds
end
mutual
def szD : PyData → Nat
  | .list ds => szAll ds + 1
  | .tuple ds => szAll ds + 1
  | _ => 1
def szAll : List PyData → Nat
  | [] => 0
  | d :: ds => szD d + szAll ds
end
theorem szAll_app : ∀ (a b : List PyData), szAll (a ++ b) = szAll a + szAll b
  | [], b => by simp [szAll]
  | d :: a, b => by
    rw [List.cons_append, szAll, szAll, szAll_app a b]
    omega
theorem szD_pos (d : PyData) : 1 ≤ szD d := by cases d <;> simp [szD]
theorem len_szAll : ∀ (a : List PyData), a.length ≤ szAll a
  | [] => Nat.le_refl _
  | d :: a => by
    have := len_szAll a
    have := szD_pos d
    rw [List.length_cons, szAll]
    omega
theorem SmlAll.app : ∀ {a b : List PyData}, SmlAll a → SmlAll b → SmlAll (a ++ b)
  | [], _, _, h => h
  | _ :: _, _, h, k => ⟨h.1, SmlAll.app h.2 k⟩
theorem SmlAll.left : ∀ {a b : List PyData}, SmlAll (a ++ b) → SmlAll a
  | [], _, _ => trivial
  | _ :: _, _, h => ⟨h.1, SmlAll.left h.2⟩
theorem SmlAll.right : ∀ {a b : List PyData}, SmlAll (a ++ b) → SmlAll b
  | [], _, h => h
  | _ :: _, _, h => SmlAll.right (a := _) h.2
theorem DpAll.app {H : Hp} : ∀ {xs ys : List V} {ds es : List PyData}, DpAll K H xs ds → DpAll K H ys es → DpAll K H (xs ++ ys) (ds ++ es)
  | _, _, _, _, .nil, h => h
  | _, _, _, _, .cons a b, h => .cons a (DpAll.app b h)
theorem DpAll.unsnoc {H : Hp} : ∀ {xs : List V} {y : V} {ds : List PyData}, DpAll K H (xs ++ [y]) ds → ∃ es e, ds = es ++ [e] ∧ DpAll K H xs es ∧ Dp K H y e
  | [], y, _, .cons a .nil => ⟨[], _, rfl, .nil, a⟩
  | x :: xs, y, _, .cons a b => by
    obtain ⟨es, e, rfl, h1, h2⟩ := DpAll.unsnoc b
    exact ⟨_ :: es, e, rfl, .cons a h1, h2⟩
theorem DpAll.at {H : Hp} : ∀ {xs : List V} {ds : List PyData} {i : Nat} {x : V}, DpAll K H xs ds → xs[i]? = some x → ∃ d, ds[i]? = some d ∧ Dp K H x d
  | _, _, 0, _, .cons a _, h => ⟨_, rfl, by have : _ = _ := Option.some.inj h; exact this ▸ a⟩
  | _, _, i + 1, _, .cons _ b, h => DpAll.at (i := i) b h
theorem SmlAll.mem : ∀ {ds : List PyData}, SmlAll ds → ∀ d ∈ ds, Sml d
  | _ :: _, h, d, hd => by
    rcases List.mem_cons.mp hd with e | hd
    · exact e ▸ h.1
    · exact SmlAll.mem h.2 d hd
/-! ### is_word -/
def letters : List Nat := (Str.ofString "abcdefghijklmnopqrstuvwxyz").cps.toList
def wordS (x : Str) : Bool := decide (1 ≤ x.length) && decide (x.length ≤ 8) && x.cps.toList.all fun c => decide (c ∈ letters)
def wordD : PyData → Bool
  | .str x => wordS x
  | _ => false
def sp_is_word (K : PySem.W.Frag) (T : Addr) : Sp := fun vs H Q _ => ∃ (v : V) (d : PyData), vs = [v] ∧ Dp K H v d ∧ Sml d ∧ TabG H T ∧ ∀ H', Up T H H' → Q (.bl (wordD d)) H'
theorem ok_is_word (A : All K mg) (TB : GxR.TabB base mg A.is_word.c T) (glob : base.Ns mainGlobals mg) : FnOk P w K mg base CX0 1 A.is_word.f A.is_word.fd ["value"] (sp_is_word K T) := by
  refine A.is_word.ok sc_is_word (fun vs H Q E h => ?_) (fun B outer s H vs Q E hr h => ?_)
  · obtain ⟨v, d, rfl, _⟩ := h
    rfl
  · obtain ⟨v, d, rfl, hv, hd, ht, q⟩ := h
    refine ⟨_, (pss_cons (ps_if (PW.pt (pw_or (pt_not (pt_val (pe_callB call_isi (by rfl) A.n_isinstance (by decide +kernel) (pa_cons (pv 0) (pa_cons (pe_bltn (v := V.ty "str") (u := Value.type "str") (by rfl) A.n_str (by decide +kernel) rfl) pa_nil))))) (pw_or1 (pt_not (pt_chain op_le op_le pe_int (pe_callB (r := fun xs H Q => ∃ x n, xs = [x] ∧ LenV K x H n ∧ Q (V.int n) H) call_len (by rfl) A.n_len PySem.boot_len (pa_cons (pv 0) pa_nil)) (pe_glob (v := V.int 8) rfl A.k_LONGEST_WORD.g A.k_LONGEST_WORD.r)))))) (pss_one (ps_ret pe_bl)) pss_nil) (pss_one (ps_ret (pe_allT hr rfl A.n_all (by decide +kernel) TB rfl ⟨rfl, rfl, by decide +kernel, rfl, rfl, by simp⟩ (pv 0) (elt_in glob rfl rfl rfl A.k_LETTERS.g A.k_LETTERS.r) (by intro _; rfl))))), ?_⟩
    walk_at "vc"
    have kit : ∀ (r : Bool), kitB (tyD d) "str" = some r → ∀ Q' : VK, Q' (.bl r) H → rIsi K [v, V.ty "str"] H Q' := fun r h Q' q' => isi_go (Dp.ty hv) h q'
    cases d with
    | str x =>
      cases hv
      have hx : x.length ≤ 1000 := hd
      refine isi_go (a := "str") (r := true) (.base (.str x)) (by decide +kernel) ⟨_, rfl, iteF ⟨x.length, ⟨Nat.le_trans hx (by decide), rfl⟩, ?_⟩⟩
      by_cases h1 : 1 ≤ x.length
      · rw [if_pos (by omega)]
        by_cases h8 : x.length ≤ 8
        · rw [decide_eq_true (show ((x.length : Nat) : Int) ≤ 8 by omega)]
          refine iteF ⟨_, rfl, x, rfl, ht, fun H2 h2 => ?_⟩
          have e : wordD (.str x) = x.cps.toList.all fun c => decide (c ∈ (Str.ofString "abcdefghijklmnopqrstuvwxyz").cps.toList) := by
            show (decide (1 ≤ x.length) && decide (x.length ≤ 8) && _) = _
            rw [decide_eq_true h1, decide_eq_true h8]
            rfl
          rw [← e]
          exact q _ (Up.of_tab h2)
        · rw [decide_eq_false (show ¬ ((x.length : Nat) : Int) ≤ 8 by omega)]
          refine iteT ?_
          have e : wordD (.str x) = false := by
            show (decide (1 ≤ x.length) && decide (x.length ≤ 8) && _) = _
            rw [decide_eq_false h8]
            simp
          rw [← e]
          exact q _ Up.refl
      · rw [if_neg (by omega)]
        refine iteT ?_
        have e : wordD (.str x) = false := by
          show (decide (1 ≤ x.length) && decide (x.length ≤ 8) && _) = _
          rw [decide_eq_false h1]
          simp
        rw [← e]
        exact q _ Up.refl
    | none => exact isi_go (a := "NoneType") (r := false) (Dp.ty hv) (by decide +kernel) ⟨_, rfl, iteT (q _ Up.refl)⟩
    | bool b => exact isi_go (a := "bool") (r := false) (Dp.ty hv) (by decide +kernel) ⟨_, rfl, iteT (q _ Up.refl)⟩
    | int i => exact isi_go (a := "int") (r := false) (Dp.ty hv) (by decide +kernel) ⟨_, rfl, iteT (q _ Up.refl)⟩
    | list ds => exact isi_go (a := "list") (r := false) (Dp.ty hv) (by decide +kernel) ⟨_, rfl, iteT (q _ Up.refl)⟩
    | tuple ds => exact isi_go (a := "tuple") (r := false) (Dp.ty hv) (by decide +kernel) ⟨_, rfl, iteT (q _ Up.refl)⟩
    | dict _ => cases hv
/-! ### is_tuple_of -/
def tupD (n : Nat) : PyData → Bool
  | .tuple ds => decide (ds.length = n)
  | _ => false
def sp_tuple_of (K : PySem.W.Frag) : Sp := fun vs H Q _ => ∃ (v : V) (d : PyData) (n : Nat), vs = [v, .int (n : Int)] ∧ Dp K H v d ∧ Q (.bl (tupD n d)) H
theorem ok_is_tuple_of (A : All K mg) : FnOk P w K mg base CX0 1 A.is_tuple_of.f A.is_tuple_of.fd ["value", "length"] (sp_tuple_of K) := by
  refine A.is_tuple_of.F.ok sc_is_tuple_of (fun vs H Q E h => ?_) (fun cdv B outer s H vs Q E hr h => ?_)
  · obtain ⟨v, d, n, rfl, _⟩ := h
    rfl
  · obtain ⟨v, d, n, rfl, hv, q⟩ := h
    refine ⟨_, (pss_one (ps_ret (pe_and (pe_callB call_isi (by rfl) A.n_isinstance (by decide +kernel) (pa_cons (pv 0) (pa_cons (pe_bltn (v := V.ty "tuple") (u := Value.type "tuple") (by rfl) A.n_tuple (by decide +kernel) rfl) pa_nil))) (pe_one (pe_cmpR op_eq (pe_callB (r := fun xs H Q => ∃ x n, xs = [x] ∧ LenV K x H n ∧ Q (V.int n) H) call_len (by rfl) A.n_len PySem.boot_len (pa_cons (pv 0) pa_nil)) (pv 1) (nomark _)))))), ?_⟩
    walk_at "vc"
    cases d with
    | tuple ds =>
      cases hv with
      | tup ha hx =>
        rename_i a0 xs0
        refine isi_go (a := "tuple") (r := true) (tyT ha) (by decide +kernel) ⟨true, rfl, iteT ⟨xs0.length, .inr ⟨_, ha, rfl⟩, rfl, ?_⟩⟩
        have e : tupD n (.tuple ds) = decide (V.int ((xs0.length : Nat) : Int) = V.int (n : Int)) := by
          rw [DpAll.len hx]
          show decide (ds.length = n) = _
          apply decide_eq_decide.mpr
          constructor
          · intro h; rw [h]
          · intro h
            have := V.int.inj h
            omega
        rw [e] at q
        simpa using q
    | none => exact isi_go (a := "NoneType") (r := false) (Dp.ty hv) (by decide +kernel) ⟨_, rfl, iteF q⟩
    | bool b => exact isi_go (a := "bool") (r := false) (Dp.ty hv) (by decide +kernel) ⟨_, rfl, iteF q⟩
    | int i => exact isi_go (a := "int") (r := false) (Dp.ty hv) (by decide +kernel) ⟨_, rfl, iteF q⟩
    | list ds => exact isi_go (a := "list") (r := false) (Dp.ty hv) (by decide +kernel) ⟨_, rfl, iteF q⟩
    | str ds => exact isi_go (a := "str") (r := false) (Dp.ty hv) (by decide +kernel) ⟨_, rfl, iteF q⟩
    | dict _ => cases hv
/-! ### is_forest -/
mutual
/-- is it a tree: a tuple of a word and a forest -/
def treD : PyData → Bool
  | .tuple [w, f] => wordD w && forD f
  | _ => false
def forD : PyData → Bool
  | .tuple ds => forAll ds
  | _ => false
def forAll : List PyData → Bool
  | [] => true
  | d :: ds => treD d && forAll ds
end
theorem forAll_app : ∀ (a b : List PyData), forAll (a ++ b) = (forAll a && forAll b)
  | [], b => by simp [forAll]
  | d :: a, b => by rw [List.cons_append, forAll, forAll, forAll_app a b, Bool.and_assoc]
theorem forAll_drop {ds : List PyData} {i : Nat} {d : PyData} (h : ds[i]? = some d) : forAll (ds.drop i) = (treD d && forAll (ds.drop (i + 1))) := by
  have hi : i < ds.length := (List.getElem?_eq_some_iff.mp h).1
  have e : ds[i] = d := (List.getElem?_eq_some_iff.mp h).2
  rw [List.drop_eq_getElem_cons hi, e, forAll]
theorem szAll_drop {ds : List PyData} {i : Nat} {d : PyData} (h : ds[i]? = some d) : szAll (ds.drop i) = szD d + szAll (ds.drop (i + 1)) := by
  have hi : i < ds.length := (List.getElem?_eq_some_iff.mp h).1
  have e : ds[i] = d := (List.getElem?_eq_some_iff.mp h).2
  rw [List.drop_eq_getElem_cons hi, e, szAll]
theorem tre_cases (t : PyData) : (∃ w f, t = .tuple [w, f]) ∨ (tupD 2 t = false ∧ treD t = false) := by
  match t with
  | .tuple [w, f] => exact .inl ⟨w, f, rfl⟩
  | .tuple [] => exact .inr ⟨rfl, rfl⟩
  | .tuple [_] => exact .inr ⟨rfl, rfl⟩
  | .tuple (_ :: _ :: _ :: r) => exact .inr ⟨by simp [tupD], rfl⟩
  | .none => exact .inr ⟨rfl, rfl⟩
  | .bool _ => exact .inr ⟨rfl, rfl⟩
  | .int _ => exact .inr ⟨rfl, rfl⟩
  | .str _ => exact .inr ⟨rfl, rfl⟩
  | .list _ => exact .inr ⟨rfl, rfl⟩
  | .dict _ => exact .inr ⟨rfl, rfl⟩
def sp_is_forest (K : PySem.W.Frag) (T : Addr) : Sp := fun vs H Q _ => ∃ (v : V) (d : PyData), vs = [v] ∧ Dp K H v d ∧ Sml d ∧ szD d ≤ 100000 ∧ TabG H T ∧ ∀ H', Up T H H' → Q (.bl (forD d)) H'
theorem ok_is_forest (A : All K mg) (TB : GxR.TabB base mg A.is_word.c T) (glob : base.Ns mainGlobals mg) : FnOk P w K mg base CX0 2 A.is_forest.f A.is_forest.fd ["value"] (sp_is_forest K T) := by
  have G_is_word := ok_is_word (P := P) (w := w) A TB glob
  have G_is_tuple_of := ok_is_tuple_of (P := P) (w := w) (base := base) A
  refine A.is_forest.F.ok sc_is_forest (fun vs H Q E h => ?_) (fun cdv B outer s H vs Q E hr h => ?_)
  · obtain ⟨v, d, rfl, _⟩ := h
    rfl
  · obtain ⟨v, d, rfl, hv, hd, hsz, ht, q⟩ := h
    refine ⟨_, (pss_cons (ps_set (i := 1) sc_is_forest.nd rfl (by first | exact Or.inl rfl | exact Or.inr rfl) (pe_lst (pa_cons (pv 0) pa_nil))) (pss_cons (ps_while PassesOwn.never (pt_truth (pv 1) (by intro _; rfl)) (pss_cons (ps_set (i := 2) sc_is_forest.nd rfl (by first | exact Or.inl rfl | exact Or.inr rfl) (pe_bm0 PySem.F.plainAttrs_list PySem.F.slot_list_pop PySem.F.type_list_pop mt_pop (pv 1))) (pss_cons (ps_if (pt_not (pt_val (pe_callB call_isi (by rfl) A.n_isinstance (by decide +kernel) (pa_cons (pv 2) (pa_cons (pe_bltn (v := V.ty "tuple") (u := Value.type "tuple") (by rfl) A.n_tuple (by decide +kernel) rfl) pa_nil))))) (pss_one (ps_ret pe_bl)) pss_nil) (pss_one (ps_for PassesOwn.never rfl (pi_tup (pv 2)) (pg_name (i := 3) sc_is_forest.nd rfl (by first | exact Or.inl rfl | exact Or.inr rfl)) (pss_cons (ps_if (PW.pt (pw_or (pt_not (pt_val (pe_call G_is_tuple_of (hr.mono (by decide)) rfl A.is_tuple_of.m A.is_tuple_of.kp A.is_tuple_of.b .nil pass0 (pa_cons (pv 3) (pa_cons pe_int pa_nil))))) (pw_or1 (pt_not (pt_val (pe_call G_is_word (hr.mono (by decide)) rfl A.is_word.m A.is_word.kp A.is_word.b .nil pass0 (pa_cons (pe_ix (r := rIxT K) ix_tup (pv 3) pe_int (fun _ _ => rfl)) pa_nil))))))) (pss_one (ps_ret pe_bl)) pss_nil) (pss_one (ps_expr (pe_bm PySem.F.plainAttrs_list PySem.F.slot_list_append PySem.F.type_list_append mt_append (pv 1) (pa_cons (pe_ix (r := rIxT K) ix_tup (pv 3) pe_int (fun _ _ => rfl)) pa_nil)))))))))) (pss_one (ps_ret pe_bl)))), ?_⟩
    walk_at "vc"
    refine ⟨by decide, fun p hp => ?_⟩
    have q1 : ∀ b, b = forD d → ∀ H', Up T H H' → Q (.bl b) H' := fun b e H' u => e ▸ q H' u
    -- the rows that are left: all of them must be forests
    refine ⟨fun m σ H' => ∃ (xs : List V) (ds : List PyData) (a b : Option V), σ = [some v, some (.ref p), a, b] ∧ H' p = some (.lst xs) ∧ DpAll K H xs ds ∧ SmlAll ds ∧ forD d = ds.all forD ∧ szAll ds = m ∧ m ≤ szD d ∧ Up T H H',
      ⟨szD d, [v], [d], none, none, rfl, upd_same, .cons hv .nil, ⟨hd, trivial⟩, by simp, by simp [szAll], Nat.le_refl _, Up.new hp⟩, ?_⟩
    rintro m σ H1 ⟨xs, ds, a, b, rfl, e1, hx, hs, hf, hm, hmd, u1⟩
    have pT : p ≠ T := fun z => by obtain ⟨ps, h, _⟩ := ht; rw [z, h] at hp; cases hp
    rcases List.eq_nil_or_concat xs with rfl | ⟨ys, y, rfl⟩
    · cases hx
      exact ⟨_, rfl, false, .inl ⟨_, SqL.of e1, rfl⟩, iteF (q1 true (by rw [hf]; rfl) _ u1)⟩
    · rw [List.concat_eq_append] at e1 hx
      obtain ⟨es, e, rfl, hy, he⟩ := DpAll.unsnoc hx
      refine ⟨_, rfl, true, .inl ⟨_, SqL.of e1, by simp⟩, iteT ⟨fun σ' H' => ∃ m', m' < m ∧ ∃ (xs : List V) (ds : List PyData) (a b : Option V), σ' = [some v, some (.ref p), a, b] ∧ H' p = some (.lst xs) ∧ DpAll K H xs ds ∧ SmlAll ds ∧ forD d = ds.all forD ∧ szAll ds = m' ∧ m' ≤ szD d ∧ Up T H H', fun _ _ h => h, ?_⟩⟩
      walk_at "vc"
      refine ⟨.inl ⟨rfl, _, SqL.of e1⟩, _, e1, y, by simp, ?_⟩
      rw [List.dropLast_concat]
      have u2 : Up T H (upd H1 p (.lst ys)) := ⟨fun c o n h => by rw [upd_ne (ne_of_none h hp)]; exact u1.keep c o n h, fun h => by
        obtain ⟨ps, h1, h2⟩ := u1.tab h
        exact ⟨ps, by rw [upd_ne (Ne.symm pT)]; exact h1, h2⟩⟩
      have e2 : (upd H1 p (.lst ys)) p = some (.lst ys) := upd_same
      generalize upd H1 p (.lst ys) = H2 at u2 e2 ⊢
      have hsz2 : szAll es + szD e = m := by rw [← hm, szAll_app]; simp [szAll]
      have hfe : forD d = (es.all forD && forD e) := by rw [hf, List.all_append]; simp
      have bad : forD e = false → Q (.bl false) H2 := fun h => q1 false (by rw [hfe, h]; simp) _ u2
      have hy2 := Dp.up u2 ht _ _ he
      cases e with
      | tuple ts =>
        cases he with
        | tup ha hts =>
          refine isi_go (a := "tuple") (r := true) (Dp.ty hy2) (by decide +kernel) ⟨true, rfl, iteF ?_⟩
          have hs2 := SmlAll.right hs
          have hts2 : SmlAll ts := hs2.1.2
          refine ⟨_, rfl, ⟨_, SqT.up ha u2 ht⟩, ?_⟩
          rename_i a0 zs
          refine ForB.tup (xs := zs) (fun i σ H' => ∃ (cs : List V) (fs : List PyData) (c : Option V), σ = [some v, some (.ref p), some (.ref a0), c] ∧ H' p = some (.lst (ys ++ cs)) ∧ DpAll K H cs fs ∧ SmlAll fs ∧ szAll fs + szAll (ts.drop i) ≤ szAll ts ∧
            forD d = (es.all forD && (fs.all forD && forAll (ts.drop i))) ∧ Up T H H') ?_ ?_ ?_ ?_
          · exact ⟨[], [], b, rfl, by rw [List.append_nil]; exact e2, .nil, trivial, by simp [szAll], by rw [hfe]; simp [forD], u2⟩
          · rintro i σ H3 _ ⟨_, _, _, _, _, _, _, _, _, u3⟩
            exact SqT.up ha u3 ht
          · rintro i x σ H3 hi ⟨cs, fs, c, rfl, e3, hcs, hfs, hz3, hf3, u3⟩
            obtain ⟨t, htt, hxt⟩ := DpAll.at hts hi
            have hst : Sml t := SmlAll.mem hts2 t (List.mem_of_getElem? htt)
            have bad3 : treD t = false → ∀ H', Up T H H' → Q (.bl false) H' := fun h H' u => q1 false (by rw [hf3, forAll_drop htt, h]; simp) _ u
            walk_at "vc"
            refine ⟨x, t, 2, rfl, Dp.up u3 ht _ _ hxt, ⟨_, rfl, ?_⟩⟩
            rcases tre_cases t with ⟨wd, fo, rfl⟩ | ⟨h1, h2⟩
            · refine iteF ?_
              cases hxt with
              | tup hax hxx =>
                cases hxx with
                | cons hw hr2 =>
                  cases hr2 with
                  | cons hfo hnil =>
                    cases hnil
                    rename_i a1 vw vf
                    refine ⟨_, rfl, _, SqT.up hax u3 ht, vw, rfl, ?_⟩
                    refine ⟨vw, wd, rfl, Dp.up u3 ht _ _ hw, hst.2.1, u3.tab ht, fun H4 u4 => ⟨_, rfl, ?_⟩⟩
                    have u34 := u3.trans u4
                    cases hwd : wordD wd with
                    | false => exact iteT (bad3 (by simp [treD, hwd]) _ u34)
                    | true =>
                      refine iteF ?_
                      have e4 : H4 p = some (.lst (ys ++ cs)) := u4.keep _ _ pT e3
                      refine ⟨.inl ⟨rfl, _, SqL.of e4⟩, _, rfl, _, SqT.up hax u34 ht, vf, rfl, _, e4, ?_, ?_⟩
                      · have l1 := DpAll.len hy
                        have l2 := DpAll.len hcs
                        have l3 := len_szAll es
                        have l4 := len_szAll fs
                        have l5 : szD (PyData.tuple ts) = szAll ts + 1 := rfl
                        exact Nat.lt_of_lt_of_le (show (ys ++ cs).length < 200000 by rw [List.length_append]; omega) (by decide)
                      · have l6 := szAll_drop htt
                        have l7 : szD (PyData.tuple [wd, fo]) = szD wd + (szD fo + 0) + 1 := rfl
                        refine ⟨cs ++ [vf], by rw [upd_same, List.append_assoc], fs ++ [fo], DpAll.app hcs (.cons hfo .nil), hfs.app ⟨hst.2.2.1, trivial⟩, ?_, ?_, ?_⟩
                        · rw [szAll_app]
                          simp only [szAll]
                          omega
                        · rw [hf3, forAll_drop htt, List.all_append]
                          simp [treD, hwd, Bool.and_assoc]
                        · exact ⟨fun b' o' n' h' => by rw [upd_ne (ne_of_none h' hp)]; exact u34.keep b' o' n' h', fun h' => by
                            obtain ⟨ps, g1, g2⟩ := u34.tab h'
                            exact ⟨ps, by rw [upd_ne (Ne.symm pT)]; exact g1, g2⟩⟩
            · rw [h1]
              exact iteT (bad3 h2 _ u3)
          · rintro σ H3 ⟨cs, fs, c, rfl, e3, hcs, hfs, hz3, hf3, u3⟩
            have l0 := DpAll.len hts
            rw [l0, List.drop_length] at hz3 hf3
            have l5 : szD (PyData.tuple ts) = szAll ts + 1 := rfl
            simp only [szAll] at hz3
            refine ⟨szAll es + szAll fs, by omega, ys ++ cs, es ++ fs, _, _, rfl, e3, DpAll.app hy hcs, (SmlAll.left hs).app hfs, ?_, szAll_app _ _, by omega, u3⟩
            rw [hf3, List.all_append]
            simp [forAll]
      | none => exact isi_go (a := "NoneType") (r := false) (Dp.ty hy2) (by decide +kernel) ⟨false, rfl, iteT (bad rfl)⟩
      | bool _ => exact isi_go (a := "bool") (r := false) (Dp.ty hy2) (by decide +kernel) ⟨false, rfl, iteT (bad rfl)⟩
      | int _ => exact isi_go (a := "int") (r := false) (Dp.ty hy2) (by decide +kernel) ⟨false, rfl, iteT (bad rfl)⟩
      | str _ => exact isi_go (a := "str") (r := false) (Dp.ty hy2) (by decide +kernel) ⟨false, rfl, iteT (bad rfl)⟩
      | list _ => exact isi_go (a := "list") (r := false) (Dp.ty hy2) (by decide +kernel) ⟨false, rfl, iteT (bad rfl)⟩
      | dict _ => cases he
end
end Ly
namespace Ly
open PySem PySem.Spec PyProof.Rows L2
open GxR (TabG Tabbed)
local macro_rules | `(tactic| walk_at "vc") => `(tactic| simp only [tSeq, tAsg, tOp, tVar, tC, tRet, tRetN, tNext, tIfS, tIf, tDrop, tB, tTest, tNot, tAnd, tOr, tAndV, tOrV, tNotV, tChain, tUn, tCB, tCons, tNil, tTup, tLst, tSl, tPart, tNoPart, tCall, tBreak, tCont,
  rI, rI0, rU, gName, gNil_nil, gCons_cons, gSub, rSetL, L2.start, cx_K, cx_nox, tLc_eq, tFor_eq, iRng1, iRng2, iList, iTup, tM1, tYes, wipe, rIxS, rIxL, rIxT, rCat, rSlL, rEq, rNe, rPop, rAppend, tBM, tBM0, tMkO_eq, tVal_eq, tFldE_eq, tXfE_eq, tCallS, lenV_ref, iRevR, tRg1, RT.iRevA, RZ.iZipA, tDGet, sDPut, tDNewK, tAugS, ipI, tMaxD, tCallK0, rRep, rExtend, CDiv, CDivW, CPow, CMulX,
  List.map_cons, List.map_nil, List.cons_append, List.nil_append, List.append_nil, List.length_cons, List.length_nil, List.replicate, List.getElem?_cons_zero, List.getElem?_cons_succ, List.set_cons_zero, List.set_cons_succ, Nat.reduceSub, Nat.reduceAdd,
  Option.some.injEq, V.int.injEq, V.bl.injEq, V.str.injEq, V.ref.injEq, exists_eq_left', exists_eq_left, exists_and_left, reduceCtorEq, false_and, and_false, exists_false, or_false, false_or, Bool.false_eq_true, if_false, if_true, reduceIte, decide_eq_true_eq, List.cons.injEq, and_true, true_and])
section
variable {P : Program} {w : World} {K : PySem.W.Frag} {mg : Str → Option Value} {base : Heap} {T : Addr}
theorem ok_InvalidForest_init (A : All K mg) : FnOk P w K mg base CX0 1 A.c_InvalidForest.f A.c_InvalidForest.fd ["self", "value"] (sp_init1 A.c_InvalidForest.C "value") := by
  refine A.c_InvalidForest.F.ok sc_InvalidForest_init (fun vs H Q E h => ?_) (fun cdv B outer s H vs Q E hr h => ⟨_, (pss_one (ps_ost (pv 0) (pv 1))), init1_run A.c_InvalidForest h⟩)
  obtain ⟨a, v0, rfl, _⟩ := h
  rfl
/-- the first that is no forest -/
def fb : List V → List PyData → Option V
  | v :: vs, d :: ds => if forD d = true then fb vs ds else some v
  | _, _ => none
theorem fb_drop {vs : List V} {ds : List PyData} {i : Nat} {v : V} {d : PyData} (h1 : vs[i]? = some v) (h2 : ds[i]? = some d) : fb (vs.drop i) (ds.drop i) = if forD d = true then fb (vs.drop (i + 1)) (ds.drop (i + 1)) else some v := by
  obtain ⟨l1, e1⟩ := List.getElem?_eq_some_iff.mp h1
  obtain ⟨l2, e2⟩ := List.getElem?_eq_some_iff.mp h2
  rw [List.drop_eq_getElem_cons l1, List.drop_eq_getElem_cons l2, e1, e2, fb]
theorem szAll_mem {ds : List PyData} {i : Nat} {d : PyData} (h : ds[i]? = some d) : szD d ≤ szAll ds := by
  induction ds generalizing i with
  | nil => simp at h
  | cons e ds ih =>
    cases i with
    | zero =>
      have : e = d := by simpa using h
      subst this
      simp [szAll]
    | succ i =>
      have := ih (i := i) (by simpa using h)
      simp only [szAll]
      omega
/-- nothing, or the error with what is no forest -/
def NeedQ (T C : Addr) (vs : List V) (ds : List PyData) (H : Hp) (R : Hp → Prop) (E : XK) : Prop :=
  ∀ H', Up T H H' → match fb vs ds with
    | none => R H'
    | some v => ∀ dx, H' dx = none → E (.ref C) (some dx) (upd H' dx (.xd [("value", v)]))
def sp_need (K : PySem.W.Frag) (T C : Addr) : Sp := fun vs H Q E => ∃ ds : List PyData, DpAll K H vs ds ∧ SmlAll ds ∧ szAll ds ≤ 100000 ∧ TabG H T ∧ NeedQ T C vs ds H (fun H' => Q .non H') E
theorem ok_need_forests (A : All K mg) (TB : GxR.TabB base mg A.is_word.c T) (glob : base.Ns mainGlobals mg) : FnR P w K mg base (L2.CX P w) 3 A.need_forests.f (sp_need K T A.c_InvalidForest.C) := by
  have G_is_forest := ok_is_forest (P := P) (w := w) A TB glob
  have G_InvalidForest_init := ok_InvalidForest_init (P := P) (w := w) (base := base) A
  refine FnR.imp (DefAtS.okX (sp := fun us H Q E => ∃ (p : Addr) (vs : List V) (ds : List PyData), us = [.ref p] ∧ SqT K H p vs ∧ DpAll K H vs ds ∧ SmlAll ds ∧ szAll ds ≤ 100000 ∧ TabG H T ∧ NeedQ T A.c_InvalidForest.C vs ds H (fun H' => Q .non H') E) A.need_forests sc_need_forests (fun cdv B outer s H us Q E hr h => ?_)) fun vs H Q E h => ?_
  · obtain ⟨p, vs, ds, rfl, hp, hv, hs, hz, ht, q⟩ := h
    refine ⟨_, (pss_one (ps_for (passes_of rfl) rfl (pi_tup (pv 0)) (pg_name (i := 1) sc_need_forests.nd rfl (by first | exact Or.inl rfl | exact Or.inr rfl)) (pss_one (ps_if (pt_not (pt_val (pe_call G_is_forest (hr.mono (by decide)) rfl A.is_forest.m A.is_forest.kp A.is_forest.b .nil pass0 (pa_cons (pv 1) pa_nil)))) (pss_one (ps_raise rfl (takes_of rfl rfl rfl rfl) (pmk_oex A.c_InvalidForest.o A.c_InvalidForest.i A.c_InvalidForest.ty G_InvalidForest_init (hr.mono (by decide)) A.c_InvalidForest.b .nil pass0 rfl A.c_InvalidForest.g (pa_cons (pv 1) pa_nil)))) pss_nil)))), ?_⟩
    walk_at "vc"
    refine ⟨⟨_, hp⟩, ?_⟩
    refine ForB.tup (xs := vs) (fun i σ H' => ∃ c, σ = [some (.ref p), c] ∧ Up T H H' ∧ fb vs ds = fb (vs.drop i) (ds.drop i)) ?_ ?_ ?_ ?_
    · exact ⟨_, rfl, Up.refl, rfl⟩
    · rintro i σ H' _ ⟨_, _, u, _⟩
      exact SqT.up hp u ht
    · rintro i v σ H1 hi ⟨c, rfl, u, e⟩
      walk_at "vc"
      obtain ⟨d, hd, hvd⟩ := DpAll.at hv hi
      refine ⟨v, d, rfl, Dp.up u ht _ _ hvd, SmlAll.mem hs d (List.mem_of_getElem? hd), Nat.le_trans (szAll_mem hd) hz, u.tab ht, fun H2 u2 => ⟨_, rfl, ?_⟩⟩
      rw [fb_drop hi hd] at e
      cases hf : forD d with
      | true =>
        rw [hf, if_pos rfl] at e
        exact iteF ⟨u.trans u2, e⟩
      | false =>
        rw [hf, if_neg Bool.false_ne_true] at e
        refine iteT ?_
        have q1 := q H2 (u.trans u2)
        rw [e] at q1
        exact MkB.one fun dx hdx => q1 dx hdx
    · rintro σ H1 ⟨c, rfl, u, e⟩
      have q1 := q H1 u
      rw [e, List.drop_length, fb] at q1
      · exact q1
      · exact fun _ _ _ _ h _ => nomatch h
  · obtain ⟨ds, hv, hs, hz, ht, q⟩ := h
    have hl := DpAll.len hv
    have l2 := len_szAll ds
    refine ⟨Nat.le_trans (show vs.length ≤ 100000 by omega) (by decide), fun p hp => ⟨p, vs, ds, rfl, SqT.of upd_same, DpAll.up (Up.new hp) ht _ _ hv, hs, hz, (Up.new hp).tab ht, fun H' u => q H' ((Up.new hp).trans u)⟩⟩
end
end Ly
namespace Ly
open PySem PySem.Spec PyProof.Rows L2
open GxR (TabG Tabbed)
local macro_rules | `(tactic| walk_at "vc") => `(tactic| simp only [tSeq, tAsg, tOp, tVar, tC, tRet, tRetN, tNext, tIfS, tIf, tDrop, tB, tTest, tNot, tAnd, tOr, tAndV, tOrV, tNotV, tChain, tUn, tCB, tCons, tNil, tTup, tLst, tSl, tPart, tNoPart, tCall, tBreak, tCont,
  rI, rI0, rU, gName, gNil_nil, gCons_cons, gSub, rSetL, L2.start, cx_K, cx_nox, tLc_eq, tFor_eq, iRng1, iRng2, iList, iTup, tM1, tYes, wipe, rIxS, rIxL, rIxT, rCat, rSlL, rEq, rNe, rPop, rAppend, tBM, tBM0, tMkO_eq, tVal_eq, tFldE_eq, tXfE_eq, tCallS, lenV_ref, iRevR, tRg1, RT.iRevA, RZ.iZipA, tDGet, sDPut, tDNewK, tAugS, ipI, tMaxD, tCallK0, rRep, rExtend, CDiv, CDivW, CPow, CMulX,
  List.map_cons, List.map_nil, List.cons_append, List.nil_append, List.append_nil, List.length_cons, List.length_nil, List.replicate, List.getElem?_cons_zero, List.getElem?_cons_succ, List.set_cons_zero, List.set_cons_succ, Nat.reduceSub, Nat.reduceAdd,
  Option.some.injEq, V.int.injEq, V.bl.injEq, V.str.injEq, V.ref.injEq, exists_eq_left', exists_eq_left, exists_and_left, reduceCtorEq, false_and, and_false, exists_false, or_false, false_or, Bool.false_eq_true, if_false, if_true, reduceIte, decide_eq_true_eq, List.cons.injEq, and_true, true_and])
section
variable {P : Program} {w : World} {K : PySem.W.Frag} {mg : Str → Option Value} {base : Heap} {T : Addr}
/-! ### data without lists; heaps whose tuples stay -/
mutual
def nl : PyData → Prop
  | .list _ => False
  | .dict _ => False
  | .tuple ds => nlAll ds
  | _ => True
def nlAll : List PyData → Prop
  | [] => True
  | d :: ds => nl d ∧ nlAll ds
end
def Tk (H H' : Hp) : Prop := ∀ b xs, Rd H b (.tup xs) → Rd H' b (.tup xs)
theorem Tk.refl {H : Hp} : Tk H H := fun _ _ h => h
theorem Tk.trans {H H1 H2 : Hp} (a : Tk H H1) (b : Tk H1 H2) : Tk H H2 := fun c xs h => b c xs (a c xs h)
theorem Tk.of_same {H H' : Hp} (s : Same H H') : Tk H H' := fun b xs h => by
  rcases h with h | ⟨o, h⟩
  · exact .inl (s _ _ h)
  · exact .inr ⟨o, s _ _ h⟩
theorem Tk.of_up {H H' : Hp} (u : Up T H H') (t : TabG H T) : Tk H H' := fun b xs h => by
  rcases h with h | ⟨o, h⟩
  · exact .inl (u.keep _ _ (ne_tab t h (fun _ z => nomatch z)) h)
  · exact .inr ⟨o, u.keep _ _ (ne_tab t h (fun _ z => nomatch z)) h⟩
theorem Tk.new {H : Hp} {a : Addr} {o : HO} (h : H a = none) : Tk H (upd H a o) := Tk.of_same (Same.new h)
theorem Tk.lst {H : Hp} {a : Addr} {xs ys : List V} (h : H a = some (.lst xs)) : Tk H (upd H a (.lst ys)) := fun b zs k => by
  have ne : b ≠ a := by
    rintro rfl
    rcases k with k | ⟨o, k⟩ <;> rw [h] at k <;> cases k
  rcases k with k | ⟨o, k⟩
  · exact .inl (by rw [upd_ne ne]; exact k)
  · exact .inr ⟨o, by rw [upd_ne ne]; exact k⟩
theorem SqT.tk {H H' : Hp} {a : Addr} {xs : List V} (h : SqT K H a xs) (t : Tk H H') : SqT K H' a xs := by
  rcases h with h | h
  · exact .inl (t _ _ h)
  · exact .inr h
section
variable {H H' : Hp} (t : Tk H H')
include t
mutual
theorem Dp.tk : ∀ (d : PyData) (v : V), nl d → Dp K H v d → Dp K H' v d
  | .none, _, _, h => by cases h; exact .non
  | .bool b, _, _, h => by cases h; exact .bl b
  | .int i, _, _, h => by cases h; exact .int i
  | .str x, _, _, h => by cases h; exact .str x
  | .list ds, _, n, h => n.elim
  | .tuple ds, _, n, h => by cases h with | tup a b => exact .tup (SqT.tk a t) (DpAll.tk ds _ n b)
  | .dict _, _, _, h => by cases h
theorem DpAll.tk : ∀ (ds : List PyData) (vs : List V), nlAll ds → DpAll K H vs ds → DpAll K H' vs ds
  | [], _, _, h => by cases h; exact .nil
  | d :: ds, _, n, h => by cases h with | cons a b => exact .cons (Dp.tk d _ n.1 a) (DpAll.tk ds _ n.2 b)
end
end
theorem nlAll_of {ds : List PyData} (h : ∀ d ∈ ds, nl d) : nlAll ds := by
  induction ds with
  | nil => trivial
  | cons d ds ih => exact ⟨h d List.mem_cons_self, ih fun e he => h e (List.mem_cons_of_mem _ he)⟩
theorem nl_trG {r : List Nat → List Nat} {p : Nat → Int} {n : Nat} {x : Nat → Str} : ∀ f k, nl (trG r p n x f k)
  | 0, _ => trivial
  | f + 1, k => ⟨trivial, nlAll_of (fun d hd => by
      obtain ⟨j, _, rfl⟩ := List.mem_map.mp hd
      exact nl_trG f j), trivial⟩
theorem nl_tr {r : List Nat → List Nat} {p : Nat → Int} {n : Nat} {x : Nat → Str} (k : Nat) : nl (trR r p n x k) := nl_trG _ _
theorem nl_trs {r : List Nat → List Nat} {p : Nat → Int} {n : Nat} {x : Nat → Str} (l : List Nat) : nlAll (l.map (trR r p n x)) := nlAll_of fun d hd => by
  obtain ⟨j, _, rfl⟩ := List.mem_map.mp hd
  exact nl_tr j
/-! ### _listed -/
def enD (p : Nat → Int) (n : Nat) (x : Nat → Str) (k : Nat) : PyData := .tuple [.str (x k), .int (p k), .int (pl p n k)]
/-- what is left to visit: a tree, its parent, its place -/
def stD (p : Nat → Int) (n : Nat) (x : Nat → Str) (k : Nat) : PyData := .tuple [tr p n x k, .int (p k), .int (pl p n k)]
theorem nl_enD {p : Nat → Int} {n : Nat} {x : Nat → Str} (k : Nat) : nl (enD p n x k) := ⟨trivial, trivial, trivial, trivial⟩
theorem nl_stD {p : Nat → Int} {n : Nat} {x : Nat → Str} (k : Nat) : nl (stD p n x k) := ⟨nl_tr k, trivial, trivial, trivial⟩
theorem nl_map {f : Nat → PyData} (h : ∀ k, nl (f k)) (l : List Nat) : nlAll (l.map f) := nlAll_of fun d hd => by
  obtain ⟨j, _, rfl⟩ := List.mem_map.mp hd
  exact h j
/-- a new tuple of three -/
theorem dp3 {H : Hp} {t : Addr} {a b c : V} {x y z : PyData} (h : H t = some (.tup [a, b, c])) (h1 : Dp K H a x) (h2 : Dp K H b y) (h3 : Dp K H c z) : Dp K H (.ref t) (.tuple [x, y, z]) := .tup (SqT.of h) (.cons h1 (.cons h2 (.cons h3 .nil)))
theorem rev_get {α : Type} {l : List α} {i : Nat} (h : i < l.length) : l.reverse[i]? = l[l.length - 1 - i]? := by
  rw [List.getElem?_reverse h]
def sp_listed (K : PySem.W.Frag) : Sp := fun vs H Q _ => ∃ (v : V) (p : Nat → Int) (n : Nat) (x : Nat → Str), vs = [v] ∧ Pre p n ∧ n ≤ 1000 ∧ Dp K H v (foD p n x) ∧
  ∀ q xs H', H q = none → Same H H' → H' q = some (.lst xs) → DpAll K H' xs ((List.range n).map (enD p n x)) → Q (.ref q) H'
theorem ok_listed (A : All K mg) : FnOk P w K mg base CX0 1 A.listed.f A.listed.fd ["a"] (sp_listed K) := by
  refine A.listed.F.ok sc_listed (fun vs H Q E h => ?_) (fun cdv B outer s H vs Q E hr h => ?_)
  · obtain ⟨v, p, n, x, rfl, _⟩ := h
    rfl
  · obtain ⟨v, p, n, x, rfl, hp, hn, hv, q⟩ := h
    refine ⟨_, (pss_cons (ps_set (i := 1) sc_listed.nd rfl (by first | exact Or.inl rfl | exact Or.inr rfl) (pe_lst pa_nil)) (pss_cons (ps_setLc (i := 2) (own := [("place", 3)]) (g := gName 3) rfl sc_listed.nd rfl rfl (sw_true rfl rfl rfl (by decide +kernel)) (pi_revR rfl A.n_reversed (prg_1 rfl A.n_range (pe_callB (r := fun xs H Q => ∃ x n, xs = [x] ∧ LenV K x H n ∧ Q (V.int n) H) call_len (by rfl) A.n_len PySem.boot_len (pa_cons (pv 0) pa_nil)))) (blkOk_by (own := [("place", 3)]) (N := ["a", "found", "ahead", "place", "tree", "parent", "word", "children", "number", "k"]) (sc := defScope s_listed) (by decide +kernel)) (fun _ _ _ _ _ => pg_name (i := 3) sc_listed.nd rfl (Or.inl rfl)) (fun _ _ _ _ _ => pts_nil) (fun _ _ _ _ _ => (pe_tup (pa_cons (pe_ix (r := rIxT K) ix_tup (pv 0) (pv 3) (fun _ _ => rfl)) (pa_cons (pe_un un_neg pe_int) (pa_cons (pv 3) pa_nil)))))) (pss_cons (ps_while PassesOwn.never (pt_truth (pv 2) (by intro _; rfl)) (pss_cons (ps_asg (pe_bm0 PySem.F.plainAttrs_list PySem.F.slot_list_pop PySem.F.type_list_pop mt_pop (pv 2)) (pg_tup (n := 3) rfl (pgs_cons (pg_name (i := 4) sc_listed.nd rfl (by first | exact Or.inl rfl | exact Or.inr rfl)) (pgs_cons (pg_name (i := 5) sc_listed.nd rfl (by first | exact Or.inl rfl | exact Or.inr rfl)) (pgs_cons (pg_name (i := 3) sc_listed.nd rfl (by first | exact Or.inl rfl | exact Or.inr rfl)) pgs_nil))))) (pss_cons (ps_asg (pv 4) (pg_tup (n := 2) rfl (pgs_cons (pg_name (i := 6) sc_listed.nd rfl (by first | exact Or.inl rfl | exact Or.inr rfl)) (pgs_cons (pg_name (i := 7) sc_listed.nd rfl (by first | exact Or.inl rfl | exact Or.inr rfl)) pgs_nil)))) (pss_cons (ps_set (i := 8) sc_listed.nd rfl (by first | exact Or.inl rfl | exact Or.inr rfl) (pe_callB (r := fun xs H Q => ∃ x n, xs = [x] ∧ LenV K x H n ∧ Q (V.int n) H) call_len (by rfl) A.n_len PySem.boot_len (pa_cons (pv 1) pa_nil))) (pss_cons (ps_expr (pe_bm PySem.F.plainAttrs_list PySem.F.slot_list_extend PySem.F.type_list_extend mt_extend (pv 2) (pa_cons (pe_lc (own := [("k", 9)]) (g := gName 9) rfl sc_listed.nd (pi_revR rfl A.n_reversed (prg_1 rfl A.n_range (pe_callB (r := fun xs H Q => ∃ x n, xs = [x] ∧ LenV K x H n ∧ Q (V.int n) H) call_len (by rfl) A.n_len PySem.boot_len (pa_cons (pv 7) pa_nil)))) (blkOk_by (own := [("k", 9)]) (N := ["a", "found", "ahead", "place", "tree", "parent", "word", "children", "number", "k"]) (sc := defScope s_listed) (by decide +kernel)) (fun _ _ _ _ _ => pg_name (i := 9) sc_listed.nd rfl (Or.inl rfl)) (fun _ _ _ _ _ => pts_nil) (fun _ _ _ _ _ => (pe_tup (pa_cons (pe_ix (r := rIxT K) ix_tup (pv 7) (pv 9) (fun _ _ => rfl)) (pa_cons (pv 8) (pa_cons (pv 9) pa_nil)))))) pa_nil))) (pss_one (ps_expr (pe_bm PySem.F.plainAttrs_list PySem.F.slot_list_append PySem.F.type_list_append mt_append (pv 1) (pa_cons (pe_tup (pa_cons (pv 6) (pa_cons (pv 5) (pa_cons (pv 3) pa_nil)))) pa_nil))))))))) (pss_one (ps_ret (pv 1)))))), ?_⟩
    walk_at "vc"
    cases hv with
    | tup ha hz =>
    rename_i a0 zs
    have hzl : zs.length = (kids p n (-1)).length := by rw [DpAll.len hz, List.length_map]
    have hkl : (kids p n (-1)).length ≤ n := kf_len
    have h1000 : (2000 : Nat) < sizeLine := by decide
    refine ⟨by decide, fun F hF => ⟨_, .inr ⟨_, SqT.tk ha (Tk.new hF), rfl⟩, by decide, by decide, by omega, by omega, fun D hD => ?_⟩⟩
    have hFD : F ≠ D := by rintro rfl; rw [upd_same] at hD; cases hD
    have hD0 : H D = none := by rw [upd_ne (Ne.symm hFD)] at hD; exact hD
    refine LcB.rng (fun i H' => ∃ acc, H' D = some (.lst acc) ∧ H' F = some (.lst []) ∧ Same H H' ∧ DpAll K H' acc (((kids p n (-1)).reverse.take i).map (stD p n x))) ?_ ?_ ?_
    · refine ⟨[], upd_same, by rw [upd_ne hFD]; exact upd_same, (Same.new hF).trans (Same.new hD), ?_⟩
      rw [List.take_zero]
      exact .nil
    · rintro i H1 hi ⟨acc, e1, e2, s1, d1⟩
      walk_at "vc"
      have hi' : i < (kids p n (-1)).length := by omega
      obtain ⟨j, hj⟩ : ∃ j, (kids p n (-1))[(kids p n (-1)).length - 1 - i]? = some j := ⟨_, List.getElem?_eq_getElem (by omega)⟩
      obtain ⟨hpl, hpj, hjn⟩ := pl_eq hj
      obtain ⟨zv, td, g1, g2, g3⟩ := DpAll.get (i := (kids p n (-1)).length - 1 - i) hz (by rw [List.length_map]; omega)
      rw [List.getElem?_map, hj] at g2
      cases g2
      have e0 : (0 : Int) + ((((zs.length : Nat) : Int) - 0).toNat : Nat) - 1 + (i : Nat) * (-1) = (((kids p n (-1)).length - 1 - i : Nat) : Int) := by omega
      rw [e0]
      refine ⟨zs, SqT.same ha s1, zv, atI_nat g1, by decide, fun t ht => ?_⟩
      have tD := none_ne e1 ht
      have tF := none_ne e2 ht
      refine ⟨acc, by rw [upd_ne tD]; exact e1, ?_, acc ++ [.ref t], upd_same, by rw [upd_ne hFD, upd_ne tF]; exact e2, ?_, ?_⟩
      · have := DpAll.len d1
        rw [List.length_map, List.length_take, List.length_reverse] at this
        omega
      · exact Same.mut (s1.trans (Same.new ht)) hD0
      · have k1 : Tk H1 (upd H1 t (.tup [zv, .int (-1), .int (((kids p n (-1)).length - 1 - i : Nat) : Int)])) := Tk.new ht
        have k2 : Tk (upd H1 t (.tup [zv, .int (-1), .int (((kids p n (-1)).length - 1 - i : Nat) : Int)])) (upd (upd H1 t (.tup [zv, .int (-1), .int (((kids p n (-1)).length - 1 - i : Nat) : Int)])) D (.lst (acc ++ [.ref t]))) := Tk.lst (xs := acc) (by rw [upd_ne tD]; exact e1)
        refine DpAll.take_snoc (j := j) (DpAll.tk (k1.trans k2) _ _ (nl_map nl_stD _) d1) (by rw [rev_get hi']; exact hj) ?_
        refine dp3 (by rw [upd_ne (Ne.symm tD)]; exact upd_same) (Dp.tk ((Tk.of_same s1).trans (k1.trans k2)) _ _ (nl_tr j) g3) ?_ ?_
        · rw [hpj]; exact .int _
        · rw [hpl]; exact .int _
    · rintro H1 ⟨acc, e1, e2, s1, d1⟩
      rw [List.take_of_length_le (by rw [List.length_reverse]; omega), ← sk_zero hp] at d1
      refine ⟨fun M σ H' => ∃ (m : Nat) (xs ys : List V) (s3 s4 s5 s6 s7 s8 s9 : Option V), M + m = n ∧ σ = [some (.ref a0), some (.ref F), some (.ref D), s3, s4, s5, s6, s7, s8, s9] ∧ H' F = some (.lst xs) ∧ H' D = some (.lst ys) ∧
        DpAll K H' xs ((List.range m).map (enD p n x)) ∧ DpAll K H' ys ((sk p n m).reverse.map (stD p n x)) ∧ Same H H', ⟨n, 0, [], acc, none, none, none, none, none, none, none, by omega, rfl, e2, e1, .nil, d1, s1⟩, ?_⟩
      rintro M σ H2 ⟨m, xs, ys, s3, s4, s5, s6, s7, s8, s9, hM, rfl, e3, e4, d3, d4, s2⟩
      rcases Nat.eq_or_lt_of_le (show m ≤ n by omega) with hm | hm
      · subst hm
        rw [sk_end] at d4
        cases d4
        exact ⟨_, rfl, false, .inl ⟨_, SqL.of e4, rfl⟩, iteF ⟨_, rfl, q F xs H2 hF s2 e3 d3⟩⟩
      · rw [sk_cons hp hm, List.reverse_cons, List.map_append] at d4
        obtain ⟨us, y, rfl, d5, d6⟩ := DpAll.right d4
        refine ⟨_, rfl, true, .inl ⟨_, SqL.of e4, by simp⟩, iteT ⟨fun σ' H' => ∃ m', m' < M ∧ ∃ (m : Nat) (xs ys : List V) (s3 s4 s5 s6 s7 s8 s9 : Option V), m' + m = n ∧ σ' = [some (.ref a0), some (.ref F), some (.ref D), s3, s4, s5, s6, s7, s8, s9] ∧ H' F = some (.lst xs) ∧ H' D = some (.lst ys) ∧
          DpAll K H' xs ((List.range m).map (enD p n x)) ∧ DpAll K H' ys ((sk p n m).reverse.map (stD p n x)) ∧ Same H H', fun _ _ h => h, ?_⟩⟩
        walk_at "vc"
        refine ⟨.inl ⟨rfl, _, SqL.of e4⟩, _, e4, y, by simp, ?_⟩
        rw [List.dropLast_concat]
        obtain ⟨b1, u1, u2, u3, rfl, hb1, d7, d8, d9⟩ := Dp.tup3_inv d6
        obtain rfl := (Dp.int_inv d8)
        obtain rfl := (Dp.int_inv d9)
        rw [tr, trR_eq turns_id hp hm] at d7
        obtain ⟨b2, w1, w2, rfl, hb2, d10, d11⟩ := Dp.tup2_inv d7
        obtain rfl := (Dp.str_inv d10)
        obtain ⟨b3, cs, rfl, hb3, d12⟩ := (Dp.tup_inv d11)
        have k3 : Tk H2 (upd H2 D (.lst us)) := Tk.lst e4
        refine gTup_go (SqT.tk hb1 k3) rfl ?_
        walk_at "vc"
        refine gTup_go (SqT.tk hb2 k3) rfl ?_
        walk_at "vc"
        have hDF : D ≠ F := Ne.symm hFD
        have f1 : (upd H2 D (.lst us)) F = some (.lst xs) := by rw [upd_ne hFD]; exact e3
        have f2 : (upd H2 D (.lst us)) D = some (.lst us) := upd_same
        have f3 : Same H (upd H2 D (.lst us)) := Same.mut s2 hD0
        have d3 := DpAll.tk k3 _ _ (nl_map nl_enD _) d3
        have d5 := DpAll.tk k3 _ _ (nl_map nl_stD _) d5
        have hb3 := SqT.tk hb3 k3
        have d12 := DpAll.tk k3 _ _ (nl_trs _) d12
        have lx : xs.length = m := by rw [DpAll.len d3, List.length_map, List.length_range]
        have lu : us.length ≤ n := by
          rw [DpAll.len d5, List.length_map, List.length_reverse]
          unfold sk'
          refine Nat.le_trans (List.length_filter_le _ _) ?_
          rw [List.length_range']
          omega
        have lc : cs.length = (kids p n m).length := by rw [DpAll.len d12, List.length_map]; rfl
        have lk : (kids p n m).length ≤ n := kf_len
        generalize upd H2 D (.lst us) = H3 at f1 f2 f3 d3 d5 hb3 d12
        refine ⟨_, .inl ⟨_, SqL.of f1, rfl⟩, .inl ⟨rfl, _, SqL.of f2⟩, _, .inr ⟨_, hb3, rfl⟩, by decide, by decide, by omega, by omega, fun G hG => ?_⟩
        have GF := none_ne f1 hG
        have GD := none_ne f2 hG
        have hG0 : H G = none := by
          cases e : H G with
          | none => rfl
          | some o => rw [f3 _ _ e] at hG; cases hG
        refine LcB.rng (fun i H' => ∃ acc, H' G = some (.lst acc) ∧ H' F = some (.lst xs) ∧ H' D = some (.lst us) ∧ Same H H' ∧ Tk H3 H' ∧ DpAll K H' acc (((kids p n m).reverse.take i).map (stD p n x))) ?_ ?_ ?_
        · refine ⟨[], upd_same, by rw [upd_ne GF]; exact f1, by rw [upd_ne GD]; exact f2, Same.mut f3 hG0, Tk.new hG, ?_⟩
          rw [List.take_zero]
          exact .nil
        · rintro i H4 hi ⟨acc, g1, g2, g3, g4, g5, g6⟩
          walk_at "vc"
          have hi' : i < (kids p n m).length := by omega
          obtain ⟨j, hj⟩ : ∃ j, (kids p n m)[(kids p n m).length - 1 - i]? = some j := ⟨_, List.getElem?_eq_getElem (by omega)⟩
          obtain ⟨hpl, hpj, hjn⟩ := pl_eq hj
          obtain ⟨zv, td, i1, i2, i3⟩ := DpAll.get (i := (kids p n m).length - 1 - i) d12 (by rw [List.length_map]; show _ < (kids p n m).length; omega)
          rw [List.getElem?_map, show (id (kids p n (m : Int))) = kids p n m from rfl, hj] at i2
          cases i2
          have e0 : (0 : Int) + ((((cs.length : Nat) : Int) - 0).toNat : Nat) - 1 + (i : Nat) * (-1) = (((kids p n m).length - 1 - i : Nat) : Int) := by omega
          rw [e0]
          refine ⟨cs, SqT.tk hb3 g5, zv, atI_nat i1, by decide, fun t ht => ?_⟩
          have tG := none_ne g1 ht
          have tF := none_ne g2 ht
          have tD := none_ne g3 ht
          have k1 : Tk H4 (upd H4 t (.tup [zv, .int (xs.length : Nat), .int (((kids p n m).length - 1 - i : Nat) : Int)])) := Tk.new ht
          have k2 : Tk (upd H4 t (.tup [zv, .int (xs.length : Nat), .int (((kids p n m).length - 1 - i : Nat) : Int)])) (upd (upd H4 t (.tup [zv, .int (xs.length : Nat), .int (((kids p n m).length - 1 - i : Nat) : Int)])) G (.lst (acc ++ [.ref t]))) := Tk.lst (xs := acc) (by rw [upd_ne tG]; exact g1)
          refine ⟨acc, by rw [upd_ne tG]; exact g1, ?_, acc ++ [.ref t], upd_same, by rw [upd_ne (Ne.symm GF).symm, upd_ne tF]; exact g2, by rw [upd_ne (Ne.symm GD).symm, upd_ne tD]; exact g3, ?_, g5.trans (k1.trans k2), ?_⟩
          · have := DpAll.len g6
            rw [List.length_map, List.length_take, List.length_reverse] at this
            omega
          · exact Same.mut (g4.trans (Same.new ht)) hG0
          · refine DpAll.take_snoc (j := j) (DpAll.tk (k1.trans k2) _ _ (nl_map nl_stD _) g6) (by rw [rev_get hi']; exact hj) ?_
            refine dp3 (by rw [upd_ne (Ne.symm tG)]; exact upd_same) (Dp.tk (g5.trans (k1.trans k2)) _ _ (nl_tr j) i3) ?_ ?_
            · rw [hpj, lx]; exact .int _
            · rw [hpl]; exact .int _
        · rintro H4 ⟨acc, g1, g2, g3, g4, g5, g6⟩
          rw [List.take_of_length_le (by rw [List.length_reverse]; omega)] at g6
          have la : acc.length ≤ n := by rw [DpAll.len g6, List.length_map, List.length_reverse]; exact lk
          refine ⟨G, rfl, us, g3, acc, g1, by omega, ?_⟩
          have j3 : Tk H4 (upd H4 D (.lst (us ++ acc))) := Tk.lst g3
          refine ⟨.inl ⟨rfl, xs, SqL.of (by rw [upd_ne hFD]; exact g2)⟩, by decide, fun t ht => ?_⟩
          have tD : D ≠ t := none_ne upd_same ht
          have tF : F ≠ t := none_ne (show (upd H4 D (.lst (us ++ acc))) F = some (.lst xs) by rw [upd_ne hFD]; exact g2) ht
          have f5 : (upd (upd H4 D (.lst (us ++ acc))) t (.tup [.str (x m), .int (p m), .int (pl p n m)])) F = some (.lst xs) := by rw [upd_ne tF, upd_ne hFD]; exact g2
          have j4 := j3.trans (Tk.new (o := .tup [.str (x m), .int (p m), .int (pl p n m)]) ht)
          have j5 := j4.trans (Tk.lst (ys := xs ++ [.ref t]) f5)
          have t0 : H t = none := by
            cases e : H t with
            | none => rfl
            | some o => rw [Same.mut (o := .lst (us ++ acc)) g4 hD0 _ _ e] at ht; cases ht
          refine ⟨xs, f5, by omega, M - 1, by omega, m + 1, by omega, xs ++ [.ref t], us ++ acc, _, _, _, _, _, _, _, ⟨rfl, rfl, rfl, rfl, rfl, rfl, rfl⟩, upd_same, by rw [upd_ne hDF, upd_ne tD]; exact upd_same, ?_, ?_, ?_⟩
          · rw [List.range_succ, List.map_append]
            exact DpAll.app' (DpAll.tk (g5.trans j5) _ _ (nl_map nl_enD _) d3) (.cons (dp3 (by rw [upd_ne (Ne.symm tF)]; exact upd_same) (.str _) (.int _) (.int _)) .nil)
          · rw [sk_next hp hm, List.reverse_append, List.map_append]
            exact DpAll.app' (DpAll.tk (g5.trans j5) _ _ (nl_map nl_stD _) d5) (DpAll.tk j5 _ _ (nl_map nl_stD _) g6)
          · exact Same.mut (Same.mut (Same.mut g4 hD0) t0) hF
end
end Ly
namespace Ly
open PySem PySem.Spec PyProof.Rows L2
open GxR (TabG Tabbed)
local macro_rules | `(tactic| walk_at "vc") => `(tactic| simp only [tSeq, tAsg, tOp, tVar, tC, tRet, tRetN, tNext, tIfS, tIf, tDrop, tB, tTest, tNot, tAnd, tOr, tAndV, tOrV, tNotV, tChain, tUn, tCB, tCons, tNil, tTup, tLst, tSl, tPart, tNoPart, tCall, tBreak, tCont,
  rI, rI0, rU, gName, gNil_nil, gCons_cons, gSub, rSetL, L2.start, cx_K, cx_nox, tLc_eq, tFor_eq, iRng1, iRng2, iList, iTup, tM1, tYes, wipe, rIxS, rIxL, rIxT, rCat, rSlL, rEq, rNe, rPop, rAppend, tBM, tBM0, tMkO_eq, tVal_eq, tFldE_eq, tXfE_eq, tCallS, lenV_ref, iRevR, tRg1, RT.iRevA, RZ.iZipA, tDGet, sDPut, tDNewK, tAugS, ipI, tMaxD, tCallK0, rRep, rExtend, CDiv, CDivW, CPow, CMulX,
  List.map_cons, List.map_nil, List.cons_append, List.nil_append, List.append_nil, List.length_cons, List.length_nil, List.replicate, List.getElem?_cons_zero, List.getElem?_cons_succ, List.set_cons_zero, List.set_cons_succ, Nat.reduceSub, Nat.reduceAdd,
  Option.some.injEq, V.int.injEq, V.bl.injEq, V.str.injEq, V.ref.injEq, exists_eq_left', exists_eq_left, exists_and_left, reduceCtorEq, false_and, and_false, exists_false, or_false, false_or, Bool.false_eq_true, if_false, if_true, reduceIte, decide_eq_true_eq, List.cons.injEq, and_true, true_and])
section
variable {P : Program} {w : World} {K : PySem.W.Frag} {mg : Str → Option Value} {base : Heap} {T : Addr}
/-- v holds the forest of the words x and the parents p -/
structure IsFo (K : PySem.W.Frag) (H : Hp) (v : V) (p : Nat → Int) (n : Nat) (x : Nat → Str) : Prop where
  pre : Pre p n
  le : n ≤ 1000
  dp : Dp K H v (foD p n x)
theorem IsFo.tk {H H' : Hp} {v : V} {p : Nat → Int} {n : Nat} {x : Nat → Str} (h : IsFo K H v p n x) (t : Tk H H') : IsFo K H' v p n x := ⟨h.pre, h.le, Dp.tk t _ _ (nl_trs _) h.dp⟩
/-- a def of a forest that returns a new tuple -/
def sp_tupl (K : PySem.W.Frag) (f : (Nat → Int) → Nat → (Nat → Str) → Nat → V) : Sp := fun vs H Q _ => ∃ (v : V) (p : Nat → Int) (n : Nat) (x : Nat → Str), vs = [v] ∧ IsFo K H v p n x ∧
  ∀ q H', H q = none → Same H H' → H' q = some (.tup ((List.range n).map (f p n x))) → Q (.ref q) H'
theorem range_get {n i : Nat} {α : Type} {f : Nat → α} (h : i < n) : ((List.range n).map f)[i]? = some (f i) := by
  rw [List.getElem?_map, List.getElem?_eq_getElem (by rw [List.length_range]; exact h), List.getElem_range]
  rfl
/-- the i-th entry of the list of all nodes -/
theorem en_get {H : Hp} {xs : List V} {p : Nat → Int} {n : Nat} {x : Nat → Str} (d : DpAll K H xs ((List.range n).map (enD p n x))) {i : Nat} {v : V} (e : xs[i]? = some v) : i < n ∧ ∃ b, v = .ref b ∧ SqT K H b [.str (x i), .int (p i), .int (pl p n i)] := by
  obtain ⟨t, ht, hv⟩ := DpAll.at d e
  have hi : i < n := by
    have := (List.getElem?_eq_some_iff.mp ht).1
    rwa [List.length_map, List.length_range] at this
  rw [range_get hi] at ht
  cases ht
  obtain ⟨b, u1, u2, u3, rfl, h, d1, d2, d3⟩ := Dp.tup3_inv hv
  obtain rfl := Dp.str_inv d1
  obtain rfl := Dp.int_inv d2
  obtain rfl := Dp.int_inv d3
  exact ⟨hi, b, rfl, h⟩
theorem fresh_of {H H' : Hp} {a : Addr} (s : Same H H') (h : H' a = none) : H a = none := by
  cases e : H a with
  | none => rfl
  | some o => rw [s _ _ e] at h; cases h
theorem ok_node_words (A : All K mg) : FnOk P w K mg base CX0 2 A.node_words.f A.node_words.fd ["a"] (sp_tupl K fun p n x k => .str (x k)) := by
  have G_listed := ok_listed (P := P) (w := w) (base := base) A
  refine A.node_words.F.ok sc_node_words (fun vs H Q E h => ?_) (fun cdv B outer s H vs Q E hr h => ?_)
  · obtain ⟨v, p, n, x, rfl, _⟩ := h
    rfl
  · obtain ⟨v, p, n, x, rfl, hv, q⟩ := h
    refine ⟨_, (pss_one (ps_ret (pe_callTy call_tuple_of (by rfl) A.n_tuple (by decide +kernel) (pa_cons (pe_lc (own := [("word", 1), ("_", 2)]) (g := gTup K 3 (gCons (gName 1) (gCons (gName 2) (gCons (gName 2) gNil)))) rfl sc_node_words.nd (pi_list (pe_call G_listed (hr.mono (by decide)) rfl A.listed.m A.listed.kp A.listed.b .nil pass0 (pa_cons (pv 0) pa_nil))) (blkOk_by (own := [("word", 1), ("_", 2)]) (N := ["a", "word", "_"]) (sc := defScope s_node_words) (by decide +kernel)) (fun _ _ _ _ _ => pg_tup rfl (pgs_cons (pg_name (i := 1) sc_node_words.nd rfl (Or.inl rfl)) (pgs_cons (pg_name (i := 2) sc_node_words.nd rfl (Or.inl rfl)) (pgs_cons (pg_name (i := 2) sc_node_words.nd rfl (Or.inl rfl)) pgs_nil)))) (fun _ _ _ _ _ => pts_nil) (fun _ _ _ _ _ => (pv 1))) pa_nil)))), ?_⟩
    walk_at "vc"
    refine ⟨v, p, n, x, rfl, hv.pre, hv.le, hv.dp, fun F xs H1 hF s1 e1 d1 => ?_⟩
    walk_at "vc"
    have lx : xs.length = n := by rw [DpAll.len d1, List.length_map, List.length_range]
    refine ⟨⟨_, SqL.of e1⟩, fun D hD => ?_⟩
    have FD := none_ne e1 hD
    have hD0 := fresh_of s1 hD
    refine LcB.list (xs := xs) (fun i H' => H' D = some (.lst ((List.range i).map fun k => .str (x k))) ∧ Same H1 H') ?_ ?_ ?_ ?_
    · exact ⟨upd_same, Same.new hD⟩
    · rintro i H2 _ ⟨_, s2⟩
      exact SqL.of (s2 _ _ e1)
    · rintro i v2 H2 hi ⟨e2, s2⟩
      obtain ⟨hin, b, rfl, hb⟩ := en_get d1 hi
      refine gTup_go (SqT.same hb s2) rfl ?_
      walk_at "vc"
      refine ⟨_, e2, ?_, ?_, Same.mut s2 hD⟩
      · rw [List.length_map, List.length_range]
        exact Nat.lt_of_lt_of_le (Nat.lt_of_lt_of_le hin hv.le) (by decide)
      · rw [upd_same, List.range_succ, List.map_append]
        rfl
    · rintro H2 ⟨e2, s2⟩
      rw [lx] at e2
      walk_at "vc"
      refine ⟨_, .inl ⟨SqL.of e2, fun t ht => q t _ (fresh_of (s1.trans s2) ht) ((s1.trans s2).trans (Same.new ht)) upd_same⟩⟩
theorem ok_node_parents (A : All K mg) : FnOk P w K mg base CX0 2 A.node_parents.f A.node_parents.fd ["a"] (sp_tupl K fun p n x k => .int (p k)) := by
  have G_listed := ok_listed (P := P) (w := w) (base := base) A
  refine A.node_parents.F.ok sc_node_parents (fun vs H Q E h => ?_) (fun cdv B outer s H vs Q E hr h => ?_)
  · obtain ⟨v, p, n, x, rfl, _⟩ := h
    rfl
  · obtain ⟨v, p, n, x, rfl, hv, q⟩ := h
    refine ⟨_, (pss_one (ps_ret (pe_callTy call_tuple_of (by rfl) A.n_tuple (by decide +kernel) (pa_cons (pe_lc (own := [("_", 1), ("parent", 2)]) (g := gTup K 3 (gCons (gName 1) (gCons (gName 2) (gCons (gName 1) gNil)))) rfl sc_node_parents.nd (pi_list (pe_call G_listed (hr.mono (by decide)) rfl A.listed.m A.listed.kp A.listed.b .nil pass0 (pa_cons (pv 0) pa_nil))) (blkOk_by (own := [("_", 1), ("parent", 2)]) (N := ["a", "_", "parent"]) (sc := defScope s_node_parents) (by decide +kernel)) (fun _ _ _ _ _ => pg_tup rfl (pgs_cons (pg_name (i := 1) sc_node_parents.nd rfl (Or.inl rfl)) (pgs_cons (pg_name (i := 2) sc_node_parents.nd rfl (Or.inl rfl)) (pgs_cons (pg_name (i := 1) sc_node_parents.nd rfl (Or.inl rfl)) pgs_nil)))) (fun _ _ _ _ _ => pts_nil) (fun _ _ _ _ _ => (pv 2))) pa_nil)))), ?_⟩
    walk_at "vc"
    refine ⟨v, p, n, x, rfl, hv.pre, hv.le, hv.dp, fun F xs H1 hF s1 e1 d1 => ?_⟩
    walk_at "vc"
    have lx : xs.length = n := by rw [DpAll.len d1, List.length_map, List.length_range]
    refine ⟨⟨_, SqL.of e1⟩, fun D hD => ?_⟩
    have FD := none_ne e1 hD
    have hD0 := fresh_of s1 hD
    refine LcB.list (xs := xs) (fun i H' => H' D = some (.lst ((List.range i).map fun k => .int (p k))) ∧ Same H1 H') ?_ ?_ ?_ ?_
    · exact ⟨upd_same, Same.new hD⟩
    · rintro i H2 _ ⟨_, s2⟩
      exact SqL.of (s2 _ _ e1)
    · rintro i v2 H2 hi ⟨e2, s2⟩
      obtain ⟨hin, b, rfl, hb⟩ := en_get d1 hi
      refine gTup_go (SqT.same hb s2) rfl ?_
      walk_at "vc"
      refine ⟨_, e2, ?_, ?_, Same.mut s2 hD⟩
      · rw [List.length_map, List.length_range]
        exact Nat.lt_of_lt_of_le (Nat.lt_of_lt_of_le hin hv.le) (by decide)
      · rw [upd_same, List.range_succ, List.map_append]
        rfl
    · rintro H2 ⟨e2, s2⟩
      rw [lx] at e2
      walk_at "vc"
      refine ⟨_, .inl ⟨SqL.of e2, fun t ht => q t _ (fresh_of (s1.trans s2) ht) ((s1.trans s2).trans (Same.new ht)) upd_same⟩⟩
/-- a def of a forest that returns a new tuple of data -/
def sp_dat (K : PySem.W.Frag) (f : (Nat → Int) → Nat → (Nat → Str) → Nat → PyData) : Sp := fun vs H Q _ => ∃ (v : V) (p : Nat → Int) (n : Nat) (x : Nat → Str), vs = [v] ∧ IsFo K H v p n x ∧
  ∀ q H' rs, H q = none → Same H H' → H' q = some (.tup rs) → DpAll K H' rs ((List.range n).map (f p n x)) → Q (.ref q) H'
theorem ints_of {H : Hp} : ∀ {l : List Int} {vs : List V}, DpAll K H vs (l.map PyData.int) → vs = l.map V.int
  | [], _, h => by cases h; rfl
  | i :: l, _, h => by
    cases h with
    | cons h1 h2 =>
      obtain rfl := Dp.int_inv h1
      rw [ints_of h2]
      rfl
theorem nl_ints : ∀ l : List Int, nlAll (l.map PyData.int)
  | [] => trivial
  | _ :: l => ⟨trivial, nl_ints l⟩
theorem nl_pa {p : Nat → Int} {n : Nat} (k : Nat) : nl (.tuple ((pa p n k).map .int)) := nl_ints _
theorem ok_node_paths (A : All K mg) : FnOk P w K mg base CX0 2 A.node_paths.f A.node_paths.fd ["a"] (sp_dat K fun p n x k => .tuple ((pa p n k).map .int)) := by
  have G_listed := ok_listed (P := P) (w := w) (base := base) A
  refine A.node_paths.F.ok sc_node_paths (fun vs H Q E h => ?_) (fun cdv B outer s H vs Q E hr h => ?_)
  · obtain ⟨v, p, n, x, rfl, _⟩ := h
    rfl
  · obtain ⟨v, p, n, x, rfl, hv, q⟩ := h
    refine ⟨_, (pss_cons (ps_set (i := 1) sc_node_paths.nd rfl (by first | exact Or.inl rfl | exact Or.inr rfl) (pe_lst pa_nil)) (pss_cons (ps_for PassesOwn.never rfl (pi_list (pe_call G_listed (hr.mono (by decide)) rfl A.listed.m A.listed.kp A.listed.b .nil pass0 (pa_cons (pv 0) pa_nil))) (pg_tup (n := 3) rfl (pgs_cons (pg_name (i := 2) sc_node_paths.nd rfl (by first | exact Or.inl rfl | exact Or.inr rfl)) (pgs_cons (pg_name (i := 3) sc_node_paths.nd rfl (by first | exact Or.inl rfl | exact Or.inr rfl)) (pgs_cons (pg_name (i := 4) sc_node_paths.nd rfl (by first | exact Or.inl rfl | exact Or.inr rfl)) pgs_nil)))) (pss_cons (ps_set (i := 5) sc_node_paths.nd rfl (by first | exact Or.inl rfl | exact Or.inr rfl) (pe_ifExp (pt_cmpR op_ge (pv 3) pe_int (nomark _)) (pe_ix (r := rIxL K) ix_list (pv 1) (pv 3) (fun _ _ => rfl)) (pe_tup pa_nil))) (pss_one (ps_expr (pe_bm PySem.F.plainAttrs_list PySem.F.slot_list_append PySem.F.type_list_append mt_append (pv 1) (pa_cons (pe_op op_catA (pv 5) (pe_tup (pa_cons (pv 4) pa_nil))) pa_nil)))))) (pss_one (ps_ret (pe_callTy call_tuple_of (by rfl) A.n_tuple (by decide +kernel) (pa_cons (pv 1) pa_nil)))))), ?_⟩
    walk_at "vc"
    refine ⟨by decide, fun D hD => ⟨v, p, n, x, rfl, hv.pre, hv.le, Dp.tk (Tk.new hD) _ _ (nl_trs _) hv.dp, fun F xs H1 hF s1 e1 d1 => ?_⟩⟩
    walk_at "vc"
    have lx : xs.length = n := by rw [DpAll.len d1, List.length_map, List.length_range]
    have eD : H1 D = some (.lst []) := s1 _ _ upd_same
    have FD : F ≠ D := by rintro rfl; rw [upd_same] at hF; cases hF
    have hF0 : H F = none := by rw [upd_ne FD] at hF; exact hF
    have s0 : Same H H1 := (Same.new hD).trans s1
    refine ⟨⟨_, SqL.of e1⟩, ?_⟩
    refine ForB.list (xs := xs) (fun i σ H' => ∃ (rs : List V) (s2 s3 s4 s5 : Option V), σ = [some v, some (.ref D), s2, s3, s4, s5] ∧ H' D = some (.lst rs) ∧ H' F = some (.lst xs) ∧ Same H H' ∧ Tk H1 H' ∧ DpAll K H' rs ((List.range i).map fun k => .tuple ((pa p n k).map .int))) ?_ ?_ ?_ ?_
    · exact ⟨[], _, _, _, _, rfl, eD, e1, s0, Tk.refl, .nil⟩
    · rintro i σ H2 _ ⟨_, _, _, _, _, _, _, e2, _⟩
      exact SqL.of e2
    · rintro i v2 σ H2 hi ⟨rs, s2, s3, s4, s5, rfl, g1, g2, g3, g4, g5⟩
      obtain ⟨hin, b, rfl, hb⟩ := en_get d1 hi
      refine gTup_go (SqT.tk hb g4) rfl ?_
      walk_at "vc"
      have lr : rs.length = i := by rw [DpAll.len g5, List.length_map, List.length_range]
      have big : (2000 : Nat) < sizeLine := by decide
      have hle := hv.le
      have fin : ∀ (H3 : Hp) (r : V) (z2 z3 z4 z5 : Option V), Same H2 H3 → Dp K H3 r (.tuple ((pa p n i).map .int)) → ∃ x_2, H3 D = some (HO.lst x_2) ∧ x_2.length < sizeLine ∧ ∃ rs s2 s3 s4 s5, (z2 = s2 ∧ z3 = s3 ∧ z4 = s4 ∧ z5 = s5) ∧
          upd H3 D (HO.lst (x_2 ++ [r])) D = some (HO.lst rs) ∧ upd H3 D (HO.lst (x_2 ++ [r])) F = some (HO.lst xs) ∧ Same H (upd H3 D (HO.lst (x_2 ++ [r]))) ∧ Tk H1 (upd H3 D (HO.lst (x_2 ++ [r]))) ∧
          DpAll K (upd H3 D (HO.lst (x_2 ++ [r]))) rs (List.map (fun k => PyData.tuple (List.map PyData.int (pa p n k))) (List.range (i + 1))) := by
        intro H3 r z2 z3 z4 z5 s3 hr
        have k3 : Tk H3 (upd H3 D (HO.lst (rs ++ [r]))) := Tk.lst (s3 _ _ g1)
        refine ⟨rs, s3 _ _ g1, by omega, rs ++ [r], _, _, _, _, ⟨rfl, rfl, rfl, rfl⟩, upd_same, by rw [upd_ne FD]; exact s3 _ _ g2, Same.mut (g3.trans s3) hD, g4.trans ((Tk.of_same s3).trans k3), ?_⟩
        rw [List.range_succ, List.map_append]
        exact DpAll.app' (DpAll.tk ((Tk.of_same s3).trans k3) _ _ (nl_map (fun k => nl_pa k) _) g5) (.cons (Dp.tk k3 _ _ (nl_pa i) hr) .nil)
      have hlo := hv.pre.lo i hin
      have hhi := hv.pre.hi i hin
      by_cases c : 0 ≤ p i
      · rw [if_pos c]
        obtain ⟨y, hy⟩ : ∃ y : Nat, p i = (y : Int) := ⟨(p i).toNat, by omega⟩
        obtain ⟨r, d, h1, h2, h3⟩ := DpAll.get (i := y) g5 (by rw [List.length_map, List.length_range]; omega)
        rw [range_get (by omega)] at h2
        cases h2
        obtain ⟨a, ys, rfl, ha, hys⟩ := Dp.tup_inv h3
        obtain rfl := ints_of hys
        have lp := pa_len hv.pre y (by omega)
        have ld := dp_le (p := p) y
        rw [hy]
        refine ⟨rs, SqL.of g1, _, atI_nat h1, .inl ⟨rfl, _, SqL.of g1⟩, by decide, fun t ht => ?_⟩
        refine ⟨a, t, _, _, rfl, rfl, SqT.same ha (Same.new ht), SqT.of upd_same, ?_, fun e => ?_, (fun _ e => by cases e), fun _ _ t2 ht2 => ?_⟩
        · rw [List.length_map, lp]
          show dp p y + 1 + 1 ≤ sizeLine
          omega
        · have := congrArg List.length e
          rw [List.length_map, lp] at this
          cases this
        · refine fin _ _ _ _ _ _ ((Same.new ht).trans (Same.new ht2)) (.tup (SqT.of upd_same) ?_)
          rw [pa_kid hy (by omega), List.map_append]
          exact DpAll.app' (dpAll_ints _) (.cons (.int _) .nil)
      · rw [if_neg c]
        refine ⟨by decide, fun t ht => ⟨.inl ⟨rfl, _, SqL.of (Same.new ht _ _ g1)⟩, by decide, fun t2 ht2 => ?_⟩⟩
        refine ⟨t, t2, [], _, rfl, rfl, SqT.of (Same.new ht2 _ _ upd_same), SqT.of upd_same, by show 0 + 1 ≤ sizeLine; decide, fun _ => ?_, fun e => absurd rfl e, fun e => absurd rfl e⟩
        refine fin _ _ _ _ _ _ ((Same.new ht).trans (Same.new ht2)) (.tup (SqT.of upd_same) ?_)
        rw [pa_root (by omega)]
        exact .cons (.int _) .nil
    · rintro σ H2 ⟨rs, s2, s3, s4, s5, rfl, g1, g2, g3, g4, g5⟩
      rw [lx] at g5
      walk_at "vc"
      refine ⟨_, .inl ⟨SqL.of g1, fun t ht => q t _ rs (fresh_of g3 ht) (g3.trans (Same.new ht)) upd_same (DpAll.tk (Tk.new ht) _ _ (nl_map (fun k => nl_pa k) _) g5)⟩⟩
end
end Ly
namespace Ly
open PySem PySem.Spec PyProof.Rows L2
open GxR (TabG Tabbed)
local macro_rules | `(tactic| walk_at "vc") => `(tactic| simp only [tSeq, tAsg, tOp, tVar, tC, tRet, tRetN, tNext, tIfS, tIf, tDrop, tB, tTest, tNot, tAnd, tOr, tAndV, tOrV, tNotV, tChain, tUn, tCB, tCons, tNil, tTup, tLst, tSl, tPart, tNoPart, tCall, tBreak, tCont,
  rI, rI0, rU, gName, gNil_nil, gCons_cons, gSub, rSetL, L2.start, cx_K, cx_nox, tLc_eq, tFor_eq, iRng1, iRng2, iList, iTup, tM1, tYes, wipe, rIxS, rIxL, rIxT, rCat, rSlL, rEq, rNe, rPop, rAppend, tBM, tBM0, tMkO_eq, tVal_eq, tFldE_eq, tXfE_eq, tCallS, lenV_ref, iRevR, tRg1, RT.iRevA, RZ.iZipA, tDGet, sDPut, tDNewK, tAugS, ipI, tMaxD, tCallK0, rRep, rExtend, CDiv, CDivW, CPow, CMulX,
  List.map_cons, List.map_nil, List.cons_append, List.nil_append, List.append_nil, List.length_cons, List.length_nil, List.replicate, List.getElem?_cons_zero, List.getElem?_cons_succ, List.set_cons_zero, List.set_cons_succ, Nat.reduceSub, Nat.reduceAdd,
  Option.some.injEq, V.int.injEq, V.bl.injEq, V.str.injEq, V.ref.injEq, exists_eq_left', exists_eq_left, exists_and_left, reduceCtorEq, false_and, and_false, exists_false, or_false, false_or, Bool.false_eq_true, if_false, if_true, reduceIte, decide_eq_true_eq, List.cons.injEq, and_true, true_and])
section
variable {P : Program} {w : World} {K : PySem.W.Frag} {mg : Str → Option Value} {base : Heap} {T : Addr}
theorem ok_node_depths (A : All K mg) : FnOk P w K mg base CX0 3 A.node_depths.f A.node_depths.fd ["a"] (sp_tupl K fun p n x k => .int ((dp p k + 1 : Nat) : Int)) := by
  have G_node_paths := ok_node_paths (P := P) (w := w) (base := base) A
  refine A.node_depths.F.ok sc_node_depths (fun vs H Q E h => ?_) (fun cdv B outer s H vs Q E hr h => ?_)
  · obtain ⟨v, p, n, x, rfl, _⟩ := h
    rfl
  · obtain ⟨v, p, n, x, rfl, hv, q⟩ := h
    refine ⟨_, (pss_one (ps_ret (pe_callTy call_tuple_of (by rfl) A.n_tuple (by decide +kernel) (pa_cons (pe_lc (own := [("path", 1)]) (g := gName 1) rfl sc_node_depths.nd (pi_tup (pe_call G_node_paths (hr.mono (by decide)) rfl A.node_paths.m A.node_paths.kp A.node_paths.b .nil pass0 (pa_cons (pv 0) pa_nil))) (blkOk_by (own := [("path", 1)]) (N := ["a", "path"]) (sc := defScope s_node_depths) (by decide +kernel)) (fun _ _ _ _ _ => pg_name (i := 1) sc_node_depths.nd rfl (Or.inl rfl)) (fun _ _ _ _ _ => pts_nil) (fun _ _ _ _ _ => (pe_callB (r := fun xs H Q => ∃ x n, xs = [x] ∧ LenV K x H n ∧ Q (V.int n) H) call_len (by rfl) A.n_len PySem.boot_len (pa_cons (pv 1) pa_nil)))) pa_nil)))), ?_⟩
    walk_at "vc"
    refine ⟨v, p, n, x, rfl, hv, fun F H1 xs hF s1 e1 d1 => ?_⟩
    walk_at "vc"
    have lx : xs.length = n := by rw [DpAll.len d1, List.length_map, List.length_range]
    refine ⟨⟨_, SqT.of e1⟩, fun D hD => ?_⟩
    have FD := none_ne e1 hD
    have hD0 := fresh_of s1 hD
    refine LcB.tup (xs := xs) (fun i H' => H' D = some (.lst ((List.range i).map fun k => .int ((dp p k + 1 : Nat) : Int))) ∧ Same H1 H') ?_ ?_ ?_ ?_
    · exact ⟨upd_same, Same.new hD⟩
    · rintro i H2 _ ⟨_, s2⟩
      exact SqT.of (s2 _ _ e1)
    · rintro i v2 H2 hi ⟨e2, s2⟩
      obtain ⟨t, ht, hv2⟩ := DpAll.at d1 hi
      have hin : i < n := by
        have := (List.getElem?_eq_some_iff.mp hi).1
        omega
      rw [range_get hin] at ht
      cases ht
      obtain ⟨a, ys, rfl, ha, hys⟩ := Dp.tup_inv hv2
      obtain rfl := ints_of hys
      walk_at "vc"
      refine ⟨_, .inr ⟨_, SqT.same ha s2, rfl⟩, _, e2, ?_, ?_, Same.mut s2 hD⟩
      · rw [List.length_map, List.length_range]
        exact Nat.lt_of_lt_of_le (Nat.lt_of_lt_of_le hin hv.le) (by decide)
      · rw [upd_same, List.range_succ, List.map_append, List.length_map, pa_len hv.pre i hin]
        rfl
    · rintro H2 ⟨e2, s2⟩
      rw [lx] at e2
      walk_at "vc"
      refine ⟨_, .inl ⟨SqL.of e2, fun t ht => q t _ (fresh_of (s1.trans s2) ht) ((s1.trans s2).trans (Same.new ht)) upd_same⟩⟩
theorem set_map {n j : Nat} {f g : Nat → V} {v : V} (hj : g j = v) (ho : ∀ k, k < n → k ≠ j → g k = f k) : ((List.range n).map f).set j v = (List.range n).map g := by
  apply List.ext_getElem?
  intro k
  rcases Nat.lt_or_ge k n with h | h
  · rw [range_get h, List.getElem?_set]
    split
    · rename_i e
      subst e
      rw [if_pos (by rw [List.length_map, List.length_range]; exact h), hj]
    · rename_i e
      rw [range_get h, ho k h (Ne.symm e)]
  · rw [List.getElem?_eq_none (by rw [List.length_set, List.length_map, List.length_range]; exact h), List.getElem?_eq_none (by rw [List.length_map, List.length_range]; exact h)]
theorem rep_flat (v : V) : ∀ k : Nat, (List.replicate k [v]).flatten = List.replicate k v
  | 0 => rfl
  | k + 1 => by rw [List.replicate_succ, List.flatten_cons, rep_flat v k]; rfl
theorem rep_map {n : Nat} {f : Nat → V} {v : V} (h : ∀ k, k < n → f k = v) : List.replicate n v = (List.range n).map f := by
  apply List.ext_getElem?
  intro k
  rcases Nat.lt_or_ge k n with c | c
  · rw [range_get c, h k c, List.getElem?_replicate, if_pos c]
  · rw [List.getElem?_eq_none (by rw [List.length_replicate]; exact c), List.getElem?_eq_none (by rw [List.length_map, List.length_range]; exact c)]
theorem ok_node_sizes (A : All K mg) : FnOk P w K mg base CX0 3 A.node_sizes.f A.node_sizes.fd ["a"] (sp_tupl K fun p n x k => .int (szM p n 0 k : Nat)) := by
  have G_node_parents := ok_node_parents (P := P) (w := w) (base := base) A
  refine A.node_sizes.F.ok sc_node_sizes (fun vs H Q E h => ?_) (fun cdv B outer s H vs Q E hr h => ?_)
  · obtain ⟨v, p, n, x, rfl, _⟩ := h
    rfl
  · obtain ⟨v, p, n, x, rfl, hv, q⟩ := h
    refine ⟨_, (pss_cons (ps_set (i := 1) sc_node_sizes.nd rfl (by first | exact Or.inl rfl | exact Or.inr rfl) (pe_call G_node_parents (hr.mono (by decide)) rfl A.node_parents.m A.node_parents.kp A.node_parents.b .nil pass0 (pa_cons (pv 0) pa_nil))) (pss_cons (ps_set (i := 2) sc_node_sizes.nd rfl (by first | exact Or.inl rfl | exact Or.inr rfl) (pe_op op_rep (pe_lst (pa_cons pe_int pa_nil)) (pe_callB (r := fun xs H Q => ∃ x n, xs = [x] ∧ LenV K x H n ∧ Q (V.int n) H) call_len (by rfl) A.n_len PySem.boot_len (pa_cons (pv 1) pa_nil)))) (pss_cons (ps_for PassesOwn.never rfl (pi_revR rfl A.n_reversed (prg_1 rfl A.n_range (pe_callB (r := fun xs H Q => ∃ x n, xs = [x] ∧ LenV K x H n ∧ Q (V.int n) H) call_len (by rfl) A.n_len PySem.boot_len (pa_cons (pv 1) pa_nil)))) (pg_name (i := 3) sc_node_sizes.nd rfl (by first | exact Or.inl rfl | exact Or.inr rfl)) (pss_one (ps_if (pt_cmpR op_ge (pe_ix (r := rIxT K) ix_tup (pv 1) (pv 3) (fun _ _ => rfl)) pe_int (nomark _)) (pss_one (ps_augS (pv 2) (pe_ix (r := rIxT K) ix_tup (pv 1) (pv 3) (fun _ _ => rfl)) pget_list (pe_ix (r := rIxL K) ix_list (pv 2) (pv 3) (fun _ _ => rfl)) ip_add set_list)) pss_nil))) (pss_one (ps_ret (pe_callTy call_tuple_of (by rfl) A.n_tuple (by decide +kernel) (pa_cons (pv 2) pa_nil))))))), ?_⟩
    walk_at "vc"
    refine ⟨v, p, n, x, rfl, hv, fun F H1 hF s1 e1 => ?_⟩
    walk_at "vc"
    have e1 : H1 F = some (.tup ((List.range n).map fun k => V.int (p k))) := e1
    have hn := hv.le
    have big : (2000 : Nat) < sizeLine := by decide
    refine ⟨by decide, fun D0 hD0 => ⟨_, .inr ⟨_, SqT.same (SqT.of e1) (Same.new hD0), rfl⟩, _, upd_same, ?_⟩⟩
    have l1 : ((List.range n).map fun k => V.int (p k)).length = n := by rw [List.length_map, List.length_range]
    show -2 ^ 63 ≤ ((((List.range n).map fun k => V.int (p k)).length : Nat) : Int) ∧ _
    rw [l1]
    refine ⟨by omega, by omega, by show 1 * (n : Int).toNat ≤ sizeLine; omega, fun D hD => ⟨_, .inr ⟨_, SqT.same (SqT.same (SqT.of e1) (Same.new hD0)) (Same.new hD), rfl⟩, by decide, by decide, by omega, by omega, ?_⟩⟩
    rw [l1, Int.toNat_natCast, rep_flat, rep_map (f := fun k => .int (szM p n n k : Nat)) (fun k hk => by rw [szM_start hk]; rfl)]
    have s2 : Same H (upd (upd H1 D0 (.lst [.int 1])) D (.lst ((List.range n).map fun k => .int (szM p n n k : Nat)))) := (s1.trans (Same.new hD0)).trans (Same.new hD)
    have e2 : (upd (upd H1 D0 (.lst [.int 1])) D (.lst ((List.range n).map fun k => .int (szM p n n k : Nat)))) F = some (.tup ((List.range n).map fun k => V.int (p k))) := ((Same.new hD0).trans (Same.new hD)) _ _ e1
    have hD1 : H D = none := fresh_of (s1.trans (Same.new hD0)) hD
    have FD : F ≠ D := none_ne ((Same.new hD0) _ _ e1) hD
    refine ForB.rng (fun i σ H' => ∃ c, σ = [some v, some (.ref F), some (.ref D), c] ∧ H' D = some (.lst ((List.range n).map fun k => .int (szM p n (n - i) k : Nat))) ∧ H' F = some (.tup ((List.range n).map fun k => V.int (p k))) ∧ Same H H') ?_ ?_ ?_
    · exact ⟨_, rfl, upd_same, e2, s2⟩
    · rintro i σ H2 hi ⟨c, rfl, g1, g2, g3⟩
      have hi' : i < n := by omega
      walk_at "vc"
      have e0 : (0 : Int) + ((((n : Nat) : Int) - 0).toNat : Nat) - 1 + (i : Nat) * (-1) = ((n - (i + 1) : Nat) : Int) := by omega
      rw [e0]
      have hj : n - (i + 1) < n := by omega
      have ej : n - (i + 1) + 1 = n - i := by omega
      have hlo := hv.pre.lo _ hj
      have hhi := hv.pre.hi _ hj
      generalize n - (i + 1) = j at hj ej hlo hhi
      refine ⟨_, SqT.of g2, _, atI_nat (range_get hj), _, rfl, ?_⟩
      rw [← ej] at g1
      by_cases c0 : 0 ≤ p j
      · rw [if_pos c0]
        obtain ⟨y, hy⟩ : ∃ y : Nat, p j = (y : Int) := ⟨(p j).toNat, by omega⟩
        have hyn : y < n := by omega
        refine ⟨_, SqT.of g2, _, atI_nat (range_get hj), _, y, by rw [hy], SqL.of g1, _, atI_nat (range_get hyn), _, SqL.of g1, _, atI_nat (range_get hj), _, rfl, _, rfl, _, y, by rw [hy], g1, y, ?_, ?_, ?_, ?_⟩
        · exact ixN_at (by rw [List.length_map, List.length_range]; exact hyn)
        · rw [upd_same]
          congr 2
          refine set_map ?_ fun k hk ne => ?_
          · rw [szM_kid hv.pre hj hy]
            rfl
          · rw [szM_rest hv.pre hj hk (by omega)]
        · rw [upd_ne FD]; exact g2
        · exact Same.mut g3 hD1
      · rw [if_neg c0]
        refine ⟨?_, g2, g3⟩
        rw [g1]
        congr 2
        apply List.map_congr_left
        intro k hk
        rw [szM_rest hv.pre hj (List.mem_range.mp hk) (by omega)]
    · rintro σ H2 ⟨c, rfl, g1, g2, g3⟩
      rw [show n - ((n : Int) - 0).toNat = 0 by omega] at g1
      walk_at "vc"
      refine ⟨_, .inl ⟨SqL.of g1, fun t ht => q t _ (fresh_of g3 ht) (g3.trans (Same.new ht)) upd_same⟩⟩
theorem ok_node_posts (A : All K mg) : FnOk P w K mg base CX0 4 A.node_posts.f A.node_posts.fd ["a"] (sp_tupl K fun p n x k => .int (pst p n k : Nat)) := by
  have G_node_sizes := ok_node_sizes (P := P) (w := w) (base := base) A
  have G_node_depths := ok_node_depths (P := P) (w := w) (base := base) A
  refine A.node_posts.F.ok sc_node_posts (fun vs H Q E h => ?_) (fun cdv B outer s H vs Q E hr h => ?_)
  · obtain ⟨v, p, n, x, rfl, _⟩ := h
    rfl
  · obtain ⟨v, p, n, x, rfl, hv, q⟩ := h
    refine ⟨_, (pss_cons (ps_set (i := 1) sc_node_posts.nd rfl (by first | exact Or.inl rfl | exact Or.inr rfl) (pe_call G_node_sizes (hr.mono (by decide)) rfl A.node_sizes.m A.node_sizes.kp A.node_sizes.b .nil pass0 (pa_cons (pv 0) pa_nil))) (pss_cons (ps_set (i := 2) sc_node_posts.nd rfl (by first | exact Or.inl rfl | exact Or.inr rfl) (pe_call G_node_depths (hr.mono (by decide)) rfl A.node_depths.m A.node_depths.kp A.node_depths.b .nil pass0 (pa_cons (pv 0) pa_nil))) (pss_one (ps_ret (pe_callTy call_tuple_of (by rfl) A.n_tuple (by decide +kernel) (pa_cons (pe_lc (own := [("i", 3)]) (g := gName 3) rfl sc_node_posts.nd (pi_range1 rfl A.n_range (pa_cons (pe_callB (r := fun xs H Q => ∃ x n, xs = [x] ∧ LenV K x H n ∧ Q (V.int n) H) call_len (by rfl) A.n_len PySem.boot_len (pa_cons (pv 1) pa_nil)) pa_nil)) (blkOk_by (own := [("i", 3)]) (N := ["a", "sizes", "depths", "i"]) (sc := defScope s_node_posts) (by decide +kernel)) (fun _ _ _ _ _ => pg_name (i := 3) sc_node_posts.nd rfl (Or.inl rfl)) (fun _ _ _ _ _ => pts_nil) (fun _ _ _ _ _ => (pe_op op_sub (pe_op op_add (pv 3) (pe_ix (r := rIxT K) ix_tup (pv 1) (pv 3) (fun _ _ => rfl))) (pe_ix (r := rIxT K) ix_tup (pv 2) (pv 3) (fun _ _ => rfl))))) pa_nil)))))), ?_⟩
    walk_at "vc"
    refine ⟨v, p, n, x, rfl, hv, fun F H1 hF s1 e1 => ?_⟩
    walk_at "vc"
    refine ⟨v, p, n, x, rfl, hv.tk (Tk.of_same s1), fun G H2 hG s2 e2 => ?_⟩
    walk_at "vc"
    have hn := hv.le
    have big : (2000 : Nat) < sizeLine := by decide
    have e1 : H2 F = some (.tup ((List.range n).map fun k => V.int (szM p n 0 k : Nat))) := s2 _ _ e1
    have e2 : H2 G = some (.tup ((List.range n).map fun k => V.int ((dp p k + 1 : Nat) : Int))) := e2
    have l1 : ((List.range n).map fun k => V.int (szM p n 0 k : Nat)).length = n := by rw [List.length_map, List.length_range]
    refine ⟨n, .inr ⟨_, SqT.of e1, l1.symm⟩, by omega, by omega, fun D hD => ?_⟩
    refine LcB.range (fun i H' => H' D = some (.lst ((List.range i).map fun k => .int (pst p n k : Nat))) ∧ Same H2 H') ?_ ?_ ?_
    · exact ⟨upd_same, Same.new hD⟩
    · rintro i H3 hi ⟨g1, g2⟩
      have hin : i < n := by omega
      walk_at "vc"
      refine ⟨_, SqT.of (g2 _ _ e1), _, by rw [Int.zero_add]; exact atI_nat (range_get hin), _, rfl, _, SqT.of (g2 _ _ e2), _, by rw [Int.zero_add]; exact atI_nat (range_get hin), _, rfl, _, g1, ?_, ?_, Same.mut g2 hD⟩
      · rw [List.length_map, List.length_range]
        omega
      · rw [upd_same, List.range_succ, List.map_append]
        have a := szM_done hv.pre (m := 0) hin (by omega)
        have b := pst_eq (p := p) hin
        refine congrArg (fun z => some (HO.lst (((List.range i).map fun k => V.int (pst p n k : Nat)) ++ [V.int z]))) ?_
        show (0 + (i : Int)) + ((szM p n 0 i : Nat) : Int) - ((dp p i + 1 : Nat) : Int) = ((pst p n i : Nat) : Int)
        omega
    · rintro H3 ⟨g1, g2⟩
      rw [Int.toNat_natCast] at g1
      walk_at "vc"
      refine ⟨_, .inl ⟨SqL.of g1, fun t ht => q t _ (fresh_of ((s1.trans s2).trans g2) ht) (((s1.trans s2).trans g2).trans (Same.new ht)) upd_same⟩⟩
/-- values in postorder -/
def sp_inpost (K : PySem.W.Frag) : Sp := fun vs H Q _ => ∃ (v : V) (b : Addr) (p : Nat → Int) (n : Nat) (x : Nat → Str) (f : Nat → V), vs = [v, .ref b] ∧ IsFo K H v p n x ∧ SqT K H b ((List.range n).map f) ∧
  ∀ q H', H q = none → Same H H' → H' q = some (.tup ((List.range n).map fun i => f (inv p n i))) → Q (.ref q) H'
theorem ok_in_postorder (A : All K mg) : FnOk P w K mg base CX0 5 A.in_postorder.f A.in_postorder.fd ["a", "values"] (sp_inpost K) := by
  have G_node_posts := ok_node_posts (P := P) (w := w) (base := base) A
  refine A.in_postorder.F.ok sc_in_postorder (fun vs H Q E h => ?_) (fun cdv B outer s H vs Q E hr h => ?_)
  · obtain ⟨v, b, p, n, x, f, rfl, _⟩ := h
    rfl
  · obtain ⟨v, b, p, n, x, f, rfl, hv, hb, q⟩ := h
    refine ⟨_, (pss_cons (ps_set (i := 2) sc_in_postorder.nd rfl (by first | exact Or.inl rfl | exact Or.inr rfl) pe_dnewK) (pss_cons (ps_for PassesOwn.never rfl (RZ.pi_zipA rfl A.n_zip (pa_cons (pe_call G_node_posts (hr.mono (by decide)) rfl A.node_posts.m A.node_posts.kp A.node_posts.b .nil pass0 (pa_cons (pv 0) pa_nil)) (pa_cons (pv 1) pa_nil))) (pg_tup (n := 2) rfl (pgs_cons (pg_name (i := 3) sc_in_postorder.nd rfl (by first | exact Or.inl rfl | exact Or.inr rfl)) (pgs_cons (pg_name (i := 4) sc_in_postorder.nd rfl (by first | exact Or.inl rfl | exact Or.inr rfl)) pgs_nil))) (pss_one (ps_dput (hu_of hr) (pv 2) (pv 3) (pv 4) rfl))) (pss_one (ps_ret (pe_callTy call_tuple_of (by rfl) A.n_tuple (by decide +kernel) (pa_cons (pe_lc (own := [("post", 3)]) (g := gName 3) rfl sc_in_postorder.nd (pi_range1 rfl A.n_range (pa_cons (pe_callB call_lenD (by rfl) A.n_len PySem.boot_len (pa_cons (pv 2) pa_nil)) pa_nil)) (blkOk_by (own := [("post", 3)]) (N := ["a", "values", "placed", "post", "value"]) (sc := defScope s_in_postorder) (by decide +kernel)) (fun _ _ _ _ _ => pg_name (i := 3) sc_in_postorder.nd rfl (Or.inl rfl)) (fun _ _ _ _ _ => pts_nil) (fun _ _ _ _ _ => (pe_dget (hu_of hr) (pv 2) (pv 3) (fun _ _ => rfl)))) pa_nil)))))), ?_⟩
    walk_at "vc"
    intro D hD
    refine ⟨v, p, n, x, rfl, hv.tk (Tk.new hD), fun F H1 hF s1 e1 => ?_⟩
    walk_at "vc"
    have hn := hv.le
    have big : (2000 : Nat) < sizeLine := by decide
    have e1 : H1 F = some (.tup ((List.range n).map fun k => V.int (pst p n k : Nat))) := e1
    have s0 : Same H H1 := (Same.new hD).trans s1
    have hFD : F ≠ D := by rintro rfl; rw [upd_same] at hF; cases hF
    have l1 : ((List.range n).map fun k => V.int (pst p n k : Nat)).length = n := by rw [List.length_map, List.length_range]
    have hbD : ∀ xs, H b = some xs → b ≠ D := fun xs h => ne_of_none h hD
    have hb1 : SqT K H1 b ((List.range n).map f) := SqT.same hb s0
    refine ⟨F, b, ⟨rfl, rfl⟩, _, _, .inr ⟨SqT.of e1, hb1, ?_⟩⟩
    have hL : ∀ i : Nat, i ≤ n → True := fun _ _ => trivial
    refine ForB.zipT (xs := (List.range n).map fun k => V.int (pst p n k : Nat)) (ys := (List.range n).map f) (by rw [l1, List.length_map, List.length_range]) (fun i σ H' => ∃ (s3 s4 : Option V) (kvs : List (Key × V)), σ = [some v, some (.ref b), some (.ref D), s3, s4] ∧ H' D = some (.dK kvs) ∧ kvs.length = i ∧ Tk H1 H' ∧ Same H H' ∧ ∀ j, j < n → valV kvs (Sum.inl ((pst p n j : Nat) : Int)) = if j < i then some (f j) else none) ?_ ?_ ?_ ?_
    · refine ⟨_, _, [], rfl, s1 _ _ upd_same, rfl, Tk.refl, s0, fun j _ => ?_⟩
      rw [if_neg (by omega)]
      rfl
    · rintro i σ H2 ⟨_, _, _, _, _, _, t, _, _⟩
      exact ⟨SqT.tk (SqT.of e1) t, SqT.tk hb1 t⟩
    · rintro i x1 y1 t σ H2 hx hy ⟨s3, s4, kvs, rfl, g1, g2, g3, g4, g5⟩ ht
      have hi : i < n := by
        have := (List.getElem?_eq_some_iff.mp hx).1
        rwa [l1] at this
      rw [range_get hi] at hx hy
      cases hx
      cases hy
      refine gTup_go (SqT.of upd_same) rfl ?_
      walk_at "vc"
      have tD : D ≠ t := none_ne g1 ht
      have g1' : (upd H2 t (.tup [.int (pst p n i : Nat), f i])) D = some (.dK kvs) := by rw [upd_ne tD]; exact g1
      refine ⟨_, DPut.k (k := Sum.inl ((pst p n i : Nat) : Int)) g1' (by omega), _, _, ⟨rfl, rfl⟩, putK kvs (Sum.inl ((pst p n i : Nat) : Int)) (f i), upd_same, ?_, ?_, ?_, ?_⟩
      · have h0 := g5 i hi
        rw [if_neg (by omega)] at h0
        rw [putK_new _ h0, List.length_append, g2]
        rfl
      · refine g3.trans ((Tk.new (o := .tup [.int (pst p n i : Nat), f i]) ht).trans fun c xs h => ?_)
        have ne : c ≠ D := by
          rintro rfl
          rcases h with h | ⟨o, h⟩ <;> rw [g1'] at h <;> cases h
        rcases h with h | ⟨o, h⟩
        · exact .inl (by rw [upd_ne ne]; exact h)
        · exact .inr ⟨o, by rw [upd_ne ne]; exact h⟩
      · exact Same.mut (g4.trans (Same.new ht)) hD
      · intro j hj
        rw [valV_put]
        by_cases e : j = i
        · subst e
          rw [if_pos rfl, if_pos (by omega)]
        · rw [if_neg (fun z => e (pst_inj hv.pre hj hi (by have := Sum.inl.inj z; omega))), g5 j hj]
          by_cases c : j < i
          · rw [if_pos c, if_pos (by omega)]
          · rw [if_neg c, if_neg (by omega)]
    · rintro σ H2 ⟨s3, s4, kvs, rfl, g1, g2, g3, g4, g5⟩
      rw [l1] at g2 g5
      walk_at "vc"
      refine ⟨_, g1, by rw [g2]; omega, by rw [g2]; omega, fun G hG => ?_⟩
      rw [g2]
      have GD := none_ne g1 hG
      refine LcB.range (fun i H' => H' G = some (.lst ((List.range i).map fun k => f (inv p n k))) ∧ Same H2 H') ?_ ?_ ?_
      · exact ⟨upd_same, Same.new hG⟩
      · rintro i H3 hi ⟨h1, h2⟩
        have hin : i < n := by omega
        walk_at "vc"
        obtain ⟨k, hk, e⟩ := pst_onto hv.pre hin
        refine ⟨f (inv p n i), ?_, _, h1, ?_, ?_, Same.mut h2 hG⟩
        · have a := g5 k hk
          rw [if_pos hk] at a
          have b := DGet.k (k := Sum.inl ((pst p n k : Nat) : Int)) (h2 _ _ g1)
          rw [a, e] at b
          rw [← e, inv_pst hv.pre hk, e]
          rw [Int.zero_add]
          exact b
        · rw [List.length_map, List.length_range]
          omega
        · rw [upd_same, List.range_succ, List.map_append]
          rfl
      · rintro H3 ⟨h1, h2⟩
        rw [Int.toNat_natCast] at h1
        walk_at "vc"
        refine ⟨_, .inl ⟨SqL.of h1, fun t ht => q t _ (fresh_of (g4.trans h2) ht) ((g4.trans h2).trans (Same.new ht)) upd_same⟩⟩
end
end Ly
namespace Ly
open PySem PySem.Spec PyProof.Rows L2
open GxR (TabG Tabbed)
local macro_rules | `(tactic| walk_at "vc") => `(tactic| simp only [tSeq, tAsg, tOp, tVar, tC, tRet, tRetN, tNext, tIfS, tIf, tDrop, tB, tTest, tNot, tAnd, tOr, tAndV, tOrV, tNotV, tChain, tUn, tCB, tCons, tNil, tTup, tLst, tSl, tPart, tNoPart, tCall, tBreak, tCont,
  rI, rI0, rU, gName, gNil_nil, gCons_cons, gSub, rSetL, L2.start, cx_K, cx_nox, tLc_eq, tFor_eq, iRng1, iRng2, iList, iTup, tM1, tYes, wipe, rIxS, rIxL, rIxT, rCat, rSlL, rEq, rNe, rPop, rAppend, tBM, tBM0, tMkO_eq, tVal_eq, tFldE_eq, tXfE_eq, tCallS, lenV_ref, iRevR, tRg1, RT.iRevA, RZ.iZipA, tDGet, sDPut, tDNewK, tAugS, ipI, tMaxD, tCallK0, rRep, rExtend, CDiv, CDivW, CPow, CMulX,
  List.map_cons, List.map_nil, List.cons_append, List.nil_append, List.append_nil, List.length_cons, List.length_nil, List.replicate, List.getElem?_cons_zero, List.getElem?_cons_succ, List.set_cons_zero, List.set_cons_succ, Nat.reduceSub, Nat.reduceAdd,
  Option.some.injEq, V.int.injEq, V.bl.injEq, V.str.injEq, V.ref.injEq, exists_eq_left', exists_eq_left, exists_and_left, reduceCtorEq, false_and, and_false, exists_false, or_false, false_or, Bool.false_eq_true, if_false, if_true, reduceIte, decide_eq_true_eq, List.cons.injEq, and_true, true_and])
section
variable {P : Program} {w : World} {K : PySem.W.Frag} {mg : Str → Option Value} {base : Heap} {T : Addr}
/-! ### the data of a good forest -/
structure Good (p : Nat → Int) (n : Nat) (x : Nat → Str) : Prop where
  pre : Pre p n
  le : n ≤ 1000
  low : ∀ k, k < n → dp p k ≤ 7
  wd : ∀ k, k < n → IsW (x k)
theorem lett : ∀ c : Fin 26, 97 + c.val ∈ letters := by decide +kernel
theorem IsW.word {x : Str} (h : IsW x) : wordS x = true := by
  unfold wordS
  rw [decide_eq_true h.pos, decide_eq_true h.len]
  rw [Bool.and_eq_true, Bool.and_eq_true]
  refine ⟨⟨rfl, rfl⟩, List.all_eq_true.mpr fun c hc => decide_eq_true ?_⟩
  have := h.abc c hc
  have z := lett ⟨c - 97, by omega⟩
  rwa [show 97 + (⟨c - 97, by omega⟩ : Fin 26).val = c by show 97 + (c - 97) = c; omega] at z
section
variable {p : Nat → Int} {n : Nat} {x : Nat → Str}
theorem sk_ind (g : Good p n x) {C : List PyData → Prop} (h0 : C []) (hs : ∀ k (A B : List PyData), k < n → A.length ≤ 1000 → C (A ++ B) → C (.tuple [.str (x k), .tuple A] :: B)) : ∀ c m, m + c = n → C ((sk p n m).map (tr p n x))
  | 0, m, h => by
    obtain rfl : m = n := by omega
    rw [sk_end]
    exact h0
  | c + 1, m, h => by
    have ih := sk_ind g h0 hs c (m + 1) (by omega)
    have hm : m < n := by omega
    rw [sk_next g.pre hm, List.map_append] at ih
    rw [sk_cons g.pre hm, List.map_cons, tr, trR_eq turns_id g.pre hm]
    refine hs m _ _ hm ?_ ih
    rw [List.length_map]
    exact Nat.le_trans kf_len g.le
theorem roots_ind (g : Good p n x) {C : List PyData → Prop} (h0 : C []) (hs : ∀ k (A B : List PyData), k < n → A.length ≤ 1000 → C (A ++ B) → C (.tuple [.str (x k), .tuple A] :: B)) : C ((kids p n (-1)).map (tr p n x)) := by
  have := sk_ind g h0 hs n 0 (by omega)
  rwa [sk_zero g.pre] at this
theorem Good.forD (g : Good p n x) : forD (foD p n x) = true := by
  refine roots_ind g (C := fun ds => forAll ds = true) rfl fun k A B hk _ h => ?_
  rw [forAll_app, Bool.and_eq_true] at h
  show (treD (.tuple [.str (x k), .tuple A]) && forAll B) = true
  rw [treD, wordD, (g.wd k hk).word, Ly.forD, h.1, h.2]
  rfl
theorem Good.sml (g : Good p n x) : Sml (foD p n x) := by
  refine ⟨by rw [List.length_map]; exact Nat.le_trans kf_len g.le, ?_⟩
  refine roots_ind g (C := fun ds => SmlAll ds) trivial fun k A B hk hl h => ?_
  exact ⟨⟨by show 2 ≤ 1000; decide, Nat.le_trans (g.wd k hk).len (by decide), ⟨hl, SmlAll.left h⟩, trivial⟩, SmlAll.right h⟩
theorem Good.sz (g : Good p n x) : szD (foD p n x) ≤ 3001 := by
  have key : ∀ c m, m + c = n → szAll ((sk p n m).map (tr p n x)) = 3 * c := by
    intro c
    induction c with
    | zero =>
      intro m h
      obtain rfl : m = n := by omega
      rw [sk_end]
      rfl
    | succ c ih =>
      intro m h
      have hm : m < n := by omega
      have ih := ih (m + 1) (by omega)
      rw [sk_next g.pre hm, List.map_append, szAll_app] at ih
      rw [sk_cons g.pre hm, List.map_cons, tr, trR_eq turns_id g.pre hm, szAll, szD]
      simp only [szAll, szD, id, tr] at ih ⊢
      omega
  have := key n 0 (by omega)
  rw [sk_zero g.pre] at this
  have hl := g.le
  show szAll ((kids p n (-1)).map (tr p n x)) + 1 ≤ 3001
  omega
theorem Good.fo {K : PySem.W.Frag} {H : Hp} {v : V} (g : Good p n x) (h : Dp K H v (foD p n x)) : IsFo K H v p n x := ⟨g.pre, g.le, h⟩
end
end
end Ly
namespace Ly
open PySem PySem.Spec PyProof.Rows L2
open GxR (TabG Tabbed)
local macro_rules | `(tactic| walk_at "vc") => `(tactic| simp only [tSeq, tAsg, tOp, tVar, tC, tRet, tRetN, tNext, tIfS, tIf, tDrop, tB, tTest, tNot, tAnd, tOr, tAndV, tOrV, tNotV, tChain, tUn, tCB, tCons, tNil, tTup, tLst, tSl, tPart, tNoPart, tCall, tBreak, tCont,
  rI, rI0, rU, gName, gNil_nil, gCons_cons, gSub, rSetL, L2.start, cx_K, cx_nox, tLc_eq, tFor_eq, iRng1, iRng2, iList, iTup, tM1, tYes, wipe, rIxS, rIxL, rIxT, rCat, rSlL, rEq, rNe, rPop, rAppend, tBM, tBM0, tMkO_eq, tVal_eq, tFldE_eq, tXfE_eq, tCallS, lenV_ref, iRevR, tRg1, RT.iRevA, RZ.iZipA, tDGet, sDPut, tDNewK, tAugS, ipI, tMaxD, tCallK0, rRep, rExtend, CDiv, CDivW, CPow, CMulX,
  List.map_cons, List.map_nil, List.cons_append, List.nil_append, List.append_nil, List.length_cons, List.length_nil, List.replicate, List.getElem?_cons_zero, List.getElem?_cons_succ, List.set_cons_zero, List.set_cons_succ, Nat.reduceSub, Nat.reduceAdd,
  Option.some.injEq, V.int.injEq, V.bl.injEq, V.str.injEq, V.ref.injEq, exists_eq_left', exists_eq_left, exists_and_left, reduceCtorEq, false_and, and_false, exists_false, or_false, false_or, Bool.false_eq_true, if_false, if_true, reduceIte, decide_eq_true_eq, List.cons.injEq, and_true, true_and])
section
variable {P : Program} {w : World} {K : PySem.W.Frag} {mg : Str → Option Value} {base : Heap} {T : Addr}
/-- a def of forests that raises with the first that is none -/
def sp_f (K : PySem.W.Frag) (T C : Addr) (m : Nat) (G : List PyData → PyData → Prop) : Sp := fun vs H Q E => vs.length = m ∧ ∃ ds, DpAll K H vs ds ∧ SmlAll ds ∧ szAll ds ≤ 100000 ∧ TabG H T ∧
  ((∃ g, G ds g ∧ ∀ r H', Up T H H' → Dp K H' r g → Q r H') ∨ (∃ u, fb vs ds = some u ∧ ∀ dx H', Up T H H' → H' dx = none → E (.ref C) (some dx) (upd H' dx (.xd [("value", u)]))))
def one (f : (Nat → Int) → Nat → (Nat → Str) → PyData) : List PyData → PyData → Prop := fun ds g => ∃ p n x, Good p n x ∧ ds = [foD p n x] ∧ g = f p n x
theorem one_inv {H : Hp} {v : V} {d : PyData} (h : DpAll K H [v] [d]) : Dp K H v d := by cases h with | cons a _ => exact a
theorem fb_one {v : V} {p : Nat → Int} {n : Nat} {x : Nat → Str} (g : Good p n x) : fb [v] [foD p n x] = none := by
  rw [fb, if_pos g.forD]
  rfl
theorem len_one {vs : List V} (h : vs.length = 1) : ∃ v, vs = [v] := by
  match vs, h with
  | [v], _ => exact ⟨v, rfl⟩
theorem len_two {vs : List V} (h : vs.length = 2) : ∃ v u, vs = [v, u] := by
  match vs, h with
  | [v, u], _ => exact ⟨v, u, rfl⟩
theorem ok_forest_size (A : All K mg) (TB : GxR.TabB base mg A.is_word.c T) (glob : base.Ns mainGlobals mg) : FnOk P w K mg base (L2.CX P w) 4 A.forest_size.f A.forest_size.fd ["a"] (sp_f K T A.c_InvalidForest.C 1 (one fun p n x => .int (n : Nat))) := by
  have G_need_forests := ok_need_forests (P := P) (w := w) A TB glob
  have G_node_words := ok_node_words (P := P) (w := w) (base := base) A
  refine A.forest_size.F.okX sc_forest_size (fun vs H Q E h => h.1) (fun cdv B outer s H vs Q E hr h => ?_)
  obtain ⟨hl, ds, hv, hs, hz, ht, h⟩ := h
  obtain ⟨v, rfl⟩ := len_one hl
  refine ⟨_, (pss_cons (ps_expr (pe_callRS G_need_forests (hr.mono (by decide)) rfl A.need_forests.m A.need_forests.kp (fun σ => passAt (takes_of rfl rfl rfl rfl) σ) (pa_cons (pv 0) pa_nil))) (pss_one (ps_ret (pe_callB (r := fun xs H Q => ∃ x n, xs = [x] ∧ LenV K x H n ∧ Q (V.int n) H) call_len (by rfl) A.n_len PySem.boot_len (pa_cons (pe_call G_node_words (hr.mono (by decide)) rfl A.node_words.m A.node_words.kp A.node_words.b .nil pass0 (pa_cons (pv 0) pa_nil)) pa_nil))))), ?_⟩
  walk_at "vc"
  refine ⟨ds, hv, hs, hz, ht, fun H1 u1 => ?_⟩
  rcases h with ⟨_, ⟨p, n, x, g, rfl, rfl⟩, q⟩ | ⟨u, hu, q⟩
  · rw [fb_one g]
    walk_at "vc"
    refine ⟨v, p, n, x, rfl, g.fo (Dp.tk (Tk.of_up u1 ht) _ _ (nl_trs _) (one_inv hv)), fun F H2 hF s2 e2 => ?_⟩
    refine ⟨_, .inr ⟨_, SqT.of e2, rfl⟩, q _ _ (u1.trans (Up.of_same s2)) ?_⟩
    rw [List.length_map, List.length_range]
    exact .int _
  · rw [hu]
    exact fun dx hdx => q dx H1 u1 hdx
theorem ok_forest_words (A : All K mg) (TB : GxR.TabB base mg A.is_word.c T) (glob : base.Ns mainGlobals mg) : FnOk P w K mg base (L2.CX P w) 4 A.forest_words.f A.forest_words.fd ["a"] (sp_f K T A.c_InvalidForest.C 1 (one fun p n x => .tuple ((List.range n).map fun k => .str (x k)))) := by
  have G_need_forests := ok_need_forests (P := P) (w := w) A TB glob
  have G_node_words := ok_node_words (P := P) (w := w) (base := base) A
  refine A.forest_words.F.okX sc_forest_words (fun vs H Q E h => h.1) (fun cdv B outer s H vs Q E hr h => ?_)
  obtain ⟨hl, ds, hv, hs, hz, ht, h⟩ := h
  obtain ⟨v, rfl⟩ := len_one hl
  refine ⟨_, (pss_cons (ps_expr (pe_callRS G_need_forests (hr.mono (by decide)) rfl A.need_forests.m A.need_forests.kp (fun σ => passAt (takes_of rfl rfl rfl rfl) σ) (pa_cons (pv 0) pa_nil))) (pss_one (ps_ret (pe_call G_node_words (hr.mono (by decide)) rfl A.node_words.m A.node_words.kp A.node_words.b .nil pass0 (pa_cons (pv 0) pa_nil))))), ?_⟩
  walk_at "vc"
  refine ⟨ds, hv, hs, hz, ht, fun H1 u1 => ?_⟩
  rcases h with ⟨_, ⟨p, n, x, g, rfl, rfl⟩, q⟩ | ⟨u, hu, q⟩
  · rw [fb_one g]
    walk_at "vc"
    refine ⟨v, p, n, x, rfl, g.fo (Dp.tk (Tk.of_up u1 ht) _ _ (nl_trs _) (one_inv hv)), fun F H2 hF s2 e2 => ?_⟩
    exact q _ _ (u1.trans (Up.of_same s2)) (.tup (SqT.of e2) (dpAll_map fun k => .str _))
  · rw [hu]
    exact fun dx hdx => q dx H1 u1 hdx
theorem ok_words_behind (A : All K mg) (TB : GxR.TabB base mg A.is_word.c T) (glob : base.Ns mainGlobals mg) : FnOk P w K mg base (L2.CX P w) 6 A.words_behind.f A.words_behind.fd ["a"] (sp_f K T A.c_InvalidForest.C 1 (one fun p n x => .tuple ((List.range n).map fun k => .str (x (inv p n k))))) := by
  have G_need_forests := ok_need_forests (P := P) (w := w) A TB glob
  have G_in_postorder := ok_in_postorder (P := P) (w := w) (base := base) A
  have G_node_words := ok_node_words (P := P) (w := w) (base := base) A
  refine A.words_behind.F.okX sc_words_behind (fun vs H Q E h => h.1) (fun cdv B outer s H vs Q E hr h => ?_)
  obtain ⟨hl, ds, hv, hs, hz, ht, h⟩ := h
  obtain ⟨v, rfl⟩ := len_one hl
  refine ⟨_, (pss_cons (ps_expr (pe_callRS G_need_forests (hr.mono (by decide)) rfl A.need_forests.m A.need_forests.kp (fun σ => passAt (takes_of rfl rfl rfl rfl) σ) (pa_cons (pv 0) pa_nil))) (pss_one (ps_ret (pe_call G_in_postorder (hr.mono (by decide)) rfl A.in_postorder.m A.in_postorder.kp A.in_postorder.b .nil pass0 (pa_cons (pv 0) (pa_cons (pe_call G_node_words (hr.mono (by decide)) rfl A.node_words.m A.node_words.kp A.node_words.b .nil pass0 (pa_cons (pv 0) pa_nil)) pa_nil)))))), ?_⟩
  walk_at "vc"
  refine ⟨ds, hv, hs, hz, ht, fun H1 u1 => ?_⟩
  rcases h with ⟨_, ⟨p, n, x, g, rfl, rfl⟩, q⟩ | ⟨u, hu, q⟩
  · rw [fb_one g]
    walk_at "vc"
    have hf := g.fo (Dp.tk (Tk.of_up u1 ht) _ _ (nl_trs _) (one_inv hv))
    refine ⟨v, p, n, x, rfl, hf, fun F H2 hF s2 e2 => ?_⟩
    refine ⟨v, F, p, n, x, fun k => .str (x k), rfl, hf.tk (Tk.of_same s2), SqT.of e2, fun G H3 hG s3 e3 => ?_⟩
    exact q _ _ ((u1.trans (Up.of_same s2)).trans (Up.of_same s3)) (.tup (SqT.of e3) (dpAll_map fun k => .str _))
  · rw [hu]
    exact fun dx hdx => q dx H1 u1 hdx
/-! the depth -/
def mxD : List Int → Int
  | [] => 0
  | a :: r => r.foldl max a
def dptI (p : Nat → Int) (n : Nat) : Int := mxD ((List.range n).map fun k => ((dp p k + 1 : Nat) : Int))
theorem ok_forest_depth (A : All K mg) (TB : GxR.TabB base mg A.is_word.c T) (glob : base.Ns mainGlobals mg) : FnOk P w K mg base (L2.CX P w) 4 A.forest_depth.f A.forest_depth.fd ["a"] (sp_f K T A.c_InvalidForest.C 1 (one fun p n x => .int (dptI p n))) := by
  have G_need_forests := ok_need_forests (P := P) (w := w) A TB glob
  have G_node_depths := ok_node_depths (P := P) (w := w) (base := base) A
  refine A.forest_depth.F.okX sc_forest_depth (fun vs H Q E h => h.1) (fun cdv B outer s H vs Q E hr h => ?_)
  obtain ⟨hl, ds, hv, hs, hz, ht, h⟩ := h
  obtain ⟨v, rfl⟩ := len_one hl
  refine ⟨_, (pss_cons (ps_expr (pe_callRS G_need_forests (hr.mono (by decide)) rfl A.need_forests.m A.need_forests.kp (fun σ => passAt (takes_of rfl rfl rfl rfl) σ) (pa_cons (pv 0) pa_nil))) (pss_one (ps_ret (pe_maxDef rfl hr.units rfl A.n_max (by decide +kernel) (pa_cons (pe_call G_node_depths (hr.mono (by decide)) rfl A.node_depths.m A.node_depths.kp A.node_depths.b .nil pass0 (pa_cons (pv 0) pa_nil)) pa_nil) (pk_cons pe_int pk_nil))))), ?_⟩
  walk_at "vc"
  refine ⟨ds, hv, hs, hz, ht, fun H1 u1 => ?_⟩
  rcases h with ⟨_, ⟨p, n, x, g, rfl, rfl⟩, q⟩ | ⟨u, hu, q⟩
  · rw [fb_one g]
    walk_at "vc"
    refine ⟨v, p, n, x, rfl, g.fo (Dp.tk (Tk.of_up u1 ht) _ _ (nl_trs _) (one_inv hv)), fun F H2 hF s2 e2 => ?_⟩
    have fin : ∀ r, Dp K H2 r (.int (dptI p n)) → Q r H2 := fun r h => q r _ (u1.trans (Up.of_same s2)) h
    unfold dptI at fin
    refine ⟨F, (List.range n).map fun k => ((dp p k + 1 : Nat) : Int), rfl, ?_, fun e => ?_, fun m r e => ?_⟩
    · rw [List.map_map]
      exact SqT.of e2
    · rw [e] at fin
      exact fin _ (.int _)
    · rw [e] at fin
      exact fin _ (.int _)
  · rw [hu]
    exact fun dx hdx => q dx H1 u1 hdx
end
end Ly
namespace Ly
open PySem PySem.Spec PyProof.Rows L2
open GxR (TabG Tabbed)
local macro_rules | `(tactic| walk_at "vc") => `(tactic| simp only [tSeq, tAsg, tOp, tVar, tC, tRet, tRetN, tNext, tIfS, tIf, tDrop, tB, tTest, tNot, tAnd, tOr, tAndV, tOrV, tNotV, tChain, tUn, tCB, tCons, tNil, tTup, tLst, tSl, tPart, tNoPart, tCall, tBreak, tCont,
  rI, rI0, rU, gName, gNil_nil, gCons_cons, gSub, rSetL, L2.start, cx_K, cx_nox, tLc_eq, tFor_eq, iRng1, iRng2, iList, iTup, tM1, tYes, wipe, rIxS, rIxL, rIxT, rCat, rSlL, rEq, rNe, rPop, rAppend, tBM, tBM0, tMkO_eq, tVal_eq, tFldE_eq, tXfE_eq, tCallS, lenV_ref, iRevR, tRg1, RT.iRevA, RZ.iZipA, tDGet, sDPut, tDNewK, tAugS, ipI, tMaxD, tCallK0, rRep, rExtend, CDiv, CDivW, CPow, CMulX,
  List.map_cons, List.map_nil, List.cons_append, List.nil_append, List.append_nil, List.length_cons, List.length_nil, List.replicate, List.getElem?_cons_zero, List.getElem?_cons_succ, List.set_cons_zero, List.set_cons_succ, Nat.reduceSub, Nat.reduceAdd,
  Option.some.injEq, V.int.injEq, V.bl.injEq, V.str.injEq, V.ref.injEq, exists_eq_left', exists_eq_left, exists_and_left, reduceCtorEq, false_and, and_false, exists_false, or_false, false_or, Bool.false_eq_true, if_false, if_true, reduceIte, decide_eq_true_eq, List.cons.injEq, and_true, true_and])
section
variable {P : Program} {w : World} {K : PySem.W.Frag} {mg : Str → Option Value} {base : Heap} {T : Addr}
theorem nl_foD {p : Nat → Int} {n : Nat} {x : Nat → Str} : nl (foD p n x) := nl_trs _
def two (f : (Nat → Int) → Nat → (Nat → Str) → (Nat → Int) → Nat → (Nat → Str) → PyData) : List PyData → PyData → Prop := fun ds g => ∃ p n x p' n' x', Good p n x ∧ Good p' n' x' ∧ ds = [foD p n x, foD p' n' x'] ∧ g = f p n x p' n' x'
theorem two_inv {H : Hp} {v u : V} {d e : PyData} (h : DpAll K H [v, u] [d, e]) : Dp K H v d ∧ Dp K H u e := by
  cases h with
  | cons a b => exact ⟨a, one_inv b⟩
theorem fb_two {v u : V} {p p' : Nat → Int} {n n' : Nat} {x x' : Nat → Str} (g : Good p n x) (g' : Good p' n' x') : fb [v, u] [foD p n x, foD p' n' x'] = none := by
  rw [fb, if_pos g.forD, fb_one g']
theorem ok_forest_joined (A : All K mg) (TB : GxR.TabB base mg A.is_word.c T) (glob : base.Ns mainGlobals mg) : FnOk P w K mg base (L2.CX P w) 4 A.forest_joined.f A.forest_joined.fd ["a", "b"] (sp_f K T A.c_InvalidForest.C 2 (two fun p n x p' n' x' => .tuple ((kids p n (-1)).map (tr p n x) ++ (kids p' n' (-1)).map (tr p' n' x')))) := by
  have G_need_forests := ok_need_forests (P := P) (w := w) A TB glob
  refine A.forest_joined.F.okX sc_forest_joined (fun vs H Q E h => h.1) (fun cdv B outer s H vs Q E hr h => ?_)
  obtain ⟨hl, ds, hv, hs, hz, ht, h⟩ := h
  obtain ⟨v, v', rfl⟩ := len_two hl
  refine ⟨_, (pss_cons (ps_expr (pe_callRS G_need_forests (hr.mono (by decide)) rfl A.need_forests.m A.need_forests.kp (fun σ => passAt (takes_of rfl rfl rfl rfl) σ) (pa_cons (pv 0) (pa_cons (pv 1) pa_nil)))) (pss_one (ps_ret (pe_op op_catA (pv 0) (pv 1))))), ?_⟩
  walk_at "vc"
  refine ⟨ds, hv, hs, hz, ht, fun H1 u1 => ?_⟩
  rcases h with ⟨_, ⟨p, n, x, p', n', x', g, g', rfl, rfl⟩, q⟩ | ⟨u, hu, q⟩
  · rw [fb_two g g']
    walk_at "vc"
    obtain ⟨h1, h2⟩ := two_inv hv
    have h1 := Dp.tk (Tk.of_up u1 ht) _ _ nl_foD h1
    have h2 := Dp.tk (Tk.of_up u1 ht) _ _ nl_foD h2
    obtain ⟨a, xs, rfl, ha, hxs⟩ := Dp.tup_inv h1
    obtain ⟨b, ys, rfl, hb, hys⟩ := Dp.tup_inv h2
    have l1 := DpAll.len hxs
    have l2 := DpAll.len hys
    rw [List.length_map] at l1 l2
    have k1 : (kids p n (-1)).length ≤ n := kf_len
    have k2 : (kids p' n' (-1)).length ≤ n' := kf_len
    have k3 := g.le
    have k4 := g'.le
    have big : (2000 : Nat) < sizeLine := by decide
    refine ⟨a, b, xs, ys, rfl, rfl, ha, hb, by omega, fun e => ?_, fun _ e => ?_, fun _ _ c hc => ?_⟩
    · subst e
      have e : (kids p n (-1)) = [] := List.eq_nil_of_length_eq_zero (by simpa using l1.symm)
      refine q _ _ u1 ?_
      show Dp K H1 _ (.tuple ((kids p n (-1)).map (tr p n x) ++ (kids p' n' (-1)).map (tr p' n' x')))
      rw [e]
      exact h2
    · subst e
      have e : (kids p' n' (-1)) = [] := List.eq_nil_of_length_eq_zero (by simpa using l2.symm)
      refine q _ _ u1 ?_
      show Dp K H1 _ (.tuple ((kids p n (-1)).map (tr p n x) ++ (kids p' n' (-1)).map (tr p' n' x')))
      rw [e, List.map_nil, List.append_nil]
      exact h1
    · refine q _ _ (u1.trans (Up.new hc)) (.tup (SqT.of upd_same) ?_)
      exact DpAll.app' (DpAll.tk (Tk.new hc) _ _ (nl_trs _) hxs) (DpAll.tk (Tk.new hc) _ _ (nl_trs _) hys)
  · rw [hu]
    exact fun dx hdx => q dx H1 u1 hdx
/-! ### turned -/
def sp_turned (K : PySem.W.Frag) (t : Nat) : Sp := fun vs H Q _ => ∃ (v : V) (p : Nat → Int) (n : Nat) (x : Nat → Str) (q : Int), vs = [v] ∧ 0 < t ∧ Pre p n ∧ n ≤ 1000 ∧ (∀ j ∈ kids p n q, 9 ≤ dp p j + t) ∧ (∀ j, j < n → dp p j ≤ 7) ∧ Dp K H v (.tuple ((kids p n q).map (tr p n x))) ∧
  ∀ r H', Same H H' → Dp K H' r (.tuple ((kids p n q).reverse.map (mi p n x))) → Q r H'
theorem ok_turned_n (A : All K mg) : ∀ t, FnOk P w K mg base CX0 t A.turned.f A.turned.fd ["a"] (sp_turned K t)
  | 0 => ⟨fun vs H Q E ⟨_, _, _, _, _, _, h, _⟩ => absurd h (by omega), fun _ _ _ _ _ _ _ _ _ _ _ _ _ ⟨_, _, _, _, _, _, h, _⟩ => absurd h (by omega)⟩
  | t + 1 => by
    have G_turned := ok_turned_n A t
    refine A.turned.F.ok sc_turned (fun vs H Q E h => ?_) (fun cdv B outer s H vs Q E hr h => ?_)
    · obtain ⟨v, p, n, x, q, rfl, _⟩ := h
      rfl
    · obtain ⟨v, p, n, x, i0, rfl, _, hp, hn, hd, h7, hv, q⟩ := h
      refine ⟨_, (pss_one (ps_ret (pe_callTy call_tuple_of (by rfl) A.n_tuple (by decide +kernel) (pa_cons (pe_lc (own := [("word", 1), ("children", 2)]) (g := gTup K 2 (gCons (gName 1) (gCons (gName 2) gNil))) rfl sc_turned.nd (RT.pi_revA rfl A.n_reversed (pv 0)) (blkOk_by (own := [("word", 1), ("children", 2)]) (N := ["a", "word", "children"]) (sc := defScope s_turned) (by decide +kernel)) (fun _ _ _ _ _ => pg_tup rfl (pgs_cons (pg_name (i := 1) sc_turned.nd rfl (Or.inl rfl)) (pgs_cons (pg_name (i := 2) sc_turned.nd rfl (Or.inl rfl)) pgs_nil))) (fun _ _ _ _ _ => pts_nil) (fun _ _ _ _ _ => (pe_tup (pa_cons (pv 1) (pa_cons (pe_call G_turned hr rfl A.turned.m A.turned.kp A.turned.b .nil pass0 (pa_cons (pv 2) pa_nil)) pa_nil))))) pa_nil)))), ?_⟩
      walk_at "vc"
      obtain ⟨a, xs, rfl, ha, hxs⟩ := Dp.tup_inv hv
      have lx := DpAll.len hxs
      rw [List.length_map] at lx
      have lk : (kids p n i0).length ≤ n := kf_len
      have big : (2000 : Nat) < sizeLine := by decide
      refine ⟨a, rfl, xs, .inr ⟨ha, fun D hD => ?_⟩⟩
      refine LcB.revT (fun i H' => ∃ acc, H' D = some (.lst acc) ∧ Same H H' ∧ DpAll K H' acc (((kids p n i0).reverse.take i).map (mi p n x))) ?_ ?_ ?_ ?_
      · exact ⟨[], upd_same, Same.new hD, by rw [List.take_zero]; exact .nil⟩
      · rintro i H1 ⟨_, _, s1, _⟩
        exact SqT.same ha s1
      · rintro i H1 z hi hz ⟨acc, g1, g2, g3⟩
        rw [lx] at hi hz
        obtain ⟨j, hj⟩ : ∃ j, (kids p n i0)[(kids p n i0).length - 1 - i]? = some j := ⟨_, List.getElem?_eq_getElem (by omega)⟩
        have hjm := List.mem_of_getElem? hj
        obtain ⟨_, hjn, hpj⟩ := kf_mem.mp hjm
        obtain ⟨d, hd1, hzd⟩ := DpAll.at hxs hz
        rw [List.getElem?_map, hj] at hd1
        cases hd1
        rw [tr, trR_eq turns_id hp hjn] at hzd
        obtain ⟨b, w1, w2, rfl, hb, d1, d2⟩ := Dp.tup2_inv hzd
        obtain rfl := Dp.str_inv d1
        refine gTup_go (SqT.same hb g2) rfl ?_
        walk_at "vc"
        have dj := hd j hjm
        have d7 := h7 j hjn
        refine ⟨w2, p, n, x, j, rfl, by omega, hp, hn, fun l hl => ?_, h7, Dp.same g2 _ _ d2, fun r H2 s2 e2 => ⟨by decide, fun t' ht' => ?_⟩⟩
        · obtain ⟨_, hln, hpl⟩ := kf_mem.mp hl
          have := hp.hi l hln
          rw [dp_kid hpl (by omega)]
          omega
        · have eD : (upd H2 t' (.tup [.str (x j), r])) D = some (.lst acc) := Same.new ht' _ _ (s2 _ _ g1)
          have k2 : Tk H1 (upd (upd H2 t' (.tup [.str (x j), r])) D (.lst (acc ++ [.ref t']))) := (Tk.of_same (s2.trans (Same.new ht'))).trans (Tk.lst eD)
          refine ⟨acc, eD, ?_, acc ++ [.ref t'], upd_same, Same.mut ((g2.trans s2).trans (Same.new ht')) hD, ?_⟩
          · have := DpAll.len g3
            rw [List.length_map, List.length_take, List.length_reverse] at this
            omega
          · refine DpAll.take_snoc (j := j) (DpAll.tk k2 _ _ (nl_trs _) g3) (by rw [rev_get hi]; exact hj) ?_
            rw [mi, trR_eq turns_rev hp hjn]
            have tD : D ≠ t' := none_ne (s2 _ _ g1) ht'
            refine .tup (SqT.of (by rw [upd_ne (Ne.symm tD)]; exact upd_same)) (.cons (.str _) (.cons (Dp.tk ((Tk.of_same (Same.new ht')).trans (Tk.lst eD)) _ _ (nl_trs _) e2) .nil))
      · rintro H1 ⟨acc, g1, g2, g3⟩
        rw [List.take_of_length_le (by rw [List.length_reverse]; omega)] at g3
        walk_at "vc"
        refine ⟨_, .inl ⟨SqL.of g1, fun l hl => q _ _ (g2.trans (Same.new hl)) (.tup (SqT.of upd_same) (DpAll.tk (Tk.new hl) _ _ (nl_trs _) g3))⟩⟩
theorem ok_turned (A : All K mg) : FnOk P w K mg base CX0 10 A.turned.f A.turned.fd ["a"] (sp_turned K 10) := ok_turned_n A _
theorem ok_forest_turned (A : All K mg) (TB : GxR.TabB base mg A.is_word.c T) (glob : base.Ns mainGlobals mg) : FnOk P w K mg base (L2.CX P w) 11 A.forest_turned.f A.forest_turned.fd ["a"] (sp_f K T A.c_InvalidForest.C 1 (one miD)) := by
  have G_need_forests := ok_need_forests (P := P) (w := w) A TB glob
  have G_turned := ok_turned (P := P) (w := w) (base := base) A
  refine A.forest_turned.F.okX sc_forest_turned (fun vs H Q E h => h.1) (fun cdv B outer s H vs Q E hr h => ?_)
  obtain ⟨hl, ds, hv, hs, hz, ht, h⟩ := h
  obtain ⟨v, rfl⟩ := len_one hl
  refine ⟨_, (pss_cons (ps_expr (pe_callRS G_need_forests (hr.mono (by decide)) rfl A.need_forests.m A.need_forests.kp (fun σ => passAt (takes_of rfl rfl rfl rfl) σ) (pa_cons (pv 0) pa_nil))) (pss_one (ps_ret (pe_call G_turned (hr.mono (by decide)) rfl A.turned.m A.turned.kp A.turned.b .nil pass0 (pa_cons (pv 0) pa_nil))))), ?_⟩
  walk_at "vc"
  refine ⟨ds, hv, hs, hz, ht, fun H1 u1 => ?_⟩
  rcases h with ⟨_, ⟨p, n, x, g, rfl, rfl⟩, q⟩ | ⟨u, hu, q⟩
  · rw [fb_one g]
    walk_at "vc"
    refine ⟨v, p, n, x, -1, rfl, by decide, g.pre, g.le, fun j _ => by omega, g.low, Dp.tk (Tk.of_up u1 ht) _ _ nl_foD (one_inv hv), fun r H2 s2 e2 => q _ _ (u1.trans (Up.of_same s2)) e2⟩
  · rw [hu]
    exact fun dx hdx => q dx H1 u1 hdx
/-! ### the order -/
def rkD (p : Nat → Int) (n : Nat) (x : Nat → Str) : PyData := .tuple [.int (n : Nat), .tuple ((List.range n).map fun k => .str (x k)), .tuple ((List.range n).map fun k => .int (p k))]
def sp_rank (K : PySem.W.Frag) : Sp := fun vs H Q _ => ∃ (v : V) (p : Nat → Int) (n : Nat) (x : Nat → Str), vs = [v] ∧ IsFo K H v p n x ∧ ∀ r H', Same H H' → Dp K H' r (rkD p n x) → Q r H'
theorem ok_forest_rank (A : All K mg) : FnOk P w K mg base CX0 3 A.forest_rank.f A.forest_rank.fd ["a"] (sp_rank K) := by
  have G_node_words := ok_node_words (P := P) (w := w) (base := base) A
  have G_node_parents := ok_node_parents (P := P) (w := w) (base := base) A
  refine A.forest_rank.F.ok sc_forest_rank (fun vs H Q E h => ?_) (fun cdv B outer s H vs Q E hr h => ?_)
  · obtain ⟨v, p, n, x, rfl, _⟩ := h
    rfl
  · obtain ⟨v, p, n, x, rfl, hv, q⟩ := h
    refine ⟨_, (pss_cons (ps_set (i := 1) sc_forest_rank.nd rfl (by first | exact Or.inl rfl | exact Or.inr rfl) (pe_call G_node_words (hr.mono (by decide)) rfl A.node_words.m A.node_words.kp A.node_words.b .nil pass0 (pa_cons (pv 0) pa_nil))) (pss_one (ps_ret (pe_tup (pa_cons (pe_callB (r := fun xs H Q => ∃ x n, xs = [x] ∧ LenV K x H n ∧ Q (V.int n) H) call_len (by rfl) A.n_len PySem.boot_len (pa_cons (pv 1) pa_nil)) (pa_cons (pv 1) (pa_cons (pe_call G_node_parents (hr.mono (by decide)) rfl A.node_parents.m A.node_parents.kp A.node_parents.b .nil pass0 (pa_cons (pv 0) pa_nil)) pa_nil))))))), ?_⟩
    walk_at "vc"
    refine ⟨v, p, n, x, rfl, hv, fun F H1 hF s1 e1 => ?_⟩
    refine ⟨_, .inr ⟨_, SqT.of e1, rfl⟩, v, p, n, x, rfl, hv.tk (Tk.of_same s1), fun G H2 hG s2 e2 => ⟨by decide, fun t ht => q _ _ ((s1.trans s2).trans (Same.new ht)) ?_⟩⟩
    refine dp3 upd_same ?_ (.tup (SqT.of (Same.new ht _ _ (s2 _ _ e1))) (dpAll_map fun k => .str _)) (.tup (SqT.of (Same.new ht _ _ e2)) (dpAll_map fun k => .int _))
    rw [List.length_map, List.length_range]
    exact .int _
theorem alikeAll_strs {f g : Nat → Str} : ∀ l l' : List Nat, PySem.W.alikeAll (l.map fun k => .str (f k)) (l'.map fun k => .str (g k)) = true
  | [], _ => by rw [List.map_nil, PySem.W.alikeAll]
  | _ :: _, [] => by rw [List.map_nil, List.map_cons, PySem.W.alikeAll]
  | a :: l, b :: l' => by rw [List.map_cons, List.map_cons, PySem.W.alikeAll, PySem.W.alike, alikeAll_strs l l']; rfl
theorem alikeAll_ints {f g : Nat → Int} : ∀ l l' : List Nat, PySem.W.alikeAll (l.map fun k => .int (f k)) (l'.map fun k => .int (g k)) = true
  | [], _ => by rw [List.map_nil, PySem.W.alikeAll]
  | _ :: _, [] => by rw [List.map_nil, List.map_cons, PySem.W.alikeAll]
  | a :: l, b :: l' => by rw [List.map_cons, List.map_cons, PySem.W.alikeAll, PySem.W.alike, alikeAll_ints l l']; rfl
theorem depth_flat {ds : List PyData} (h : ∀ d ∈ ds, d.depth ≤ 1) : PyData.depthAll ds ≤ 1 := by
  induction ds with
  | nil => simp [PyData.depthAll]
  | cons d ds ih =>
    have h1 := h d List.mem_cons_self
    have h2 := ih fun e he => h e (List.mem_cons_of_mem _ he)
    rw [PyData.depthAll]
    omega
theorem alike_rk {p p' : Nat → Int} {n n' : Nat} {x x' : Nat → Str} : PySem.W.alike (rkD p n x) (rkD p' n' x') = true := by
  unfold rkD
  simp only [PySem.W.alike, PySem.W.alikeAll, alikeAll_strs, alikeAll_ints, Bool.and_self]
theorem depth_rk {p : Nat → Int} {n : Nat} {x : Nat → Str} : (rkD p n x).depth ≤ 60 := by
  have h1 : PyData.depthAll ((List.range n).map fun k => PyData.str (x k)) ≤ 1 := depth_flat fun d hd => by
    obtain ⟨k, _, rfl⟩ := List.mem_map.mp hd
    simp [PyData.depth]
  have h2 : PyData.depthAll ((List.range n).map fun k => PyData.int (p k)) ≤ 1 := depth_flat fun d hd => by
    obtain ⟨k, _, rfl⟩ := List.mem_map.mp hd
    simp [PyData.depth]
  unfold rkD
  simp only [PyData.depth, PyData.depthAll]
  omega
theorem ok_forest_below (A : All K mg) (TB : GxR.TabB base mg A.is_word.c T) (glob : base.Ns mainGlobals mg) : FnOk P w K mg base (L2.CX P w) 4 A.forest_below.f A.forest_below.fd ["a", "b"] (sp_f K T A.c_InvalidForest.C 2 (two fun p n x p' n' x' => .bool (PySem.W.dataLt (rkD p n x) (rkD p' n' x')))) := by
  have G_need_forests := ok_need_forests (P := P) (w := w) A TB glob
  have G_forest_rank := ok_forest_rank (P := P) (w := w) (base := base) A
  refine A.forest_below.F.okX sc_forest_below (fun vs H Q E h => h.1) (fun cdv B outer s H vs Q E hr h => ?_)
  obtain ⟨hl, ds, hv, hs, hz, ht, h⟩ := h
  obtain ⟨v, v', rfl⟩ := len_two hl
  refine ⟨_, (pss_cons (ps_expr (pe_callRS G_need_forests (hr.mono (by decide)) rfl A.need_forests.m A.need_forests.kp (fun σ => passAt (takes_of rfl rfl rfl rfl) σ) (pa_cons (pv 0) (pa_cons (pv 1) pa_nil)))) (pss_one (ps_ret (pe_cmpR (op_ltDD hr.units) (pe_call G_forest_rank (hr.mono (by decide)) rfl A.forest_rank.m A.forest_rank.kp A.forest_rank.b .nil pass0 (pa_cons (pv 0) pa_nil)) (pe_call G_forest_rank (hr.mono (by decide)) rfl A.forest_rank.m A.forest_rank.kp A.forest_rank.b .nil pass0 (pa_cons (pv 1) pa_nil)) (nomark _))))), ?_⟩
  walk_at "vc"
  refine ⟨ds, hv, hs, hz, ht, fun H1 u1 => ?_⟩
  rcases h with ⟨_, ⟨p, n, x, p', n', x', g, g', rfl, rfl⟩, q⟩ | ⟨u, hu, q⟩
  · rw [fb_two g g']
    walk_at "vc"
    obtain ⟨h1, h2⟩ := two_inv hv
    have f1 := g.fo (Dp.tk (Tk.of_up u1 ht) _ _ nl_foD h1)
    have f2 := g'.fo (Dp.tk (Tk.of_up u1 ht) _ _ nl_foD h2)
    refine ⟨v, p, n, x, rfl, f1, fun r H2 s2 e2 => ⟨v', p', n', x', rfl, f2.tk (Tk.of_same s2), fun r' H3 s3 e3 => ?_⟩⟩
    exact ⟨_, _, Dp.same s3 _ _ e2, e3, alike_rk, (fun z => nomatch z), Nat.le_trans (Nat.min_le_left _ _) depth_rk, q _ _ ((u1.trans (Up.of_same s2)).trans (Up.of_same s3)) (.bl _)⟩
  · rw [hu]
    exact fun dx hdx => q dx H1 u1 hdx
end
end Ly
namespace Ly
open PySem PySem.Spec PyProof.Rows L2
open GxR (TabG Tabbed)
local macro_rules | `(tactic| walk_at "vc") => `(tactic| simp only [tSeq, tAsg, tOp, tVar, tC, tRet, tRetN, tNext, tIfS, tIf, tDrop, tB, tTest, tNot, tAnd, tOr, tAndV, tOrV, tNotV, tChain, tUn, tCB, tCons, tNil, tTup, tLst, tSl, tPart, tNoPart, tCall, tBreak, tCont,
  rI, rI0, rU, gName, gNil_nil, gCons_cons, gSub, rSetL, L2.start, cx_K, cx_nox, tLc_eq, tFor_eq, iRng1, iRng2, iList, iTup, tM1, tYes, wipe, rIxS, rIxL, rIxT, rCat, rSlL, rEq, rNe, rPop, rAppend, tBM, tBM0, tMkO_eq, tVal_eq, tFldE_eq, tXfE_eq, tCallS, lenV_ref, iRevR, tRg1, RT.iRevA, RZ.iZipA, tDGet, sDPut, tDNewK, tAugS, ipI, tMaxD, tCallK0, rRep, rExtend, CDiv, CDivW, CPow, CMulX,
  List.map_cons, List.map_nil, List.cons_append, List.nil_append, List.append_nil, List.length_cons, List.length_nil, List.replicate, List.getElem?_cons_zero, List.getElem?_cons_succ, List.set_cons_zero, List.set_cons_succ, Nat.reduceSub, Nat.reduceAdd,
  Option.some.injEq, V.int.injEq, V.bl.injEq, V.str.injEq, V.ref.injEq, exists_eq_left', exists_eq_left, exists_and_left, reduceCtorEq, false_and, and_false, exists_false, or_false, false_or, Bool.false_eq_true, if_false, if_true, reduceIte, decide_eq_true_eq, List.cons.injEq, and_true, true_and])
section
variable {P : Program} {w : World} {K : PySem.W.Frag} {mg : Str → Option Value} {base : Heap} {T : Addr}
/-! ### the way down to the last node -/
structure Ch (p : Nat → Int) (k : Nat) (c : List Int) : Prop where
  pos : 0 < c.length
  le : c.length ≤ 8
  top : c[0]? = some (-1)
  nd : ∀ (i : Nat) (y : Int), c[i]? = some y → 0 < i → ∃ z : Nat, y = (z : Int) ∧ z < k ∧ dp p z + 1 = i
  sub : ∀ (i : Nat) (y : Int), c[i]? = some y → ∀ j : Nat, y < (j : Int) → j < k → y ≤ p j
  mono : ∀ (i j : Nat) (y z : Int), i < j → c[i]? = some y → c[j]? = some z → y < z
theorem dp_congr {p p' : Nat → Int} : ∀ z, (∀ j, j ≤ z → p' j = p j) → dp p' z = dp p z := by
  intro z
  induction z using Nat.strongRecOn with
  | ind z ih =>
    intro h
    have e := h z (Nat.le_refl _)
    conv => lhs; rw [dp]
    conv => rhs; rw [dp]
    rw [e]
    split
    · rename_i c
      rw [ih _ c.2 fun j hj => h j (by omega)]
    · rfl
theorem Ch.start {p : Nat → Int} : Ch p 0 [-1] := by
  refine ⟨by decide, by decide, rfl, fun i y h hi => ?_, fun i y h j h1 h2 => by omega, fun i j y z h1 h2 h3 => ?_⟩
  · rw [List.getElem?_eq_none (by show 1 ≤ i; omega)] at h
    cases h
  · rw [List.getElem?_eq_none (by simp; omega)] at h3
    cases h3
/-- one node more, below the a-th of the way -/
theorem Ch.next {p p' : Nat → Int} {k a : Nat} {c : List Int} {q : Int} (h : Ch p k c) (hp : Pre p k) (hd : ∀ j, j < k → dp p j ≤ 7) (ha : c[a]? = some q) (he : ∀ j, j < k → p' j = p j) (hk : p' k = q) :
    Pre p' (k + 1) ∧ (∀ j, j < k + 1 → dp p' j ≤ 7) ∧ Ch p' (k + 1) ((c.take (a + 1) ++ [(k : Int)]).take 8) := by
  have hal := (List.getElem?_eq_some_iff.mp ha).1
  have l8 := h.le
  have old : ∀ z, z < k → dp p' z = dp p z := fun z hz => dp_congr z fun j hj => he j (by omega)
  have hq : -1 ≤ q ∧ q < (k : Int) := by
    rcases Nat.eq_zero_or_pos a with e | e
    · subst e
      rw [h.top] at ha
      cases ha
      omega
    · obtain ⟨z, e1, e2, _⟩ := h.nd a q ha e
      omega
  have dk : dp p' k = a := by
    rcases Nat.eq_zero_or_pos a with e | e
    · subst e
      rw [h.top] at ha
      cases ha
      exact dp_root (by omega)
    · obtain ⟨z, e1, e2, e3⟩ := h.nd a q ha e
      rw [dp_kid (q := z) (by omega) e2, old z e2, e3]
  have new : ∀ i y, ((c.take (a + 1) ++ [(k : Int)]).take 8)[i]? = some y → (i ≤ a ∧ c[i]? = some y) ∨ (i = a + 1 ∧ y = (k : Int)) := by
    intro i y e
    rw [List.getElem?_take] at e
    split at e
    · rw [List.getElem?_append, List.length_take, Nat.min_eq_left (by omega)] at e
      split at e
      · rw [List.getElem?_take, if_pos (by omega)] at e
        exact .inl ⟨by omega, e⟩
      · have : i - (a + 1) < 1 := by
          have := (List.getElem?_eq_some_iff.mp e).1
          simpa using this
        have e2 : i - (a + 1) = 0 := by omega
        rw [e2] at e
        exact .inr ⟨by omega, (Option.some.inj e).symm⟩
    · cases e
  refine ⟨⟨fun j hj => ?_, fun j hj => ?_, fun m j l h1 h2 h3 h4 => ?_⟩, fun j hj => ?_, ⟨?_, ?_, ?_, fun i y e hi => ?_, fun i y e j h1 h2 => ?_, fun i j y z hij e1 e2 => ?_⟩⟩
  · rcases Nat.eq_or_lt_of_le (show j ≤ k by omega) with e | e
    · subst e; omega
    · rw [he j e]; exact hp.lo j e
  · rcases Nat.eq_or_lt_of_le (show j ≤ k by omega) with e | e
    · subst e; omega
    · rw [he j e]; exact hp.hi j e
  · rw [he j (by omega)] at h4
    rcases Nat.eq_or_lt_of_le (show l ≤ k by omega) with e | e
    · subst e
      intro z
      have := h.sub a q ha j (by omega) h2
      omega
    · rw [he l e]
      exact hp.pre m j l h1 h2 e h4
  · rcases Nat.eq_or_lt_of_le (show j ≤ k by omega) with e | e
    · subst e; omega
    · rw [old j e]; exact hd j e
  · rw [List.length_take, List.length_append, List.length_take]
    show 0 < min 8 (min (a + 1) c.length + 1)
    omega
  · rw [List.length_take]
    omega
  · rw [List.getElem?_take, if_pos (by decide), List.getElem?_append, if_pos (by rw [List.length_take]; omega), List.getElem?_take, if_pos (by omega)]
    exact h.top
  · rcases new i y e with ⟨h1, h2⟩ | ⟨h1, h2⟩
    · obtain ⟨z, e1, e2, e3⟩ := h.nd i y h2 hi
      exact ⟨z, e1, by omega, by rw [old z e2]; exact e3⟩
    · exact ⟨k, h2, by omega, by omega⟩
  · rcases new i y e with ⟨g1, g2⟩ | ⟨g1, g2⟩
    · rcases Nat.eq_or_lt_of_le (show j ≤ k by omega) with e' | e'
      · subst e'
        rw [hk]
        rcases Nat.eq_or_lt_of_le g1 with z | z
        · subst z
          rw [ha] at g2
          cases g2
          omega
        · have := h.mono i a y q z g2 ha
          omega
      · rw [he j e']
        exact h.sub i y g2 j h1 e'
    · omega
  · rcases new i y e1 with ⟨g1, g2⟩ | ⟨g1, g2⟩
    · rcases new j z e2 with ⟨g3, g4⟩ | ⟨g3, g4⟩
      · exact h.mono i j y z hij g2 g4
      · rcases Nat.eq_zero_or_pos i with e | e
        · subst e
          rw [h.top] at g2
          cases g2
          omega
        · obtain ⟨u, e1, e2, _⟩ := h.nd i y g2 e
          omega
    · rcases new j z e2 with ⟨g3, g4⟩ | ⟨g3, g4⟩ <;> omega
theorem cut_to {xs : List V} {k : Nat} : cutV xs none (some (k : Int)) = xs.take k := by
  unfold cutV
  rw [HT.sIx_none, HT.sIx_nat, List.drop_zero, Nat.sub_zero, Nat.min_comm]
  rcases Nat.le_total k xs.length with h | h
  · rw [Nat.min_eq_right h]
  · rw [Nat.min_eq_left h, List.take_length, List.take_of_length_le h]
def sp_parents : Sp := fun vs H Q _ => ∃ (b : Addr) (m n : Nat), vs = [.ref b, .int (n : Int)] ∧ BoxAt H b m ∧ m ≤ 900000000 ∧ n ≤ 100 ∧
  ∀ q p H', H q = none → Pre p n → (∀ k, k < n → dp p k ≤ 7) → H' q = some (.lst ((List.range n).map fun k => .int (p k))) → Step b H H' → BoxAt H' b (m + n) → Q (.ref q) H'
theorem ok_l_parents (A : All K mg) : FnOk P w K mg base CX0 3 A.l_parents.f A.l_parents.fd ["box", "many"] sp_parents := by
  have G_l_draw := ok_l_draw (P := P) (w := w) (base := base) A
  refine A.l_parents.F.ok sc_l_parents (fun vs H Q E h => ?_) (fun cdv B outer s H vs Q E hr h => ?_)
  · obtain ⟨b, m, n, rfl, _⟩ := h
    rfl
  · obtain ⟨b, m, n, rfl, hb, hm, hn, q⟩ := h
    refine ⟨_, (pss_cons (ps_set (i := 2) sc_l_parents.nd rfl (by first | exact Or.inl rfl | exact Or.inr rfl) (pe_lst pa_nil)) (pss_cons (ps_set (i := 3) sc_l_parents.nd rfl (by first | exact Or.inl rfl | exact Or.inr rfl) (pe_lst (pa_cons (pe_un un_neg pe_int) pa_nil))) (pss_cons (ps_for PassesOwn.never rfl (pi_range1 rfl A.n_range (pa_cons (pv 1) pa_nil)) (pg_name (i := 4) sc_l_parents.nd rfl (by first | exact Or.inl rfl | exact Or.inr rfl)) (pss_cons (ps_set (i := 5) sc_l_parents.nd rfl (by first | exact Or.inl rfl | exact Or.inr rfl) (pe_call G_l_draw (hr.mono (by decide)) rfl A.l_draw.m A.l_draw.kp A.l_draw.b .nil pass0 (pa_cons (pv 0) (pa_cons (pe_callB (r := fun xs H Q => ∃ x n, xs = [x] ∧ LenV K x H n ∧ Q (V.int n) H) call_len (by rfl) A.n_len PySem.boot_len (pa_cons (pv 3) pa_nil)) pa_nil)))) (pss_cons (ps_expr (pe_bm PySem.F.plainAttrs_list PySem.F.slot_list_append PySem.F.type_list_append mt_append (pv 2) (pa_cons (pe_ix (r := rIxL K) ix_list (pv 3) (pv 5) (fun _ _ => rfl)) pa_nil))) (pss_one (ps_set (i := 3) sc_l_parents.nd rfl (by first | exact Or.inl rfl | exact Or.inr rfl) (pe_slice sl_list (pe_op op_cat (pe_slice sl_list (pv 3) po_none (po_some (pe_op op_add (pv 5) pe_int))) (pe_lst (pa_cons (pv 4) pa_nil))) po_none (po_some pe_int))))))) (pss_one (ps_ret (pv 2)))))), ?_⟩
    walk_at "vc"
    have big : (2000 : Nat) < sizeLine := by decide
    refine ⟨by decide, fun D hD => ⟨by decide, fun C hC => ⟨by omega, by omega, ?_⟩⟩⟩
    have hC0 : H C = none := fresh_of (Same.new hD) hC
    have hDC : D ≠ C := none_ne upd_same hC
    have s0 : Step b H (upd (upd H D (.lst [])) C (.lst [.int (-1)])) := Step.trans (Step.new hD) (Step.new hC)
    have bD : b ≠ D := by obtain ⟨_, _, _, e, _⟩ := hb; exact none_ne e hD
    have bC : b ≠ C := by obtain ⟨_, _, _, e, _⟩ := hb; exact none_ne e hC0
    refine ForB.range (fun i σ H' => ∃ (C : Addr) (c : List Int) (p : Nat → Int) (s4 s5 : Option V), σ = [some (.ref b), some (.int (n : Int)), some (.ref D), some (.ref C), s4, s5] ∧ C ≠ D ∧ C ≠ b ∧ H' D = some (.lst ((List.range i).map fun k => .int (p k))) ∧ H' C = some (.lst (c.map V.int)) ∧
      Pre p i ∧ (∀ k, k < i → dp p k ≤ 7) ∧ Ch p i c ∧ Step b H H' ∧ BoxAt H' b (m + i)) ?_ ?_ ?_
    · refine ⟨C, [-1], fun _ => -1, _, _, rfl, Ne.symm hDC, Ne.symm bC, by rw [upd_ne hDC]; exact upd_same, upd_same, ⟨fun k h => by omega, fun k h => by omega, fun _ _ _ _ _ h => by omega⟩, fun k h => by omega, Ch.start, s0, ?_⟩
      obtain ⟨x, y, z, e, v⟩ := hb
      exact ⟨x, y, z, by rw [upd_ne bC, upd_ne bD]; exact e, v.mono (by omega)⟩
    · rintro i σ H1 hi ⟨C, c, p, s4, s5, rfl, CD, Cb, g1, g2, g3, g4, g5, g6, g7⟩
      have hin : i < n := by omega
      walk_at "vc"
      have l8 := g5.le
      have l0 := g5.pos
      refine ⟨_, .inl ⟨_, SqL.of g2, rfl⟩, ?_⟩
      rw [List.length_map]
      refine draw_go g7 (by omega) (by omega) (by omega) fun d H2 d0 d1 s2 b2 => ?_
      obtain ⟨a, rfl⟩ : ∃ a : Nat, d = (a : Int) := ⟨d.toNat, by omega⟩
      have e1 := s2.keep _ _ (Ne.symm bD) g1
      have e2 := s2.keep _ _ Cb g2
      obtain ⟨y, hy⟩ : ∃ y, c[a]? = some y := ⟨_, List.getElem?_eq_getElem (by omega)⟩
      have lD : ((List.range i).map fun k => V.int (p k)).length = i := by rw [List.length_map, List.length_range]
      refine ⟨.inl ⟨rfl, _, SqL.of e1⟩, _, a, rfl, SqL.of e2, .int y, atI_nat (by rw [List.getElem?_map, hy]; rfl), _, e1, by omega, a, rfl, _, SqL.of (by rw [upd_ne CD]; exact e2), fun p1 h1 => ⟨by decide, fun p2 h2 => ?_⟩⟩
      have n12 : p1 ≠ p2 := none_ne upd_same h2
      refine ⟨_, by rw [upd_ne n12]; exact upd_same, _, upd_same, ?_, fun p3 h3 => ⟨_, SqL.of upd_same, fun p4 h4 => ?_⟩⟩
      · have := cutV_length (c.map V.int) none (some ((a : Int) + 1))
        rw [List.length_map] at this
        show (cutV (c.map V.int) none (some ((a : Int) + 1))).length + 1 ≤ sizeLine
        omega
      · have z := (Same.new (o := .lst (cutV (c.map V.int) none (some ((a : Int) + 1)))) h1).trans ((Same.new (o := .lst [.int (0 + (i : Int))]) h2).trans (Same.new (o := .lst (cutV (c.map V.int) none (some ((a : Int) + 1)) ++ [.int (0 + (i : Int))])) h3))
        have nx := g5.next (p' := fun j => if j = i then y else p j) g3 g4 hy (fun j hj => if_neg (by omega)) (if_pos rfl)
        have st : Step b H (upd H2 D (.lst (((List.range i).map fun k => V.int (p k)) ++ [.int y]))) := (g6.trans s2).mut hD
        have st2 := st.trans (Step.of_same (z.trans (Same.new (o := .lst (cutV (cutV (c.map V.int) none (some ((a : Int) + 1)) ++ [.int (0 + (i : Int))]) none (some 8))) h4)))
        have b3 : BoxAt (upd H2 D (.lst (((List.range i).map fun k => V.int (p k)) ++ [.int y]))) b (m + (i + 1)) := by
          obtain ⟨x, y', z', e, v⟩ := b2
          exact ⟨x, y', z', by rw [upd_ne bD]; exact e, v.mono (by omega)⟩
        obtain ⟨x, y', z', e, v⟩ := b3
        have e4 := Same.new (o := .lst (cutV (cutV (c.map V.int) none (some ((a : Int) + 1)) ++ [.int (0 + (i : Int))]) none (some 8))) h4 _ _ (z _ _ e)
        have eD := Same.new (o := .lst (cutV (cutV (c.map V.int) none (some ((a : Int) + 1)) ++ [.int (0 + (i : Int))]) none (some 8))) h4 _ _ (z _ _ (upd_same (a := D)))
        have D4 : D ≠ p4 := none_ne (z _ _ upd_same) h4
        have B4 : b ≠ p4 := none_ne (z _ _ e) h4
        refine ⟨p4, _, _, _, _, ⟨rfl, rfl, rfl⟩, Ne.symm D4, Ne.symm B4, ?_, ?_, nx.1, nx.2.1, nx.2.2, st2, ⟨x, y', z', e4, v⟩⟩
        · rw [eD, List.range_succ, List.map_append]
          congr 2
          refine congr (congrArg _ ?_) ?_
          · exact List.map_congr_left fun k hk => by rw [if_neg (by have := List.mem_range.mp hk; omega)]
          · show [V.int y] = [V.int (if i = i then y else p i)]
            rw [if_pos rfl]
        · rw [upd_same, show (a : Int) + 1 = ((a + 1 : Nat) : Int) by omega, show (8 : Int) = ((8 : Nat) : Int) from rfl, cut_to, cut_to, Int.zero_add, List.map_take, List.map_append, List.map_take]
          rfl
    · rintro σ H1 ⟨C, c, p, s4, s5, rfl, CD, Cb, g1, g2, g3, g4, g5, g6, g7⟩
      rw [Int.toNat_natCast] at g1 g3 g4 g7
      exact ⟨_, rfl, q D p H1 hD g3 g4 g1 g6 g7⟩
end
end Ly
namespace Ly
open PySem PySem.Spec PyProof.Rows L2
open GxR (TabG Tabbed)
local macro_rules | `(tactic| walk_at "vc") => `(tactic| simp only [tSeq, tAsg, tOp, tVar, tC, tRet, tRetN, tNext, tIfS, tIf, tDrop, tB, tTest, tNot, tAnd, tOr, tAndV, tOrV, tNotV, tChain, tUn, tCB, tCons, tNil, tTup, tLst, tSl, tPart, tNoPart, tCall, tBreak, tCont,
  rI, rI0, rU, gName, gNil_nil, gCons_cons, gSub, rSetL, L2.start, cx_K, cx_nox, tLc_eq, tFor_eq, iRng1, iRng2, iList, iTup, tM1, tYes, wipe, rIxS, rIxL, rIxT, rCat, rSlL, rEq, rNe, rPop, rAppend, tBM, tBM0, tMkO_eq, tVal_eq, tFldE_eq, tXfE_eq, tCallS, lenV_ref, iRevR, tRg1, RT.iRevA, RZ.iZipA, tDGet, sDPut, tDNewK, tAugS, ipI, tMaxD, tCallK0, rRep, rExtend, CDiv, CDivW, CPow, CMulX,
  List.map_cons, List.map_nil, List.cons_append, List.nil_append, List.append_nil, List.length_cons, List.length_nil, List.replicate, List.getElem?_cons_zero, List.getElem?_cons_succ, List.set_cons_zero, List.set_cons_succ, Nat.reduceSub, Nat.reduceAdd,
  Option.some.injEq, V.int.injEq, V.bl.injEq, V.str.injEq, V.ref.injEq, exists_eq_left', exists_eq_left, exists_and_left, reduceCtorEq, false_and, and_false, exists_false, or_false, false_or, Bool.false_eq_true, if_false, if_true, reduceIte, decide_eq_true_eq, List.cons.injEq, and_true, true_and])
section
variable {P : Program} {w : World} {K : PySem.W.Frag} {mg : Str → Option Value} {base : Heap} {T : Addr}
/-- a list of ints by parents -/
def sp_lst (K : PySem.W.Frag) (f : (Nat → Int) → Nat → Nat → V) : Sp := fun vs H Q _ => ∃ (a : Addr) (p : Nat → Int) (n : Nat), vs = [.ref a] ∧ SqL K H a ((List.range n).map fun k => .int (p k)) ∧ Pre p n ∧ n ≤ 1000 ∧
  ∀ q H', H q = none → Same H H' → H' q = some (.lst ((List.range n).map (f p n))) → Q (.ref q) H'
theorem lm {n : Nat} {f : Nat → V} : ((List.range n).map f).length = n := by rw [List.length_map, List.length_range]
theorem ok_l_sizes (A : All K mg) : FnOk P w K mg base CX0 1 A.l_sizes.f A.l_sizes.fd ["parents"] (sp_lst K fun p n k => .int (szM p n 0 k : Nat)) := by
  refine A.l_sizes.F.ok sc_l_sizes (fun vs H Q E h => ?_) (fun cdv B outer s H vs Q E hr h => ?_)
  · obtain ⟨v, p, n, rfl, _⟩ := h
    rfl
  · obtain ⟨a, p, n, rfl, ha, hp, hn, q⟩ := h
    refine ⟨_, (pss_cons (ps_setLc (i := 1) (own := [("k", 2)]) (g := gName 2) rfl sc_l_sizes.nd rfl rfl (sw_true rfl rfl rfl (by decide +kernel)) (pi_range1 rfl A.n_range (pa_cons (pe_callB (r := fun xs H Q => ∃ x n, xs = [x] ∧ LenV K x H n ∧ Q (V.int n) H) call_len (by rfl) A.n_len PySem.boot_len (pa_cons (pv 0) pa_nil)) pa_nil)) (blkOk_by (own := [("k", 2)]) (N := ["parents", "sizes", "k"]) (sc := defScope s_l_sizes) (by decide +kernel)) (fun _ _ _ _ _ => pg_name (i := 2) sc_l_sizes.nd rfl (Or.inl rfl)) (fun _ _ _ _ _ => pts_nil) (fun _ _ _ _ _ => pe_int)) (pss_cons (ps_for PassesOwn.never rfl (pi_revR rfl A.n_reversed (prg_1 rfl A.n_range (pe_callB (r := fun xs H Q => ∃ x n, xs = [x] ∧ LenV K x H n ∧ Q (V.int n) H) call_len (by rfl) A.n_len PySem.boot_len (pa_cons (pv 0) pa_nil)))) (pg_name (i := 2) sc_l_sizes.nd rfl (by first | exact Or.inl rfl | exact Or.inr rfl)) (pss_one (ps_if (pt_cmpR op_ge (pe_ix (r := rIxL K) ix_list (pv 0) (pv 2) (fun _ _ => rfl)) pe_int (nomark _)) (pss_one (ps_asg (pe_op op_add (pe_ix (r := rIxL K) ix_list (pv 1) (pe_ix (r := rIxL K) ix_list (pv 0) (pv 2) (fun _ _ => rfl)) (fun _ _ => rfl)) (pe_ix (r := rIxL K) ix_list (pv 1) (pv 2) (fun _ _ => rfl))) (pg_sub (pv 1) (pe_ix (r := rIxL K) ix_list (pv 0) (pv 2) (fun _ _ => rfl)) set_list))) pss_nil))) (pss_one (ps_ret (pv 1))))), ?_⟩
    walk_at "vc"
    have big : (2000 : Nat) < sizeLine := by decide
    refine ⟨_, .inl ⟨_, ha, lm.symm⟩, by omega, by omega, fun D hD => ?_⟩
    refine LcB.range (fun i H' => H' D = some (.lst ((List.range i).map fun _ => .int (1 : Int))) ∧ Same H H') ?_ ?_ ?_
    · exact ⟨upd_same, Same.new hD⟩
    · rintro i H1 hi ⟨g1, g2⟩
      walk_at "vc"
      refine ⟨_, g1, by rw [lm]; omega, ?_, Same.mut g2 hD⟩
      rw [upd_same, List.range_succ, List.map_append]
      rfl
    · rintro H1 ⟨g1, g2⟩
      rw [Int.toNat_natCast] at g1
      have g1 : H1 D = some (.lst ((List.range n).map fun k => .int (szM p n n k : Nat))) := by
        rw [g1]
        congr 2
        exact List.map_congr_left fun k hk => by rw [szM_start (List.mem_range.mp hk)]; rfl
      refine ⟨_, .inl ⟨_, SqL.same ha g2, lm.symm⟩, by decide, by decide, by omega, by omega, ?_⟩
      refine ForB.rng (fun i σ H' => ∃ c, σ = [some (.ref a), some (.ref D), c] ∧ H' D = some (.lst ((List.range n).map fun k => .int (szM p n (n - i) k : Nat))) ∧ Same H H') ?_ ?_ ?_
      · exact ⟨_, rfl, g1, g2⟩
      · rintro i σ H2 hi ⟨c, rfl, g1, g2⟩
        have hi' : i < n := by omega
        walk_at "vc"
        have e0 : (0 : Int) + ((((n : Nat) : Int) - 0).toNat : Nat) - 1 + (i : Nat) * (-1) = ((n - (i + 1) : Nat) : Int) := by omega
        rw [e0]
        have hj : n - (i + 1) < n := by omega
        have ej : n - (i + 1) + 1 = n - i := by omega
        have hlo := hp.lo _ hj
        have hhi := hp.hi _ hj
        generalize n - (i + 1) = j at hj ej hlo hhi
        have ha2 := SqL.same ha g2
        refine ⟨_, ha2, _, atI_nat (range_get hj), _, rfl, ?_⟩
        rw [← ej] at g1
        by_cases c0 : 0 ≤ p j
        · rw [if_pos c0]
          obtain ⟨y, hy⟩ : ∃ y : Nat, p j = (y : Int) := ⟨(p j).toNat, by omega⟩
          have hyn : y < n := by omega
          refine ⟨_, ha2, _, atI_nat (range_get hj), _, y, by rw [hy], SqL.of g1, _, atI_nat (range_get hyn), _, SqL.of g1, _, atI_nat (range_get hj), _, rfl, _, rfl, _, ha2, _, atI_nat (range_get hj), _, y, by rw [hy], g1, y, ?_, ?_, ?_⟩
          · exact ixN_at (by rw [lm]; exact hyn)
          · rw [upd_same]
            congr 2
            refine set_map ?_ fun k hk ne => ?_
            · rw [szM_kid hp hj hy]
              rfl
            · rw [szM_rest hp hj hk (by omega)]
          · exact Same.mut g2 hD
        · rw [if_neg c0]
          refine ⟨?_, g2⟩
          rw [g1]
          congr 2
          apply List.map_congr_left
          intro k hk
          rw [szM_rest hp hj (List.mem_range.mp hk) (by omega)]
      · rintro σ H2 ⟨c, rfl, g1, g2⟩
        rw [show n - ((n : Int) - 0).toNat = 0 by omega] at g1
        exact ⟨_, rfl, q D H2 hD g2 g1⟩
theorem ok_l_depths (A : All K mg) : FnOk P w K mg base CX0 1 A.l_depths.f A.l_depths.fd ["parents"] (sp_lst K fun p n k => .int (dp p k : Nat)) := by
  refine A.l_depths.F.ok sc_l_depths (fun vs H Q E h => ?_) (fun cdv B outer s H vs Q E hr h => ?_)
  · obtain ⟨v, p, n, rfl, _⟩ := h
    rfl
  · obtain ⟨a, p, n, rfl, ha, hp, hn, q⟩ := h
    refine ⟨_, (pss_cons (ps_set (i := 1) sc_l_depths.nd rfl (by first | exact Or.inl rfl | exact Or.inr rfl) (pe_lst pa_nil)) (pss_cons (ps_for PassesOwn.never rfl (pi_range1 rfl A.n_range (pa_cons (pe_callB (r := fun xs H Q => ∃ x n, xs = [x] ∧ LenV K x H n ∧ Q (V.int n) H) call_len (by rfl) A.n_len PySem.boot_len (pa_cons (pv 0) pa_nil)) pa_nil)) (pg_name (i := 2) sc_l_depths.nd rfl (by first | exact Or.inl rfl | exact Or.inr rfl)) (pss_cons (ps_expr (pe_bm PySem.F.plainAttrs_list PySem.F.slot_list_append PySem.F.type_list_append mt_append (pv 1) (pa_cons pe_int pa_nil))) (pss_one (ps_if (pt_cmpR op_ge (pe_ix (r := rIxL K) ix_list (pv 0) (pv 2) (fun _ _ => rfl)) pe_int (nomark _)) (pss_one (ps_asg (pe_op op_add (pe_ix (r := rIxL K) ix_list (pv 1) (pe_ix (r := rIxL K) ix_list (pv 0) (pv 2) (fun _ _ => rfl)) (fun _ _ => rfl)) pe_int) (pg_sub (pv 1) (pv 2) set_list))) pss_nil)))) (pss_one (ps_ret (pv 1))))), ?_⟩
    walk_at "vc"
    have big : (2000 : Nat) < sizeLine := by decide
    refine ⟨by decide, fun D hD => ⟨_, .inl ⟨_, SqL.same ha (Same.new hD), lm.symm⟩, by omega, by omega, ?_⟩⟩
    refine ForB.range (fun i σ H' => ∃ c, σ = [some (.ref a), some (.ref D), c] ∧ H' D = some (.lst ((List.range i).map fun k => .int (dp p k : Nat))) ∧ Same H H') ?_ ?_ ?_
    · exact ⟨_, rfl, upd_same, Same.new hD⟩
    · rintro i σ H1 hi ⟨c, rfl, g1, g2⟩
      have hin : i < n := by omega
      have hlo := hp.lo _ hin
      have hhi := hp.hi _ hin
      walk_at "vc"
      rw [Int.zero_add]
      have ha2 := SqL.same ha (Same.mut (o := .lst (((List.range i).map fun k => .int (dp p k : Nat)) ++ [.int 0])) g2 hD)
      refine ⟨.inl ⟨rfl, _, SqL.of g1⟩, _, g1, by rw [lm]; omega, _, ha2, _, atI_nat (range_get hin), _, rfl, ?_⟩
      by_cases c0 : 0 ≤ p i
      · rw [if_pos c0]
        obtain ⟨y, hy⟩ : ∃ y : Nat, p i = (y : Int) := ⟨(p i).toNat, by omega⟩
        have hyi : y < i := by omega
        refine ⟨_, ha2, _, atI_nat (range_get hin), _, y, by rw [hy], SqL.of upd_same, .int (dp p y : Nat), ?_, _, rfl, _, upd_same, i, ?_, ?_, ?_⟩
        · exact atI_nat (by rw [List.getElem?_append, if_pos (by rw [lm]; exact hyi), range_get hyi])
        · exact ixN_at (by rw [List.length_append, lm]; show i < i + 1; omega)
        · rw [upd_same, List.range_succ, List.map_append]
          congr 2
          apply List.ext_getElem?
          intro k
          rw [List.getElem?_set, List.length_append, lm]
          split
          · rename_i e
            subst e
            rw [if_pos (by show i < i + 1; omega), List.getElem?_append, if_neg (by rw [lm]; omega), lm, Nat.sub_self]
            show some _ = some (V.int ((dp p i : Nat) : Int))
            rw [dp_kid hy hyi]
            rfl
          · rename_i e
            rw [List.getElem?_append, List.getElem?_append, lm]
            split
            · rfl
            · rename_i c1
              rw [List.getElem?_eq_none (by show 1 ≤ k - i; omega), List.getElem?_eq_none (by show 1 ≤ k - i; omega)]
        · exact Same.mut (Same.mut g2 hD) hD
      · rw [if_neg c0]
        refine ⟨?_, Same.mut g2 hD⟩
        rw [upd_same, List.range_succ, List.map_append, List.map_singleton, dp_root (by omega)]
        rfl
    · rintro σ H1 ⟨c, rfl, g1, g2⟩
      rw [Int.toNat_natCast] at g1
      exact ⟨_, rfl, q D H1 hD g2 g1⟩
theorem ok_l_posts (A : All K mg) : FnOk P w K mg base CX0 2 A.l_posts.f A.l_posts.fd ["parents"] (sp_lst K fun p n k => .int (pst p n k : Nat)) := by
  have G_l_sizes := ok_l_sizes (P := P) (w := w) (base := base) A
  have G_l_depths := ok_l_depths (P := P) (w := w) (base := base) A
  refine A.l_posts.F.ok sc_l_posts (fun vs H Q E h => ?_) (fun cdv B outer s H vs Q E hr h => ?_)
  · obtain ⟨v, p, n, rfl, _⟩ := h
    rfl
  · obtain ⟨a, p, n, rfl, ha, hp, hn, q⟩ := h
    refine ⟨_, (pss_cons (ps_set (i := 1) sc_l_posts.nd rfl (by first | exact Or.inl rfl | exact Or.inr rfl) (pe_call G_l_sizes (hr.mono (by decide)) rfl A.l_sizes.m A.l_sizes.kp A.l_sizes.b .nil pass0 (pa_cons (pv 0) pa_nil))) (pss_cons (ps_set (i := 2) sc_l_posts.nd rfl (by first | exact Or.inl rfl | exact Or.inr rfl) (pe_call G_l_depths (hr.mono (by decide)) rfl A.l_depths.m A.l_depths.kp A.l_depths.b .nil pass0 (pa_cons (pv 0) pa_nil))) (pss_one (ps_ret (pe_lc (own := [("k", 3)]) (g := gName 3) rfl sc_l_posts.nd (pi_range1 rfl A.n_range (pa_cons (pe_callB (r := fun xs H Q => ∃ x n, xs = [x] ∧ LenV K x H n ∧ Q (V.int n) H) call_len (by rfl) A.n_len PySem.boot_len (pa_cons (pv 0) pa_nil)) pa_nil)) (blkOk_by (own := [("k", 3)]) (N := ["parents", "sizes", "depths", "k"]) (sc := defScope s_l_posts) (by decide +kernel)) (fun _ _ _ _ _ => pg_name (i := 3) sc_l_posts.nd rfl (Or.inl rfl)) (fun _ _ _ _ _ => pts_nil) (fun _ _ _ _ _ => (pe_op op_sub (pe_op op_add (pe_op op_sub (pv 3) (pe_ix (r := rIxL K) ix_list (pv 2) (pv 3) (fun _ _ => rfl))) (pe_ix (r := rIxL K) ix_list (pv 1) (pv 3) (fun _ _ => rfl))) pe_int))))))), ?_⟩
    walk_at "vc"
    have big : (2000 : Nat) < sizeLine := by decide
    refine ⟨a, p, n, rfl, ha, hp, hn, fun F H1 hF s1 e1 => ?_⟩
    refine ⟨a, p, n, rfl, SqL.same ha s1, hp, hn, fun G H2 hG s2 e2 => ?_⟩
    refine ⟨_, .inl ⟨_, SqL.same ha (s1.trans s2), lm.symm⟩, by omega, by omega, fun D hD => ?_⟩
    have e1 : H2 F = some (.lst ((List.range n).map fun k => V.int (szM p n 0 k : Nat))) := s2 _ _ e1
    have e2 : H2 G = some (.lst ((List.range n).map fun k => V.int (dp p k : Nat))) := e2
    refine LcB.range (fun i H' => H' D = some (.lst ((List.range i).map fun k => .int (pst p n k : Nat))) ∧ Same H2 H') ?_ ?_ ?_
    · exact ⟨upd_same, Same.new hD⟩
    · rintro i H3 hi ⟨g1, g2⟩
      have hin : i < n := by omega
      walk_at "vc"
      refine ⟨_, SqL.of (g2 _ _ e2), _, by rw [Int.zero_add]; exact atI_nat (range_get hin), _, rfl, _, SqL.of (g2 _ _ e1), _, by rw [Int.zero_add]; exact atI_nat (range_get hin), _, rfl, _, g1, ?_, ?_, Same.mut g2 hD⟩
      · rw [lm]; omega
      · rw [upd_same, List.range_succ, List.map_append]
        have a := szM_done hp (m := 0) hin (by omega)
        have b := pst_eq (p := p) hin
        refine congrArg (fun z => some (HO.lst (((List.range i).map fun k => V.int (pst p n k : Nat)) ++ [V.int z]))) ?_
        show (0 + (i : Int)) - ((dp p i : Nat) : Int) + ((szM p n 0 i : Nat) : Int) - 1 = ((pst p n i : Nat) : Int)
        omega
    · rintro H3 ⟨g1, g2⟩
      rw [Int.toNat_natCast] at g1
      exact q D H3 (fresh_of (s1.trans s2) hD) ((s1.trans s2).trans g2) g1
/-- words and parents at a and b -/
def WP (K : PySem.W.Frag) (H : Hp) (a b : Addr) (p : Nat → Int) (n : Nat) (x : Nat → Str) : Prop := SqL K H a ((List.range n).map fun k => .str (x k)) ∧ SqL K H b ((List.range n).map fun k => .int (p k))
theorem WP.same {H H' : Hp} {a b : Addr} {p : Nat → Int} {n : Nat} {x : Nat → Str} (h : WP K H a b p n x) (s : Same H H') : WP K H' a b p n x := ⟨SqL.same h.1 s, SqL.same h.2 s⟩
/-- a def of words and parents -/
def sp_wp (K : PySem.W.Frag) (f : (Nat → Int) → Nat → (Nat → Str) → PyData) : Sp := fun vs H Q _ => ∃ (a b : Addr) (p : Nat → Int) (n : Nat) (x : Nat → Str), vs = [.ref a, .ref b] ∧ WP K H a b p n x ∧ Pre p n ∧ n ≤ 1000 ∧
  ∀ r H', Same H H' → Dp K H' r (f p n x) → Q r H'
theorem ok_l_behind (A : All K mg) : FnOk P w K mg base CX0 3 A.l_behind.f A.l_behind.fd ["words", "parents"] (sp_wp K fun p n x => .tuple ((List.range n).map fun k => .str (x (inv p n k)))) := by
  have G_l_posts := ok_l_posts (P := P) (w := w) (base := base) A
  refine A.l_behind.F.ok sc_l_behind (fun vs H Q E h => ?_) (fun cdv B outer s H vs Q E hr h => ?_)
  · obtain ⟨a, b, p, n, x, rfl, _⟩ := h
    rfl
  · obtain ⟨a, b, p, n, x, rfl, hw, hp, hn, q⟩ := h
    refine ⟨_, (pss_cons (ps_set (i := 2) sc_l_behind.nd rfl (by first | exact Or.inl rfl | exact Or.inr rfl) (pe_call G_l_posts (hr.mono (by decide)) rfl A.l_posts.m A.l_posts.kp A.l_posts.b .nil pass0 (pa_cons (pv 1) pa_nil))) (pss_cons (ps_setLc (i := 3) (own := [("word", 4)]) (g := gName 4) rfl sc_l_behind.nd rfl rfl (sw_true rfl rfl rfl (by decide +kernel)) (pi_list (pv 0)) (blkOk_by (own := [("word", 4)]) (N := ["words", "parents", "posts", "row", "word", "k"]) (sc := defScope s_l_behind) (by decide +kernel)) (fun _ _ _ _ _ => pg_name (i := 4) sc_l_behind.nd rfl (Or.inl rfl)) (fun _ _ _ _ _ => pts_nil) (fun _ _ _ _ _ => (pv 4))) (pss_cons (ps_for PassesOwn.never rfl (pi_range1 rfl A.n_range (pa_cons (pe_callB (r := fun xs H Q => ∃ x n, xs = [x] ∧ LenV K x H n ∧ Q (V.int n) H) call_len (by rfl) A.n_len PySem.boot_len (pa_cons (pv 0) pa_nil)) pa_nil)) (pg_name (i := 5) sc_l_behind.nd rfl (by first | exact Or.inl rfl | exact Or.inr rfl)) (pss_one (ps_asg (pe_ix (r := rIxL K) ix_list (pv 0) (pv 5) (fun _ _ => rfl)) (pg_sub (pv 3) (pe_ix (r := rIxL K) ix_list (pv 2) (pv 5) (fun _ _ => rfl)) set_list)))) (pss_one (ps_ret (pe_callTy call_tuple_of (by rfl) A.n_tuple (by decide +kernel) (pa_cons (pv 3) pa_nil))))))), ?_⟩
    walk_at "vc"
    have big : (2000 : Nat) < sizeLine := by decide
    refine ⟨b, p, n, rfl, hw.2, hp, hn, fun F H1 hF s1 e1 => ?_⟩
    have e1 : H1 F = some (.lst ((List.range n).map fun k => V.int (pst p n k : Nat))) := e1
    have ha := SqL.same hw.1 s1
    walk_at "vc"
    refine ⟨⟨_, ha⟩, fun D hD => ?_⟩
    refine LcB.list (xs := (List.range n).map fun k => V.str (x k)) (fun i H' => H' D = some (.lst ((List.range i).map fun k => .str (x k))) ∧ Same H1 H') ?_ ?_ ?_ ?_
    · exact ⟨upd_same, Same.new hD⟩
    · rintro i H2 _ ⟨_, g2⟩
      exact SqL.same ha g2
    · rintro i v H2 hi ⟨g1, g2⟩
      have hin : i < n := by
        have := (List.getElem?_eq_some_iff.mp hi).1
        rwa [lm] at this
      rw [range_get hin] at hi
      cases hi
      walk_at "vc"
      refine ⟨_, g1, by rw [lm]; omega, ?_, Same.mut g2 hD⟩
      rw [upd_same, List.range_succ, List.map_append]
      rfl
    · rintro H2 ⟨g1, g2⟩
      rw [lm] at g1
      refine ⟨_, .inl ⟨_, SqL.same ha g2, lm.symm⟩, by omega, by omega, ?_⟩
      refine ForB.range (fun i σ H' => ∃ (c : Option V) (f : Nat → Str), σ = [some (.ref a), some (.ref b), some (.ref F), some (.ref D), none, c] ∧ H' D = some (.lst ((List.range n).map fun k => .str (f k))) ∧ (∀ j, j < i → j < n → f (pst p n j) = x j) ∧ Same H1 H') ?_ ?_ ?_
      · exact ⟨_, x, rfl, g1, fun j h => by omega, g2⟩
      · rintro i σ H3 hi ⟨c, f, rfl, k1, k2, k3⟩
        have hin : i < n := by omega
        walk_at "vc"
        refine ⟨_, SqL.same ha k3, _, by rw [Int.zero_add]; exact atI_nat (range_get hin), _, SqL.of (k3 _ _ e1), _, by rw [Int.zero_add]; exact atI_nat (range_get hin), _, (pst p n i : Nat), rfl, k1, pst p n i, ?_, fun v => if v = pst p n i then x i else f v, ?_, ?_, ?_⟩
        · exact ixN_at (by rw [lm]; exact pst_lt hin)
        · rw [upd_same]
          congr 2
          refine set_map ?_ fun k hk ne => ?_
          · exact congrArg V.str (if_pos rfl)
          · exact congrArg V.str (if_neg ne)
        · intro j hj hjn
          rcases Nat.eq_or_lt_of_le (show j ≤ i by omega) with e | e
          · subst e
            exact if_pos rfl
          · show (if pst p n j = pst p n i then x i else f (pst p n j)) = x j
            rw [if_neg (pst_ne hp hin e)]
            exact k2 j e hjn
        · exact Same.mut k3 hD
      · rintro σ H3 ⟨c, f, rfl, k1, k2, k3⟩
        rw [Int.toNat_natCast] at k2
        walk_at "vc"
        refine ⟨_, .inl ⟨SqL.of k1, fun t ht => q _ _ ((s1.trans k3).trans (Same.new ht)) (.tup (SqT.of upd_same) ?_)⟩⟩
        have e : (List.range n).map (fun k => PyData.str (x (inv p n k))) = (List.range n).map fun k => PyData.str (f k) := by
          apply List.map_congr_left
          intro v hv
          have hv := List.mem_range.mp hv
          obtain ⟨k, hk, e⟩ := pst_onto hp hv
          rw [← e, inv_pst hp hk, k2 k hk hk]
        show DpAll K _ _ ((List.range n).map fun k => PyData.str (x (inv p n k)))
        rw [e]
        exact dpAll_map fun k => .str _
end
end Ly
namespace Ly
open PySem PySem.Spec PyProof.Rows L2
open GxR (TabG Tabbed)
local macro_rules | `(tactic| walk_at "vc") => `(tactic| simp only [tSeq, tAsg, tOp, tVar, tC, tRet, tRetN, tNext, tIfS, tIf, tDrop, tB, tTest, tNot, tAnd, tOr, tAndV, tOrV, tNotV, tChain, tUn, tCB, tCons, tNil, tTup, tLst, tSl, tPart, tNoPart, tCall, tBreak, tCont,
  rI, rI0, rU, gName, gNil_nil, gCons_cons, gSub, rSetL, L2.start, cx_K, cx_nox, tLc_eq, tFor_eq, iRng1, iRng2, iList, iTup, tM1, tYes, wipe, rIxS, rIxL, rIxT, rCat, rSlL, rEq, rNe, rPop, rAppend, tBM, tBM0, tMkO_eq, tVal_eq, tFldE_eq, tXfE_eq, tCallS, lenV_ref, iRevR, tRg1, RT.iRevA, RZ.iZipA, tDGet, sDPut, tDNewK, tAugS, ipI, tMaxD, tCallK0, rRep, rExtend, CDiv, CDivW, CPow, CMulX,
  List.map_cons, List.map_nil, List.cons_append, List.nil_append, List.append_nil, List.length_cons, List.length_nil, List.replicate, List.getElem?_cons_zero, List.getElem?_cons_succ, List.set_cons_zero, List.set_cons_succ, Nat.reduceSub, Nat.reduceAdd,
  Option.some.injEq, V.int.injEq, V.bl.injEq, V.str.injEq, V.ref.injEq, exists_eq_left', exists_eq_left, exists_and_left, reduceCtorEq, false_and, and_false, exists_false, or_false, false_or, Bool.false_eq_true, if_false, if_true, reduceIte, decide_eq_true_eq, List.cons.injEq, and_true, true_and])
section
variable {P : Program} {w : World} {K : PySem.W.Frag} {mg : Str → Option Value} {base : Heap} {T : Addr}
/-! ### rows of trees -/
def Dom (H H' : Hp) : Prop := ∀ a, H a ≠ none → H' a ≠ none
theorem Dom.same {H H' : Hp} (s : Same H H') : Dom H H' := fun a h => by
  cases e : H a with
  | none => exact absurd e h
  | some o => rw [s _ _ e]; simp
theorem Dom.upd {H H' : Hp} {a : Addr} {o : HO} (d : Dom H H') : Dom H (upd H' a o) := fun b h => by
  by_cases e : b = a
  · subst e; rw [upd_same]; simp
  · rw [upd_ne e]; exact d b h
theorem Dom.trans {H H1 H2 : Hp} (d : Dom H H1) (e : Dom H1 H2) : Dom H H2 := fun a h => e a (d a h)
theorem Dom.fresh {H H' : Hp} {a : Addr} (d : Dom H H') (h : H' a = none) : H a = none := by
  cases e : H a with
  | none => rfl
  | some o => exact absurd h (d a (by rw [e]; simp))
structure RowsF (H0 : Hp) (R : Addr) (rs : List Addr) : Prop where
  nd : rs.Nodup
  ne : R ∉ rs
  old : H0 R ≠ none
  olds : ∀ r ∈ rs, H0 r ≠ none
structure RowsAt (K : PySem.W.Frag) (H0 H : Hp) (R : Addr) (rs : List Addr) (n : Nat) (L : Nat → List PyData) : Prop where
  top : H R = some (.lst (rs.map V.ref))
  len : rs.length = n + 1
  row : ∀ (q : Nat) (r : Addr), rs[q]? = some r → ∃ vs, H r = some (.lst vs) ∧ NwAll K H0 H vs (L q)
theorem RowsAt.put {H0 H H2 : Hp} {R r : Addr} {rs : List Addr} {n q' : Nat} {L : Nat → List PyData} {vs : List V} {ds : List PyData} (F : RowsF H0 R rs) (h : RowsAt K H0 H R rs n L) (hq : rs[q']? = some r) (s : Same H H2) (hv : NwAll K H0 H2 vs ds) :
    RowsAt K H0 (upd H2 r (.lst vs)) R rs n (fun q => if q = q' then ds else L q) := by
  have rm := List.mem_of_getElem? hq
  have keep : ∀ a, H0 a = none → ∀ o, H2 a = some o → (upd H2 r (.lst vs)) a = some o := fun a ha o e => by
    have ne : a ≠ r := by rintro rfl; exact F.olds _ rm ha
    rw [upd_ne ne]
    exact e
  refine ⟨by rw [upd_ne (fun z => F.ne (by rw [z]; exact rm))]; exact s _ _ h.top, h.len, fun q r2 hr2 => ?_⟩
  by_cases e : q = q'
  · subst e
    rw [hq] at hr2
    cases hr2
    refine ⟨vs, upd_same, ?_⟩
    rw [if_pos rfl]
    exact NwAll.imp keep _ _ hv
  · obtain ⟨vs2, g1, g2⟩ := h.row q r2 hr2
    have hl := (List.getElem?_eq_some_iff.mp hr2)
    have hl' := (List.getElem?_eq_some_iff.mp hq)
    have ne : r2 ≠ r := fun z => e (by
      obtain ⟨a1, a2⟩ := hl
      obtain ⟨b1, b2⟩ := hl'
      rcases Nat.lt_trichotomy q q' with c | c | c
      · exact absurd (a2.trans (z.trans b2.symm)) (List.pairwise_iff_getElem.mp F.nd q q' a1 b1 c)
      · exact c
      · exact absurd (b2.trans (z.symm.trans a2.symm)) (List.pairwise_iff_getElem.mp F.nd q' q b1 a1 c))
    refine ⟨vs2, by rw [upd_ne ne]; exact s _ _ g1, ?_⟩
    rw [if_neg e]
    exact NwAll.imp (fun a ha o e => keep a ha o (s _ _ e)) _ _ g2
theorem RowsAt.cong {H0 H : Hp} {R : Addr} {rs : List Addr} {n : Nat} {L L' : Nat → List PyData} (h : RowsAt K H0 H R rs n L) (e : ∀ q, q ≤ n → L q = L' q) : RowsAt K H0 H R rs n L' :=
  ⟨h.top, h.len, fun q r hr => by
    have := (List.getElem?_eq_some_iff.mp hr).1
    have l := h.len
    rw [← e q (by omega)]
    exact h.row q r hr⟩
/-- which row stands for a parent -/
theorem par_row {rs : List Addr} {n : Nat} {y : Int} (hl : rs.length = n + 1) (h1 : -1 ≤ y) (h2 : y < (n : Int)) : ∃ (q : Nat) (r : Addr), atI (rs.map V.ref) y = some (.ref r) ∧ rs[q]? = some r ∧ ((y = -1 ∧ q = n) ∨ (y = (q : Int) ∧ q < n)) := by
  rcases Int.lt_or_le y 0 with c | c
  · have e : y = -1 := by omega
    subst e
    have hr : rs[n]? = some rs[n] := List.getElem?_eq_getElem (by omega)
    refine ⟨n, rs[n], ?_, hr, .inl ⟨rfl, rfl⟩⟩
    unfold atI ixN
    rw [if_neg (by omega), List.length_map, if_pos (by omega), show (-1 + ((rs.length : Nat) : Int)).toNat = n by omega]
    show (rs.map V.ref)[n]? = _
    rw [List.getElem?_map, hr]
    rfl
  · obtain ⟨q, rfl⟩ : ∃ q : Nat, y = (q : Int) := ⟨y.toNat, by omega⟩
    have hr : rs[q]? = some (rs[q]'(by omega)) := List.getElem?_eq_getElem (by omega)
    exact ⟨q, _, atI_nat (by rw [List.getElem?_map, hr]; rfl), hr, .inr ⟨rfl, by omega⟩⟩
/-- rows = [[] for k in range(n + 1)] -/
theorem rows_lc {n j : Nat} {D : Addr} {σ : L2.St} {H1 : Hp} {Q : VK} (hD : H1 D = none) (hm : n ≤ 1000) (hw : ∀ x, wipe ((wipe σ [j]).set j x) [j] = wipe σ [j])
    (q : ∀ rs H', Same H1 H' → RowsF H' D rs → RowsAt K H' H' D rs n (fun _ => []) → (∀ r ∈ rs, H1 r = none) → Q (.ref D) H') :
    LcB (Itr 0 (n + 1)) D (gName j) tYes (tLst tNil) [j] σ H1 Q := by
  have big : (2000 : Nat) < sizeLine := by decide
  refine LcB.range (fun i H' => ∃ rs : List Addr, H' D = some (.lst (rs.map V.ref)) ∧ rs.length = i ∧ rs.Nodup ∧ D ∉ rs ∧ (∀ r ∈ rs, H1 r = none ∧ H' r = some (.lst [])) ∧ Same H1 H') ?_ ?_ ?_
  · exact ⟨[], upd_same, rfl, List.nodup_nil, by simp, by simp, Same.new hD⟩
  · rintro i H2 hi ⟨rs, g1, g2, g3, g4, g5, g6⟩
    refine ⟨hw _, by decide, fun r hr => ?_⟩
    have rD : D ≠ r := none_ne g1 hr
    have rn : r ∉ rs := fun z => by rw [(g5 r z).2] at hr; cases hr
    refine ⟨rs.map V.ref, by rw [upd_ne rD]; exact g1, by rw [List.length_map]; omega, rs ++ [r], ?_, by rw [List.length_append, g2]; rfl, ?_, ?_, ?_, Same.mut (g6.trans (Same.new hr)) hD⟩
    · rw [upd_same, List.map_append]
      rfl
    · refine List.nodup_append.mpr ⟨g3, by simp, fun a ha b hb e => ?_⟩
      have : b = r := by simpa using hb
      subst this
      exact rn (e ▸ ha)
    · intro z
      rcases List.mem_append.mp z with z | z
      · exact g4 z
      · exact rD (by simpa using z)
    · intro a ha
      rcases List.mem_append.mp ha with z | z
      · have ne : a ≠ D := fun e => g4 (e ▸ z)
        have ne2 : a ≠ r := fun e => rn (e ▸ z)
        exact ⟨(g5 a z).1, by rw [upd_ne ne, upd_ne ne2]; exact (g5 a z).2⟩
      · have : a = r := by simpa using z
        subst this
        exact ⟨fresh_of g6 hr, by rw [upd_ne (Ne.symm rD)]; exact upd_same⟩
  · rintro H2 ⟨rs, g1, g2, g3, g4, g5, g6⟩
    refine q rs H2 g6 ⟨g3, g4, by rw [g1]; simp, fun r hr => by rw [(g5 r hr).2]; simp⟩ ⟨g1, by omega, fun q r hr => ⟨[], (g5 r (List.mem_of_getElem? hr)).2, .nil⟩⟩ fun r hr => (g5 r hr).1
def ix (n q : Nat) : Int := if q = n then -1 else (q : Int)
def LR (r : List Nat → List Nat) (p : Nat → Int) (n : Nat) (x : Nat → Str) (m q : Nat) : List PyData := (r (kf p n m (ix n q))).map (trR r p n x)
theorem NwAll.app {H0 H : Hp} : ∀ {xs ys : List V} {ds es : List PyData}, NwAll K H0 H xs ds → NwAll K H0 H ys es → NwAll K H0 H (xs ++ ys) (ds ++ es)
  | _, _, _, _, .nil, h => h
  | _, _, _, _, .cons a b, h => .cons a (NwAll.app b h)
theorem ok_l_forest (A : All K mg) : FnOk P w K mg base CX0 1 A.l_forest.f A.l_forest.fd ["words", "parents"] (sp_wp K foD) := by
  refine A.l_forest.F.ok sc_l_forest (fun vs H Q E h => ?_) (fun cdv B outer s H vs Q E hr h => ?_)
  · obtain ⟨a, b, p, n, x, rfl, _⟩ := h
    rfl
  · obtain ⟨a, b, p, n, x, rfl, hw, hp, hn, q⟩ := h
    refine ⟨_, (pss_cons (ps_setLc (i := 2) (own := [("k", 3)]) (g := gName 3) rfl sc_l_forest.nd rfl rfl (sw_true rfl rfl rfl (by decide +kernel)) (pi_range1 rfl A.n_range (pa_cons (pe_op op_add (pe_callB (r := fun xs H Q => ∃ x n, xs = [x] ∧ LenV K x H n ∧ Q (V.int n) H) call_len (by rfl) A.n_len PySem.boot_len (pa_cons (pv 0) pa_nil)) pe_int) pa_nil)) (blkOk_by (own := [("k", 3)]) (N := ["words", "parents", "rows", "k", "row"]) (sc := defScope s_l_forest) (by decide +kernel)) (fun _ _ _ _ _ => pg_name (i := 3) sc_l_forest.nd rfl (Or.inl rfl)) (fun _ _ _ _ _ => pts_nil) (fun _ _ _ _ _ => (pe_lst pa_nil))) (pss_cons (ps_for PassesOwn.never rfl (pi_revR rfl A.n_reversed (prg_1 rfl A.n_range (pe_callB (r := fun xs H Q => ∃ x n, xs = [x] ∧ LenV K x H n ∧ Q (V.int n) H) call_len (by rfl) A.n_len PySem.boot_len (pa_cons (pv 0) pa_nil)))) (pg_name (i := 3) sc_l_forest.nd rfl (by first | exact Or.inl rfl | exact Or.inr rfl)) (pss_cons (ps_set (i := 4) sc_l_forest.nd rfl (by first | exact Or.inl rfl | exact Or.inr rfl) (pe_ix (r := rIxL K) ix_list (pv 2) (pe_ix (r := rIxL K) ix_list (pv 1) (pv 3) (fun _ _ => rfl)) (fun _ _ => rfl))) (pss_one (ps_expr (pe_bm PySem.F.plainAttrs_list PySem.F.slot_list_insert PySem.F.type_list_insert mt_insert (pv 4) (pa_cons pe_int (pa_cons (pe_tup (pa_cons (pe_ix (r := rIxL K) ix_list (pv 0) (pv 3) (fun _ _ => rfl)) (pa_cons (pe_callTy call_tuple_of (by rfl) A.n_tuple (by decide +kernel) (pa_cons (pe_ix (r := rIxL K) ix_list (pv 2) (pv 3) (fun _ _ => rfl)) pa_nil)) pa_nil))) pa_nil))))))) (pss_one (ps_ret (pe_callTy call_tuple_of (by rfl) A.n_tuple (by decide +kernel) (pa_cons (pe_ix (r := rIxL K) ix_list (pv 2) (pe_callB (r := fun xs H Q => ∃ x n, xs = [x] ∧ LenV K x H n ∧ Q (V.int n) H) call_len (by rfl) A.n_len PySem.boot_len (pa_cons (pv 0) pa_nil)) (fun _ _ => rfl)) pa_nil)))))), ?_⟩
    walk_at "vc"
    have big : (2000 : Nat) < sizeLine := by decide
    refine ⟨_, .inl ⟨_, hw.1, lm.symm⟩, by omega, by omega, fun D hD => ?_⟩
    rw [show ((n : Int) + 1).toNat = n + 1 by omega]
    refine rows_lc (K := K) hD hn (fun _ => rfl) fun rs H0 s0 F R0 fr => ?_
    have hw0 := hw.same s0
    have hDr : ∀ r ∈ rs, H r = none := fr
    refine ⟨_, .inl ⟨_, hw0.1, lm.symm⟩, by decide, by decide, by omega, by omega, ?_⟩
    refine ForB.rng (fun i σ H' => ∃ s3 s4, σ = [some (.ref a), some (.ref b), some (.ref D), s3, s4] ∧ RowsAt K H0 H' D rs n (LR id p n x (n - i)) ∧ Dom H0 H' ∧ Same H H') ?_ ?_ ?_
    · refine ⟨_, _, rfl, R0.cong fun q hq => ?_, Dom.same (fun _ _ h => h), s0⟩
      show [] = (kf p n (n - 0) (ix n q)).map _
      rw [Nat.sub_zero, kf_end]
      rfl
    · rintro i σ H1 hi ⟨s3, s4, rfl, g1, g2, g3⟩
      have hi' : i < n := by omega
      walk_at "vc"
      have e0 : (0 : Int) + ((((n : Nat) : Int) - 0).toNat : Nat) - 1 + (i : Nat) * (-1) = ((n - (i + 1) : Nat) : Int) := by omega
      rw [e0]
      have hj : n - (i + 1) < n := by omega
      have ej : n - (i + 1) + 1 = n - i := by omega
      have hlo := hp.lo _ hj
      have hhi := hp.hi _ hj
      rw [← ej] at g1
      generalize n - (i + 1) = j at hj ej hlo hhi g1
      obtain ⟨q', r, hr1, hr2, hr3⟩ := par_row g1.len hlo (show p j < (n : Int) by omega)
      obtain ⟨vs, v1, v2⟩ := g1.row q' r hr2
      have hjr : rs[j]? = some (rs[j]'(by have := g1.len; omega)) := List.getElem?_eq_getElem _
      obtain ⟨ks, k1, k2⟩ := g1.row j _ hjr
      have hw1 := hw.same g3
      have lv : vs.length ≤ n := by
        rw [DpAll.len (NwAll.dp _ _ v2)]
        show ((kf p n (j + 1) (ix n q')).map _).length ≤ n
        rw [List.length_map]
        exact kf_len
      refine ⟨_, hw1.2, _, atI_nat (range_get hj), _, p j, rfl, SqL.of g1.top, _, hr1, .inl ⟨rfl, _, SqL.of v1⟩, _, hw1.1, _, atI_nat (range_get hj), _, SqL.of g1.top, _, atI_nat (by rw [List.getElem?_map, hjr]; rfl), _, rfl, _, .inl ⟨SqL.of k1, fun t1 h1 => ⟨by decide, fun t2 h2 => ?_⟩⟩⟩
      have s1 : Same H1 (upd (upd H1 t1 (.tup ks)) t2 (.tup [.str (x j), .ref t1])) := (Same.new h1).trans (Same.new h2)
      have ot1 : H0 t1 = none := g2.fresh h1
      have ot2 : H0 t2 = none := g2.fresh (fresh_of (Same.new h1) h2)
      have n12 : t1 ≠ t2 := none_ne upd_same h2
      have imp : ∀ a, H0 a = none → ∀ o, H1 a = some o → (upd (upd H1 t1 (.tup ks)) t2 (.tup [.str (x j), .ref t1])) a = some o := fun a _ o e => s1 _ _ e
      have ek : LR id p n x (j + 1) j = (kids p n j).map (tr p n x) := by
        show (kf p n (j + 1) (ix n j)).map (tr p n x) = _
        unfold ix
        rw [if_neg (by omega)]
        show _ = (kf p n 0 j).map (tr p n x)
        rw [kf_below (m := 0) hp hj (by omega)]
      have nt : Nw K H0 (upd (upd H1 t1 (.tup ks)) t2 (.tup [.str (x j), .ref t1])) (.ref t2) (tr p n x j) := by
        rw [tr, trR_eq turns_id hp hj]
        rw [ek] at k2
        exact .tup ot2 upd_same (.cons (.str _) (.cons (.tup ot1 (by rw [upd_ne n12]; exact upd_same) (NwAll.imp imp _ _ k2)) .nil))
      refine ⟨r, rfl, vs, 0, _, ⟨rfl, rfl⟩, s1 _ _ v1, by omega, by decide, by decide, _, _, ⟨rfl, rfl⟩, ?_, ?_, ?_⟩
      · refine (RowsAt.put F g1 hr2 s1 (vs := .ref t2 :: vs) (.cons nt (NwAll.imp imp _ _ v2))).cong fun q hq => ?_
        have hx : ix n q = p j ↔ q = q' := by unfold ix; split <;> omega
        show (if q = q' then _ else LR id p n x (j + 1) q) = (kf p n j (ix n q)).map (tr p n x)
        by_cases e : q = q'
        · rw [if_pos e, kf_yes hj (hx.mpr e).symm, e]
          rfl
        · rw [if_neg e, kf_no hj (fun z => e (hx.mp z.symm))]
          rfl
      · exact ((g2.trans (Dom.same s1)).upd)
      · exact Same.mut (g3.trans s1) (hDr r (List.mem_of_getElem? hr2))
    · rintro σ H1 ⟨s3, s4, rfl, g1, g2, g3⟩
      rw [show n - ((n : Int) - 0).toNat = 0 by omega] at g1
      have hnr : rs[n]? = some (rs[n]'(by have := g1.len; omega)) := List.getElem?_eq_getElem _
      obtain ⟨ks, k1, k2⟩ := g1.row n _ hnr
      walk_at "vc"
      refine ⟨n, .inl ⟨_, (hw.same g3).1, lm.symm⟩, _, SqL.of g1.top, _, atI_nat (by rw [List.getElem?_map, hnr]; rfl), _, rfl, _, .inl ⟨SqL.of k1, fun t ht => q _ _ (g3.trans (Same.new ht)) (.tup (SqT.of upd_same) ?_)⟩⟩
      have e : LR id p n x 0 n = (kids p n (-1)).map (tr p n x) := by
        show (kf p n 0 (ix n n)).map (tr p n x) = _
        unfold ix
        rw [if_pos rfl]
      rw [← e]
      exact DpAll.same (Same.new ht) _ _ (NwAll.dp _ _ k2)
theorem ok_l_mirrored (A : All K mg) : FnOk P w K mg base CX0 1 A.l_mirrored.f A.l_mirrored.fd ["words", "parents"] (sp_wp K miD) := by
  refine A.l_mirrored.F.ok sc_l_mirrored (fun vs H Q E h => ?_) (fun cdv B outer s H vs Q E hr h => ?_)
  · obtain ⟨a, b, p, n, x, rfl, _⟩ := h
    rfl
  · obtain ⟨a, b, p, n, x, rfl, hw, hp, hn, q⟩ := h
    refine ⟨_, (pss_cons (ps_setLc (i := 2) (own := [("k", 3)]) (g := gName 3) rfl sc_l_mirrored.nd rfl rfl (sw_true rfl rfl rfl (by decide +kernel)) (pi_range1 rfl A.n_range (pa_cons (pe_op op_add (pe_callB (r := fun xs H Q => ∃ x n, xs = [x] ∧ LenV K x H n ∧ Q (V.int n) H) call_len (by rfl) A.n_len PySem.boot_len (pa_cons (pv 0) pa_nil)) pe_int) pa_nil)) (blkOk_by (own := [("k", 3)]) (N := ["words", "parents", "rows", "k", "row"]) (sc := defScope s_l_mirrored) (by decide +kernel)) (fun _ _ _ _ _ => pg_name (i := 3) sc_l_mirrored.nd rfl (Or.inl rfl)) (fun _ _ _ _ _ => pts_nil) (fun _ _ _ _ _ => (pe_lst pa_nil))) (pss_cons (ps_for PassesOwn.never rfl (pi_revR rfl A.n_reversed (prg_1 rfl A.n_range (pe_callB (r := fun xs H Q => ∃ x n, xs = [x] ∧ LenV K x H n ∧ Q (V.int n) H) call_len (by rfl) A.n_len PySem.boot_len (pa_cons (pv 0) pa_nil)))) (pg_name (i := 3) sc_l_mirrored.nd rfl (by first | exact Or.inl rfl | exact Or.inr rfl)) (pss_cons (ps_set (i := 4) sc_l_mirrored.nd rfl (by first | exact Or.inl rfl | exact Or.inr rfl) (pe_ix (r := rIxL K) ix_list (pv 2) (pe_ix (r := rIxL K) ix_list (pv 1) (pv 3) (fun _ _ => rfl)) (fun _ _ => rfl))) (pss_one (ps_expr (pe_bm PySem.F.plainAttrs_list PySem.F.slot_list_append PySem.F.type_list_append mt_append (pv 4) (pa_cons (pe_tup (pa_cons (pe_ix (r := rIxL K) ix_list (pv 0) (pv 3) (fun _ _ => rfl)) (pa_cons (pe_callTy call_tuple_of (by rfl) A.n_tuple (by decide +kernel) (pa_cons (pe_ix (r := rIxL K) ix_list (pv 2) (pv 3) (fun _ _ => rfl)) pa_nil)) pa_nil))) pa_nil)))))) (pss_one (ps_ret (pe_callTy call_tuple_of (by rfl) A.n_tuple (by decide +kernel) (pa_cons (pe_ix (r := rIxL K) ix_list (pv 2) (pe_callB (r := fun xs H Q => ∃ x n, xs = [x] ∧ LenV K x H n ∧ Q (V.int n) H) call_len (by rfl) A.n_len PySem.boot_len (pa_cons (pv 0) pa_nil)) (fun _ _ => rfl)) pa_nil)))))), ?_⟩
    walk_at "vc"
    have big : (2000 : Nat) < sizeLine := by decide
    refine ⟨_, .inl ⟨_, hw.1, lm.symm⟩, by omega, by omega, fun D hD => ?_⟩
    rw [show ((n : Int) + 1).toNat = n + 1 by omega]
    refine rows_lc (K := K) hD hn (fun _ => rfl) fun rs H0 s0 F R0 fr => ?_
    have hw0 := hw.same s0
    have hDr : ∀ r ∈ rs, H r = none := fr
    refine ⟨_, .inl ⟨_, hw0.1, lm.symm⟩, by decide, by decide, by omega, by omega, ?_⟩
    refine ForB.rng (fun i σ H' => ∃ s3 s4, σ = [some (.ref a), some (.ref b), some (.ref D), s3, s4] ∧ RowsAt K H0 H' D rs n (LR List.reverse p n x (n - i)) ∧ Dom H0 H' ∧ Same H H') ?_ ?_ ?_
    · refine ⟨_, _, rfl, R0.cong fun q hq => ?_, Dom.same (fun _ _ h => h), s0⟩
      show [] = (kf p n (n - 0) (ix n q)).reverse.map _
      rw [Nat.sub_zero, kf_end]
      rfl
    · rintro i σ H1 hi ⟨s3, s4, rfl, g1, g2, g3⟩
      have hi' : i < n := by omega
      walk_at "vc"
      have e0 : (0 : Int) + ((((n : Nat) : Int) - 0).toNat : Nat) - 1 + (i : Nat) * (-1) = ((n - (i + 1) : Nat) : Int) := by omega
      rw [e0]
      have hj : n - (i + 1) < n := by omega
      have ej : n - (i + 1) + 1 = n - i := by omega
      have hlo := hp.lo _ hj
      have hhi := hp.hi _ hj
      rw [← ej] at g1
      generalize n - (i + 1) = j at hj ej hlo hhi g1
      obtain ⟨q', r, hr1, hr2, hr3⟩ := par_row g1.len hlo (show p j < (n : Int) by omega)
      obtain ⟨vs, v1, v2⟩ := g1.row q' r hr2
      have hjr : rs[j]? = some (rs[j]'(by have := g1.len; omega)) := List.getElem?_eq_getElem _
      obtain ⟨ks, k1, k2⟩ := g1.row j _ hjr
      have hw1 := hw.same g3
      have lv : vs.length ≤ n := by
        rw [DpAll.len (NwAll.dp _ _ v2)]
        show ((kf p n (j + 1) (ix n q')).reverse.map _).length ≤ n
        rw [List.length_map, List.length_reverse]
        exact kf_len
      refine ⟨_, hw1.2, _, atI_nat (range_get hj), _, p j, rfl, SqL.of g1.top, _, hr1, .inl ⟨rfl, _, SqL.of v1⟩, _, hw1.1, _, atI_nat (range_get hj), _, SqL.of g1.top, _, atI_nat (by rw [List.getElem?_map, hjr]; rfl), _, rfl, _, .inl ⟨SqL.of k1, fun t1 h1 => ⟨by decide, fun t2 h2 => ?_⟩⟩⟩
      have s1 : Same H1 (upd (upd H1 t1 (.tup ks)) t2 (.tup [.str (x j), .ref t1])) := (Same.new h1).trans (Same.new h2)
      have ot1 : H0 t1 = none := g2.fresh h1
      have ot2 : H0 t2 = none := g2.fresh (fresh_of (Same.new h1) h2)
      have n12 : t1 ≠ t2 := none_ne upd_same h2
      have imp : ∀ a, H0 a = none → ∀ o, H1 a = some o → (upd (upd H1 t1 (.tup ks)) t2 (.tup [.str (x j), .ref t1])) a = some o := fun a _ o e => s1 _ _ e
      have ek : LR List.reverse p n x (j + 1) j = (kids p n j).reverse.map (mi p n x) := by
        show (kf p n (j + 1) (ix n j)).reverse.map (mi p n x) = _
        unfold ix
        rw [if_neg (by omega)]
        show _ = (kf p n 0 j).reverse.map (mi p n x)
        rw [kf_below (m := 0) hp hj (by omega)]
      have nt : Nw K H0 (upd (upd H1 t1 (.tup ks)) t2 (.tup [.str (x j), .ref t1])) (.ref t2) (mi p n x j) := by
        rw [mi, trR_eq turns_rev hp hj]
        rw [ek] at k2
        exact .tup ot2 upd_same (.cons (.str _) (.cons (.tup ot1 (by rw [upd_ne n12]; exact upd_same) (NwAll.imp imp _ _ k2)) .nil))
      refine ⟨r, rfl, vs, s1 _ _ v1, by omega, _, _, ⟨rfl, rfl⟩, ?_, ?_, ?_⟩
      · refine (RowsAt.put F g1 hr2 s1 (vs := vs ++ [.ref t2]) (NwAll.app (NwAll.imp imp _ _ v2) (.cons nt .nil))).cong fun q hq => ?_
        have hx : ix n q = p j ↔ q = q' := by unfold ix; split <;> omega
        show (if q = q' then _ else LR List.reverse p n x (j + 1) q) = (kf p n j (ix n q)).reverse.map (mi p n x)
        by_cases e : q = q'
        · rw [if_pos e, kf_yes hj (hx.mpr e).symm, e, List.reverse_cons, List.map_append]
          rfl
        · rw [if_neg e, kf_no hj (fun z => e (hx.mp z.symm))]
          rfl
      · exact ((g2.trans (Dom.same s1)).upd)
      · exact Same.mut (g3.trans s1) (hDr r (List.mem_of_getElem? hr2))
    · rintro σ H1 ⟨s3, s4, rfl, g1, g2, g3⟩
      rw [show n - ((n : Int) - 0).toNat = 0 by omega] at g1
      have hnr : rs[n]? = some (rs[n]'(by have := g1.len; omega)) := List.getElem?_eq_getElem _
      obtain ⟨ks, k1, k2⟩ := g1.row n _ hnr
      walk_at "vc"
      refine ⟨n, .inl ⟨_, (hw.same g3).1, lm.symm⟩, _, SqL.of g1.top, _, atI_nat (by rw [List.getElem?_map, hnr]; rfl), _, rfl, _, .inl ⟨SqL.of k1, fun t ht => q _ _ (g3.trans (Same.new ht)) (.tup (SqT.of upd_same) ?_)⟩⟩
      have e : LR List.reverse p n x 0 n = (kids p n (-1)).reverse.map (mi p n x) := by
        show (kf p n 0 (ix n n)).reverse.map (mi p n x) = _
        unfold ix
        rw [if_pos rfl]
      rw [← e]
      exact DpAll.same (Same.new ht) _ _ (NwAll.dp _ _ k2)
end
end Ly
namespace Ly
open PySem PySem.Spec PyProof.Rows L2
open GxR (TabG Tabbed)
local macro_rules | `(tactic| walk_at "vc") => `(tactic| simp only [tSeq, tAsg, tOp, tVar, tC, tRet, tRetN, tNext, tIfS, tIf, tDrop, tB, tTest, tNot, tAnd, tOr, tAndV, tOrV, tNotV, tChain, tUn, tCB, tCons, tNil, tTup, tLst, tSl, tPart, tNoPart, tCall, tBreak, tCont,
  rI, rI0, rU, gName, gNil_nil, gCons_cons, gSub, rSetL, L2.start, cx_K, cx_nox, tLc_eq, tFor_eq, iRng1, iRng2, iList, iTup, tM1, tYes, wipe, rIxS, rIxL, rIxT, rCat, rSlL, rEq, rNe, rPop, rAppend, tBM, tBM0, tMkO_eq, tVal_eq, tFldE_eq, tXfE_eq, tCallS, lenV_ref, iRevR, tRg1, RT.iRevA, RZ.iZipA, tDGet, sDPut, tDNewK, tAugS, ipI, tMaxD, tCallK0, rRep, rExtend, CDiv, CDivW, CPow, CMulX,
  List.map_cons, List.map_nil, List.cons_append, List.nil_append, List.append_nil, List.length_cons, List.length_nil, List.replicate, List.getElem?_cons_zero, List.getElem?_cons_succ, List.set_cons_zero, List.set_cons_succ, Nat.reduceSub, Nat.reduceAdd,
  Option.some.injEq, V.int.injEq, V.bl.injEq, V.str.injEq, V.ref.injEq, exists_eq_left', exists_eq_left, exists_and_left, reduceCtorEq, false_and, and_false, exists_false, or_false, false_or, Bool.false_eq_true, if_false, if_true, reduceIte, decide_eq_true_eq, List.cons.injEq, and_true, true_and])
section
variable {P : Program} {w : World} {K : PySem.W.Frag} {mg : Str → Option Value} {base : Heap} {T : Addr}
theorem Shp.up : ∀ {n : Nat} {d : PyData}, Shp n d → Shp (n + 1) d
  | 0, _, h => h.elim
  | n + 1, .none, _ => trivial
  | n + 1, .bool _, _ => trivial
  | n + 1, .int _, _ => trivial
  | n + 1, .str _, _ => trivial
  | n + 1, .list ds, h => ⟨h.1, fun d hd => (h.2 d hd).up⟩
  | n + 1, .tuple ds, h => ⟨h.1, fun d hd => (h.2 d hd).up⟩
  | n + 1, .dict _, h => h.elim
theorem Shp.mono {n m : Nat} {d : PyData} (h : Shp n d) (l : n ≤ m) : Shp m d := by
  induction l with
  | refl => exact h
  | step _ ih => exact ih.up
/-- a value that is no object -/
structure Sc (K : PySem.W.Frag) (v : V) (d : PyData) : Prop where
  nw : ∀ H0 H1, Nw K H0 H1 v d
  sh : Shp 1 d
theorem Sc.int (i : Int) : Sc K (.int i) (.int i) := ⟨fun _ _ => .int i, trivial⟩
theorem Sc.str (x : Str) : Sc K (.str x) (.str x) := ⟨fun _ _ => .str x, trivial⟩
theorem Sc.non : Sc K .non .none := ⟨fun _ _ => .non, trivial⟩
theorem Sc.bl (b : Bool) : Sc K (.bl b) (.bool b) := ⟨fun _ _ => .bl b, trivial⟩
theorem box_ne {H : Hp} {p a : Addr} {n : Nat} (b : BoxAt H p n) (ha : H a = none) : p ≠ a := fun z => by
  obtain ⟨_, _, _, e, _⟩ := b
  rw [z, ha] at e
  cases e
theorem BoxAt.dom {H : Hp} {p : Addr} {n : Nat} (b : BoxAt H p n) : H p ≠ none := by
  obtain ⟨_, _, _, e, _⟩ := b
  rw [e]
  simp
theorem BoxAt.new {H : Hp} {p a : Addr} {n : Nat} {o : HO} (b : BoxAt H p n) (ha : H a = none) : BoxAt (upd H a o) p n := by
  have ne := box_ne b ha
  obtain ⟨x, c, z, e, v⟩ := b
  exact ⟨x, c, z, by rw [upd_ne ne]; exact e, v⟩
theorem Dom.of_step {p : Addr} {H H' : Hp} (s : Step p H H') : Dom H H' := fun a h => s.dom a h
theorem Dom.tr {p : Addr} {H H1 H2 : Hp} (d : Dom H H1) (s : Step p H1 H2) : Dom H H2 := d.trans (Dom.of_step s)
theorem mkT {H0 Hc : Hp} {p a : Addr} {n : Nat} {xs : List V} {ds : List PyData} (h0 : H0 p ≠ none) (s : Dom H0 Hc) (b : BoxAt Hc p n) (al : NwAll K H0 Hc xs ds) (ha : Hc a = none) :
    Step p Hc (upd Hc a (.tup xs)) ∧ BoxAt (upd Hc a (.tup xs)) p n ∧ Nw K H0 (upd Hc a (.tup xs)) (.ref a) (.tuple ds) :=
  ⟨Step.new ha, b.new ha, .tup (s.fresh ha) upd_same (al.step (Step.new ha) h0)⟩
theorem mkL {H0 Hc : Hp} {p a : Addr} {n : Nat} {xs : List V} {ds : List PyData} (h0 : H0 p ≠ none) (s : Dom H0 Hc) (b : BoxAt Hc p n) (al : NwAll K H0 Hc xs ds) (ha : Hc a = none) :
    Step p Hc (upd Hc a (.lst xs)) ∧ BoxAt (upd Hc a (.lst xs)) p n ∧ Nw K H0 (upd Hc a (.lst xs)) (.ref a) (.list ds) :=
  ⟨Step.new ha, b.new ha, .lst (s.fresh ha) upd_same (al.step (Step.new ha) h0)⟩
theorem word_go {H : Hp} {p : Addr} {n : Nat} {Q : VK} {E : XK} (hb : BoxAt H p n) (hn : n ≤ 900000000) (q : ∀ x H', IsW x → Step p H H' → BoxAt H' p (n + 10) → Q (.str x) H') : sp_word [.ref p] H Q E := ⟨p, n, rfl, hb, hn, q⟩
theorem Nw.atT {H0 H : Hp} {v : V} {ds : List PyData} (h : Nw K H0 H v (.tuple ds)) : ∃ a xs, v = .ref a ∧ H a = some (.tup xs) ∧ NwAll K H0 H xs ds := by
  cases h with
  | tup _ e h => exact ⟨_, _, rfl, e, h⟩
theorem Nw.atL {H0 H : Hp} {v : V} {ds : List PyData} (h : Nw K H0 H v (.list ds)) : ∃ a xs, v = .ref a ∧ H a = some (.lst xs) ∧ NwAll K H0 H xs ds := by
  cases h with
  | lst _ e h => exact ⟨_, _, rfl, e, h⟩
theorem ix0_go {H0 H : Hp} {v : V} {d : PyData} {ds : List PyData} {Q : VK} (h : Nw K H0 H v (.tuple (d :: ds))) (q : ∀ u, Nw K H0 H u d → Q u H) : rIx K v (.int 0) H Q := by
  obtain ⟨a, xs, rfl, e, h⟩ := Nw.atT h
  cases h with
  | cons h1 _ => exact rIx_t (i := ((0 : Nat) : Int)) (SqT.of e) (atI_nat rfl) (q _ h1)
theorem NwAll.len {H0 H : Hp} : ∀ {xs : List V} {ds : List PyData}, NwAll K H0 H xs ds → xs.length = ds.length
  | _, _, .nil => rfl
  | _, _, .cons _ t => by simp [NwAll.len t]
theorem NwAll.get {H0 H : Hp} : ∀ {xs : List V} {ds : List PyData} {i : Nat}, NwAll K H0 H xs ds → i < ds.length → ∃ v d, xs[i]? = some v ∧ ds[i]? = some d ∧ Nw K H0 H v d
  | _, _, i, .nil, h => by simp at h
  | _, _, 0, .cons a _, _ => ⟨_, _, rfl, rfl, a⟩
  | _, _, i + 1, .cons _ t, h => by
    obtain ⟨v, d, h1, h2, h3⟩ := NwAll.get (i := i) t (by simpa using h)
    exact ⟨v, d, by simpa using h1, by simpa using h2, h3⟩
/-! ### drawn forests -/
theorem draw_go' {H : Hp} {p : Addr} {m : Int} {n : Nat} {Q : VK} {E : XK} (hb : BoxAt H p n) (m0 : 0 < m) (m1 : m < 2 ^ 40) (hn : n ≤ 1000000000) (q : ∀ (d : Nat) H', (d : Int) < m → Step p H H' → BoxAt H' p (n + 1) → Q (.int (d : Int)) H') : sp_draw [.ref p, .int m] H Q E :=
  draw_go hb m0 m1 hn fun d H' d0 d1 s b => by
    obtain ⟨e, rfl⟩ : ∃ e : Nat, d = (e : Int) := ⟨d.toNat, by omega⟩
    exact q e H' d1 s b
/-- words and parents as lists of the heap -/
def WL (H : Hp) (a c : Addr) (p : Nat → Int) (n : Nat) (x : Nat → Str) : Prop := H a = some (.lst ((List.range n).map fun k => .str (x k))) ∧ H c = some (.lst ((List.range n).map fun k => .int (p k)))
theorem WL.wp {H : Hp} {a c : Addr} {p : Nat → Int} {n : Nat} {x : Nat → Str} (h : WL H a c p n x) : WP K H a c p n x := ⟨SqL.of h.1, SqL.of h.2⟩
theorem WL.same {H H' : Hp} {a c : Addr} {p : Nat → Int} {n : Nat} {x : Nat → Str} (h : WL H a c p n x) (s : Same H H') : WL H' a c p n x := ⟨s _ _ h.1, s _ _ h.2⟩
def sp_drawn (K : PySem.W.Frag) : Sp := fun vs H Q _ => ∃ (b : Addr) (m : Nat), vs = [.ref b] ∧ BoxAt H b m ∧ m ≤ 800000000 ∧
  ∀ t a c p n x H', Good p n x → n ≤ 12 → H t = none → H a = none → H c = none → H' t = some (.tup [.ref a, .ref c]) → WL H' a c p n x → Step b H H' → BoxAt H' b (m + 200) → Q (.ref t) H'
theorem drawn_go {H : Hp} {b : Addr} {m : Nat} {Q : VK} {E : XK} (hb : BoxAt H b m) (hm : m ≤ 800000000) (q : ∀ t a c p n x H', Good p n x → n ≤ 12 → H t = none → H a = none → H c = none → H' t = some (.tup [.ref a, .ref c]) → WL H' a c p n x → Step b H H' → BoxAt H' b (m + 200) → Q (.ref t) H') : sp_drawn K [.ref b] H Q E := ⟨b, m, rfl, hb, hm, q⟩
/-- words drawn one by one -/
theorem words_lc {n j k0 : Nat} {b D : Addr} {m : Nat} {σ : L2.St} {H1 : Hp} {Q : VK} (hD : H1 D = none) (hb : BoxAt H1 b m) (hm : m ≤ 880000000) (hn : n ≤ 1000) (hσ : (wipe σ [j])[k0]? = some (some (.ref b))) (hjk : k0 ≠ j) (hw : ∀ x, wipe ((wipe σ [j]).set j x) [j] = wipe σ [j])
    (q : ∀ (x : Nat → Str) H', (∀ k, k < n → IsW (x k)) → H' D = some (.lst ((List.range n).map fun k => .str (x k))) → Step b H1 H' → BoxAt H' b (m + 10 * n) → Q (.ref D) H') :
    LcB (Itr 0 n) D (gName j) tYes (tCall sp_word [] E0 (tCons (tVar k0) tNil)) [j] σ H1 Q := by
  have big : (2000 : Nat) < sizeLine := by decide
  have bD := box_ne hb hD
  refine LcB.range (fun i H' => ∃ x : Nat → Str, (∀ k, k < i → IsW (x k)) ∧ H' D = some (.lst ((List.range i).map fun k => .str (x k))) ∧ Step b H1 H' ∧ BoxAt H' b (m + 10 * i)) ?_ ?_ ?_
  · exact ⟨fun _ => "", fun k h => by omega, upd_same, Step.new hD, (hb.new hD).mono (by omega)⟩
  · rintro i H2 hi ⟨x, g1, g2, g3, g4⟩
    refine ⟨hw _, ?_⟩
    refine ⟨.ref b, ?_, ?_⟩
    · show ((wipe σ [j]).set j _)[k0]? = _
      rw [List.getElem?_set_ne (Ne.symm hjk)]
      exact hσ
    · simp only [tNil, List.cons_append, List.nil_append, List.append_nil]
      refine word_go g4 (by omega) fun y H3 hy s3 b3 => ?_
      have e3 := s3.keep _ _ (Ne.symm bD) g2
      refine ⟨_, e3, by rw [lm]; omega, fun k => if k = i then y else x k, fun k hk => ?_, ?_, ?_, ?_⟩
      · show IsW (if k = i then y else x k)
        split
        · exact hy
        · exact g1 k (by omega)
      · rw [upd_same, List.range_succ, List.map_append]
        congr 2
        refine congr (congrArg _ ?_) ?_
        · exact List.map_congr_left fun k hk => congrArg V.str (if_neg (by have := List.mem_range.mp hk; omega)).symm
        · show [V.str y] = [V.str (if i = i then y else x i)]
          rw [if_pos rfl]
      · exact (g3.trans s3).mut hD
      · obtain ⟨x1, y1, z1, e, v⟩ := b3
        exact ⟨x1, y1, z1, by rw [upd_ne bD]; exact e, v.mono (by omega)⟩
  · rintro H2 ⟨x, g1, g2, g3, g4⟩
    exact q x H2 g1 g2 g3 g4
theorem WP.step {H H' : Hp} {a c b : Addr} {p : Nat → Int} {n : Nat} {x : Nat → Str} (h : WP K H a c p n x) (s : Same H H') : WP K H' a c p n x := h.same s
theorem ok_l_drawn (A : All K mg) : FnOk P w K mg base CX0 4 A.l_drawn.f A.l_drawn.fd ["box"] (sp_drawn K) := by
  have G_l_draw := ok_l_draw (P := P) (w := w) (base := base) A
  have G_l_parents := ok_l_parents (P := P) (w := w) (base := base) A
  have G_l_word := ok_l_word (P := P) (w := w) (base := base) A
  refine A.l_drawn.F.ok sc_l_drawn (fun vs H Q E h => ?_) (fun cdv B outer s H vs Q E hr h => ?_)
  · obtain ⟨b, m, rfl, _⟩ := h
    rfl
  · obtain ⟨b, m, rfl, hb, hm, q⟩ := h
    refine ⟨_, (pss_cons (ps_set (i := 1) sc_l_drawn.nd rfl (by first | exact Or.inl rfl | exact Or.inr rfl) (pe_call G_l_draw (hr.mono (by decide)) rfl A.l_draw.m A.l_draw.kp A.l_draw.b .nil pass0 (pa_cons (pv 0) (pa_cons pe_int pa_nil)))) (pss_cons (ps_set (i := 2) sc_l_drawn.nd rfl (by first | exact Or.inl rfl | exact Or.inr rfl) (pe_call G_l_parents (hr.mono (by decide)) rfl A.l_parents.m A.l_parents.kp A.l_parents.b .nil pass0 (pa_cons (pv 0) (pa_cons (pv 1) pa_nil)))) (pss_one (ps_ret (pe_tup (pa_cons (pe_lc (own := [("k", 3)]) (g := gName 3) rfl sc_l_drawn.nd (pi_range1 rfl A.n_range (pa_cons (pv 1) pa_nil)) (blkOk_by (own := [("k", 3)]) (N := ["box", "many", "parents", "k"]) (sc := defScope s_l_drawn) (by decide +kernel)) (fun _ _ _ _ _ => pg_name (i := 3) sc_l_drawn.nd rfl (Or.inl rfl)) (fun _ _ _ _ _ => pts_nil) (fun _ _ _ _ _ => (pe_call G_l_word (hr.mono (by decide)) rfl A.l_word.m A.l_word.kp A.l_word.b .nil pass0 (pa_cons (pv 0) pa_nil)))) (pa_cons (pv 2) pa_nil))))))), ?_⟩
    walk_at "vc"
    refine draw_go' hb (by decide) (by decide) (by omega) fun n H1 d1 s1 b1 => ?_
    refine ⟨b, m + 1, n, rfl, b1, by omega, by omega, fun F p H2 hF hp h7 e2 s2 b2 => ?_⟩
    refine ⟨n, rfl, by omega, by omega, fun D hD => ?_⟩
    rw [Int.toNat_natCast]
    refine words_lc (k0 := 0) hD b2 (by omega) (by omega) rfl (by decide) (fun _ => rfl) fun x H3 hx e3 s3 b3 => ⟨by decide, fun t ht => ?_⟩
    have bF : F ≠ b := fun z => box_ne b1 hF z.symm
    have e4 := s3.keep _ _ bF e2
    exact q t D F p n x _ ⟨hp, by omega, h7, hx⟩ (by omega) (((s1.trans s2).trans s3).fresh ht) ((s1.trans s2).fresh hD) (s1.fresh hF) upd_same ⟨Same.new ht _ _ e3, Same.new ht _ _ e4⟩ (((s1.trans s2).trans s3).trans (Step.new ht)) ((b3.new ht).mono (by omega))
/-! ### bad words, bad trees -/
mutual
def smlB : PyData → Bool
  | .str x => decide (x.length ≤ 1000)
  | .list ds => decide (ds.length ≤ 1000) && smlsB ds
  | .tuple ds => decide (ds.length ≤ 1000) && smlsB ds
  | .dict _ => false
  | _ => true
def smlsB : List PyData → Bool
  | [] => true
  | d :: ds => smlB d && smlsB ds
end
mutual
theorem sml_of : ∀ d, smlB d = true → Sml d
  | .none, _ => trivial
  | .bool _, _ => trivial
  | .int _, _ => trivial
  | .str x, h => by
    unfold smlB at h
    show x.length ≤ 1000
    exact of_decide_eq_true h
  | .list ds, h => by
    unfold smlB at h
    rw [Bool.and_eq_true] at h
    exact ⟨of_decide_eq_true h.1, smls_of ds h.2⟩
  | .tuple ds, h => by
    unfold smlB at h
    rw [Bool.and_eq_true] at h
    exact ⟨of_decide_eq_true h.1, smls_of ds h.2⟩
  | .dict _, h => by
    unfold smlB at h
    cases h
theorem smls_of : ∀ ds, smlsB ds = true → SmlAll ds
  | [], _ => trivial
  | d :: ds, h => by
    unfold smlsB at h
    rw [Bool.and_eq_true] at h
    exact ⟨sml_of d h.1, smls_of ds h.2⟩
end
def W16 : List PyData := [.str "", .str "abcdefghi", .str "A", .str "aB", .str "a1", .str "a b", .str " a", .str "a,", .str "a-", .int 5, .int 0, .bool true, .none, .tuple [.str "a"], .list [.str "a"], .tuple []]
theorem w16 : ∀ i : Fin 16, (!wordD (W16.getD i.val .none) && smlB (W16.getD i.val .none) && decide (dep (W16.getD i.val .none) ≤ 1) && decide (szD (W16.getD i.val .none) ≤ 3)) = true := by decide +kernel
def sp_bad_word (K : PySem.W.Frag) : Sp := fun vs H Q _ => ∃ (p : Addr) (m : Nat) (H0 : Hp), vs = [.ref p] ∧ BoxAt H p m ∧ m ≤ 800000000 ∧ H0 p ≠ none ∧ Dom H0 H ∧
  ∀ v d H', Nw K H0 H' v d → wordD d = false → Sml d → dep d ≤ 1 → szD d ≤ 3 → Step p H H' → BoxAt H' p (m + 1) → Q v H'
theorem ok_l_bad_word (A : All K mg) : FnOk P w K mg base CX0 3 A.l_bad_word.f A.l_bad_word.fd ["box"] (sp_bad_word K) := by
  have G_l_draw := ok_l_draw (P := P) (w := w) (base := base) A
  refine A.l_bad_word.F.ok sc_l_bad_word (fun vs H Q E h => ?_) (fun cdv B outer s H vs Q E hr h => ?_)
  · obtain ⟨p, n, H0, rfl, _⟩ := h
    rfl
  · obtain ⟨b, m, H0, rfl, hb, hm, h0, s0, q⟩ := h
    refine ⟨_, (pss_cons (ps_set (i := 1) sc_l_bad_word.nd rfl (by first | exact Or.inl rfl | exact Or.inr rfl) (pe_lst (pa_cons pe_str (pa_cons pe_str (pa_cons pe_str (pa_cons pe_str (pa_cons pe_str (pa_cons pe_str (pa_cons pe_str (pa_cons pe_str (pa_cons pe_str (pa_cons pe_int (pa_cons pe_int (pa_cons pe_bl (pa_cons pe_non (pa_cons (pe_tup (pa_cons pe_str pa_nil)) (pa_cons (pe_lst (pa_cons pe_str pa_nil)) (pa_cons (pe_tup pa_nil) pa_nil)))))))))))))))))) (pss_one (ps_ret (pe_ix (r := rIxL K) ix_list (pv 1) (pe_call G_l_draw (hr.mono (by decide)) rfl A.l_draw.m A.l_draw.kp A.l_draw.b .nil pass0 (pa_cons (pv 0) (pa_cons pe_int pa_nil))) (fun _ _ => rfl))))), ?_⟩
    walk_at "vc"
    refine ⟨by decide, fun t1 h1 => ?_⟩
    obtain ⟨s1, b1, n1⟩ := mkT (K := K) h0 s0 hb (.cons (.str "a") .nil) h1
    refine ⟨by decide, fun t2 h2 => ?_⟩
    obtain ⟨s2, b2, n2⟩ := mkL (K := K) h0 (s0.tr s1) b1 (.cons (.str "a") .nil) h2
    refine ⟨by decide, fun t3 h3 => ?_⟩
    obtain ⟨s3, b3, n3⟩ := mkT (K := K) h0 ((s0.tr s1).tr s2) b2 .nil h3
    refine ⟨by decide, fun D hD => ?_⟩
    have st := ((s0.tr s1).tr s2).tr s3
    have n1' := (n1.step s2 h0).step s3 h0
    have n2' := n2.step s3 h0
    obtain ⟨s4, b4, n4⟩ := mkL (K := K) h0 st b3 (show NwAll K H0 _ [V.str "", .str "abcdefghi", .str "A", .str "aB", .str "a1", .str "a b", .str " a", .str "a,", .str "a-", .int 5, .int 0, .bl true, .non, .ref t1, .ref t2, .ref t3] W16 from
      .cons (.str _) (.cons (.str _) (.cons (.str _) (.cons (.str _) (.cons (.str _) (.cons (.str _) (.cons (.str _) (.cons (.str _) (.cons (.str _) (.cons (.int _) (.cons (.int _) (.cons (.bl _) (.cons .non (.cons n1' (.cons n2' (.cons n3 .nil)))))))))))))))) hD
    refine draw_go' b4 (by decide) (by decide) (by omega) fun d H5 hd s5 b5 => ?_
    have n5 := n4.step s5 h0
    obtain ⟨a, xs, e, e5, n6⟩ := Nw.atL n5
    cases e
    obtain ⟨v, dd, g1, g2, g3⟩ := NwAll.get (i := d) n6 (by show d < 16; omega)
    have hd16 : d < 16 := by omega
    have c := w16 ⟨d, hd16⟩
    have e16 : W16.getD d .none = dd := by rw [List.getD_eq_getElem?_getD, g2]; rfl
    rw [show (⟨d, hd16⟩ : Fin 16).val = d from rfl, e16] at c
    simp only [Bool.and_eq_true, decide_eq_true_eq, Bool.not_eq_true'] at c
    obtain ⟨⟨⟨c1, c2⟩, c3⟩, c4⟩ := c
    exact ⟨_, d, rfl, SqL.of e5, v, atI_nat g1, q v dd H5 g3 c1 (sml_of _ c2) c3 c4 ((((s1.trans s2).trans s3).trans s4).trans s5) (b5.mono (by omega))⟩
/-- a tree spoilt -/
def sp_bad_tree (K : PySem.W.Frag) : Sp := fun vs H Q _ => ∃ (p : Addr) (m : Nat) (H0 : Hp) (x : Str) (c : V) (cs : List PyData), vs = [.ref p, .str x, c] ∧ BoxAt H p m ∧ m ≤ 700000000 ∧ H0 p ≠ none ∧ Dom H0 H ∧ x.length ≤ 8 ∧ Nw K H0 H c (.tuple cs) ∧ SmlAll cs ∧ cs.length ≤ 1000 ∧ (∀ t ∈ cs, wordD t = false) ∧
  ∀ v d H', Nw K H0 H' v d → treD d = false → Sml d → dep d ≤ depAll cs + 3 → szD d ≤ szAll cs + 10 → Step p H H' → BoxAt H' p (m + 10) → Q v H'
theorem ok_l_bad_tree (A : All K mg) : FnOk P w K mg base CX0 4 A.l_bad_tree.f A.l_bad_tree.fd ["box", "word", "children"] (sp_bad_tree K) := by
  have G_l_draw := ok_l_draw (P := P) (w := w) (base := base) A
  have G_l_bad_word := ok_l_bad_word (P := P) (w := w) (base := base) A
  refine A.l_bad_tree.F.ok sc_l_bad_tree (fun vs H Q E h => ?_) (fun cdv B outer s H vs Q E hr h => ?_)
  · obtain ⟨p, n, H0, x, c, cs, rfl, _⟩ := h
    rfl
  · obtain ⟨b, m, H0, x, c, cs, rfl, hb, hm, h0, s0, hx, hc, hs, hl, ht, q⟩ := h
    refine ⟨_, (pss_cons (ps_set (i := 3) sc_l_bad_tree.nd rfl (by first | exact Or.inl rfl | exact Or.inr rfl) (pe_call G_l_draw (hr.mono (by decide)) rfl A.l_draw.m A.l_draw.kp A.l_draw.b .nil pass0 (pa_cons (pv 0) (pa_cons pe_int pa_nil)))) (pss_cons (ps_if (pt_cmpR op_lt (pv 3) pe_int (nomark _)) (pss_one (ps_ret (pe_tup (pa_cons (pe_call G_l_bad_word (hr.mono (by decide)) rfl A.l_bad_word.m A.l_bad_word.kp A.l_bad_word.b .nil pass0 (pa_cons (pv 0) pa_nil)) (pa_cons (pv 2) pa_nil))))) pss_nil) (pss_cons (ps_if (pt_cmpR op_eq (pv 3) pe_int (nomark _)) (pss_one (ps_ret (pv 1))) pss_nil) (pss_cons (ps_if (pt_cmpR op_eq (pv 3) pe_int (nomark _)) (pss_one (ps_ret (pe_tup (pa_cons (pv 1) pa_nil)))) pss_nil) (pss_cons (ps_if (pt_cmpR op_eq (pv 3) pe_int (nomark _)) (pss_one (ps_ret (pe_tup (pa_cons (pv 1) (pa_cons (pv 2) (pa_cons (pe_tup pa_nil) pa_nil)))))) pss_nil) (pss_cons (ps_if (pt_cmpR op_eq (pv 3) pe_int (nomark _)) (pss_one (ps_ret (pe_lst (pa_cons (pv 1) (pa_cons (pv 2) pa_nil))))) pss_nil) (pss_cons (ps_if (pt_cmpR op_eq (pv 3) pe_int (nomark _)) (pss_one (ps_ret (pe_tup (pa_cons (pv 1) (pa_cons (pe_callTy call_list_of (by rfl) A.n_list (by decide +kernel) (pa_cons (pv 2) pa_nil)) pa_nil))))) pss_nil) (pss_cons (ps_if (pt_cmpR op_eq (pv 3) pe_int (nomark _)) (pss_one (ps_ret (pe_tup (pa_cons (pv 2) (pa_cons (pv 1) pa_nil))))) pss_nil) (pss_cons (ps_if (pt_cmpR op_eq (pv 3) pe_int (nomark _)) (pss_one (ps_ret (pe_tup (pa_cons (pv 1) (pa_cons (pe_tup (pa_cons (pv 2) pa_nil)) pa_nil))))) pss_nil) (pss_one (ps_ret (pe_tup (pa_cons (pv 1) (pa_cons (pe_ix (r := rIxL K) ix_list (pe_lst (pa_cons pe_non (pa_cons pe_str (pa_cons pe_str (pa_cons pe_int (pa_cons pe_bl (pa_cons pe_int pa_nil))))))) (pe_call G_l_draw (hr.mono (by decide)) rfl A.l_draw.m A.l_draw.kp A.l_draw.b .nil pass0 (pa_cons (pv 0) (pa_cons pe_int pa_nil))) (fun _ _ => rfl)) pa_nil)))))))))))))), ?_⟩
    walk_at "vc"
    have big : (2000 : Nat) < sizeLine := by decide
    refine draw_go' hb (by decide) (by decide) (by omega) fun k H1 hk s1 b1 => ?_
    have c1 := hc.step s1 h0
    have st1 := s0.tr s1
    have hx2 : Sml (.str x) := Nat.le_trans hx (by decide)
    have ends : ∀ v d H', Nw K H0 H' v d → treD d = false → Sml d → dep d ≤ depAll cs + 3 → szD d ≤ szAll cs + 10 → Step b H1 H' → BoxAt H' b (m + 10) → Q v H' := fun v d H' z1 z2 z3 z4 z5 z6 z7 => q v d H' z1 z2 z3 z4 z5 (s1.trans z6) z7
    refine ⟨_, rfl, ite2 (fun k0 => ?_) (fun k0 => ⟨rfl, ite2 (fun k1 => ?_) (fun k1 => ⟨rfl, ite2 (fun k2 => ?_) (fun k2 => ⟨rfl, ite2 (fun k3 => ?_) (fun k3 => ⟨rfl, ite2 (fun k4 => ?_) (fun k4 => ⟨rfl, ite2 (fun k5 => ?_) (fun k5 => ⟨rfl, ite2 (fun k6 => ?_) (fun k6 => ⟨rfl, ite2 (fun k7 => ?_) (fun k7 => ?_)⟩)⟩)⟩)⟩)⟩)⟩)⟩)⟩
    · refine ⟨b, m + 1, H0, rfl, b1, by omega, h0, st1, fun v d H2 nv wd sm dd sz s2 b2 => ⟨by decide, fun t ht' => ?_⟩⟩
      obtain ⟨z1, z2, z3⟩ := mkT (K := K) h0 (st1.tr s2) b2 (.cons nv (.cons (c1.step s2 h0) .nil)) ht'
      refine ends _ _ _ z3 (by simp [treD, wd]) ⟨by simp, sm, ⟨hl, hs⟩, trivial⟩ (by simp only [dep, depAll]; omega) (by simp only [szD, szAll]; omega) (s2.trans z1) (z2.mono (by omega))
    · exact ends _ (.str x) _ (.str x) rfl hx2 (by simp [dep]) (by simp only [szD]; omega) Step.refl (b1.mono (by omega))
    · refine ⟨by decide, fun t ht' => ?_⟩
      obtain ⟨z1, z2, z3⟩ := mkT (K := K) h0 st1 b1 (.cons (.str x) .nil) ht'
      exact ends _ _ _ z3 rfl ⟨by simp, hx2, trivial⟩ (by simp only [dep, depAll]; omega) (by simp only [szD, szAll]; omega) z1 (z2.mono (by omega))
    · refine ⟨by decide, fun t ht' => ?_⟩
      obtain ⟨z1, z2, z3⟩ := mkT (K := K) h0 st1 b1 .nil ht'
      refine ⟨by decide, fun t2 ht2 => ?_⟩
      obtain ⟨y1, y2, y3⟩ := mkT (K := K) h0 (st1.tr z1) z2 (.cons (.str x) (.cons (c1.step z1 h0) (.cons z3 .nil))) ht2
      exact ends _ _ _ y3 rfl ⟨by simp, hx2, ⟨hl, hs⟩, ⟨by decide, trivial⟩, trivial⟩ (by simp only [dep, depAll]; omega) (by simp only [szD, szAll]; omega) (z1.trans y1) (y2.mono (by omega))
    · refine ⟨by decide, fun t ht' => ?_⟩
      obtain ⟨z1, z2, z3⟩ := mkL (K := K) h0 st1 b1 (.cons (.str x) (.cons c1 .nil)) ht'
      exact ends _ _ _ z3 rfl ⟨by simp, hx2, ⟨hl, hs⟩, trivial⟩ (by simp only [dep, depAll]; omega) (by simp only [szD, szAll]; omega) z1 (z2.mono (by omega))
    · obtain ⟨a, xs, rfl, ha, hxs⟩ := Nw.atT c1
      refine ⟨a, rfl, xs, .inr (SqT.of ha), fun t ht' => ?_⟩
      obtain ⟨z1, z2, z3⟩ := mkL (K := K) h0 st1 b1 hxs ht'
      refine ⟨by decide, fun t2 ht2 => ?_⟩
      obtain ⟨y1, y2, y3⟩ := mkT (K := K) h0 (st1.tr z1) z2 (.cons (.str x) (.cons z3 .nil)) ht2
      exact ends _ _ _ y3 (by simp [treD, forD]) ⟨by simp, hx2, ⟨hl, hs⟩, trivial⟩ (by simp only [dep, depAll]; omega) (by simp only [szD, szAll]; omega) (z1.trans y1) (y2.mono (by omega))
    · refine ⟨by decide, fun t ht' => ?_⟩
      obtain ⟨z1, z2, z3⟩ := mkT (K := K) h0 st1 b1 (.cons c1 (.cons (.str x) .nil)) ht'
      exact ends _ _ _ z3 (by simp [treD, wordD]) ⟨by simp, ⟨hl, hs⟩, hx2, trivial⟩ (by simp only [dep, depAll]; omega) (by simp only [szD, szAll]; omega) z1 (z2.mono (by omega))
    · refine ⟨by decide, fun t ht' => ?_⟩
      obtain ⟨z1, z2, z3⟩ := mkT (K := K) h0 st1 b1 (.cons c1 .nil) ht'
      refine ⟨by decide, fun t2 ht2 => ?_⟩
      obtain ⟨y1, y2, y3⟩ := mkT (K := K) h0 (st1.tr z1) z2 (.cons (.str x) (.cons z3 .nil)) ht2
      have bad : treD (.tuple cs) = false := by
        match cs, ht with
        | [], _ => rfl
        | [_], _ => rfl
        | [t, u], ht => simp [treD, ht t List.mem_cons_self]
        | _ :: _ :: _ :: _, _ => rfl
      exact ends _ _ _ y3 (by rw [treD, forD, forAll, bad]; simp) ⟨by simp, hx2, ⟨by simp, ⟨hl, hs⟩, trivial⟩, trivial⟩ (by simp only [dep, depAll]; omega) (by simp only [szD, szAll]; omega) (z1.trans y1) (y2.mono (by omega))
    · refine ⟨by decide, fun t ht' => ?_⟩
      obtain ⟨z1, z2, z3⟩ := mkL (K := K) (ds := [.none, .str "", .str "a", .int 0, .bool false, .int 7]) h0 st1 b1 (.cons .non (.cons (.str _) (.cons (.str _) (.cons (.int _) (.cons (.bl _) (.cons (.int _) .nil)))))) ht'
      refine draw_go' z2 (by decide) (by decide) (by omega) fun d H2 hd s2 b2 => ?_
      have e2 := s2.keep _ _ (Ne.symm (box_ne b1 ht')) upd_same
      have st2 := (st1.tr z1).tr s2
      have fin : ∀ v e, (∀ G0 G1 : Hp, Nw K G0 G1 v e) → forD e = false → Sml e → dep e = 0 → szD e = 1 → 2 ≤ sizeLine ∧ ∀ p, H2 p = none → Q (.ref p) (upd H2 p (.tup [.str x, v])) := by
        intro v e hv hf hsm hde hsz
        refine ⟨by decide, fun t2 ht2 => ?_⟩
        obtain ⟨y1, y2, y3⟩ := mkT (K := K) h0 st2 b2 (.cons (.str x) (.cons (hv _ _) .nil)) ht2
        exact ends _ _ _ y3 (by simp [treD, hf]) ⟨by simp, hx2, hsm, trivial⟩ (by simp only [dep, depAll, hde]; omega) (by simp only [szD, szAll, hsz]; omega) ((z1.trans s2).trans y1) (y2.mono (by omega))
      have hd6 : d = 0 ∨ d = 1 ∨ d = 2 ∨ d = 3 ∨ d = 4 ∨ d = 5 := by omega
      refine ⟨_, d, rfl, SqL.of e2, ?_⟩
      rcases hd6 with rfl | rfl | rfl | rfl | rfl | rfl
      · exact ⟨_, rfl, fin _ _ (fun _ _ => .non) rfl trivial rfl rfl⟩
      · exact ⟨_, rfl, fin _ _ (fun _ _ => .str _) rfl (Nat.zero_le _) rfl rfl⟩
      · exact ⟨_, rfl, fin _ _ (fun _ _ => .str _) rfl (by show (1 : Nat) ≤ 1000; decide) rfl rfl⟩
      · exact ⟨_, rfl, fin _ _ (fun _ _ => .int _) rfl trivial rfl rfl⟩
      · exact ⟨_, rfl, fin _ _ (fun _ _ => .bl _) rfl trivial rfl rfl⟩
      · exact ⟨_, rfl, fin _ _ (fun _ _ => .int _) rfl trivial rfl rfl⟩
end
end Ly
namespace Ly
open PySem PySem.Spec PyProof.Rows L2
open GxR (TabG Tabbed)
local macro_rules | `(tactic| walk_at "vc") => `(tactic| simp only [tSeq, tAsg, tOp, tVar, tC, tRet, tRetN, tNext, tIfS, tIf, tDrop, tB, tTest, tNot, tAnd, tOr, tAndV, tOrV, tNotV, tChain, tUn, tCB, tCons, tNil, tTup, tLst, tSl, tPart, tNoPart, tCall, tBreak, tCont,
  rI, rI0, rU, gName, gNil_nil, gCons_cons, gSub, rSetL, L2.start, cx_K, cx_nox, tLc_eq, tFor_eq, iRng1, iRng2, iList, iTup, tM1, tYes, wipe, rIxS, rIxL, rIxT, rCat, rSlL, rEq, rNe, rPop, rAppend, tBM, tBM0, tMkO_eq, tVal_eq, tFldE_eq, tXfE_eq, tCallS, lenV_ref, iRevR, tRg1, RT.iRevA, RZ.iZipA, tDGet, sDPut, tDNewK, tAugS, ipI, tMaxD, tCallK0, rRep, rExtend, CDiv, CDivW, CPow, CMulX,
  List.map_cons, List.map_nil, List.cons_append, List.nil_append, List.append_nil, List.length_cons, List.length_nil, List.replicate, List.getElem?_cons_zero, List.getElem?_cons_succ, List.set_cons_zero, List.set_cons_succ, Nat.reduceSub, Nat.reduceAdd,
  Option.some.injEq, V.int.injEq, V.bl.injEq, V.str.injEq, V.ref.injEq, exists_eq_left', exists_eq_left, exists_and_left, reduceCtorEq, false_and, and_false, exists_false, or_false, false_or, Bool.false_eq_true, if_false, if_true, reduceIte, decide_eq_true_eq, List.cons.injEq, and_true, true_and])
section
variable {P : Program} {w : World} {K : PySem.W.Frag} {mg : Str → Option Value} {base : Heap} {T : Addr}
theorem shp_of : ∀ (n : Nat) (d : PyData), Sml d → dep d < n → Shp n d
  | 0, _, _, h => by omega
  | n + 1, .none, _, _ => trivial
  | n + 1, .bool _, _, _ => trivial
  | n + 1, .int _, _, _ => trivial
  | n + 1, .str _, _, _ => trivial
  | n + 1, .list ds, h, hd => ⟨h.1, fun d hm => by
      obtain ⟨i, hi⟩ := List.getElem?_of_mem hm
      have := dep_mem hi
      simp only [dep] at hd
      exact shp_of n d (SmlAll.mem h.2 d hm) (by omega)⟩
  | n + 1, .tuple ds, h, hd => ⟨h.1, fun d hm => by
      obtain ⟨i, hi⟩ := List.getElem?_of_mem hm
      have := dep_mem hi
      simp only [dep] at hd
      exact shp_of n d (SmlAll.mem h.2 d hm) (by omega)⟩
  | n + 1, .dict _, h, _ => h.elim
/-! ### what holds while a spoilt forest is made -/
def lev (p : Nat → Int) (n q : Nat) : Nat := if q = n then 0 else dp p q + 1
def sumTo (Ds : Nat → List PyData) : Nat → Nat
  | 0 => 0
  | m + 1 => sumTo Ds m + szAll (Ds m)
theorem sumTo_put {Ds : Nat → List PyData} {q' : Nat} {ds : List PyData} : ∀ m, sumTo (fun q => if q = q' then ds else Ds q) m + (if q' < m then szAll (Ds q') else 0) = sumTo Ds m + (if q' < m then szAll ds else 0)
  | 0 => by simp [sumTo]
  | m + 1 => by
    have ih := sumTo_put (Ds := Ds) (q' := q') (ds := ds) m
    simp only [sumTo]
    by_cases e : m = q'
    · subst e
      rw [if_neg (by omega), if_neg (by omega)] at ih
      rw [if_pos rfl, if_pos (by omega), if_pos (by omega)]
      omega
    · rw [if_neg e]
      by_cases c : q' < m
      · rw [if_pos c, if_pos c] at ih
        rw [if_pos (by omega), if_pos (by omega)]
        omega
      · rw [if_neg c, if_neg c] at ih
        rw [if_neg (by omega), if_neg (by omega)]
        omega
structure BadI (p : Nat → Int) (n s m i : Nat) (Ds : Nat → List PyData) : Prop where
  sml : ∀ q, (q < m ∨ q = n) → SmlAll (Ds q) ∧ (Ds q).length ≤ i ∧ depAll (Ds q) ≤ 3 * (8 - lev p n q)
  tot : sumTo Ds m + szAll (Ds n) ≤ 13 * i
  wd : s < m → ∀ q, (q < m ∨ q = n) → ∀ t ∈ Ds q, wordD t = false
  bad : m ≤ s → ∃ q, (q < m ∨ q = n) ∧ forAll (Ds q) = false
theorem BadI.start {p : Nat → Int} {n s : Nat} (hs : s < n) : BadI p n s n 0 fun _ => [] := by
  refine ⟨fun q _ => ⟨trivial, Nat.le_refl _, by simp [depAll]⟩, ?_, fun _ q _ t ht => (by simp at ht), fun h => by omega⟩
  have : ∀ m, sumTo (fun _ => []) m = 0 := fun m => by
    induction m with
    | zero => rfl
    | succ m ih => simp [sumTo, ih, szAll]
  rw [this]
  simp [szAll]
theorem BadI.next {p : Nat → Int} {n s j i q' : Nat} {x : Nat → Str} {Ds : Nat → List PyData} {td : PyData} (h : BadI p n s (j + 1) i Ds) (g : Good p n x) (hj : j < n) (hq : (p j = -1 ∧ q' = n) ∨ (p j = (q' : Int) ∧ q' < n))
    (sm : Sml td) (hd : dep td ≤ depAll (Ds j) + 3) (hz : szD td ≤ szAll (Ds j) + 10) (hw : s < j → wordD td = false) (hb : j = s ∨ forAll (Ds j) = false → treD td = false) :
    BadI p n s j (i + 1) (fun q => if q = q' then td :: Ds q' else Ds q) := by
  have hhi := g.pre.hi j hj
  have hq1 : q' < j ∨ q' = n := by omega
  have hlv : lev p n q' = dp p j := by
    unfold lev
    rcases hq with ⟨e, e2⟩ | ⟨e, e2⟩
    · rw [if_pos e2, dp_root (by omega)]
    · rw [if_neg (by omega), dp_kid e (by omega)]
  have hl7 := g.low j hj
  have sj := h.sml j (.inl (by omega))
  have lj : lev p n j = dp p j + 1 := by unfold lev; rw [if_neg (by omega)]
  rw [lj] at sj
  refine ⟨fun q hq2 => ?_, ?_, fun hs q hq2 t ht => ?_, fun hs => ?_⟩
  · have sq := h.sml q (by omega)
    show SmlAll (if q = q' then td :: Ds q' else Ds q) ∧ (if q = q' then td :: Ds q' else Ds q).length ≤ i + 1 ∧ depAll (if q = q' then td :: Ds q' else Ds q) ≤ _
    by_cases e : q = q'
    · subst e
      rw [if_pos rfl]
      refine ⟨⟨sm, sq.1⟩, by simp only [List.length_cons]; omega, ?_⟩
      simp only [depAll]
      rw [hlv] at sq ⊢
      omega
    · rw [if_neg e]
      exact ⟨sq.1, by omega, sq.2.2⟩
  · have t0 := h.tot
    have tp := sumTo_put (Ds := Ds) (q' := q') (ds := td :: Ds q') j
    simp only [sumTo] at t0
    rcases hq1 with c | c
    · rw [if_pos c, if_pos c] at tp
      show sumTo _ j + szAll (if n = q' then td :: Ds q' else Ds n) ≤ _
      rw [if_neg (by omega)]
      simp only [szAll] at tp
      omega
    · subst c
      rw [if_neg (by omega), if_neg (by omega)] at tp
      show sumTo _ j + szAll (if q' = q' then td :: Ds q' else Ds q') ≤ _
      rw [if_pos rfl]
      simp only [szAll]
      omega
  · have ht : t ∈ (if q = q' then td :: Ds q' else Ds q) := ht
    by_cases e : q = q'
    · rw [if_pos e] at ht
      rcases List.mem_cons.mp ht with e2 | e2
      · rw [e2]; exact hw hs
      · exact h.wd (by omega) q' (by omega) t e2
    · rw [if_neg e] at ht
      exact h.wd (by omega) q (by omega) t ht
  · by_cases c : j = s
    · refine ⟨q', hq1, ?_⟩
      show forAll (if q' = q' then td :: Ds q' else Ds q') = false
      rw [if_pos rfl, forAll, hb (.inl c)]
      rfl
    · obtain ⟨q, q1, q2⟩ := h.bad (by omega)
      by_cases e : q = j
      · subst e
        refine ⟨q', hq1, ?_⟩
        show forAll (if q' = q' then td :: Ds q' else Ds q') = false
        rw [if_pos rfl, forAll, hb (.inr q2)]
        rfl
      · refine ⟨q, by omega, ?_⟩
        show forAll (if q = q' then td :: Ds q' else Ds q) = false
        by_cases e2 : q = q'
        · subst e2
          rw [if_pos rfl, forAll, q2]
          simp
        · rw [if_neg e2]
          exact q2
theorem RowsAt.step {H0 H H2 : Hp} {R b : Addr} {rs : List Addr} {n : Nat} {L : Nat → List PyData} (h : RowsAt K H0 H R rs n L) (s : Step b H H2) (h0 : H0 b ≠ none) (hR : R ≠ b) (hr : b ∉ rs) : RowsAt K H0 H2 R rs n L :=
  ⟨s.keep _ _ hR h.top, h.len, fun q r e => by
    obtain ⟨vs, e1, e2⟩ := h.row q r e
    exact ⟨vs, s.keep _ _ (fun z => hr (z ▸ List.mem_of_getElem? e)) e1, e2.step s h0⟩⟩
theorem SqL.step {H H' : Hp} {a b : Addr} {xs : List V} (h : SqL K H a xs) (s : Step b H H') (ne : a ≠ b) : SqL K H' a xs := by
  rcases h with (h | ⟨o, h⟩) | h
  · exact .inl (.inl (s.keep _ _ ne h))
  · exact .inl (.inr ⟨o, s.keep _ _ ne h⟩)
  · exact .inr h
def W14 : List PyData := [.none, .int 0, .int 1, .bool true, .bool false, .str "", .str "a", .list [], .list [.tuple [.str "a", .tuple []]], .tuple [.str "a", .tuple []], .tuple [.str "a"], .tuple [.tuple [.str "a", .tuple []], .none], .tuple [.tuple []], .int (-1)]
theorem w14 : ∀ i : Fin 14, (!forD (W14.getD i.val .none) && smlB (W14.getD i.val .none) && decide (dep (W14.getD i.val .none) ≤ 10) && decide (szD (W14.getD i.val .none) ≤ 100)) = true := by decide +kernel
def sp_bad (K : PySem.W.Frag) : Sp := fun vs H Q _ => ∃ (b : Addr) (m : Nat) (a c : Addr) (p : Nat → Int) (n : Nat) (x : Nat → Str), vs = [.ref b, .ref a, .ref c] ∧ BoxAt H b m ∧ m ≤ 600000000 ∧ WP K H a c p n x ∧ a ≠ b ∧ c ≠ b ∧ Good p n x ∧ n ≤ 12 ∧
  ∀ v d H', Step b H H' → Dp K H' v d → forD d = false → Sml d → szD d ≤ 1000 → dep d ≤ 25 → Q v H'
theorem ok_l_bad (A : All K mg) : FnOk P w K mg base CX0 5 A.l_bad.f A.l_bad.fd ["box", "words", "parents"] (sp_bad K) := by
  have G_l_draw := ok_l_draw (P := P) (w := w) (base := base) A
  have G_l_bad_tree := ok_l_bad_tree (P := P) (w := w) (base := base) A
  refine A.l_bad.F.ok sc_l_bad (fun vs H Q E h => ?_) (fun cdv B outer s H vs Q E hr h => ?_)
  · obtain ⟨b, m, a, c, p, n, x, rfl, _⟩ := h
    rfl
  · obtain ⟨b, m, a, c, p, n, x, rfl, hb, hm, hw, ab, cb, g, hn, q⟩ := h
    refine ⟨_, (pss_cons (ps_set (i := 3) sc_l_bad.nd rfl (by first | exact Or.inl rfl | exact Or.inr rfl) (pe_callB (r := fun xs H Q => ∃ x n, xs = [x] ∧ LenV K x H n ∧ Q (V.int n) H) call_len (by rfl) A.n_len PySem.boot_len (pa_cons (pv 1) pa_nil))) (pss_cons (ps_if (PW.pt (pw_or (pt_cmpR op_eq (pv 3) pe_int (nomark _)) (pw_or1 (pt_cmpR op_eq (pe_call G_l_draw (hr.mono (by decide)) rfl A.l_draw.m A.l_draw.kp A.l_draw.b .nil pass0 (pa_cons (pv 0) (pa_cons pe_int pa_nil))) pe_int (nomark _))))) (pss_cons (ps_set (i := 4) sc_l_bad.nd rfl (by first | exact Or.inl rfl | exact Or.inr rfl) (pe_lst (pa_cons pe_non (pa_cons pe_int (pa_cons pe_int (pa_cons pe_bl (pa_cons pe_bl (pa_cons pe_str (pa_cons pe_str (pa_cons (pe_lst pa_nil) (pa_cons (pe_lst (pa_cons (pe_tup (pa_cons pe_str (pa_cons (pe_tup pa_nil) pa_nil))) pa_nil)) (pa_cons (pe_tup (pa_cons pe_str (pa_cons (pe_tup pa_nil) pa_nil))) (pa_cons (pe_tup (pa_cons pe_str pa_nil)) (pa_cons (pe_tup (pa_cons (pe_tup (pa_cons pe_str (pa_cons (pe_tup pa_nil) pa_nil))) (pa_cons pe_non pa_nil))) (pa_cons (pe_tup (pa_cons (pe_tup pa_nil) pa_nil)) (pa_cons (pe_un un_neg pe_int) pa_nil)))))))))))))))) (pss_one (ps_ret (pe_ix (r := rIxL K) ix_list (pv 4) (pe_call G_l_draw (hr.mono (by decide)) rfl A.l_draw.m A.l_draw.kp A.l_draw.b .nil pass0 (pa_cons (pv 0) (pa_cons pe_int pa_nil))) (fun _ _ => rfl))))) pss_nil) (pss_cons (ps_set (i := 5) sc_l_bad.nd rfl (by first | exact Or.inl rfl | exact Or.inr rfl) (pe_call G_l_draw (hr.mono (by decide)) rfl A.l_draw.m A.l_draw.kp A.l_draw.b .nil pass0 (pa_cons (pv 0) (pa_cons (pv 3) pa_nil)))) (pss_cons (ps_setLc (i := 6) (own := [("k", 7)]) (g := gName 7) rfl sc_l_bad.nd rfl rfl (sw_true rfl rfl rfl (by decide +kernel)) (pi_range1 rfl A.n_range (pa_cons (pe_op op_add (pv 3) pe_int) pa_nil)) (blkOk_by (own := [("k", 7)]) (N := ["box", "words", "parents", "many", "wholes", "spoilt", "rows", "k", "row", "tree"]) (sc := defScope s_l_bad) (by decide +kernel)) (fun _ _ _ _ _ => pg_name (i := 7) sc_l_bad.nd rfl (Or.inl rfl)) (fun _ _ _ _ _ => pts_nil) (fun _ _ _ _ _ => (pe_lst pa_nil))) (pss_cons (ps_for PassesOwn.never rfl (pi_revR rfl A.n_reversed (prg_1 rfl A.n_range (pv 3))) (pg_name (i := 7) sc_l_bad.nd rfl (by first | exact Or.inl rfl | exact Or.inr rfl)) (pss_cons (ps_set (i := 8) sc_l_bad.nd rfl (by first | exact Or.inl rfl | exact Or.inr rfl) (pe_ix (r := rIxL K) ix_list (pv 6) (pe_ix (r := rIxL K) ix_list (pv 2) (pv 7) (fun _ _ => rfl)) (fun _ _ => rfl))) (pss_cons (ps_set (i := 9) sc_l_bad.nd rfl (by first | exact Or.inl rfl | exact Or.inr rfl) (pe_tup (pa_cons (pe_ix (r := rIxL K) ix_list (pv 1) (pv 7) (fun _ _ => rfl)) (pa_cons (pe_callTy call_tuple_of (by rfl) A.n_tuple (by decide +kernel) (pa_cons (pe_ix (r := rIxL K) ix_list (pv 6) (pv 7) (fun _ _ => rfl)) pa_nil)) pa_nil)))) (pss_cons (ps_if (pt_cmpR op_eq (pv 7) (pv 5) (nomark _)) (pss_one (ps_set (i := 9) sc_l_bad.nd rfl (by first | exact Or.inl rfl | exact Or.inr rfl) (pe_call G_l_bad_tree (hr.mono (by decide)) rfl A.l_bad_tree.m A.l_bad_tree.kp A.l_bad_tree.b .nil pass0 (pa_cons (pv 0) (pa_cons (pe_ix (r := rIxL K) ix_list (pv 1) (pv 7) (fun _ _ => rfl)) (pa_cons (pe_callTy call_tuple_of (by rfl) A.n_tuple (by decide +kernel) (pa_cons (pe_ix (r := rIxL K) ix_list (pv 6) (pv 7) (fun _ _ => rfl)) pa_nil)) pa_nil)))))) pss_nil) (pss_one (ps_expr (pe_bm PySem.F.plainAttrs_list PySem.F.slot_list_insert PySem.F.type_list_insert mt_insert (pv 8) (pa_cons pe_int (pa_cons (pv 9) pa_nil))))))))) (pss_one (ps_ret (pe_callTy call_tuple_of (by rfl) A.n_tuple (by decide +kernel) (pa_cons (pe_ix (r := rIxL K) ix_list (pv 6) (pv 3) (fun _ _ => rfl)) pa_nil))))))))), ?_⟩
    walk_at "vc"
    have big : (2000 : Nat) < sizeLine := by decide
    refine ⟨_, .inl ⟨_, hw.1, lm.symm⟩, ?_⟩
    refine ⟨rfl, ite2 (fun en0 => ?_) (fun en0 => ?_)⟩
    · obtain ⟨H1, hH1, s1, b1⟩ : ∃ H1, H1 = H ∧ Step b H H1 ∧ BoxAt H1 b (m + 1) := ⟨H, rfl, Step.refl, hb.mono (by omega)⟩
      rw [← hH1]
      have h0 : H b ≠ none := hb.dom
      have st0 := s1
      have z0 := b1
      refine ⟨by decide, fun t1 h1 => ?_⟩
      obtain ⟨y1, z1, v1⟩ := mkL (K := K) h0 (Dom.of_step st0) z0 .nil h1
      have st1 := st0.trans y1
      refine ⟨by decide, fun t2 h2 => ?_⟩
      obtain ⟨y2, z2, v2⟩ := mkT (K := K) h0 (Dom.of_step st1) z1 .nil h2
      have st2 := st1.trans y2
      refine ⟨by decide, fun t3 h3 => ?_⟩
      obtain ⟨y3, z3, v3⟩ := mkT (K := K) h0 (Dom.of_step st2) z2 (.cons (.str "a") (.cons v2 .nil)) h3
      have st3 := st2.trans y3
      refine ⟨by decide, fun t4 h4 => ?_⟩
      obtain ⟨y4, z4, v4⟩ := mkL (K := K) h0 (Dom.of_step st3) z3 (.cons v3 .nil) h4
      have st4 := st3.trans y4
      refine ⟨by decide, fun t5 h5 => ?_⟩
      obtain ⟨y5, z5, v5⟩ := mkT (K := K) h0 (Dom.of_step st4) z4 .nil h5
      have st5 := st4.trans y5
      refine ⟨by decide, fun t6 h6 => ?_⟩
      obtain ⟨y6, z6, v6⟩ := mkT (K := K) h0 (Dom.of_step st5) z5 (.cons (.str "a") (.cons v5 .nil)) h6
      have st6 := st5.trans y6
      refine ⟨by decide, fun t7 h7 => ?_⟩
      obtain ⟨y7, z7, v7⟩ := mkT (K := K) h0 (Dom.of_step st6) z6 (.cons (.str "a") .nil) h7
      have st7 := st6.trans y7
      refine ⟨by decide, fun t8 h8 => ?_⟩
      obtain ⟨y8, z8, v8⟩ := mkT (K := K) h0 (Dom.of_step st7) z7 .nil h8
      have st8 := st7.trans y8
      refine ⟨by decide, fun t9 h9 => ?_⟩
      obtain ⟨y9, z9, v9⟩ := mkT (K := K) h0 (Dom.of_step st8) z8 (.cons (.str "a") (.cons v8 .nil)) h9
      have st9 := st8.trans y9
      refine ⟨by decide, fun t10 h10 => ?_⟩
      obtain ⟨y10, z10, v10⟩ := mkT (K := K) h0 (Dom.of_step st9) z9 (.cons v9 (.cons .non .nil)) h10
      have st10 := st9.trans y10
      refine ⟨by decide, fun t11 h11 => ?_⟩
      obtain ⟨y11, z11, v11⟩ := mkT (K := K) h0 (Dom.of_step st10) z10 .nil h11
      have st11 := st10.trans y11
      refine ⟨by decide, fun t12 h12 => ?_⟩
      obtain ⟨y12, z12, v12⟩ := mkT (K := K) h0 (Dom.of_step st11) z11 (.cons v11 .nil) h12
      have st12 := st11.trans y12
      refine ⟨by decide, fun D hD => ?_⟩
      obtain ⟨yD, zD, vD⟩ := mkL (K := K) (ds := W14) h0 (Dom.of_step st12) z12 (.cons .non (.cons (.int _) (.cons (.int _) (.cons (.bl _) (.cons (.bl _) (.cons (.str _) (.cons (.str _) (.cons (((((((((((v1.step y2 h0).step y3 h0).step y4 h0).step y5 h0).step y6 h0).step y7 h0).step y8 h0).step y9 h0).step y10 h0).step y11 h0).step y12 h0) (.cons ((((((((v4.step y5 h0).step y6 h0).step y7 h0).step y8 h0).step y9 h0).step y10 h0).step y11 h0).step y12 h0) (.cons ((((((v6.step y7 h0).step y8 h0).step y9 h0).step y10 h0).step y11 h0).step y12 h0) (.cons (((((v7.step y8 h0).step y9 h0).step y10 h0).step y11 h0).step y12 h0) (.cons ((v10.step y11 h0).step y12 h0) (.cons v12 (.cons (.int _) .nil)))))))))))))) hD
      refine draw_go' zD (by decide) (by decide) (by omega) fun d H5 hd s5 b5 => ?_
      have n5 := vD.step s5 h0
      obtain ⟨aa, xs, e, e5, n6⟩ := Nw.atL n5
      cases e
      have hd14 : d < 14 := by omega
      obtain ⟨v, dd, g1, g2, g3⟩ := NwAll.get (i := d) n6 (by show d < 14; exact hd14)
      have c := w14 ⟨d, hd14⟩
      have e14 : W14.getD d .none = dd := by rw [List.getD_eq_getElem?_getD, g2]; rfl
      rw [show (⟨d, hd14⟩ : Fin 14).val = d from rfl, e14] at c
      simp only [Bool.and_eq_true, decide_eq_true_eq, Bool.not_eq_true'] at c
      obtain ⟨⟨⟨c1, c2⟩, c3⟩, c4⟩ := c
      exact ⟨_, d, rfl, SqL.of e5, v, atI_nat g1, q v dd H5 ((st12.trans yD).trans s5) (Nw.dp _ _ g3) c1 (sml_of _ c2) (by omega) (by omega)⟩
    refine draw_go' hb (by decide) (by decide) (by omega) fun d0 H1 hd0 s1 b1 => ⟨rfl, ite2 (fun ed0 => ?_) (fun ed0 => ?_)⟩
    · skip
      have h0 : H b ≠ none := hb.dom
      have st0 := s1
      have z0 := b1
      refine ⟨by decide, fun t1 h1 => ?_⟩
      obtain ⟨y1, z1, v1⟩ := mkL (K := K) h0 (Dom.of_step st0) z0 .nil h1
      have st1 := st0.trans y1
      refine ⟨by decide, fun t2 h2 => ?_⟩
      obtain ⟨y2, z2, v2⟩ := mkT (K := K) h0 (Dom.of_step st1) z1 .nil h2
      have st2 := st1.trans y2
      refine ⟨by decide, fun t3 h3 => ?_⟩
      obtain ⟨y3, z3, v3⟩ := mkT (K := K) h0 (Dom.of_step st2) z2 (.cons (.str "a") (.cons v2 .nil)) h3
      have st3 := st2.trans y3
      refine ⟨by decide, fun t4 h4 => ?_⟩
      obtain ⟨y4, z4, v4⟩ := mkL (K := K) h0 (Dom.of_step st3) z3 (.cons v3 .nil) h4
      have st4 := st3.trans y4
      refine ⟨by decide, fun t5 h5 => ?_⟩
      obtain ⟨y5, z5, v5⟩ := mkT (K := K) h0 (Dom.of_step st4) z4 .nil h5
      have st5 := st4.trans y5
      refine ⟨by decide, fun t6 h6 => ?_⟩
      obtain ⟨y6, z6, v6⟩ := mkT (K := K) h0 (Dom.of_step st5) z5 (.cons (.str "a") (.cons v5 .nil)) h6
      have st6 := st5.trans y6
      refine ⟨by decide, fun t7 h7 => ?_⟩
      obtain ⟨y7, z7, v7⟩ := mkT (K := K) h0 (Dom.of_step st6) z6 (.cons (.str "a") .nil) h7
      have st7 := st6.trans y7
      refine ⟨by decide, fun t8 h8 => ?_⟩
      obtain ⟨y8, z8, v8⟩ := mkT (K := K) h0 (Dom.of_step st7) z7 .nil h8
      have st8 := st7.trans y8
      refine ⟨by decide, fun t9 h9 => ?_⟩
      obtain ⟨y9, z9, v9⟩ := mkT (K := K) h0 (Dom.of_step st8) z8 (.cons (.str "a") (.cons v8 .nil)) h9
      have st9 := st8.trans y9
      refine ⟨by decide, fun t10 h10 => ?_⟩
      obtain ⟨y10, z10, v10⟩ := mkT (K := K) h0 (Dom.of_step st9) z9 (.cons v9 (.cons .non .nil)) h10
      have st10 := st9.trans y10
      refine ⟨by decide, fun t11 h11 => ?_⟩
      obtain ⟨y11, z11, v11⟩ := mkT (K := K) h0 (Dom.of_step st10) z10 .nil h11
      have st11 := st10.trans y11
      refine ⟨by decide, fun t12 h12 => ?_⟩
      obtain ⟨y12, z12, v12⟩ := mkT (K := K) h0 (Dom.of_step st11) z11 (.cons v11 .nil) h12
      have st12 := st11.trans y12
      refine ⟨by decide, fun D hD => ?_⟩
      obtain ⟨yD, zD, vD⟩ := mkL (K := K) (ds := W14) h0 (Dom.of_step st12) z12 (.cons .non (.cons (.int _) (.cons (.int _) (.cons (.bl _) (.cons (.bl _) (.cons (.str _) (.cons (.str _) (.cons (((((((((((v1.step y2 h0).step y3 h0).step y4 h0).step y5 h0).step y6 h0).step y7 h0).step y8 h0).step y9 h0).step y10 h0).step y11 h0).step y12 h0) (.cons ((((((((v4.step y5 h0).step y6 h0).step y7 h0).step y8 h0).step y9 h0).step y10 h0).step y11 h0).step y12 h0) (.cons ((((((v6.step y7 h0).step y8 h0).step y9 h0).step y10 h0).step y11 h0).step y12 h0) (.cons (((((v7.step y8 h0).step y9 h0).step y10 h0).step y11 h0).step y12 h0) (.cons ((v10.step y11 h0).step y12 h0) (.cons v12 (.cons (.int _) .nil)))))))))))))) hD
      refine draw_go' zD (by decide) (by decide) (by omega) fun d H5 hd s5 b5 => ?_
      have n5 := vD.step s5 h0
      obtain ⟨aa, xs, e, e5, n6⟩ := Nw.atL n5
      cases e
      have hd14 : d < 14 := by omega
      obtain ⟨v, dd, g1, g2, g3⟩ := NwAll.get (i := d) n6 (by show d < 14; exact hd14)
      have c := w14 ⟨d, hd14⟩
      have e14 : W14.getD d .none = dd := by rw [List.getD_eq_getElem?_getD, g2]; rfl
      rw [show (⟨d, hd14⟩ : Fin 14).val = d from rfl, e14] at c
      simp only [Bool.and_eq_true, decide_eq_true_eq, Bool.not_eq_true'] at c
      obtain ⟨⟨⟨c1, c2⟩, c3⟩, c4⟩ := c
      exact ⟨_, d, rfl, SqL.of e5, v, atI_nat g1, q v dd H5 ((st12.trans yD).trans s5) (Nw.dp _ _ g3) c1 (sml_of _ c2) (by omega) (by omega)⟩
    · refine draw_go' b1 (by omega) (by omega) (by omega) fun sp H2 hsp s2 b2 => ⟨by omega, by omega, fun D hD => ?_⟩
      rw [show ((n : Int) + 1).toNat = n + 1 by omega]
      refine rows_lc (K := K) hD (by omega) (fun _ => rfl) fun rs H0 s0 F R0 fr => ⟨by decide, by decide, by omega, by omega, ?_⟩
      have hsn : sp < n := by omega
      have bD : b ≠ D := box_ne b2 hD
      have br : b ∉ rs := fun z => b2.dom (fr b z)
      have b3 : BoxAt H0 b (m + 2) := by
        obtain ⟨x1, y1, z1, e, v⟩ := b2
        exact ⟨x1, y1, z1, s0 _ _ e, v⟩
      have h0 : H0 b ≠ none := b3.dom
      have s3 : Step b H H0 := (s1.trans s2).trans (Step.of_same s0)
      refine ForB.rng (fun i σ H' => ∃ (s7 s8 s9 : Option V) (Ds : Nat → List PyData), σ = [some (.ref b), some (.ref a), some (.ref c), some (.int (n : Int)), none, some (.int (sp : Int)), some (.ref D), s7, s8, s9] ∧ RowsAt K H0 H' D rs n Ds ∧ BadI p n sp (n - i) i Ds ∧ Dom H0 H' ∧ BoxAt H' b (m + 2 + 10 * i) ∧ Step b H H') ?_ ?_ ?_
      · exact ⟨_, _, _, _, rfl, R0, BadI.start hsn, (fun _ h => h), b3, s3⟩
      · rintro i σ H3 hi ⟨s7, s8, s9, Ds, rfl, g1, g2, g3, g4, g5⟩
        have hi' : i < n := by omega
        walk_at "vc"
        have e0 : (0 : Int) + ((((n : Nat) : Int) - 0).toNat : Nat) - 1 + (i : Nat) * (-1) = ((n - (i + 1) : Nat) : Int) := by omega
        rw [e0]
        have hj : n - (i + 1) < n := by omega
        have ej : n - (i + 1) + 1 = n - i := by omega
        have hlo := g.pre.lo _ hj
        have hhi := g.pre.hi _ hj
        rw [← ej] at g2
        generalize n - (i + 1) = j at hj ej hlo hhi g2
        obtain ⟨q', r, hr1, hr2, hr3⟩ := par_row g1.len hlo (show p j < (n : Int) by omega)
        obtain ⟨vs, v1, v2⟩ := g1.row q' r hr2
        have hjr : rs[j]? = some (rs[j]'(by have := g1.len; omega)) := List.getElem?_eq_getElem _
        obtain ⟨ks, k1, k2⟩ := g1.row j _ hjr
        have wa := SqL.step hw.1 g5 ab
        have wc := SqL.step hw.2 g5 cb
        refine ⟨_, wc, _, atI_nat (range_get hj), _, p j, rfl, SqL.of g1.top, _, hr1, _, wa, _, atI_nat (range_get hj), _, SqL.of g1.top, _, atI_nat (by rw [List.getElem?_map, hjr]; rfl), _, rfl, _, .inl ⟨SqL.of k1, fun t1 h1 => ⟨by decide, fun t2 h2 => ?_⟩⟩⟩
        have s4 : Same H3 (upd (upd H3 t1 (.tup ks)) t2 (.tup [.str (x j), .ref t1])) := (Same.new h1).trans (Same.new h2)
        have ot1 : H0 t1 = none := g3.fresh h1
        have ot2 : H0 t2 = none := g3.fresh (fresh_of (Same.new h1) h2)
        have n12 : t1 ≠ t2 := none_ne upd_same h2
        have nt1 : Nw K H0 (upd (upd H3 t1 (.tup ks)) t2 (.tup [.str (x j), .ref t1])) (.ref t1) (.tuple (Ds j)) := .tup ot1 (by rw [upd_ne n12]; exact upd_same) (NwAll.imp (fun a _ o e => s4 _ _ e) _ _ k2)
        have nt : Nw K H0 (upd (upd H3 t1 (.tup ks)) t2 (.tup [.str (x j), .ref t1])) (.ref t2) (.tuple [.str (x j), .tuple (Ds j)]) := .tup ot2 upd_same (.cons (.str _) (.cons nt1 .nil))
        generalize upd (upd H3 t1 (.tup ks)) t2 (.tup [.str (x j), .ref t1]) = H4 at s4 nt nt1
        have g1' := g1.step (Step.of_same s4) h0 (Ne.symm bD) br
        have g3' : Dom H0 H4 := g3.trans (Dom.same s4)
        have g4' : BoxAt H4 b (m + 2 + 10 * i) := by
          obtain ⟨x1, y1, z1, e, v⟩ := g4
          exact ⟨x1, y1, z1, s4 _ _ e, v⟩
        have g5' : Step b H H4 := g5.trans (Step.of_same s4)
        obtain ⟨m1, m2, m3⟩ := g2.sml j (.inl (by omega))
        refine ⟨rfl, ite2 (fun es => ?_) (fun es => ?_)⟩
        · obtain rfl : j = sp := by omega
          obtain ⟨ks2, k3, k4⟩ := g1'.row j _ hjr
          refine ⟨_, SqL.same wa s4, _, atI_nat (range_get hj), _, SqL.of g1'.top, _, atI_nat (by rw [List.getElem?_map, hjr]; rfl), _, rfl, _, .inl ⟨SqL.of k3, fun t3 h3 => ?_⟩⟩
          have nt3 : Nw K H0 (upd H4 t3 (.tup ks2)) (.ref t3) (.tuple (Ds j)) := .tup (g3'.fresh h3) upd_same (NwAll.imp (fun a _ o e => Same.new h3 _ _ e) _ _ k4)
          refine ⟨b, m + 2 + 10 * i, H0, x j, .ref t3, Ds j, rfl, g4'.new h3, by omega, h0, g3'.upd, (g.wd j hj).len, nt3, m1, by omega, g2.wd (by omega) j (.inl (by omega)), fun tv td H5 nv f5 f1 f2 f3 s6 b5 => ?_⟩
          have s5 : Step b H4 H5 := (Step.new h3).trans s6
          have f4 : j < j → wordD td = false := fun z => absurd z (Nat.lt_irrefl _)
          have f5 : j = j ∨ forAll (Ds j) = false → treD td = false := fun _ => f5
          have g6 := g1'.step s5 h0 (Ne.symm bD) br
          obtain ⟨vs5, u1, u2⟩ := g6.row q' r hr2
          have rb : r ≠ b := fun z => br (z ▸ List.mem_of_getElem? hr2)
          have rH : H r = none := by
            have := fr r (List.mem_of_getElem? hr2)
            exact (s1.trans s2).fresh this
          have l5 : vs5.length ≤ 12 := by
            rw [NwAll.len u2]
            have := (g2.sml q' (by omega)).2.1
            omega
          refine ⟨.inl ⟨rfl, _, SqL.of u1⟩, r, rfl, vs5, 0, _, ⟨rfl, rfl⟩, u1, by omega, by decide, by decide, _, _, _, ⟨rfl, rfl, rfl⟩, _, RowsAt.put F g6 hr2 (fun _ _ h => h) (.cons nv u2), g2.next g hj hr3 f1 f2 f3 f4 f5, (g3'.tr s5).upd, ?_, ((g5'.trans s5).mut rH)⟩
          obtain ⟨x1, y1, z1, e, v⟩ := b5
          exact ⟨x1, y1, z1, by rw [upd_ne (Ne.symm rb)]; exact e, v.mono (by omega)⟩
        · have es : j ≠ sp := fun z => es (by rw [z])
          have nv := nt
          have s5 : Step b H4 H4 := Step.refl
          have b5 := g4'
          have f1 : Sml (.tuple [.str (x j), .tuple (Ds j)]) := ⟨by simp, Nat.le_trans (g.wd j hj).len (by decide), ⟨by omega, m1⟩, trivial⟩
          have f2 : dep (.tuple [.str (x j), .tuple (Ds j)]) ≤ depAll (Ds j) + 3 := by simp only [dep, depAll]; omega
          have f3 : szD (.tuple [.str (x j), .tuple (Ds j)]) ≤ szAll (Ds j) + 10 := by simp only [szD, szAll]; omega
          have f4 : sp < j → wordD (.tuple [.str (x j), .tuple (Ds j)]) = false := fun _ => rfl
          have f5 : j = sp ∨ forAll (Ds j) = false → treD (.tuple [.str (x j), .tuple (Ds j)]) = false := fun z => by
            rcases z with z | z
            · exact absurd z es
            · simp [treD, forD, z]
          have g6 := g1'.step s5 h0 (Ne.symm bD) br
          obtain ⟨vs5, u1, u2⟩ := g6.row q' r hr2
          have rb : r ≠ b := fun z => br (z ▸ List.mem_of_getElem? hr2)
          have rH : H r = none := by
            have := fr r (List.mem_of_getElem? hr2)
            exact (s1.trans s2).fresh this
          have l5 : vs5.length ≤ 12 := by
            rw [NwAll.len u2]
            have := (g2.sml q' (by omega)).2.1
            omega
          refine ⟨.inl ⟨rfl, _, SqL.of u1⟩, r, rfl, vs5, 0, _, ⟨rfl, rfl⟩, u1, by omega, by decide, by decide, _, _, _, ⟨rfl, rfl, rfl⟩, _, RowsAt.put F g6 hr2 (fun _ _ h => h) (.cons nv u2), g2.next g hj hr3 f1 f2 f3 f4 f5, (g3'.tr s5).upd, ?_, ((g5'.trans s5).mut rH)⟩
          obtain ⟨x1, y1, z1, e, v⟩ := b5
          exact ⟨x1, y1, z1, by rw [upd_ne (Ne.symm rb)]; exact e, v.mono (by omega)⟩
      · rintro σ H3 ⟨s7, s8, s9, Ds, rfl, g1, g2, g3, g4, g5⟩
        rw [show n - ((n : Int) - 0).toNat = 0 by omega] at g2
        have hnr : rs[n]? = some (rs[n]'(by have := g1.len; omega)) := List.getElem?_eq_getElem _
        obtain ⟨ks, k1, k2⟩ := g1.row n _ hnr
        walk_at "vc"
        refine ⟨_, SqL.of g1.top, _, atI_nat (by rw [List.getElem?_map, hnr]; rfl), _, rfl, _, .inl ⟨SqL.of k1, fun t ht => ?_⟩⟩
        obtain ⟨f1, f2, f3⟩ := g2.sml n (.inr rfl)
        have f4 : forAll (Ds n) = false := by
          obtain ⟨q, q1, q2⟩ := g2.bad (Nat.zero_le _)
          rcases q1 with q1 | q1
          · omega
          · rw [← q1]; exact q2
        have f5 := g2.tot
        have lvn : lev p n n = 0 := by unfold lev; rw [if_pos rfl]
        rw [lvn] at f3
        simp only [sumTo] at f5
        refine q _ (.tuple (Ds n)) _ (g5.trans (Step.new ht)) (.tup (SqT.of upd_same) (DpAll.same (Same.new ht) _ _ (NwAll.dp _ _ k2))) f4 ⟨by omega, f1⟩ (by simp only [szD]; omega) (by simp only [dep]; omega)
/-! ### another forest -/
def sp_other (K : PySem.W.Frag) : Sp := fun vs H Q _ => ∃ (b : Addr) (m : Nat) (a c : Addr) (p : Nat → Int) (n : Nat) (x : Nat → Str), vs = [.ref b, .ref a, .ref c] ∧ BoxAt H b m ∧ m ≤ 600000000 ∧ WL H a c p n x ∧ a ≠ b ∧ c ≠ b ∧ Good p n x ∧ n ≤ 12 ∧
  ∀ t a c p n x H', Good p n x → n ≤ 12 → H t = none → H' t = some (.tup [.ref a, .ref c]) → WL H' a c p n x → Step b H H' → Q (.ref t) H'
theorem ok_l_other (A : All K mg) : FnOk P w K mg base CX0 5 A.l_other.f A.l_other.fd ["box", "words", "parents"] (sp_other K) := by
  have G_l_draw := ok_l_draw (P := P) (w := w) (base := base) A
  have G_l_drawn := ok_l_drawn (P := P) (w := w) (base := base) A
  have G_l_word := ok_l_word (P := P) (w := w) (base := base) A
  have G_l_parents := ok_l_parents (P := P) (w := w) (base := base) A
  refine A.l_other.F.ok sc_l_other (fun vs H Q E h => ?_) (fun cdv B outer s H vs Q E hr h => ?_)
  · obtain ⟨b, m, a, c, p, n, x, rfl, _⟩ := h
    rfl
  · obtain ⟨b, m, a, c, p, n, x, rfl, hb, hm, hw, ab, cb, g, hn, q⟩ := h
    refine ⟨_, (pss_cons (ps_set (i := 3) sc_l_other.nd rfl (by first | exact Or.inl rfl | exact Or.inr rfl) (pe_call G_l_draw (hr.mono (by decide)) rfl A.l_draw.m A.l_draw.kp A.l_draw.b .nil pass0 (pa_cons (pv 0) (pa_cons pe_int pa_nil)))) (pss_cons (ps_if (PW.pt (pw_or (pt_cmpR op_eq (pv 3) pe_int (nomark _)) (pw_or1 (pt_cmpR op_eq (pv 3) pe_int (nomark _))))) (pss_one (ps_ret (pe_call G_l_drawn (hr.mono (by decide)) rfl A.l_drawn.m A.l_drawn.kp A.l_drawn.b .nil pass0 (pa_cons (pv 0) pa_nil)))) pss_nil) (pss_cons (ps_set (i := 4) sc_l_other.nd rfl (by first | exact Or.inl rfl | exact Or.inr rfl) (pe_callTy call_list_of (by rfl) A.n_list (by decide +kernel) (pa_cons (pv 1) pa_nil))) (pss_cons (ps_set (i := 5) sc_l_other.nd rfl (by first | exact Or.inl rfl | exact Or.inr rfl) (pe_callTy call_list_of (by rfl) A.n_list (by decide +kernel) (pa_cons (pv 2) pa_nil))) (pss_cons (ps_if (pt_cmpR op_eq (pv 3) pe_int (nomark _)) (pss_one (ps_setLc (i := 4) (own := [("k", 6)]) (g := gName 6) rfl sc_l_other.nd rfl rfl (sw_true rfl rfl rfl (by decide +kernel)) (pi_range1 rfl A.n_range (pa_cons (pe_callB (r := fun xs H Q => ∃ x n, xs = [x] ∧ LenV K x H n ∧ Q (V.int n) H) call_len (by rfl) A.n_len PySem.boot_len (pa_cons (pv 1) pa_nil)) pa_nil)) (blkOk_by (own := [("k", 6)]) (N := ["box", "words", "parents", "mode", "row", "shape", "k"]) (sc := defScope s_l_other) (by decide +kernel)) (fun _ _ _ _ _ => pg_name (i := 6) sc_l_other.nd rfl (Or.inl rfl)) (fun _ _ _ _ _ => pts_nil) (fun _ _ _ _ _ => (pe_call G_l_word (hr.mono (by decide)) rfl A.l_word.m A.l_word.kp A.l_word.b .nil pass0 (pa_cons (pv 0) pa_nil))))) pss_nil) (pss_cons (ps_if (PW.pt (pw_and (pt_cmpR op_eq (pv 3) pe_int (nomark _)) (pw_and1 (pt_cmpR op_gt (pe_callB (r := fun xs H Q => ∃ x n, xs = [x] ∧ LenV K x H n ∧ Q (V.int n) H) call_len (by rfl) A.n_len PySem.boot_len (pa_cons (pv 1) pa_nil)) pe_int (nomark _))))) (pss_one (ps_asg (pe_call G_l_word (hr.mono (by decide)) rfl A.l_word.m A.l_word.kp A.l_word.b .nil pass0 (pa_cons (pv 0) pa_nil)) (pg_sub (pv 4) (pe_call G_l_draw (hr.mono (by decide)) rfl A.l_draw.m A.l_draw.kp A.l_draw.b .nil pass0 (pa_cons (pv 0) (pa_cons (pe_callB (r := fun xs H Q => ∃ x n, xs = [x] ∧ LenV K x H n ∧ Q (V.int n) H) call_len (by rfl) A.n_len PySem.boot_len (pa_cons (pv 1) pa_nil)) pa_nil))) set_list))) pss_nil) (pss_cons (ps_if (pt_cmpR op_eq (pv 3) pe_int (nomark _)) (pss_one (ps_set (i := 5) sc_l_other.nd rfl (by first | exact Or.inl rfl | exact Or.inr rfl) (pe_call G_l_parents (hr.mono (by decide)) rfl A.l_parents.m A.l_parents.kp A.l_parents.b .nil pass0 (pa_cons (pv 0) (pa_cons (pe_callB (r := fun xs H Q => ∃ x n, xs = [x] ∧ LenV K x H n ∧ Q (V.int n) H) call_len (by rfl) A.n_len PySem.boot_len (pa_cons (pv 1) pa_nil)) pa_nil))))) pss_nil) (pss_one (ps_ret (pe_tup (pa_cons (pv 4) (pa_cons (pv 5) pa_nil)))))))))))), ?_⟩
    walk_at "vc"
    have big : (2000 : Nat) < sizeLine := by decide
    refine draw_go' hb (by omega) (by omega) (by omega) fun md H1 hmd s1 b1 => ?_
    have drawn : sp_drawn K [.ref b] H1 Q E0 := drawn_go b1 (by omega) fun t a c p n x H2 h1 h2 h3 _ _ h4 h5 s2 _ => q t a c p n x H2 h1 h2 (s1.fresh h3) h4 h5 (s1.trans s2)
    have w1 : WL H1 a c p n x := ⟨s1.keep _ _ ab hw.1, s1.keep _ _ cb hw.2⟩
    refine ⟨rfl, ite2 (fun _ => drawn) (fun m0 => ⟨rfl, ite2 (fun _ => drawn) (fun m1 => ?_)⟩)⟩
    refine ⟨_, .inl (SqL.of w1.1), fun R hR => ⟨_, .inl (SqL.of (Same.new hR _ _ w1.2)), fun S hS => ?_⟩⟩
    have RS : R ≠ S := none_ne upd_same hS
    have s2 : Same H1 (upd (upd H1 R (.lst ((List.range n).map fun k => .str (x k)))) S (.lst ((List.range n).map fun k => .int (p k)))) := (Same.new hR).trans (Same.new hS)
    have eR : (upd (upd H1 R (.lst ((List.range n).map fun k => .str (x k)))) S (.lst ((List.range n).map fun k => .int (p k)))) R = some (.lst ((List.range n).map fun k => .str (x k))) := by rw [upd_ne RS]; exact upd_same
    have eS : (upd (upd H1 R (.lst ((List.range n).map fun k => .str (x k)))) S (.lst ((List.range n).map fun k => .int (p k)))) S = some (.lst ((List.range n).map fun k => .int (p k))) := upd_same
    have w2 := w1.same s2
    have b2 : BoxAt (upd (upd H1 R (.lst ((List.range n).map fun k => .str (x k)))) S (.lst ((List.range n).map fun k => .int (p k)))) b (m + 1) := (b1.new hR).new hS
    have bR : R ≠ b := fun z => box_ne b1 hR z.symm
    have bS : S ≠ b := fun z => box_ne b1 (fresh_of (Same.new hR) hS) z.symm
    have hR0 : H R = none := s1.fresh hR
    generalize upd (upd H1 R (.lst ((List.range n).map fun k => .str (x k)))) S (.lst ((List.range n).map fun k => .int (p k))) = H2 at s2 eR eS w2 b2
    have st2 : Step b H H2 := s1.trans (Step.of_same s2)
    have fin : ∀ (H' : Hp) (R' S' : Addr) (p' : Nat → Int) (x' : Nat → Str), Good p' n x' → H' R' = some (.lst ((List.range n).map fun k => .str (x' k))) → H' S' = some (.lst ((List.range n).map fun k => .int (p' k))) → Step b H H' → 2 ≤ sizeLine ∧ ∀ t, H' t = none → Q (.ref t) (upd H' t (.tup [.ref R', .ref S'])) :=
      fun H' R' S' p' x' h1 h2 h3 h4 => ⟨by decide, fun t ht => q t R' S' p' n x' _ h1 hn (h4.fresh ht) upd_same ⟨Same.new ht _ _ h2, Same.new ht _ _ h3⟩ (h4.trans (Step.new ht))⟩
    refine ⟨rfl, ite2 (fun m3 => ?_) (fun m3 => ?_)⟩
    · have m3 := V.int.inj m3
      refine ⟨_, .inl ⟨_, SqL.of w2.1, lm.symm⟩, by omega, by omega, fun D hD => ?_⟩
      rw [Int.toNat_natCast]
      refine words_lc (k0 := 0) hD b2 (by omega) (by omega) rfl (by decide) (fun _ => rfl) fun x2 H3 hx e3 s3 b3 => ?_
      refine ⟨rfl, ite2 (fun m4 => ?_) (fun m4 => ⟨rfl, ite2 (fun m5 => ?_) (fun m5 => ?_)⟩)⟩
      · have := V.int.inj m4; omega
      · have := V.int.inj m5; omega
      · exact fin _ D S p x2 ⟨g.pre, g.le, g.low, hx⟩ e3 (s3.keep _ _ bS eS) (st2.trans s3)
    · refine ⟨rfl, ite2 (fun m4 => ?_) (fun m4 => ⟨rfl, ite2 (fun m5 => ?_) (fun m5 => ?_)⟩)⟩
      · have m4 := V.int.inj m4
        refine ⟨_, .inl ⟨_, SqL.of w2.1, lm.symm⟩, ite2 (fun n0 => ?_) (fun n0 => ⟨rfl, ite2 (fun m5 => ?_) (fun m5 => ?_)⟩)⟩
        · refine word_go b2 (by omega) fun y H3 hy s3 b3 => ?_
          refine ⟨_, .inl ⟨_, SqL.of (s3.keep _ _ ab w2.1), lm.symm⟩, ?_⟩
          refine draw_go' b3 (by omega) (by omega) (by omega) fun d H4 hd s4 b4 => ?_
          have e4 := s4.keep _ _ bR (s3.keep _ _ bR eR)
          have f4 := s4.keep _ _ bS (s3.keep _ _ bS eS)
          refine ⟨_, d, rfl, e4, d, ixN_at (by rw [lm]; omega), rfl, ite2 (fun m5 => ?_) (fun m5 => ?_)⟩
          · have := V.int.inj m5; omega
          · refine fin _ R S p (fun k => if k = d then y else x k) ⟨g.pre, g.le, g.low, fun k hk => ?_⟩ ?_ (by rw [upd_ne (Ne.symm RS)]; exact f4) (((st2.trans s3).trans s4).mut hR0)
            · show IsW (if k = d then y else x k)
              split
              · exact hy
              · exact g.wd k hk
            · rw [upd_same]
              congr 2
              exact set_map (congrArg V.str (if_pos rfl)) fun k hk ne => congrArg V.str (if_neg ne)
        · have := V.int.inj m5; omega
        · exact fin _ R S p x g eR eS st2
      · refine ⟨_, .inl ⟨_, SqL.of w2.1, lm.symm⟩, ?_⟩
        refine ⟨b, m + 1, n, rfl, b2, by omega, by omega, fun F p2 H3 hF hp2 h7 e3 s3 b3 => ?_⟩
        exact fin _ R F p2 x ⟨hp2, g.le, h7, g.wd⟩ (s3.keep _ _ bR eR) e3 (st2.trans s3)
      · exact fin _ R S p x g eR eS st2
end
end Ly
namespace Ly
open PySem PySem.Spec PyProof.Rows L2
open GxR (TabG Tabbed)
local macro_rules | `(tactic| walk_at "vc") => `(tactic| simp only [tSeq, tAsg, tOp, tVar, tC, tRet, tRetN, tNext, tIfS, tIf, tDrop, tB, tTest, tNot, tAnd, tOr, tAndV, tOrV, tNotV, tChain, tUn, tCB, tCons, tNil, tTup, tLst, tSl, tPart, tNoPart, tCall, tBreak, tCont,
  rI, rI0, rU, gName, gNil_nil, gCons_cons, gSub, rSetL, L2.start, cx_K, cx_nox, tLc_eq, tFor_eq, iRng1, iRng2, iList, iTup, tM1, tYes, wipe, rIxS, rIxL, rIxT, rCat, rSlL, rEq, rNe, rPop, rAppend, tBM, tBM0, tMkO_eq, tVal_eq, tFldE_eq, tXfE_eq, tCallS, lenV_ref, iRevR, tRg1, RT.iRevA, RZ.iZipA, tDGet, sDPut, tDNewK, tAugS, ipI, tMaxD, tCallK0, rRep, rExtend, CDiv, CDivW, CPow, CMulX,
  List.map_cons, List.map_nil, List.cons_append, List.nil_append, List.append_nil, List.length_cons, List.length_nil, List.replicate, List.getElem?_cons_zero, List.getElem?_cons_succ, List.set_cons_zero, List.set_cons_succ, Nat.reduceSub, Nat.reduceAdd,
  Option.some.injEq, V.int.injEq, V.bl.injEq, V.str.injEq, V.ref.injEq, exists_eq_left', exists_eq_left, exists_and_left, reduceCtorEq, false_and, and_false, exists_false, or_false, false_or, Bool.false_eq_true, if_false, if_true, reduceIte, decide_eq_true_eq, List.cons.injEq, and_true, true_and])
section
variable {P : Program} {w : World} {K : PySem.W.Frag} {mg : Str → Option Value} {base : Heap} {T : Addr}
/-- what is due -/
def kD (k : Nat) (p : Nat → Int) (n : Nat) (x : Nat → Str) (p' : Nat → Int) (n' : Nat) (x' : Nat → Str) : PyData :=
  match k with
  | 0 => .int (n : Nat)
  | 1 => .int (dptI p n)
  | 2 => .tuple ((List.range n).map fun k => .str (x k))
  | 3 => .tuple ((List.range n).map fun k => .str (x (inv p n k)))
  | 4 => miD p n x
  | 5 => .tuple ((kids p n (-1)).map (tr p n x) ++ (kids p' n' (-1)).map (tr p' n' x'))
  | _ => .bool (PySem.W.dataLt (rkD p n x) (rkD p' n' x'))
def sp_asked (K : PySem.W.Frag) (T : Addr) : Sp := fun vs H Q _ => ∃ (k : Nat) (v u : V) (d e : PyData), k < 7 ∧ vs = [.int (k : Int), v, u] ∧ Dp K H v d ∧ Dp K H u e ∧ Sml d ∧ Sml e ∧ szD d ≤ 5000 ∧ szD e ≤ 5000 ∧ TabG H T ∧
  ((∃ p n x p' n' x', Good p n x ∧ Good p' n' x' ∧ d = foD p n x ∧ e = foD p' n' x' ∧ ∀ r H', Up T H H' → Dp K H' r (.tuple [.str "told", kD k p n x p' n' x']) → Q r H') ∨
   (forD d = false ∧ ∀ r H', Up T H H' → Dp K H' r (.tuple [.str "refused", d]) → Q r H') ∨
   (∃ p n x, Good p n x ∧ d = foD p n x ∧ 5 ≤ k ∧ forD e = false ∧ ∀ r H', Up T H H' → Dp K H' r (.tuple [.str "refused", e]) → Q r H'))
theorem dp2 {H : Hp} {t : Addr} {a b : V} {x y : PyData} (h : H t = some (.tup [a, b])) (h1 : Dp K H a x) (h2 : Dp K H b y) : Dp K H (.ref t) (.tuple [x, y]) := .tup (SqT.of h) (.cons h1 (.cons h2 .nil))
theorem ok_l_asked (A : All K mg) (TB : GxR.TabB base mg A.is_word.c T) (glob : base.Ns mainGlobals mg) : FnOk P w K mg base CX0 12 A.l_asked.f A.l_asked.fd ["which", "a", "b"] (sp_asked K T) := by
  have G_forest_below := ok_forest_below (P := P) (w := w) A TB glob
  have G_forest_size := ok_forest_size (P := P) (w := w) A TB glob
  have G_forest_depth := ok_forest_depth (P := P) (w := w) A TB glob
  have G_forest_words := ok_forest_words (P := P) (w := w) A TB glob
  have G_words_behind := ok_words_behind (P := P) (w := w) A TB glob
  have G_forest_turned := ok_forest_turned (P := P) (w := w) A TB glob
  have G_forest_joined := ok_forest_joined (P := P) (w := w) A TB glob
  refine A.l_asked.F.ok sc_l_asked (fun vs H Q E h => ?_) (fun cdv B outer s H vs Q E hr h => ?_)
  · obtain ⟨k, v, u, d, e, _, rfl, _⟩ := h
    rfl
  · obtain ⟨k, v, u, d, e, hk, rfl, hv, hu, sv, su, zv, zu, ht, h⟩ := h
    refine ⟨_, (pss_one (ps_try_manyA (Wout := fun _ _ _ _ => False) rfl rfl takes0 (fun W pn xe tk _ => (pss_cons (ps_if (pt_cmpR op_eq (pv 0) pe_int (nomark _)) (pss_one (ps_ret (pe_tup (pa_cons pe_str (pa_cons (pe_callS G_forest_size (hr.mono (by decide)) rfl A.forest_size.m A.forest_size.kp A.forest_size.b (fun σ => passAt tk σ) (pa_cons (pv 1) pa_nil)) pa_nil))))) pss_nil) (pss_cons (ps_if (pt_cmpR op_eq (pv 0) pe_int (nomark _)) (pss_one (ps_ret (pe_tup (pa_cons pe_str (pa_cons (pe_callS G_forest_depth (hr.mono (by decide)) rfl A.forest_depth.m A.forest_depth.kp A.forest_depth.b (fun σ => passAt tk σ) (pa_cons (pv 1) pa_nil)) pa_nil))))) pss_nil) (pss_cons (ps_if (pt_cmpR op_eq (pv 0) pe_int (nomark _)) (pss_one (ps_ret (pe_tup (pa_cons pe_str (pa_cons (pe_callS G_forest_words (hr.mono (by decide)) rfl A.forest_words.m A.forest_words.kp A.forest_words.b (fun σ => passAt tk σ) (pa_cons (pv 1) pa_nil)) pa_nil))))) pss_nil) (pss_cons (ps_if (pt_cmpR op_eq (pv 0) pe_int (nomark _)) (pss_one (ps_ret (pe_tup (pa_cons pe_str (pa_cons (pe_callS G_words_behind (hr.mono (by decide)) rfl A.words_behind.m A.words_behind.kp A.words_behind.b (fun σ => passAt tk σ) (pa_cons (pv 1) pa_nil)) pa_nil))))) pss_nil) (pss_cons (ps_if (pt_cmpR op_eq (pv 0) pe_int (nomark _)) (pss_one (ps_ret (pe_tup (pa_cons pe_str (pa_cons (pe_callS G_forest_turned (hr.mono (by decide)) rfl A.forest_turned.m A.forest_turned.kp A.forest_turned.b (fun σ => passAt tk σ) (pa_cons (pv 1) pa_nil)) pa_nil))))) pss_nil) (pss_cons (ps_if (pt_cmpR op_eq (pv 0) pe_int (nomark _)) (pss_one (ps_ret (pe_tup (pa_cons pe_str (pa_cons (pe_callS G_forest_joined (hr.mono (by decide)) rfl A.forest_joined.m A.forest_joined.kp A.forest_joined.b (fun σ => passAt tk σ) (pa_cons (pv 1) (pa_cons (pv 2) pa_nil))) pa_nil))))) pss_nil) (pss_one (ps_ret (pe_tup (pa_cons pe_str (pa_cons (pe_callS G_forest_below (hr.mono (by decide)) rfl A.forest_below.m A.forest_below.kp A.forest_below.b (fun σ => passAt tk σ) (pa_cons (pv 1) (pa_cons (pv 2) pa_nil))) pa_nil)))))))))))) (HdsA.consA (i := 3) sc_l_asked.nd rfl rfl ⟨by rfl, by decide, .inl A.c_InvalidForest.g⟩ (fun a oe cls d pn hz hf => (pss_one (ps_ret (pe_tup (pa_cons pe_str (pa_cons (pe_xfE hz hf (pv 3)) pa_nil)))))) HdsA.nil))), ?_⟩
    walk_at "vc"
    refine ⟨rfl, ite2 (fun c0 => ?_) (fun c0 => ?_)⟩
    · skip
      obtain rfl : k = 0 := by omega
      rcases h with ⟨p, n, x, p', n', x', g, g', rfl, rfl, q⟩ | ⟨hf, q⟩ | ⟨p, n, x, g, rfl, h5, hf, q⟩
      · exact ⟨rfl, [foD p n x], .cons hv .nil, ⟨sv, trivial⟩, by simp only [szAll]; omega, ht, .inl ⟨_, ⟨p, n, x, g, rfl, rfl⟩, fun r H' up dr => ⟨by decide, fun t ht' => q _ _ (up.trans (Up.new ht')) (dp2 upd_same (.str _) (Dp.up (Up.new ht') (up.tab ht) _ _ dr))⟩⟩⟩
      · refine ⟨rfl, [d], .cons hv .nil, ⟨sv, trivial⟩, by simp only [szAll]; omega, ht, .inr ⟨v, by rw [fb, hf]; rfl, fun dx H' up hdx => wA_yes (exm_self A.c_InvalidForest.e) fun a ha => ?_⟩⟩
        walk_at "vc"
        have up2 := up.trans (Up.new (o := .xd [("value", v)]) hdx)
        refine ⟨rfl, _, rfl, A.c_InvalidForest.xf, A.c_InvalidForest.nf.1, dx, _, v, rfl, upd_same, rfl, by decide, fun t ht' => ?_⟩
        exact q _ _ (up2.trans (Up.new ht')) (dp2 upd_same (.str _) (Dp.up (up2.trans (Up.new ht')) ht _ _ hv))
      · omega
    refine ⟨rfl, ite2 (fun c1 => ?_) (fun c1 => ?_)⟩
    · skip
      obtain rfl : k = 1 := by omega
      rcases h with ⟨p, n, x, p', n', x', g, g', rfl, rfl, q⟩ | ⟨hf, q⟩ | ⟨p, n, x, g, rfl, h5, hf, q⟩
      · exact ⟨rfl, [foD p n x], .cons hv .nil, ⟨sv, trivial⟩, by simp only [szAll]; omega, ht, .inl ⟨_, ⟨p, n, x, g, rfl, rfl⟩, fun r H' up dr => ⟨by decide, fun t ht' => q _ _ (up.trans (Up.new ht')) (dp2 upd_same (.str _) (Dp.up (Up.new ht') (up.tab ht) _ _ dr))⟩⟩⟩
      · refine ⟨rfl, [d], .cons hv .nil, ⟨sv, trivial⟩, by simp only [szAll]; omega, ht, .inr ⟨v, by rw [fb, hf]; rfl, fun dx H' up hdx => wA_yes (exm_self A.c_InvalidForest.e) fun a ha => ?_⟩⟩
        walk_at "vc"
        have up2 := up.trans (Up.new (o := .xd [("value", v)]) hdx)
        refine ⟨rfl, _, rfl, A.c_InvalidForest.xf, A.c_InvalidForest.nf.1, dx, _, v, rfl, upd_same, rfl, by decide, fun t ht' => ?_⟩
        exact q _ _ (up2.trans (Up.new ht')) (dp2 upd_same (.str _) (Dp.up (up2.trans (Up.new ht')) ht _ _ hv))
      · omega
    refine ⟨rfl, ite2 (fun c2 => ?_) (fun c2 => ?_)⟩
    · skip
      obtain rfl : k = 2 := by omega
      rcases h with ⟨p, n, x, p', n', x', g, g', rfl, rfl, q⟩ | ⟨hf, q⟩ | ⟨p, n, x, g, rfl, h5, hf, q⟩
      · exact ⟨rfl, [foD p n x], .cons hv .nil, ⟨sv, trivial⟩, by simp only [szAll]; omega, ht, .inl ⟨_, ⟨p, n, x, g, rfl, rfl⟩, fun r H' up dr => ⟨by decide, fun t ht' => q _ _ (up.trans (Up.new ht')) (dp2 upd_same (.str _) (Dp.up (Up.new ht') (up.tab ht) _ _ dr))⟩⟩⟩
      · refine ⟨rfl, [d], .cons hv .nil, ⟨sv, trivial⟩, by simp only [szAll]; omega, ht, .inr ⟨v, by rw [fb, hf]; rfl, fun dx H' up hdx => wA_yes (exm_self A.c_InvalidForest.e) fun a ha => ?_⟩⟩
        walk_at "vc"
        have up2 := up.trans (Up.new (o := .xd [("value", v)]) hdx)
        refine ⟨rfl, _, rfl, A.c_InvalidForest.xf, A.c_InvalidForest.nf.1, dx, _, v, rfl, upd_same, rfl, by decide, fun t ht' => ?_⟩
        exact q _ _ (up2.trans (Up.new ht')) (dp2 upd_same (.str _) (Dp.up (up2.trans (Up.new ht')) ht _ _ hv))
      · omega
    refine ⟨rfl, ite2 (fun c3 => ?_) (fun c3 => ?_)⟩
    · skip
      obtain rfl : k = 3 := by omega
      rcases h with ⟨p, n, x, p', n', x', g, g', rfl, rfl, q⟩ | ⟨hf, q⟩ | ⟨p, n, x, g, rfl, h5, hf, q⟩
      · exact ⟨rfl, [foD p n x], .cons hv .nil, ⟨sv, trivial⟩, by simp only [szAll]; omega, ht, .inl ⟨_, ⟨p, n, x, g, rfl, rfl⟩, fun r H' up dr => ⟨by decide, fun t ht' => q _ _ (up.trans (Up.new ht')) (dp2 upd_same (.str _) (Dp.up (Up.new ht') (up.tab ht) _ _ dr))⟩⟩⟩
      · refine ⟨rfl, [d], .cons hv .nil, ⟨sv, trivial⟩, by simp only [szAll]; omega, ht, .inr ⟨v, by rw [fb, hf]; rfl, fun dx H' up hdx => wA_yes (exm_self A.c_InvalidForest.e) fun a ha => ?_⟩⟩
        walk_at "vc"
        have up2 := up.trans (Up.new (o := .xd [("value", v)]) hdx)
        refine ⟨rfl, _, rfl, A.c_InvalidForest.xf, A.c_InvalidForest.nf.1, dx, _, v, rfl, upd_same, rfl, by decide, fun t ht' => ?_⟩
        exact q _ _ (up2.trans (Up.new ht')) (dp2 upd_same (.str _) (Dp.up (up2.trans (Up.new ht')) ht _ _ hv))
      · omega
    refine ⟨rfl, ite2 (fun c4 => ?_) (fun c4 => ?_)⟩
    · skip
      obtain rfl : k = 4 := by omega
      rcases h with ⟨p, n, x, p', n', x', g, g', rfl, rfl, q⟩ | ⟨hf, q⟩ | ⟨p, n, x, g, rfl, h5, hf, q⟩
      · exact ⟨rfl, [foD p n x], .cons hv .nil, ⟨sv, trivial⟩, by simp only [szAll]; omega, ht, .inl ⟨_, ⟨p, n, x, g, rfl, rfl⟩, fun r H' up dr => ⟨by decide, fun t ht' => q _ _ (up.trans (Up.new ht')) (dp2 upd_same (.str _) (Dp.up (Up.new ht') (up.tab ht) _ _ dr))⟩⟩⟩
      · refine ⟨rfl, [d], .cons hv .nil, ⟨sv, trivial⟩, by simp only [szAll]; omega, ht, .inr ⟨v, by rw [fb, hf]; rfl, fun dx H' up hdx => wA_yes (exm_self A.c_InvalidForest.e) fun a ha => ?_⟩⟩
        walk_at "vc"
        have up2 := up.trans (Up.new (o := .xd [("value", v)]) hdx)
        refine ⟨rfl, _, rfl, A.c_InvalidForest.xf, A.c_InvalidForest.nf.1, dx, _, v, rfl, upd_same, rfl, by decide, fun t ht' => ?_⟩
        exact q _ _ (up2.trans (Up.new ht')) (dp2 upd_same (.str _) (Dp.up (up2.trans (Up.new ht')) ht _ _ hv))
      · omega
    refine ⟨rfl, ite2 (fun c5 => ?_) (fun c5 => ?_)⟩
    · skip
      obtain rfl : k = 5 := by omega
      rcases h with ⟨p, n, x, p', n', x', g, g', rfl, rfl, q⟩ | ⟨hf, q⟩ | ⟨p, n, x, g, rfl, h5, hf, q⟩
      · exact ⟨rfl, [foD p n x, foD p' n' x'], .cons hv (.cons hu .nil), ⟨sv, su, trivial⟩, by simp only [szAll]; omega, ht, .inl ⟨_, ⟨p, n, x, p', n', x', g, g', rfl, rfl⟩, fun r H' up dr => ⟨by decide, fun t ht' => q _ _ (up.trans (Up.new ht')) (dp2 upd_same (.str _) (Dp.up (Up.new ht') (up.tab ht) _ _ dr))⟩⟩⟩
      · refine ⟨rfl, [d, e], .cons hv (.cons hu .nil), ⟨sv, su, trivial⟩, by simp only [szAll]; omega, ht, .inr ⟨v, by rw [fb, hf]; rfl, fun dx H' up hdx => wA_yes (exm_self A.c_InvalidForest.e) fun a ha => ?_⟩⟩
        walk_at "vc"
        have up2 := up.trans (Up.new (o := .xd [("value", v)]) hdx)
        refine ⟨rfl, _, rfl, A.c_InvalidForest.xf, A.c_InvalidForest.nf.1, dx, _, v, rfl, upd_same, rfl, by decide, fun t ht' => ?_⟩
        exact q _ _ (up2.trans (Up.new ht')) (dp2 upd_same (.str _) (Dp.up (up2.trans (Up.new ht')) ht _ _ hv))
      · refine ⟨rfl, [foD p n x, e], .cons hv (.cons hu .nil), ⟨sv, su, trivial⟩, by simp only [szAll]; omega, ht, .inr ⟨u, by rw [fb, if_pos g.forD, fb, hf]; rfl, fun dx H' up hdx => wA_yes (exm_self A.c_InvalidForest.e) fun a ha => ?_⟩⟩
        walk_at "vc"
        have up2 := up.trans (Up.new (o := .xd [("value", u)]) hdx)
        refine ⟨rfl, _, rfl, A.c_InvalidForest.xf, A.c_InvalidForest.nf.1, dx, _, u, rfl, upd_same, rfl, by decide, fun t ht' => ?_⟩
        exact q _ _ (up2.trans (Up.new ht')) (dp2 upd_same (.str _) (Dp.up (up2.trans (Up.new ht')) ht _ _ hu))
    obtain rfl : k = 6 := by omega
    rcases h with ⟨p, n, x, p', n', x', g, g', rfl, rfl, q⟩ | ⟨hf, q⟩ | ⟨p, n, x, g, rfl, h5, hf, q⟩
    · exact ⟨rfl, [foD p n x, foD p' n' x'], .cons hv (.cons hu .nil), ⟨sv, su, trivial⟩, by simp only [szAll]; omega, ht, .inl ⟨_, ⟨p, n, x, p', n', x', g, g', rfl, rfl⟩, fun r H' up dr => ⟨by decide, fun t ht' => q _ _ (up.trans (Up.new ht')) (dp2 upd_same (.str _) (Dp.up (Up.new ht') (up.tab ht) _ _ dr))⟩⟩⟩
    · refine ⟨rfl, [d, e], .cons hv (.cons hu .nil), ⟨sv, su, trivial⟩, by simp only [szAll]; omega, ht, .inr ⟨v, by rw [fb, hf]; rfl, fun dx H' up hdx => wA_yes (exm_self A.c_InvalidForest.e) fun a ha => ?_⟩⟩
      walk_at "vc"
      have up2 := up.trans (Up.new (o := .xd [("value", v)]) hdx)
      refine ⟨rfl, _, rfl, A.c_InvalidForest.xf, A.c_InvalidForest.nf.1, dx, _, v, rfl, upd_same, rfl, by decide, fun t ht' => ?_⟩
      exact q _ _ (up2.trans (Up.new ht')) (dp2 upd_same (.str _) (Dp.up (up2.trans (Up.new ht')) ht _ _ hv))
    · refine ⟨rfl, [foD p n x, e], .cons hv (.cons hu .nil), ⟨sv, su, trivial⟩, by simp only [szAll]; omega, ht, .inr ⟨u, by rw [fb, if_pos g.forD, fb, hf]; rfl, fun dx H' up hdx => wA_yes (exm_self A.c_InvalidForest.e) fun a ha => ?_⟩⟩
      walk_at "vc"
      have up2 := up.trans (Up.new (o := .xd [("value", u)]) hdx)
      refine ⟨rfl, _, rfl, A.c_InvalidForest.xf, A.c_InvalidForest.nf.1, dx, _, u, rfl, upd_same, rfl, by decide, fun t ht' => ?_⟩
      exact q _ _ (up2.trans (Up.new ht')) (dp2 upd_same (.str _) (Dp.up (up2.trans (Up.new ht')) ht _ _ hu))
end
end Ly
namespace Ly
open PySem PySem.Spec PyProof.Rows L2
open GxR (TabG Tabbed)
local macro_rules | `(tactic| walk_at "vc") => `(tactic| simp only [tSeq, tAsg, tOp, tVar, tC, tRet, tRetN, tNext, tIfS, tIf, tDrop, tB, tTest, tNot, tAnd, tOr, tAndV, tOrV, tNotV, tChain, tUn, tCB, tCons, tNil, tTup, tLst, tSl, tPart, tNoPart, tCall, tBreak, tCont,
  rI, rI0, rU, gName, gNil_nil, gCons_cons, gSub, rSetL, L2.start, cx_K, cx_nox, tLc_eq, tFor_eq, iRng1, iRng2, iList, iTup, tM1, tYes, wipe, rIxS, rIxL, rIxT, rCat, rSlL, rEq, rNe, rPop, rAppend, tBM, tBM0, tMkO_eq, tVal_eq, tFldE_eq, tXfE_eq, tCallS, lenV_ref, iRevR, tRg1, RT.iRevA, RZ.iZipA, tDGet, sDPut, tDNewK, tAugS, ipI, tMaxD, tCallK0, rRep, rExtend, CDiv, CDivW, CPow, CMulX,
  List.map_cons, List.map_nil, List.cons_append, List.nil_append, List.append_nil, List.length_cons, List.length_nil, List.replicate, List.getElem?_cons_zero, List.getElem?_cons_succ, List.set_cons_zero, List.set_cons_succ, Nat.reduceSub, Nat.reduceAdd,
  Option.some.injEq, V.int.injEq, V.bl.injEq, V.str.injEq, V.ref.injEq, exists_eq_left', exists_eq_left, exists_and_left, reduceCtorEq, false_and, and_false, exists_false, or_false, false_or, Bool.false_eq_true, if_false, if_true, reduceIte, decide_eq_true_eq, List.cons.injEq, and_true, true_and])
section
variable {P : Program} {w : World} {K : PySem.W.Frag} {mg : Str → Option Value} {base : Heap} {T : Addr}
def sp_by_name (K : PySem.W.Frag) (T : Addr) : Sp := fun vs H Q _ => ∃ (v u : V) (p : Nat → Int) (n : Nat) (x : Nat → Str) (p' : Nat → Int) (n' : Nat) (x' : Nat → Str), vs = [v, u] ∧ Good p n x ∧ Good p' n' x' ∧ Dp K H v (foD p n x) ∧ Dp K H u (foD p' n' x') ∧ TabG H T ∧
  ∀ r H', Up T H H' → Dp K H' r (.list [.bool true, kD 0 p n x p' n' x', kD 1 p n x p' n' x', kD 2 p n x p' n' x', kD 3 p n x p' n' x', kD 4 p n x p' n' x', kD 5 p n x p' n' x', kD 6 p n x p' n' x']) → Q r H'
theorem ok_l_by_name (A : All K mg) (TB : GxR.TabB base mg A.is_word.c T) (glob : base.Ns mainGlobals mg) : FnOk P w K mg base CX0 12 A.l_by_name.f A.l_by_name.fd ["a", "b"] (sp_by_name K T) := by
  have G_is_forest := ok_is_forest (P := P) (w := w) A TB glob
  have G_forest_size := ok_forest_size (P := P) (w := w) A TB glob
  have G_forest_depth := ok_forest_depth (P := P) (w := w) A TB glob
  have G_forest_words := ok_forest_words (P := P) (w := w) A TB glob
  have G_words_behind := ok_words_behind (P := P) (w := w) A TB glob
  have G_forest_turned := ok_forest_turned (P := P) (w := w) A TB glob
  have G_forest_joined := ok_forest_joined (P := P) (w := w) A TB glob
  have G_forest_below := ok_forest_below (P := P) (w := w) A TB glob
  refine A.l_by_name.F.ok sc_l_by_name (fun vs H Q E h => ?_) (fun cdv B outer s H vs Q E hr h => ?_)
  · obtain ⟨v, u, p, n, x, p', n', x', rfl, _⟩ := h
    rfl
  · obtain ⟨v, u, p, n, x, p', n', x', rfl, g, g', hv, hu, ht, q⟩ := h
    refine ⟨_, (pss_cons (ps_set (i := 2) sc_l_by_name.nd rfl (by first | exact Or.inl rfl | exact Or.inr rfl) (pe_lst (pa_cons (pe_callK0 (g := fun z => z) (gV := fun z => z) (ks := ["value"]) G_is_forest (hr.mono (by decide)) rfl A.is_forest.m A.is_forest.kp (A.is_forest.k0 (fun _ _ _ _ _ _ ws hl => match ws, hl with | [_], _ => rfl)) (fun r => r) pass0 (pk_cons (pv 0) pk_nil)) (pa_cons (pe_callK0 (g := fun z => z) (gV := fun z => z) (ks := ["a"]) G_forest_size (hr.mono (by decide)) rfl A.forest_size.m A.forest_size.kp (A.forest_size.k0 (fun _ _ _ _ _ _ ws hl => match ws, hl with | [_], _ => rfl)) (fun r => r) passL (pk_cons (pv 0) pk_nil)) (pa_cons (pe_callK0 (g := fun z => z) (gV := fun z => z) (ks := ["a"]) G_forest_depth (hr.mono (by decide)) rfl A.forest_depth.m A.forest_depth.kp (A.forest_depth.k0 (fun _ _ _ _ _ _ ws hl => match ws, hl with | [_], _ => rfl)) (fun r => r) passL (pk_cons (pv 0) pk_nil)) (pa_cons (pe_callK0 (g := fun z => z) (gV := fun z => z) (ks := ["a"]) G_forest_words (hr.mono (by decide)) rfl A.forest_words.m A.forest_words.kp (A.forest_words.k0 (fun _ _ _ _ _ _ ws hl => match ws, hl with | [_], _ => rfl)) (fun r => r) passL (pk_cons (pv 0) pk_nil)) (pa_cons (pe_callK0 (g := fun z => z) (gV := fun z => z) (ks := ["a"]) G_words_behind (hr.mono (by decide)) rfl A.words_behind.m A.words_behind.kp (A.words_behind.k0 (fun _ _ _ _ _ _ ws hl => match ws, hl with | [_], _ => rfl)) (fun r => r) passL (pk_cons (pv 0) pk_nil)) pa_nil))))))) (pss_one (ps_ret (pe_op op_cat (pv 2) (pe_lst (pa_cons (pe_callK0 (g := fun z => z) (gV := fun z => z) (ks := ["a"]) G_forest_turned (hr.mono (by decide)) rfl A.forest_turned.m A.forest_turned.kp (A.forest_turned.k0 (fun _ _ _ _ _ _ ws hl => match ws, hl with | [_], _ => rfl)) (fun r => r) passL (pk_cons (pv 0) pk_nil)) (pa_cons (pe_callK0 (g := List.reverse) (gV := List.reverse) (ks := ["b", "a"]) G_forest_joined (hr.mono (by decide)) rfl A.forest_joined.m A.forest_joined.kp (A.forest_joined.k0 (fun _ _ _ _ _ _ ws hl => match ws, hl with | [_, _], _ => rfl)) vals_reverse passL (pk_cons (pv 1) (pk_cons (pv 0) pk_nil))) (pa_cons (pe_callK0 (g := List.reverse) (gV := List.reverse) (ks := ["b", "a"]) G_forest_below (hr.mono (by decide)) rfl A.forest_below.m A.forest_below.kp (A.forest_below.k0 (fun _ _ _ _ _ _ ws hl => match ws, hl with | [_, _], _ => rfl)) vals_reverse passL (pk_cons (pv 1) (pk_cons (pv 0) pk_nil))) pa_nil)))))))), ?_⟩
    walk_at "vc"
    have z1 := g.sz
    have z2 := g'.sz
    have one_go : ∀ {f : (Nat → Int) → Nat → (Nat → Str) → PyData} {H1 : Hp} {Q' : VK}, Dp K H1 v (foD p n x) → TabG H1 T → (∀ r H', Up T H1 H' → Dp K H' r (f p n x) → Q' r H') → sp_f K T A.c_InvalidForest.C 1 (one f) [v] H1 Q' L2.E0 :=
      fun h1 h2 h3 => ⟨rfl, [foD p n x], .cons h1 .nil, ⟨g.sml, trivial⟩, by simp only [szAll]; omega, h2, .inl ⟨_, ⟨p, n, x, g, rfl, rfl⟩, h3⟩⟩
    have two_go : ∀ {f : (Nat → Int) → Nat → (Nat → Str) → (Nat → Int) → Nat → (Nat → Str) → PyData} {H1 : Hp} {Q' : VK}, Dp K H1 v (foD p n x) → Dp K H1 u (foD p' n' x') → TabG H1 T → (∀ r H', Up T H1 H' → Dp K H' r (f p n x p' n' x') → Q' r H') → sp_f K T A.c_InvalidForest.C 2 (two f) [v, u] H1 Q' L2.E0 :=
      fun h1 h1' h2 h3 => ⟨rfl, [foD p n x, foD p' n' x'], .cons h1 (.cons h1' .nil), ⟨g.sml, g'.sml, trivial⟩, by simp only [szAll]; omega, h2, .inl ⟨_, ⟨p, n, x, p', n', x', g, g', rfl, rfl⟩, h3⟩⟩
    refine ⟨v, _, rfl, hv, g.sml, by omega, ht, fun H1 u1 => ?_⟩
    rw [g.forD]
    have U1 := u1
    have hv1 := Dp.up u1 ht _ _ hv
    have hu1 := Dp.up u1 ht _ _ hu
    have t1 := u1.tab ht
    refine one_go hv1 t1 fun r1 H2 u2 er1 => ?_
    have U2 := U1.trans u2
    have hv2 := Dp.up u2 t1 _ _ hv1
    have hu2 := Dp.up u2 t1 _ _ hu1
    have t2 := u2.tab t1
    refine one_go hv2 t2 fun r2 H3 u3 er2 => ?_
    have U3 := U2.trans u3
    have hv3 := Dp.up u3 t2 _ _ hv2
    have hu3 := Dp.up u3 t2 _ _ hu2
    have er1 := Dp.up u3 t2 _ _ er1
    have t3 := u3.tab t2
    refine one_go hv3 t3 fun r3 H4 u4 er3 => ?_
    have U4 := U3.trans u4
    have hv4 := Dp.up u4 t3 _ _ hv3
    have hu4 := Dp.up u4 t3 _ _ hu3
    have er1 := Dp.up u4 t3 _ _ er1
    have er2 := Dp.up u4 t3 _ _ er2
    have t4 := u4.tab t3
    refine one_go hv4 t4 fun r4 H5 u5 er4 => ?_
    have U5 := U4.trans u5
    have hv5 := Dp.up u5 t4 _ _ hv4
    have hu5 := Dp.up u5 t4 _ _ hu4
    have er1 := Dp.up u5 t4 _ _ er1
    have er2 := Dp.up u5 t4 _ _ er2
    have er3 := Dp.up u5 t4 _ _ er3
    have t5 := u5.tab t4
    refine ⟨by decide, fun l1 hl1 => ?_⟩
    have el1 : (upd H5 l1 (.lst [.bl true, r1, r2, r3, r4])) l1 = some (.lst [.bl true, r1, r2, r3, r4]) := upd_same
    have ul1 : Up T H5 (upd H5 l1 (.lst [.bl true, r1, r2, r3, r4])) := Up.new hl1
    have nl1 := ne_tab (ul1.tab t5) el1 (fun _ z => nomatch z)
    generalize upd H5 l1 (.lst [.bl true, r1, r2, r3, r4]) = H6 at el1 ul1 nl1
    have U6 := U5.trans ul1
    have hv6 := Dp.up ul1 t5 _ _ hv5
    have hu6 := Dp.up ul1 t5 _ _ hu5
    have er1 := Dp.up ul1 t5 _ _ er1
    have er2 := Dp.up ul1 t5 _ _ er2
    have er3 := Dp.up ul1 t5 _ _ er3
    have er4 := Dp.up ul1 t5 _ _ er4
    have t6 := ul1.tab t5
    refine one_go hv6 t6 fun r5 H7 u7 er5 => ?_
    have U7 := U6.trans u7
    have hv7 := Dp.up u7 t6 _ _ hv6
    have hu7 := Dp.up u7 t6 _ _ hu6
    have er1 := Dp.up u7 t6 _ _ er1
    have er2 := Dp.up u7 t6 _ _ er2
    have er3 := Dp.up u7 t6 _ _ er3
    have er4 := Dp.up u7 t6 _ _ er4
    have el1 := u7.keep _ _ nl1 el1
    have t7 := u7.tab t6
    show sp_f K T A.c_InvalidForest.C 2 _ [v, u] H7 _ L2.E0
    refine two_go hv7 hu7 t7 fun r6 H8 u8 er6 => ?_
    have U8 := U7.trans u8
    have hv8 := Dp.up u8 t7 _ _ hv7
    have hu8 := Dp.up u8 t7 _ _ hu7
    have er1 := Dp.up u8 t7 _ _ er1
    have er2 := Dp.up u8 t7 _ _ er2
    have er3 := Dp.up u8 t7 _ _ er3
    have er4 := Dp.up u8 t7 _ _ er4
    have er5 := Dp.up u8 t7 _ _ er5
    have el1 := u8.keep _ _ nl1 el1
    have t8 := u8.tab t7
    show sp_f K T A.c_InvalidForest.C 2 _ [v, u] H8 _ L2.E0
    refine two_go hv8 hu8 t8 fun r7 H9 u9 er7 => ?_
    have U9 := U8.trans u9
    have hv9 := Dp.up u9 t8 _ _ hv8
    have hu9 := Dp.up u9 t8 _ _ hu8
    have er1 := Dp.up u9 t8 _ _ er1
    have er2 := Dp.up u9 t8 _ _ er2
    have er3 := Dp.up u9 t8 _ _ er3
    have er4 := Dp.up u9 t8 _ _ er4
    have er5 := Dp.up u9 t8 _ _ er5
    have er6 := Dp.up u9 t8 _ _ er6
    have el1 := u9.keep _ _ nl1 el1
    have t9 := u9.tab t8
    refine ⟨by decide, fun l2 hl2 => ?_⟩
    have n12 := none_ne el1 hl2
    refine ⟨_, by rw [upd_ne n12]; exact el1, _, upd_same, by show 8 ≤ sizeLine; decide, fun l3 hl3 => ?_⟩
    have uu : Up T H9 _ := (Up.new (o := .lst [r5, r6, r7]) hl2).trans (Up.new (o := .lst ([.bl true, r1, r2, r3, r4] ++ [r5, r6, r7])) hl3)
    exact q _ _ (U9.trans uu) (.lst (SqL.of upd_same) (.cons (.bl _) (.cons (Dp.up uu t9 _ _ er1) (.cons (Dp.up uu t9 _ _ er2) (.cons (Dp.up uu t9 _ _ er3) (.cons (Dp.up uu t9 _ _ er4) (.cons (Dp.up uu t9 _ _ er5) (.cons (Dp.up uu t9 _ _ er6) (.cons (Dp.up uu t9 _ _ er7) .nil)))))))))
theorem foldl_max : ∀ (r : List Int) (a : Int), r.foldl max a ∈ a :: r ∧ ∀ y ∈ a :: r, y ≤ r.foldl max a
  | [], a => ⟨List.mem_cons_self, fun y hy => by simp at hy; subst hy; exact Int.le_refl _⟩
  | b :: r, a => by
    obtain ⟨h1, h2⟩ := foldl_max r (max a b)
    rw [List.foldl_cons]
    refine ⟨?_, fun y hy => ?_⟩
    · rcases List.mem_cons.mp h1 with e | e
      · rw [e]
        rcases Int.le_total a b with c | c
        · rw [Int.max_eq_right c]; simp
        · rw [Int.max_eq_left c]; simp
      · exact List.mem_cons_of_mem _ (List.mem_cons_of_mem _ e)
    · have hm := h2 (max a b) List.mem_cons_self
      rcases List.mem_cons.mp hy with e | e
      · subst e; exact Int.le_trans (Int.le_max_left _ _) hm
      · rcases List.mem_cons.mp e with e | e
        · subst e; exact Int.le_trans (Int.le_max_right _ _) hm
        · exact h2 y (List.mem_cons_of_mem _ e)
theorem max_mxD {L : List Int} (h1 : ∀ y ∈ L, 1 ≤ y) {m : Int} (hm : m ∈ 0 :: L) (hy : ∀ y ∈ 0 :: L, y ≤ m) : m = mxD L := by
  cases L with
  | nil => simpa [mxD] using hm
  | cons a r =>
    obtain ⟨g1, g2⟩ := foldl_max r a
    have a1 := hy _ (List.mem_cons_of_mem _ g1)
    have a2 := h1 _ g1
    rcases List.mem_cons.mp hm with e | e
    · omega
    · have := g2 m e
      show m = r.foldl max a
      omega
def rlD (p : Nat → Int) (n : Nat) (x : Nat → Str) : PyData := .tuple [.int (n : Nat), .list ((List.range n).map fun k => .str (x k)), .list ((List.range n).map fun k => .int (p k))]
theorem alike_rl {p p' : Nat → Int} {n n' : Nat} {x x' : Nat → Str} : PySem.W.alike (rlD p n x) (rlD p' n' x') = true := by
  unfold rlD
  simp only [PySem.W.alike, PySem.W.alikeAll, alikeAll_strs, alikeAll_ints, Bool.and_self]
theorem depth_rl {p : Nat → Int} {n : Nat} {x : Nat → Str} : (rlD p n x).depth ≤ 60 := by
  have h1 : PyData.depthAll ((List.range n).map fun k => PyData.str (x k)) ≤ 1 := depth_flat fun d hd => by
    obtain ⟨k, _, rfl⟩ := List.mem_map.mp hd
    simp [PyData.depth]
  have h2 : PyData.depthAll ((List.range n).map fun k => PyData.int (p k)) ≤ 1 := depth_flat fun d hd => by
    obtain ⟨k, _, rfl⟩ := List.mem_map.mp hd
    simp [PyData.depth]
  unfold rlD
  simp only [PyData.depth, PyData.depthAll]
  omega
theorem lt_rl {p p' : Nat → Int} {n n' : Nat} {x x' : Nat → Str} : PySem.W.dataLt (rlD p n x) (rlD p' n' x') = PySem.W.dataLt (rkD p n x) (rkD p' n' x') := by
  simp only [PySem.W.dataLt, rkD, rlD, PySem.W.keyToks, PySem.W.keyToksAll]
theorem dp_rl {H : Hp} {t a c : Addr} {p : Nat → Int} {n : Nat} {x : Nat → Str} (h : H t = some (.tup [.int (n : Nat), .ref a, .ref c])) (w : WL H a c p n x) : Dp K H (.ref t) (rlD p n x) :=
  dp3 h (.int _) (.lst (SqL.of w.1) (dpAll_map fun k => .str _)) (.lst (SqL.of w.2) (dpAll_map fun k => .int _))
def sp_due (K : PySem.W.Frag) : Sp := fun vs H Q _ => ∃ (t a c t' a' c' : Addr) (p : Nat → Int) (n : Nat) (x : Nat → Str) (p' : Nat → Int) (n' : Nat) (x' : Nat → Str), vs = [.ref t, .ref t'] ∧ Good p n x ∧ Good p' n' x' ∧ H t = some (.tup [.ref a, .ref c]) ∧ H t' = some (.tup [.ref a', .ref c']) ∧ WL H a c p n x ∧ WL H a' c' p' n' x' ∧
  ∀ r xs H', Same H H' → H' r = some (.lst xs) → DpAll K H' xs [kD 0 p n x p' n' x', kD 1 p n x p' n' x', kD 2 p n x p' n' x', kD 3 p n x p' n' x', kD 4 p n x p' n' x', kD 5 p n x p' n' x', kD 6 p n x p' n' x'] → Q (.ref r) H'
theorem ok_l_due (A : All K mg) : FnOk P w K mg base CX0 4 A.l_due.f A.l_due.fd ["first", "second"] (sp_due K) := by
  have G_l_behind := ok_l_behind (P := P) (w := w) (base := base) A
  have G_l_mirrored := ok_l_mirrored (P := P) (w := w) (base := base) A
  have G_l_forest := ok_l_forest (P := P) (w := w) (base := base) A
  have G_l_depths := ok_l_depths (P := P) (w := w) (base := base) A
  refine A.l_due.F.ok sc_l_due (fun vs H Q E h => ?_) (fun cdv B outer s H vs Q E hr h => ?_)
  · obtain ⟨t, a, c, t', a', c', p, n, x, p', n', x', rfl, _⟩ := h
    rfl
  · obtain ⟨t, a, c, t', a', c', p, n, x, p', n', x', rfl, g, g', ht, ht', hw, hw', q⟩ := h
    refine ⟨_, (pss_cons (ps_set (i := 2) sc_l_due.nd rfl (by first | exact Or.inl rfl | exact Or.inr rfl) (pe_ix (r := rIxT K) ix_tup (pv 0) pe_int (fun _ _ => rfl))) (pss_cons (ps_set (i := 3) sc_l_due.nd rfl (by first | exact Or.inl rfl | exact Or.inr rfl) (pe_ix (r := rIxT K) ix_tup (pv 0) pe_int (fun _ _ => rfl))) (pss_cons (ps_set (i := 4) sc_l_due.nd rfl (by first | exact Or.inl rfl | exact Or.inr rfl) (pe_callB (r := fun xs H Q => ∃ x n, xs = [x] ∧ LenV K x H n ∧ Q (V.int n) H) call_len (by rfl) A.n_len PySem.boot_len (pa_cons (pv 2) pa_nil))) (pss_cons (ps_set (i := 5) sc_l_due.nd rfl (by first | exact Or.inl rfl | exact Or.inr rfl) (pe_callB (cr_max rfl) (by rfl) A.n_max (by decide +kernel) (pa_cons (pe_op op_cat (pe_lst (pa_cons pe_int pa_nil)) (pe_lc (own := [("one", 6)]) (g := gName 6) rfl sc_l_due.nd (pi_list (pe_call G_l_depths (hr.mono (by decide)) rfl A.l_depths.m A.l_depths.kp A.l_depths.b .nil pass0 (pa_cons (pv 3) pa_nil))) (blkOk_by (own := [("one", 6)]) (N := ["first", "second", "words", "parents", "many", "depth", "one", "below", "due"]) (sc := defScope s_l_due) (by decide +kernel)) (fun _ _ _ _ _ => pg_name (i := 6) sc_l_due.nd rfl (Or.inl rfl)) (fun _ _ _ _ _ => pts_nil) (fun _ _ _ _ _ => (pe_callTy call_int1 (by rfl) A.n_int (by decide +kernel) (pa_cons (pe_op op_add (pv 6) pe_int) pa_nil))))) pa_nil))) (pss_cons (ps_set (i := 7) sc_l_due.nd rfl (by first | exact Or.inl rfl | exact Or.inr rfl) (pe_cmpR (op_ltDD hr.units) (pe_tup (pa_cons (pv 4) (pa_cons (pv 2) (pa_cons (pv 3) pa_nil)))) (pe_tup (pa_cons (pe_callB (r := fun xs H Q => ∃ x n, xs = [x] ∧ LenV K x H n ∧ Q (V.int n) H) call_len (by rfl) A.n_len PySem.boot_len (pa_cons (pe_ix (r := rIxT K) ix_tup (pv 1) pe_int (fun _ _ => rfl)) pa_nil)) (pa_cons (pe_ix (r := rIxT K) ix_tup (pv 1) pe_int (fun _ _ => rfl)) (pa_cons (pe_ix (r := rIxT K) ix_tup (pv 1) pe_int (fun _ _ => rfl)) pa_nil)))) (nomark _))) (pss_cons (ps_set (i := 8) sc_l_due.nd rfl (by first | exact Or.inl rfl | exact Or.inr rfl) (pe_lst (pa_cons (pv 4) (pa_cons (pv 5) (pa_cons (pe_callTy call_tuple_of (by rfl) A.n_tuple (by decide +kernel) (pa_cons (pv 2) pa_nil)) (pa_cons (pe_call G_l_behind (hr.mono (by decide)) rfl A.l_behind.m A.l_behind.kp A.l_behind.b .nil pass0 (pa_cons (pv 2) (pa_cons (pv 3) pa_nil))) (pa_cons (pe_call G_l_mirrored (hr.mono (by decide)) rfl A.l_mirrored.m A.l_mirrored.kp A.l_mirrored.b .nil pass0 (pa_cons (pv 2) (pa_cons (pv 3) pa_nil))) pa_nil))))))) (pss_one (ps_ret (pe_op op_cat (pv 8) (pe_lst (pa_cons (pe_op op_catA (pe_call G_l_forest (hr.mono (by decide)) rfl A.l_forest.m A.l_forest.kp A.l_forest.b .nil pass0 (pa_cons (pv 2) (pa_cons (pv 3) pa_nil))) (pe_call G_l_forest (hr.mono (by decide)) rfl A.l_forest.m A.l_forest.kp A.l_forest.b .nil pass0 (pa_cons (pe_ix (r := rIxT K) ix_tup (pv 1) pe_int (fun _ _ => rfl)) (pa_cons (pe_ix (r := rIxT K) ix_tup (pv 1) pe_int (fun _ _ => rfl)) pa_nil)))) (pa_cons (pv 7) pa_nil)))))))))))), ?_⟩
    walk_at "vc"
    have big : (2000 : Nat) < sizeLine := by decide
    have hn := g.le
    have hn' := g'.le
    refine ⟨_, SqT.of ht, .ref a, rfl, _, SqT.of ht, .ref c, rfl, n, .inl ⟨_, SqL.of hw.1, lm.symm⟩, by decide, fun l0 hl0 => ?_⟩
    refine ⟨c, p, n, rfl, SqL.of (Same.new hl0 _ _ hw.2), g.pre, g.le, fun F H1 hF s1 e1 => ?_⟩
    have s1' := (Same.new (o := .lst [.int 0]) hl0).trans s1
    have e0 := s1 _ _ (upd_same (H := H) (a := l0) (o := .lst [.int 0]))
    have e1 : H1 F = some (.lst ((List.range n).map fun k => V.int (dp p k : Nat))) := e1
    refine ⟨F, rfl, ⟨_, SqL.of e1⟩, fun D hD => ?_⟩
    refine LcB.list (xs := (List.range n).map fun k => V.int (dp p k : Nat)) (fun i H' => H' D = some (.lst ((List.range i).map fun k => .int ((dp p k + 1 : Nat) : Int))) ∧ Same H1 H') ?_ ?_ ?_ ?_
    · exact ⟨upd_same, Same.new hD⟩
    · rintro i H2 _ ⟨_, s2⟩
      exact SqL.of (s2 _ _ e1)
    · rintro i v2 H2 hi ⟨e2, s2⟩
      have hin : i < n := by
        have := (List.getElem?_eq_some_iff.mp hi).1
        rwa [lm] at this
      rw [range_get hin] at hi
      cases hi
      walk_at "vc"
      refine ⟨_, e2, by rw [lm]; omega, ?_, Same.mut s2 hD⟩
      rw [upd_same, List.range_succ, List.map_append]
      rfl
    · rintro H2 ⟨e2, s2⟩
      rw [lm] at e2
      have s2' := s1'.trans s2
      refine ⟨D, rfl, _, s2 _ _ e0, _, e2, by rw [lm]; show 1 + n ≤ sizeLine; omega, fun l2 hl2 => ?_⟩
      have s3 := s2'.trans (Same.new (o := .lst ([.int 0] ++ (List.range n).map fun k => .int ((dp p k + 1 : Nat) : Int))) hl2)
      refine ⟨l2, 0 :: (List.range n).map fun k => ((dp p k + 1 : Nat) : Int), rfl, SqL.of (by rw [upd_same, List.map_cons, List.map_map]; rfl), by simp, fun m m1 m2 => ?_⟩
      obtain rfl : m = dptI p n := by
        refine max_mxD (fun y hy => ?_) m1 m2
        obtain ⟨k, _, rfl⟩ := List.mem_map.mp hy
        omega
      generalize upd H2 l2 (.lst ([.int 0] ++ (List.range n).map fun k => .int ((dp p k + 1 : Nat) : Int))) = H3 at s3
      have w3 := hw.same s3
      have w3' := hw'.same s3
      have t3 := s3 _ _ ht
      have t3' := s3 _ _ ht'
      refine ⟨by decide, fun q1 hq1 => ?_⟩
      have s4 := Same.new (o := .tup [.int (n : Nat), .ref a, .ref c]) hq1
      refine ⟨_, SqT.of (s4 _ _ t3'), .ref a', rfl, n', .inl ⟨_, SqL.of (s4 _ _ w3'.1), lm.symm⟩, _, SqT.of (s4 _ _ t3'), .ref a', rfl, _, SqT.of (s4 _ _ t3'), .ref c', rfl, by decide, fun q2 hq2 => ?_⟩
      have s5 := s4.trans (Same.new (o := .tup [.int (n' : Nat), .ref a', .ref c']) hq2)
      have d1 := dp_rl (K := K) (Same.new (o := .tup [.int (n' : Nat), .ref a', .ref c']) hq2 _ _ upd_same) (w3.same s5)
      have d2 := dp_rl (K := K) (upd_same (H := upd H3 q1 (.tup [.int (n : Nat), .ref a, .ref c])) (a := q2) (o := .tup [.int (n' : Nat), .ref a', .ref c'])) (w3'.same s5)
      refine ⟨_, _, d1, d2, alike_rl, (fun z => nomatch z), Nat.le_trans (Nat.min_le_left _ _) depth_rl, ?_⟩
      rw [lt_rl]
      generalize upd (upd H3 q1 (.tup [.int (n : Nat), .ref a, .ref c])) q2 (.tup [.int (n' : Nat), .ref a', .ref c']) = H4 at s5
      have w4 := w3.same s5
      have w4' := w3'.same s5
      have s6 := s3.trans s5
      refine ⟨a, rfl, _, .inl ⟨SqL.of w4.1, fun q3 hq3 => ?_⟩⟩
      have s7 := Same.new (o := .tup ((List.range n).map fun k => .str (x k))) hq3
      refine ⟨a, c, p, n, x, rfl, (w4.same s7).wp, g.pre, g.le, fun r3 H5 s8 e3 => ?_⟩
      refine ⟨a, c, p, n, x, rfl, ((w4.same s7).same s8).wp, g.pre, g.le, fun r4 H6 s9 e4 => ⟨by decide, fun L1 hL1 => ?_⟩⟩
      have e2 : Dp K H6 (.ref q3) (kD 2 p n x p' n' x') := .tup (SqT.of (s9 _ _ (s8 _ _ upd_same))) (dpAll_map fun k => .str _)
      have e3 := Dp.same s9 _ _ e3
      have s10 := ((s6.trans s7).trans s8).trans s9
      have s11 := Same.new (o := .lst [.int (n : Nat), .int (dptI p n), .ref q3, r3, r4]) hL1
      have eL1 := upd_same (H := H6) (a := L1) (o := .lst [.int (n : Nat), .int (dptI p n), .ref q3, r3, r4])
      have e2 := Dp.same s11 _ _ e2
      have e3 := Dp.same s11 _ _ e3
      have e4 := Dp.same s11 _ _ e4
      have s12 := s10.trans s11
      generalize upd H6 L1 (.lst [.int (n : Nat), .int (dptI p n), .ref q3, r3, r4]) = H7 at s11 eL1 e2 e3 e4 s12
      refine ⟨a, c, p, n, x, rfl, (hw.same s12).wp, g.pre, g.le, fun r5 H8 s13 e5 => ?_⟩
      have s14 := s12.trans s13
      refine ⟨_, SqT.of (s14 _ _ ht'), .ref a', rfl, _, SqT.of (s14 _ _ ht'), .ref c', rfl, ?_⟩
      refine ⟨a', c', p', n', x', rfl, (hw'.same s14).wp, g'.pre, g'.le, fun r6 H9 s15 e6 => ?_⟩
      have s16 := s14.trans s15
      have e5 := Dp.same s15 _ _ e5
      have s17 := s13.trans s15
      have e2 := Dp.same s17 _ _ e2
      have e3 := Dp.same s17 _ _ e3
      have e4 := Dp.same s17 _ _ e4
      have eL1 := s17 _ _ eL1
      have fin : ∀ (H' : Hp) (r : V), Same H9 H' → Dp K H' r (kD 5 p n x p' n' x') → 2 ≤ sizeLine ∧ ∀ L2, H' L2 = none → ∃ xs, (upd H' L2 (.lst [r, .bl (PySem.W.dataLt (rkD p n x) (rkD p' n' x'))])) L1 = some (.lst xs) ∧ ∃ ys, (upd H' L2 (.lst [r, .bl (PySem.W.dataLt (rkD p n x) (rkD p' n' x'))])) L2 = some (.lst ys) ∧ xs.length + ys.length ≤ sizeLine ∧
          ∀ L3, (upd H' L2 (.lst [r, .bl (PySem.W.dataLt (rkD p n x) (rkD p' n' x'))])) L3 = none → Q (.ref L3) (upd (upd H' L2 (.lst [r, .bl (PySem.W.dataLt (rkD p n x) (rkD p' n' x'))])) L3 (.lst (xs ++ ys))) := by
        intro H' r z1 z2
        refine ⟨by decide, fun L2 hL2 => ⟨_, Same.new hL2 _ _ (z1 _ _ eL1), _, upd_same, by show 7 ≤ sizeLine; decide, fun L3 hL3 => ?_⟩⟩
        have z3 := z1.trans ((Same.new (o := .lst [r, .bl (PySem.W.dataLt (rkD p n x) (rkD p' n' x'))]) hL2).trans (Same.new (o := .lst ([.int (n : Nat), .int (dptI p n), .ref q3, r3, r4] ++ [r, .bl (PySem.W.dataLt (rkD p n x) (rkD p' n' x'))])) hL3))
        have z4 := (Same.new (o := .lst [r, .bl (PySem.W.dataLt (rkD p n x) (rkD p' n' x'))]) hL2).trans (Same.new (o := .lst ([.int (n : Nat), .int (dptI p n), .ref q3, r3, r4] ++ [r, .bl (PySem.W.dataLt (rkD p n x) (rkD p' n' x'))])) hL3)
        exact q L3 _ _ (s16.trans z3) upd_same (.cons (.int _) (.cons (.int _) (.cons (Dp.same z3 _ _ e2) (.cons (Dp.same z3 _ _ e3) (.cons (Dp.same z3 _ _ e4) (.cons (Dp.same z4 _ _ z2) (.cons (.bl _) .nil)))))))
      obtain ⟨b1, ys1, rfl, hb1, hy1⟩ := Dp.tup_inv e5
      obtain ⟨b2, ys2, rfl, hb2, hy2⟩ := Dp.tup_inv e6
      have l1 := DpAll.len hy1
      have l2' := DpAll.len hy2
      rw [List.length_map] at l1 l2'
      have k1 : (kids p n (-1)).length ≤ n := kf_len
      have k2 : (kids p' n' (-1)).length ≤ n' := kf_len
      refine ⟨b1, b2, ys1, ys2, rfl, rfl, hb1, hb2, by omega, fun e => ?_, fun _ e => ?_, fun _ _ c hc => ?_⟩
      · subst e
        have e : (kids p n (-1)) = [] := List.eq_nil_of_length_eq_zero (by simpa using l1.symm)
        refine fin _ _ (fun _ _ h => h) ?_
        show Dp K H9 _ (.tuple ((kids p n (-1)).map (tr p n x) ++ (kids p' n' (-1)).map (tr p' n' x')))
        rw [e]
        exact e6
      · subst e
        have e : (kids p' n' (-1)) = [] := List.eq_nil_of_length_eq_zero (by simpa using l2'.symm)
        refine fin _ _ (fun _ _ h => h) ?_
        show Dp K H9 _ (.tuple ((kids p n (-1)).map (tr p n x) ++ (kids p' n' (-1)).map (tr p' n' x')))
        rw [e, List.map_nil, List.append_nil]
        exact e5
      · refine fin _ _ (Same.new hc) (.tup (SqT.of upd_same) ?_)
        exact DpAll.app' (DpAll.same (Same.new hc) _ _ hy1) (DpAll.same (Same.new hc) _ _ hy2)
end
end Ly
namespace Ly
open PySem PySem.Spec PyProof.Rows L2
open GxR (TabG Tabbed)
local macro_rules | `(tactic| walk_at "vc") => `(tactic| simp only [tSeq, tAsg, tOp, tVar, tC, tRet, tRetN, tNext, tIfS, tIf, tDrop, tB, tTest, tNot, tAnd, tOr, tAndV, tOrV, tNotV, tChain, tUn, tCB, tCons, tNil, tTup, tLst, tSl, tPart, tNoPart, tCall, tBreak, tCont,
  rI, rI0, rU, gName, gNil_nil, gCons_cons, gSub, rSetL, L2.start, cx_K, cx_nox, tLc_eq, tFor_eq, iRng1, iRng2, iList, iTup, tM1, tYes, wipe, rIxS, rIxL, rIxT, rCat, rSlL, rEq, rNe, rPop, rAppend, tBM, tBM0, tMkO_eq, tVal_eq, tFldE_eq, tXfE_eq, tCallS, lenV_ref, iRevR, tRg1, RT.iRevA, RZ.iZipA, tDGet, sDPut, tDNewK, tAugS, ipI, tMaxD, tCallK0, rRep, rExtend, CDiv, CDivW, CPow, CMulX,
  List.map_cons, List.map_nil, List.cons_append, List.nil_append, List.append_nil, List.length_cons, List.length_nil, List.replicate, List.getElem?_cons_zero, List.getElem?_cons_succ, List.set_cons_zero, List.set_cons_succ, Nat.reduceSub, Nat.reduceAdd,
  Option.some.injEq, V.int.injEq, V.bl.injEq, V.str.injEq, V.ref.injEq, exists_eq_left', exists_eq_left, exists_and_left, reduceCtorEq, false_and, and_false, exists_false, or_false, false_or, Bool.false_eq_true, if_false, if_true, reduceIte, decide_eq_true_eq, List.cons.injEq, and_true, true_and])
section
variable {P : Program} {w : World} {K : PySem.W.Frag} {mg : Str → Option Value} {base : Heap} {T : Addr}
/-! ### what is due is small -/
theorem depAll_le {b : Nat} : ∀ {ds : List PyData}, (∀ d ∈ ds, dep d ≤ b) → depAll ds ≤ b
  | [], _ => by simp [depAll]
  | d :: ds, h => by
    have h1 := h d List.mem_cons_self
    have h2 := depAll_le (ds := ds) fun e he => h e (List.mem_cons_of_mem _ he)
    simp only [depAll]
    omega
theorem smlAll_of : ∀ {ds : List PyData}, (∀ d ∈ ds, Sml d) → SmlAll ds
  | [], _ => trivial
  | d :: ds, h => ⟨h d List.mem_cons_self, smlAll_of fun e he => h e (List.mem_cons_of_mem _ he)⟩
theorem tr_small {r : List Nat → List Nat} {p : Nat → Int} {n : Nat} {x : Nat → Str} (hr : Turns r) (hl : ∀ l, (r l).length = l.length) (g : Good p n x) : ∀ c k, n - k ≤ c → k < n → Sml (trR r p n x k) ∧ dep (trR r p n x k) ≤ 2 * (8 - dp p k)
  | 0, k, h, hk => by omega
  | c + 1, k, h, hk => by
    have key : ∀ j ∈ r (kids p n k), Sml (trR r p n x j) ∧ dep (trR r p n x j) ≤ 2 * (8 - (dp p k + 1)) := fun j hj => by
      obtain ⟨_, h1, h2⟩ := kf_mem.mp (hr _ _ hj)
      have h3 := g.pre.hi j h1
      have := tr_small hr hl g c j (by omega) h1
      rwa [dp_kid h2 (by omega)] at this
    have h7 := g.low k hk
    have hn := g.le
    have kl : (kids p n k).length ≤ n := kf_len
    rw [trR_eq hr g.pre hk]
    have a : SmlAll ((r (kids p n k)).map (trR r p n x)) := smlAll_of fun d hd => by
      obtain ⟨j, hj, rfl⟩ := List.mem_map.mp hd
      exact (key j hj).1
    have b : depAll ((r (kids p n k)).map (trR r p n x)) ≤ 2 * (8 - (dp p k + 1)) := depAll_le fun d hd => by
      obtain ⟨j, hj, rfl⟩ := List.mem_map.mp hd
      exact (key j hj).2
    refine ⟨⟨by simp, Nat.le_trans (g.wd k hk).len (by decide), ⟨by rw [List.length_map, hl]; omega, a⟩, trivial⟩, ?_⟩
    simp only [dep, depAll]
    omega
theorem trs_small {r : List Nat → List Nat} {p : Nat → Int} {n : Nat} {x : Nat → Str} (hr : Turns r) (hl : ∀ l, (r l).length = l.length) (g : Good p n x) : SmlAll ((r (kids p n (-1))).map (trR r p n x)) ∧ depAll ((r (kids p n (-1))).map (trR r p n x)) ≤ 16 := by
  have key : ∀ j ∈ r (kids p n (-1)), Sml (trR r p n x j) ∧ dep (trR r p n x j) ≤ 16 := fun j hj => by
    obtain ⟨_, h1, _⟩ := kf_mem.mp (hr _ _ hj)
    have := tr_small hr hl g (n - j) j (Nat.le_refl _) h1
    exact ⟨this.1, by omega⟩
  refine ⟨smlAll_of fun d hd => ?_, depAll_le fun d hd => ?_⟩
  · obtain ⟨j, hj, rfl⟩ := List.mem_map.mp hd
    exact (key j hj).1
  · obtain ⟨j, hj, rfl⟩ := List.mem_map.mp hd
    exact (key j hj).2
theorem kD_small {p : Nat → Int} {n : Nat} {x : Nat → Str} {p' : Nat → Int} {n' : Nat} {x' : Nat → Str} (g : Good p n x) (g' : Good p' n' x') (hn : n ≤ 12) (hn' : n' ≤ 12) (k : Nat) : Sml (kD k p n x p' n' x') ∧ dep (kD k p n x p' n' x') ≤ 20 := by
  have k1 : (kids p n (-1)).length ≤ n := kf_len
  have k2 : (kids p' n' (-1)).length ≤ n' := kf_len
  have a1 := trs_small turns_id (fun _ => rfl) g
  have a2 := trs_small turns_id (fun _ => rfl) g'
  have a3 := trs_small turns_rev (fun _ => List.length_reverse) g
  have stx7 : ∀ f : Nat → Nat, (∀ k, k < n → f k < n) → Sml (.tuple ((List.range n).map fun k => .str (x (f k)))) ∧ dep (.tuple ((List.range n).map fun k => .str (x (f k)))) ≤ 20 := fun f hf => by
    refine ⟨⟨by rw [List.length_map, List.length_range]; omega, smlAll_of fun d hd => ?_⟩, ?_⟩
    · obtain ⟨j, hj, rfl⟩ := List.mem_map.mp hd
      exact Nat.le_trans (g.wd _ (hf j (List.mem_range.mp hj))).len (by decide)
    · have : depAll ((List.range n).map fun k => PyData.str (x (f k))) ≤ 0 := depAll_le fun d hd => by
        obtain ⟨j, hj, rfl⟩ := List.mem_map.mp hd
        simp [dep]
      simp only [dep]
      omega
  match k with
  | 0 => exact ⟨trivial, by simp [kD, dep]⟩
  | 1 => exact ⟨trivial, by simp [kD, dep]⟩
  | 2 => exact stx7 id fun k hk => hk
  | 3 =>
    exact stx7 (inv p n) fun k hk => by
      obtain ⟨j, hj, e⟩ := pst_onto g.pre hk
      rw [← e, inv_pst g.pre hj]
      exact hj
  | 4 =>
    refine ⟨⟨by rw [List.length_map, List.length_reverse]; omega, a3.1⟩, ?_⟩
    show depAll _ + 1 ≤ 20
    exact Nat.le_trans (Nat.add_le_add_right a3.2 1) (by decide)
  | 5 =>
    refine ⟨⟨by rw [List.length_append, List.length_map, List.length_map]; omega, SmlAll.app a1.1 a2.1⟩, ?_⟩
    show depAll _ + 1 ≤ 20
    have : depAll ((kids p n (-1)).map (tr p n x) ++ (kids p' n' (-1)).map (tr p' n' x')) ≤ 16 := depAll_le fun d hd => by
      rcases List.mem_append.mp hd with h | h
      · obtain ⟨i, hi⟩ := List.getElem?_of_mem h
        exact Nat.le_trans (dep_mem hi) a1.2
      · obtain ⟨i, hi⟩ := List.getElem?_of_mem h
        exact Nat.le_trans (dep_mem hi) a2.2
    omega
  | _ + 6 => exact ⟨trivial, by simp [kD, dep]⟩
theorem Same.box {H H2 H3 : Hp} {p : Addr} (s : Same H H2) (t : Step p H2 H3) (h : H p = none) : Same H H3 := fun b o e => t.keep b o (ne_of_none e h) (s b o e)
theorem TabG.same {H H' : Hp} (h : TabG H T) (s : Same H H') : TabG H' T := let ⟨ps, e, t⟩ := h; ⟨ps, s _ _ e, t⟩
theorem up_box {H H' : Hp} {p : Addr} {o : HO} (h : H p = none) (s : Step p (upd H p o) H') : Up T H H' := Up.of_same (Same.box (Same.new h) s h)
def sp_law (K : PySem.W.Frag) (T : Addr) : Sp := fun vs H Q _ => ∃ (a : Addr) (ns : List Int), vs = [.ref a] ∧ SqL K H a (ns.map V.int) ∧ (∀ z ∈ ns, Builtin.Int.intBits z ≤ 1048576) ∧ TabG H T ∧ ∀ H', Q (.bl true) H'
theorem ok_law (A : All K mg) (TB : GxR.TabB base mg A.is_word.c T) (glob : base.Ns mainGlobals mg) : FnOk P w K mg base CX0 37 A.law.f A.law.fd ["script"] (sp_law K T) := by
  have G_l_box := ok_l_box (P := P) (w := w) (base := base) A
  have G_l_drawn := ok_l_drawn (P := P) (w := w) (base := base) A
  have G_l_other := ok_l_other (P := P) (w := w) (base := base) A
  have G_l_forest := ok_l_forest (P := P) (w := w) (base := base) A
  have G_l_due := ok_l_due (P := P) (w := w) (base := base) A
  have G_l_bad := ok_l_bad (P := P) (w := w) (base := base) A
  have G_l_alike := ok_l_alike (P := P) (w := w) (base := base) A
  have G_l_by_name := ok_l_by_name (P := P) (w := w) A TB glob
  have G_l_asked := ok_l_asked (P := P) (w := w) A TB glob
  have G_is_forest := ok_is_forest (P := P) (w := w) A TB glob
  refine A.law.F.ok sc_law (fun vs H Q E h => ?_) (fun cdv B outer s H vs Q E hr h => ?_)
  · obtain ⟨a, ns, rfl, _⟩ := h
    rfl
  · obtain ⟨sc, ns, rfl, hs, hbits, ht, q⟩ := h
    refine ⟨_, (pss_cons (ps_set (i := 1) sc_law.nd rfl (by first | exact Or.inl rfl | exact Or.inr rfl) (pe_call G_l_box (hr.mono (by decide)) rfl A.l_box.m A.l_box.kp A.l_box.b .nil pass0 (pa_cons (pv 0) (pa_cons pe_int pa_nil)))) (pss_cons (ps_set (i := 2) sc_law.nd rfl (by first | exact Or.inl rfl | exact Or.inr rfl) (pe_call G_l_box (hr.mono (by decide)) rfl A.l_box.m A.l_box.kp A.l_box.b .nil pass0 (pa_cons (pv 0) (pa_cons pe_int pa_nil)))) (pss_cons (ps_set (i := 3) sc_law.nd rfl (by first | exact Or.inl rfl | exact Or.inr rfl) (pe_call G_l_drawn (hr.mono (by decide)) rfl A.l_drawn.m A.l_drawn.kp A.l_drawn.b .nil pass0 (pa_cons (pv 1) pa_nil))) (pss_cons (ps_set (i := 4) sc_law.nd rfl (by first | exact Or.inl rfl | exact Or.inr rfl) (pe_call G_l_other (hr.mono (by decide)) rfl A.l_other.m A.l_other.kp A.l_other.b .nil pass0 (pa_cons (pv 2) (pa_cons (pe_ix (r := rIx K) ix_seq (pv 3) pe_int (fun _ _ => rfl)) (pa_cons (pe_ix (r := rIx K) ix_seq (pv 3) pe_int (fun _ _ => rfl)) pa_nil))))) (pss_cons (ps_set (i := 5) sc_law.nd rfl (by first | exact Or.inl rfl | exact Or.inr rfl) (pe_call G_l_forest (hr.mono (by decide)) rfl A.l_forest.m A.l_forest.kp A.l_forest.b .nil pass0 (pa_cons (pe_ix (r := rIx K) ix_seq (pv 3) pe_int (fun _ _ => rfl)) (pa_cons (pe_ix (r := rIx K) ix_seq (pv 3) pe_int (fun _ _ => rfl)) pa_nil)))) (pss_cons (ps_set (i := 6) sc_law.nd rfl (by first | exact Or.inl rfl | exact Or.inr rfl) (pe_call G_l_forest (hr.mono (by decide)) rfl A.l_forest.m A.l_forest.kp A.l_forest.b .nil pass0 (pa_cons (pe_ix (r := rIx K) ix_seq (pv 4) pe_int (fun _ _ => rfl)) (pa_cons (pe_ix (r := rIx K) ix_seq (pv 4) pe_int (fun _ _ => rfl)) pa_nil)))) (pss_cons (ps_set (i := 7) sc_law.nd rfl (by first | exact Or.inl rfl | exact Or.inr rfl) (pe_call G_l_due (hr.mono (by decide)) rfl A.l_due.m A.l_due.kp A.l_due.b .nil pass0 (pa_cons (pv 3) (pa_cons (pv 4) pa_nil)))) (pss_cons (ps_for PassesOwn.never rfl (pi_range1 rfl A.n_range (pa_cons pe_int pa_nil)) (pg_name (i := 8) sc_law.nd rfl (by first | exact Or.inl rfl | exact Or.inr rfl)) (pss_one (ps_if (pt_not (pt_val (pe_call G_l_alike (hr.mono (by decide)) rfl A.l_alike.m A.l_alike.kp A.l_alike.b .nil pass0 (pa_cons (pe_call G_l_asked (hr.mono (by decide)) rfl A.l_asked.m A.l_asked.kp A.l_asked.b .nil pass0 (pa_cons (pv 8) (pa_cons (pv 5) (pa_cons (pv 6) pa_nil)))) (pa_cons (pe_tup (pa_cons pe_str (pa_cons (pe_ix (r := rIx K) ix_seq (pv 7) (pv 8) (fun _ _ => rfl)) pa_nil))) pa_nil))))) (pss_one (ps_ret pe_bl)) pss_nil))) (pss_cons (ps_if (pt_not (pt_val (pe_call G_l_alike (hr.mono (by decide)) rfl A.l_alike.m A.l_alike.kp A.l_alike.b .nil pass0 (pa_cons (pe_call G_l_by_name (hr.mono (by decide)) rfl A.l_by_name.m A.l_by_name.kp A.l_by_name.b .nil pass0 (pa_cons (pv 5) (pa_cons (pv 6) pa_nil))) (pa_cons (pe_op op_cat (pe_lst (pa_cons pe_bl pa_nil)) (pv 7)) pa_nil))))) (pss_one (ps_ret pe_bl)) pss_nil) (pss_cons (ps_if (PW.pt (pw_or (pt_not (pt_val (pe_call G_l_alike (hr.mono (by decide)) rfl A.l_alike.m A.l_alike.kp A.l_alike.b .nil pass0 (pa_cons (pe_call G_is_forest (hr.mono (by decide)) rfl A.is_forest.m A.is_forest.kp A.is_forest.b .nil pass0 (pa_cons (pv 5) pa_nil)) (pa_cons pe_bl pa_nil))))) (pw_or1 (pt_not (pt_val (pe_call G_l_alike (hr.mono (by decide)) rfl A.l_alike.m A.l_alike.kp A.l_alike.b .nil pass0 (pa_cons (pe_call G_is_forest (hr.mono (by decide)) rfl A.is_forest.m A.is_forest.kp A.is_forest.b .nil pass0 (pa_cons (pv 6) pa_nil)) (pa_cons pe_bl pa_nil)))))))) (pss_one (ps_ret pe_bl)) pss_nil) (pss_cons (ps_set (i := 9) sc_law.nd rfl (by first | exact Or.inl rfl | exact Or.inr rfl) (pe_call G_l_bad (hr.mono (by decide)) rfl A.l_bad.m A.l_bad.kp A.l_bad.b .nil pass0 (pa_cons (pe_call G_l_box (hr.mono (by decide)) rfl A.l_box.m A.l_box.kp A.l_box.b .nil pass0 (pa_cons (pv 0) (pa_cons pe_int pa_nil))) (pa_cons (pe_ix (r := rIx K) ix_seq (pv 3) pe_int (fun _ _ => rfl)) (pa_cons (pe_ix (r := rIx K) ix_seq (pv 3) pe_int (fun _ _ => rfl)) pa_nil))))) (pss_cons (ps_set (i := 10) sc_law.nd rfl (by first | exact Or.inl rfl | exact Or.inr rfl) (pe_call G_l_bad (hr.mono (by decide)) rfl A.l_bad.m A.l_bad.kp A.l_bad.b .nil pass0 (pa_cons (pe_call G_l_box (hr.mono (by decide)) rfl A.l_box.m A.l_box.kp A.l_box.b .nil pass0 (pa_cons (pv 0) (pa_cons pe_int pa_nil))) (pa_cons (pe_ix (r := rIx K) ix_seq (pv 4) pe_int (fun _ _ => rfl)) (pa_cons (pe_ix (r := rIx K) ix_seq (pv 4) pe_int (fun _ _ => rfl)) pa_nil))))) (pss_cons (ps_if (PW.pt (pw_or (pt_not (pt_val (pe_call G_l_alike (hr.mono (by decide)) rfl A.l_alike.m A.l_alike.kp A.l_alike.b .nil pass0 (pa_cons (pe_call G_is_forest (hr.mono (by decide)) rfl A.is_forest.m A.is_forest.kp A.is_forest.b .nil pass0 (pa_cons (pv 9) pa_nil)) (pa_cons pe_bl pa_nil))))) (pw_or1 (pt_not (pt_val (pe_call G_l_alike (hr.mono (by decide)) rfl A.l_alike.m A.l_alike.kp A.l_alike.b .nil pass0 (pa_cons (pe_call G_is_forest (hr.mono (by decide)) rfl A.is_forest.m A.is_forest.kp A.is_forest.b .nil pass0 (pa_cons (pv 10) pa_nil)) (pa_cons pe_bl pa_nil)))))))) (pss_one (ps_ret pe_bl)) pss_nil) (pss_cons (ps_for PassesOwn.never rfl (pi_range1 rfl A.n_range (pa_cons pe_int pa_nil)) (pg_name (i := 8) sc_law.nd rfl (by first | exact Or.inl rfl | exact Or.inr rfl)) (pss_cons (ps_if (pt_not (pt_val (pe_call G_l_alike (hr.mono (by decide)) rfl A.l_alike.m A.l_alike.kp A.l_alike.b .nil pass0 (pa_cons (pe_call G_l_asked (hr.mono (by decide)) rfl A.l_asked.m A.l_asked.kp A.l_asked.b .nil pass0 (pa_cons (pv 8) (pa_cons (pv 9) (pa_cons (pv 6) pa_nil)))) (pa_cons (pe_tup (pa_cons pe_str (pa_cons (pv 9) pa_nil))) pa_nil))))) (pss_one (ps_ret pe_bl)) pss_nil) (pss_one (ps_if (pt_not (pt_val (pe_call G_l_alike (hr.mono (by decide)) rfl A.l_alike.m A.l_alike.kp A.l_alike.b .nil pass0 (pa_cons (pe_call G_l_asked (hr.mono (by decide)) rfl A.l_asked.m A.l_asked.kp A.l_asked.b .nil pass0 (pa_cons (pv 8) (pa_cons (pv 9) (pa_cons (pv 10) pa_nil)))) (pa_cons (pe_tup (pa_cons pe_str (pa_cons (pv 9) pa_nil))) pa_nil))))) (pss_one (ps_ret pe_bl)) pss_nil)))) (pss_cons (ps_for PassesOwn.never rfl (pi_list (pe_lst (pa_cons pe_int (pa_cons pe_int pa_nil)))) (pg_name (i := 8) sc_law.nd rfl (by first | exact Or.inl rfl | exact Or.inr rfl)) (pss_one (ps_if (pt_not (pt_val (pe_call G_l_alike (hr.mono (by decide)) rfl A.l_alike.m A.l_alike.kp A.l_alike.b .nil pass0 (pa_cons (pe_call G_l_asked (hr.mono (by decide)) rfl A.l_asked.m A.l_asked.kp A.l_asked.b .nil pass0 (pa_cons (pv 8) (pa_cons (pv 5) (pa_cons (pv 10) pa_nil)))) (pa_cons (pe_tup (pa_cons pe_str (pa_cons (pv 10) pa_nil))) pa_nil))))) (pss_one (ps_ret pe_bl)) pss_nil))) (pss_one (ps_ret pe_bl))))))))))))))))), ?_⟩
    walk_at "vc"
    refine ⟨sc, ns, 0, rfl, hs, hbits, fun b0 x0 y0 z0 hb0 v0 => ?_⟩
    have sA : Same H (upd H b0 (boxL x0 y0 z0)) := Same.new hb0
    have bA : BoxAt (upd H b0 (boxL x0 y0 z0)) b0 0 := ⟨_, _, _, upd_same, v0⟩
    generalize upd H b0 (boxL x0 y0 z0) = HA at sA bA
    refine ⟨sc, ns, 1, rfl, SqL.same hs sA, hbits, fun b1 x1 y1 z1 hb1 v1 => ?_⟩
    have sB := sA.trans (Same.new (o := boxL x1 y1 z1) hb1)
    have bB : BoxAt (upd HA b1 (boxL x1 y1 z1)) b1 0 := ⟨_, _, _, upd_same, v1⟩
    have bA := bA.new (o := boxL x1 y1 z1) hb1
    have n01 : b0 ≠ b1 := fun z => by subst z; exact absurd hb1 (by obtain ⟨_, _, _, e, _⟩ := (show BoxAt HA b0 0 from by assumption); rw [e]; simp)
    have hb1H := fresh_of sA hb1
    generalize upd HA b1 (boxL x1 y1 z1) = HB at sB bB bA
    refine drawn_go bA (by omega) fun t1 a c p n x HC g hn ht1 ha hc et1 w1 sC bC => ?_
    have nb : ∀ {z : Addr}, HB z = none → z ≠ b1 := fun h e => by subst e; exact bB.dom h
    have bB := bB.step sC (Ne.symm n01)
    have sHC := Same.box sB sC hb0
    refine rIx_t (SqT.of et1) rfl (rIx_t (SqT.of et1) rfl ?_)
    refine ⟨b1, 0, a, c, p, n, x, rfl, bB, by omega, w1, nb ha, nb hc, g, hn, fun t2 a' c' p' n' x' HD g' hn' ht2 et2 w2 sD => ?_⟩
    have et1 := sD.keep _ _ (nb ht1) et1
    have w1 : WL HD a c p n x := ⟨sD.keep _ _ (nb ha) w1.1, sD.keep _ _ (nb hc) w1.2⟩
    have sHD := Same.box sHC sD hb1H
    refine rIx_t (SqT.of et1) rfl (rIx_t (SqT.of et1) rfl ?_)
    refine ⟨a, c, p, n, x, rfl, w1.wp, g.pre, g.le, fun va HE sE da => ?_⟩
    have et1 := sE _ _ et1
    have et2 := sE _ _ et2
    have w1 := w1.same sE
    have w2 := w2.same sE
    refine rIx_t (SqT.of et2) rfl (rIx_t (SqT.of et2) rfl ?_)
    refine ⟨a', c', p', n', x', rfl, w2.wp, g'.pre, g'.le, fun vb HF sF db => ?_⟩
    have da := Dp.same sF _ _ da
    refine ⟨t1, a, c, t2, a', c', p, n, x, p', n', x', rfl, g, g', sF _ _ et1, sF _ _ et2, w1.same sF, w2.same sF, fun dl ds HG sG edl dds => ?_⟩
    have et1 := sG _ _ (sF _ _ et1)
    have et2 := sG _ _ (sF _ _ et2)
    have w1 := (w1.same sF).same sG
    have w2 := (w2.same sF).same sG
    have da := Dp.same sG _ _ da
    have db := Dp.same sG _ _ db
    have sHG := ((sHD.trans sE).trans sF).trans sG
    have hs := SqL.same hs sHG
    have ht := TabG.same ht sHG
    have small := kD_small g g' hn hn'
    have gs := g.sz
    have gs' := g'.sz
    clear sHG sHD sHC sB sA sG sF sE sD sC bA bB bC
    refine ⟨by decide, by decide, ?_⟩
    have lds : ds.length = 7 := DpAll.len dds
    have dlT : dl ≠ T := ne_tab ht edl (fun _ z => nomatch z)
    -- what stands from here on: all but the table
    refine ForB.range (fun i σ H' => ∃ z, σ = [some (.ref sc), some (.ref b0), some (.ref b1), some (.ref t1), some (.ref t2), some va, some vb, some (.ref dl), z, none, none] ∧ Up T HG H') ?_ ?_ ?_
    · exact ⟨_, rfl, Up.refl⟩
    · rintro i σ H1 hi ⟨z, rfl, u1⟩
      have hi7 : i < 7 := by
        have : (7 : Int).toNat = 7 := rfl
        omega
      walk_at "vc"
      rw [Int.zero_add]
      refine ⟨i, va, vb, _, _, hi7, rfl, Dp.up u1 ht _ _ da, Dp.up u1 ht _ _ db, g.sml, g'.sml, by omega, by omega, u1.tab ht, .inl ⟨p, n, x, p', n', x', g, g', rfl, rfl, fun r H2 u2 er => ?_⟩⟩
      have u3 := u1.trans u2
      have ed := u3.keep _ _ dlT edl
      obtain ⟨dv, dd, e1, e2, e3⟩ := DpAll.get (i := i) dds (by show i < 7; exact hi7)
      have edd : dd = kD i p n x p' n' x' := by
        have h7 : i = 0 ∨ i = 1 ∨ i = 2 ∨ i = 3 ∨ i = 4 ∨ i = 5 ∨ i = 6 := by omega
        rcases h7 with rfl | rfl | rfl | rfl | rfl | rfl | rfl <;> exact (Option.some.inj e2).symm
      subst edd
      refine rIx_l (SqL.of ed) (atI_nat e1) ⟨by decide, fun t ht' => ?_⟩
      have ut : Up T H2 _ := Up.new (o := .tup [.str "told", dv]) ht'
      refine ⟨r, .ref t, _, rfl, Dp.up ut (u3.tab ht) _ _ er, dp2 upd_same (.str _) (Dp.up (u3.trans ut) ht _ _ e3), shp_of _ _ ⟨by simp, (show (4 : Nat) ≤ 1000 by decide), (small i).1, trivial⟩ (by have := (small i).2; simp only [dep, depAll]; omega), fun H3 s3 => ?_⟩
      exact ⟨_, rfl, iteF ((u3.trans ut).trans (Up.of_same s3))⟩
    · rintro σ H1 ⟨z, rfl, u1⟩
      walk_at "vc"
      refine ⟨va, vb, p, n, x, p', n', x', rfl, g, g', Dp.up u1 ht _ _ da, Dp.up u1 ht _ _ db, u1.tab ht, fun r H2 u2 er => ⟨by decide, fun l1 hl1 => ?_⟩⟩
      have u3 := u1.trans u2
      have ed := u3.keep _ _ dlT edl
      have ul1 : Up T H2 (upd H2 l1 (.lst [.bl true])) := Up.new hl1
      have nl1 := none_ne ed hl1
      refine ⟨_, upd_same, _, by rw [upd_ne nl1]; exact ed, by rw [lds]; show 8 ≤ sizeLine; decide, fun l2 hl2 => ?_⟩
      have ul2 : Up T H2 (upd (upd H2 l1 (.lst [.bl true])) l2 (.lst ([.bl true] ++ ds))) := ul1.trans (Up.new hl2)
      refine ⟨r, .ref l2, _, rfl, Dp.up ul2 (u3.tab ht) _ _ er, .lst (SqL.of upd_same) (.cons (.bl _) (DpAll.up (u3.trans ul2) ht _ _ dds)), shp_of _ _ ⟨by simp, ?_⟩ ?_, fun H3 s3 => ?_⟩
      · exact smlAll_of fun d hd => by
          simp only [List.mem_cons, List.not_mem_nil, or_false] at hd
          rcases hd with rfl | rfl | rfl | rfl | rfl | rfl | rfl | rfl
          · exact trivial
          all_goals exact (small _).1
      · have : ∀ d ∈ [.bool true, kD 0 p n x p' n' x', kD 1 p n x p' n' x', kD 2 p n x p' n' x', kD 3 p n x p' n' x', kD 4 p n x p' n' x', kD 5 p n x p' n' x', kD 6 p n x p' n' x'], dep d ≤ 20 := fun d hd => by
          simp only [List.mem_cons, List.not_mem_nil, or_false] at hd
          rcases hd with rfl | rfl | rfl | rfl | rfl | rfl | rfl | rfl
          · simp [dep]
          all_goals exact (small _).2
        have := depAll_le this
        show depAll _ + 1 < 36
        omega
      have u4 := (u3.trans ul2).trans (Up.of_same s3)
      clear u1 u2 u3 ed ul1 nl1 ul2 s3 er hl1 hl2
      refine ⟨_, rfl, iteF ?_⟩
      have tr1 : ∀ {H' : Hp}, Up T HG H' → Dp K H' va (foD p n x) := fun u => Dp.up u ht _ _ da
      have tr2 : ∀ {H' : Hp}, Up T HG H' → Dp K H' vb (foD p' n' x') := fun u => Dp.up u ht _ _ db
      refine ⟨va, _, rfl, tr1 u4, g.sml, by omega, u4.tab ht, fun H4 v4 => ?_⟩
      rw [g.forD]
      refine ⟨_, _, .bool true, rfl, .bl _, .bl _, trivial, fun H5 s5 => ⟨_, rfl, iteF ?_⟩⟩
      have u5 := (u4.trans v4).trans (Up.of_same s5)
      refine ⟨vb, _, rfl, tr2 u5, g'.sml, by omega, u5.tab ht, fun H6 v6 => ?_⟩
      rw [g'.forD]
      refine ⟨_, _, .bool true, rfl, .bl _, .bl _, trivial, fun H7 s7 => ⟨_, rfl, iteF ?_⟩⟩
      have u7 := (u5.trans v6).trans (Up.of_same s7)
      clear v4 s5 u5 v6 s7 u4
      have tT : ∀ {z : Addr} {xs : List V}, HG z = some (.tup xs) → ∀ {H' : Hp}, Up T HG H' → H' z = some (.tup xs) := fun e _ u => u.keep _ _ (ne_tab ht e (fun _ z => nomatch z)) e
      have lT : ∀ {z : Addr} {xs : List V}, HG z = some (.lst xs) → ∀ {H' : Hp}, Up T HG H' → H' z = some (.lst xs) := fun e _ u => u.keep _ _ (ne_tab ht e (fun _ z => nomatch z)) e
      -- a value that is no forest, and another
      refine ⟨sc, ns, 2, rfl, SqL.up hs u7 ht, hbits, fun b2 x2 y2 z2 hb2 v2 => ?_⟩
      have m1 := Same.new (o := boxL x2 y2 z2) hb2
      refine rIx_t (SqT.of (m1 _ _ (tT et1 u7))) rfl (rIx_t (SqT.of (m1 _ _ (tT et1 u7))) rfl ?_)
      refine ⟨b2, 0, a, c, p, n, x, rfl, ⟨_, _, _, upd_same, v2⟩, by omega, ⟨SqL.of (m1 _ _ (lT w1.1 u7)), SqL.of (m1 _ _ (lT w1.2 u7))⟩, none_ne (lT w1.1 u7) hb2, none_ne (lT w1.2 u7) hb2, g, hn, fun v d H8 s8 dv fv sv zv ev => ?_⟩
      have u8 := u7.trans (up_box (T := T) hb2 s8)
      refine ⟨sc, ns, 3, rfl, SqL.up hs u8 ht, hbits, fun b3 x3 y3 z3 hb3 v3 => ?_⟩
      have m2 := Same.new (o := boxL x3 y3 z3) hb3
      refine rIx_t (SqT.of (m2 _ _ (tT et2 u8))) rfl (rIx_t (SqT.of (m2 _ _ (tT et2 u8))) rfl ?_)
      refine ⟨b3, 0, a', c', p', n', x', rfl, ⟨_, _, _, upd_same, v3⟩, by omega, ⟨SqL.of (m2 _ _ (lT w2.1 u8)), SqL.of (m2 _ _ (lT w2.2 u8))⟩, none_ne (lT w2.1 u8) hb3, none_ne (lT w2.2 u8) hb3, g', hn', fun v' d' H9 s9 dv' fv' sv' zv' ev' => ?_⟩
      have uu9 := up_box (T := T) hb3 s9
      have dv := Dp.up uu9 (u8.tab ht) _ _ dv
      have u9 := u8.trans uu9
      have t9 := u9.tab ht
      have da9 := tr1 u9
      have db9 := tr2 u9
      clear tr1 tr2 tT lT m1 m2 uu9 u8 u9 u7 s8 s9
      -- from H9 on
      refine ⟨v, d, rfl, dv, sv, by omega, t9, fun H10 u10 => ?_⟩
      rw [fv]
      refine ⟨_, _, .bool false, rfl, .bl _, .bl _, trivial, fun H11 s11 => ⟨_, rfl, iteF ?_⟩⟩
      have u11 := u10.trans (Up.of_same s11)
      refine ⟨v', d', rfl, Dp.up u11 t9 _ _ dv', sv', by omega, u11.tab t9, fun H12 u12 => ?_⟩
      rw [fv']
      refine ⟨_, _, .bool false, rfl, .bl _, .bl _, trivial, fun H13 s13 => ⟨_, rfl, iteF ⟨by decide, by decide, ?_⟩⟩⟩
      have u13 := (u11.trans u12).trans (Up.of_same s13)
      have shp : ∀ e : PyData, Sml e → dep e ≤ 25 → Shp 36 (.tuple [.str "refused", e]) := fun e h1 h2 => shp_of _ _ ⟨by simp, (show (7 : Nat) ≤ 1000 by decide), h1, trivial⟩ (by simp only [dep, depAll]; omega)
      refine ForB.range (fun i σ H' => ∃ z, σ = [some (.ref sc), some (.ref b0), some (.ref b1), some (.ref t1), some (.ref t2), some va, some vb, some (.ref dl), z, some v, some v'] ∧ Up T H9 H') ?_ ?_ ?_
      · exact ⟨_, rfl, u13⟩
      · rintro i σ G1 hi ⟨z, rfl, w1⟩
        have hi7 : i < 7 := by
          have : (7 : Int).toNat = 7 := rfl
          omega
        walk_at "vc"
        rw [Int.zero_add]
        refine ⟨i, v, vb, _, _, hi7, rfl, Dp.up w1 t9 _ _ dv, Dp.up w1 t9 _ _ db9, sv, g'.sml, by omega, by omega, w1.tab t9, .inr (.inl ⟨fv, fun r G2 w2 er => ⟨by decide, fun t ht' => ?_⟩⟩)⟩
        have ut : Up T G2 _ := Up.new (o := .tup [.str "refused", v]) ht'
        have w3 := (w1.trans w2).trans ut
        refine ⟨r, .ref t, _, rfl, Dp.up ut ((w1.trans w2).tab t9) _ _ er, dp2 upd_same (.str _) (Dp.up w3 t9 _ _ dv), shp _ sv ev, fun G3 s3 => ⟨_, rfl, iteF ?_⟩⟩
        have w4 := w3.trans (Up.of_same s3)
        refine ⟨i, v, v', _, _, hi7, rfl, Dp.up w4 t9 _ _ dv, Dp.up w4 t9 _ _ dv', sv, sv', by omega, by omega, w4.tab t9, .inr (.inl ⟨fv, fun r G4 w5 er => ⟨by decide, fun t ht' => ?_⟩⟩)⟩
        have ut : Up T G4 _ := Up.new (o := .tup [.str "refused", v]) ht'
        have w6 := (w4.trans w5).trans ut
        refine ⟨r, .ref t, _, rfl, Dp.up ut ((w4.trans w5).tab t9) _ _ er, dp2 upd_same (.str _) (Dp.up w6 t9 _ _ dv), shp _ sv ev, fun G5 s5 => ⟨_, rfl, iteF ?_⟩⟩
        exact w6.trans (Up.of_same s5)
      · rintro σ G1 ⟨z, rfl, w1⟩
        walk_at "vc"
        refine ⟨by decide, fun l hl => ?_⟩
        have ul : Up T G1 (upd G1 l (.lst [.int 5, .int 6])) := Up.new hl
        have el : (upd G1 l (.lst [.int 5, .int 6])) l = some (.lst [.int 5, .int 6]) := upd_same
        have tl := ul.tab (w1.tab t9)
        have lT := ne_tab tl el (fun _ z => nomatch z)
        have w1 := w1.trans ul
        generalize upd G1 l (.lst [.int 5, .int 6]) = G2 at ul el tl w1
        refine ⟨⟨_, SqL.of el⟩, ?_⟩
        refine ForB.list (xs := [.int 5, .int 6]) (fun i σ H' => ∃ z, σ = [some (.ref sc), some (.ref b0), some (.ref b1), some (.ref t1), some (.ref t2), some va, some vb, some (.ref dl), z, some v, some v'] ∧ Up T G2 H') ?_ ?_ ?_ ?_
        · exact ⟨_, rfl, Up.refl⟩
        · rintro i σ G3 _ ⟨_, _, u⟩
          exact SqL.of (u.keep _ _ lT el)
        · rintro i xv σ G3 hi ⟨z, rfl, u⟩
          obtain ⟨k, hk5, hk7, rfl⟩ : ∃ k : Nat, 5 ≤ k ∧ k < 7 ∧ xv = .int (k : Int) := by
            have hi2 : i < 2 := (List.getElem?_eq_some_iff.mp hi).1
            have : i = 0 ∨ i = 1 := by omega
            rcases this with rfl | rfl
            · exact ⟨5, by decide, by decide, (Option.some.inj hi).symm⟩
            · exact ⟨6, by decide, by decide, (Option.some.inj hi).symm⟩
          walk_at "vc"
          have w3 := w1.trans u
          refine ⟨k, va, v', _, _, hk7, rfl, Dp.up w3 t9 _ _ da9, Dp.up w3 t9 _ _ dv', g.sml, sv', by omega, by omega, w3.tab t9, .inr (.inr ⟨p, n, x, g, rfl, hk5, fv', fun r G4 w4 er => ⟨by decide, fun t ht' => ?_⟩⟩)⟩
          have ut : Up T G4 _ := Up.new (o := .tup [.str "refused", v']) ht'
          have w5 := (w3.trans w4).trans ut
          refine ⟨r, .ref t, _, rfl, Dp.up ut ((w3.trans w4).tab t9) _ _ er, dp2 upd_same (.str _) (Dp.up w5 t9 _ _ dv'), shp _ sv' ev', fun G5 s5 => ⟨_, rfl, iteF ?_⟩⟩
          exact ((u.trans w4).trans ut).trans (Up.of_same s5)
        · rintro σ G3 ⟨z, rfl, u⟩
          exact q _
end
end Ly
namespace Ly
open PySem PySem.Spec PyProof.Rows L2
section
variable {K : PySem.W.Frag} {h : Heap} {mg : Str → Option Value}
def mkDefC {x : Str} {st : Stmt} {ps : List Str} {f cd : Addr} {oc kV doc pm ct : Value} {od an : Option Addr} {osl : Array (Option Value)} (X : K.In h) (G : h.Ns mainGlobals mg)
    (hb : ∀ (kV doc pm : Value) (an : Option Addr) (cdv ct : Value) (us : List Value), us.length = ps.length → bindArgs (PySem.W.fnOf x x (defArgs st) (defBody st) (defScope st) .none kV doc pm an cdv ct) ⟨us, []⟩ = pure (ps.zip us))
    (a : PySem.W.nsIn K mainGlobals x = some (some (.ref f))) (l : K.lookup f = some ⟨oc, od, .func (PySem.W.fnOf x x (defArgs st) (defBody st) (defScope st) .none kV doc pm an (.ref cd) ct), osl⟩)
    (c : PySem.W.codeIn K (.ref cd) x = true) (k : PySem.W.keepIn K (.ref f) = true) : DefAtC K mg x st ps :=
  { f := f, c := cd, fd := _, ex := ⟨oc, od, kV, doc, pm, an, ct, osl, rfl, l, c⟩, kp := k, m := PySem.W.mg_of X G a, b := (fun_mk (st := st) l c k).binds hb }
def mkConst {x : Str} {v : V} {u : Value} (X : K.In h) (G : h.Ns mainGlobals mg) (a : PySem.W.nsIn K mainGlobals x = some (some u)) (r : RelV v u) : ConstAt mg x v := ⟨u, PySem.W.mg_of X G a, r⟩
end
theorem mkTab {K : PySem.W.Frag} {x : Str} {f c c' P : Addr} {oc oc' : Value} {od od' : Option Addr} {osl osl' : Array (Option Value)} {fd : FuncData} {vs : Array Value}
    (a : PySem.W.nsIn K mainGlobals x = some (some (.ref f))) (l : K.lookup f = some ⟨oc, od, .func fd, osl⟩) (hc : fd.code = .ref c) (lc : K.lookup c = some ⟨oc', od', .fields vs, osl'⟩) (hv : (vs[11]? : Option Value) = some (.ref P)) (he : c = c') : PySem.W.tabIn K x = some (c', P) := by
  subst he
  unfold PySem.W.tabIn
  simp only [a, l, hc, lc, hv]
/-- what is told of the table of the def x -/
def TabSays (K : PySem.W.Frag) (x : Str) (h : Heap) : Prop := ∀ c P, PySem.W.tabIn K x = some (c, P) → PySem.W.CodeHd h c P ∧ h.get? P = some { cls := .none, data := .fields #[] }
theorem fin {l : PySem.W.OpenLaw} {w : World} {K : PySem.W.Frag} {mg : Str → Option Value} {fa : Addr} {h : Heap} (A : All K mg) (hfa : mg "law" = some (.ref fa)) (tb : TabSays K "is_word" h) : LamX.LawAtS l w K CX0 37 63 "script" mg fa h := by
  have e := A.law.m
  rw [hfa] at e
  have e2 : fa = A.law.f := Value.ref.inj (Option.some.inj e)
  rw [e2]
  obtain ⟨t1, t2⟩ := tb _ _ A.tab
  refine ⟨A.law.fd, [(A.is_word.c, A.tP)], sp_law K A.tP, fun p hp => ?_, fun p hp => ?_, fun p hp => ?_, A.law.one (fun _ _ _ _ _ _ _ => rfl), fun H a ns _ hb hT hS => ⟨a, ns, rfl, hS, hb, ⟨#[], hT _ List.mem_cons_self, ?_⟩, fun _ => rfl⟩, fun base _ nb TBs => ok_law A (let z := TBs _ List.mem_cons_self; ⟨z.1, z.2, z.3⟩) nb⟩
  · obtain rfl : p = (A.is_word.c, A.tP) := by simpa using hp
    exact t2
  · obtain rfl : p = (A.is_word.c, A.tP) := by simpa using hp
    exact A.tN
  · obtain rfl : p = (A.is_word.c, A.tP) := by simpa using hp
    exact t1
  · first | exact trivial | exact .nil | simp [TriplesOk]
theorem walk {l : PySem.W.OpenLaw} {q : Program} {loose : List Str} {XP : (Str → Option Value) → Heap → Prop} {YP : World → Heap → Prop} {d : DefRec} {K : Params → PySem.W.Frag} (hn : l.most = some 63) (hdf : d.params.defaults = [])
    (hrec : ((recsOf q).find? fun e => e.name == ("is_word" : Str)).isSome = true) (hY : ∀ (w : World) (h : Heap), YP w h → (K w.params).In h)
    (F : ∀ (w : World) (mg : Str → Option Value) (fa : Addr) (h : Heap), (K w.params).In h → h.Ns mainGlobals mg → mg d.name = some (.ref fa) → TabSays (K w.params) "is_word" h → LamX.LawAtS l w (K w.params) CX0 37 63 "script" mg fa h) :
    PySem.W.WalkO q loose XP YP l.row.toRowW d [] (fun f vs => PySem.call f vs) := by
  refine Att.attach_callB hn hdf fun w s₀ s₁ mg mb fa o pm cd doc a vs ns G Y ho hd hcd hmg hobj hints hlen hbits hg => ?_
  have KX := hY w _ Y
  obtain ⟨dd, hdd⟩ := Option.isSome_iff_exists.mp hrec
  obtain ⟨fd, cs, sp, hT, nT, C, hb, hsp, hF⟩ := F w mg fa _ KX G.T.g hmg fun c P ht => PySem.W.tab_of G.T KX hdd ht
  exact LamX.law_callTs KX G.T.g G.T.b G.T.builtins G.T.nolimit hg hT nT C G.T.bmain hobj hints (Nat.le_trans hlen (by decide)) ⟨rfl, by decide, by decide⟩ hF hb (fun H hH hS => hsp H a ns hlen hbits hH hS) fun H e s' z => z
end Ly
open PySem PySem.W PyProof.Rows in
set_option maxRecDepth 100000 in
set_option maxHeartbeats 0 in
theorem PySem.Challenge.cw_graftbook_k02_forests_holds : PySem.Challenge.rw_graftbook_k02_forests.Holds := by
  w_on; o_law; k_head; (case hw => w_witness2)
  k_fill
  refine Ly.walk (l := PySem.Challenge.rw_graftbook_k02_forests) rfl rfl (by decide +kernel) (fun w h Y => PySem.W.kIn_of Y) ?F
  case F =>
    intro w mg fa h KX G hmg tb
    refine Ly.fin ?A hmg tb
    case A =>
      refine' { c_GraftError := ?x_c_GraftError, is_word := ?x_is_word, is_tuple_of := ?x_is_tuple_of, listed := ?x_listed, node_words := ?x_node_words, node_parents := ?x_node_parents, node_paths := ?x_node_paths, node_depths := ?x_node_depths, node_sizes := ?x_node_sizes, node_posts := ?x_node_posts, in_postorder := ?x_in_postorder, is_forest := ?x_is_forest, need_forests := ?x_need_forests, forest_size := ?x_forest_size, forest_depth := ?x_forest_depth, forest_words := ?x_forest_words, words_behind := ?x_words_behind, forest_joined := ?x_forest_joined, forest_turned := ?x_forest_turned, turned := ?x_turned, forest_below := ?x_forest_below, forest_rank := ?x_forest_rank, l_cell := ?x_l_cell, l_mix := ?x_l_mix, l_box := ?x_l_box, l_draw := ?x_l_draw, l_word := ?x_l_word, l_parents := ?x_l_parents, l_forest := ?x_l_forest, l_sizes := ?x_l_sizes, l_depths := ?x_l_depths, l_posts := ?x_l_posts, l_drawn := ?x_l_drawn, l_bad_word := ?x_l_bad_word, l_bad_tree := ?x_l_bad_tree, l_bad := ?x_l_bad, l_alike := ?x_l_alike, l_behind := ?x_l_behind, l_mirrored := ?x_l_mirrored, l_other := ?x_l_other, l_asked := ?x_l_asked, l_by_name := ?x_l_by_name, l_due := ?x_l_due, law := ?x_law, c_InvalidForest := ?x_c_InvalidForest, k_LETTERS := ?x_k_LETTERS, k_LONGEST_WORD := ?x_k_LONGEST_WORD, tP := ?x_tP, tab := ?x_tab, tN := ?x_tN, oc := ?x_oc, n_ValueError := ?x_n_ValueError, n_all := ?x_n_all, n_tuple := ?x_n_tuple, n_reversed := ?x_n_reversed, n_zip := ?x_n_zip, n_len := ?x_n_len, n_max := ?x_n_max, n_range := ?x_n_range, n_isinstance := ?x_n_isinstance, n_bool := ?x_n_bool, n_str := ?x_n_str, n_list := ?x_n_list, n_int := ?x_n_int }
      case x_c_GraftError =>
        refine' Ly.mkExc0 KX G ?a ?l
        (case a => k_is)
        (case l => k_is)
      case x_is_word =>
        refine' Ly.mkDefC KX G (fun _ _ _ _ _ _ us hl => match us, hl with | [_], _ => rfl) ?a ?l ?c ?k
        (case a => k_is)
        (case l => k_is)
        (case c => k_is)
        (case k => k_is)
      case x_is_tuple_of =>
        refine' Ly.mkDef KX G (fun _ _ _ _ _ _ us hl => match us, hl with | [_, _], _ => rfl) ?a ?l ?c ?k
        (case a => k_is)
        (case l => k_is)
        (case c => k_is)
        (case k => k_is)
      case x_listed =>
        refine' Ly.mkDef KX G (fun _ _ _ _ _ _ us hl => match us, hl with | [_], _ => rfl) ?a ?l ?c ?k
        (case a => k_is)
        (case l => k_is)
        (case c => k_is)
        (case k => k_is)
      case x_node_words =>
        refine' Ly.mkDef KX G (fun _ _ _ _ _ _ us hl => match us, hl with | [_], _ => rfl) ?a ?l ?c ?k
        (case a => k_is)
        (case l => k_is)
        (case c => k_is)
        (case k => k_is)
      case x_node_parents =>
        refine' Ly.mkDef KX G (fun _ _ _ _ _ _ us hl => match us, hl with | [_], _ => rfl) ?a ?l ?c ?k
        (case a => k_is)
        (case l => k_is)
        (case c => k_is)
        (case k => k_is)
      case x_node_paths =>
        refine' Ly.mkDef KX G (fun _ _ _ _ _ _ us hl => match us, hl with | [_], _ => rfl) ?a ?l ?c ?k
        (case a => k_is)
        (case l => k_is)
        (case c => k_is)
        (case k => k_is)
      case x_node_depths =>
        refine' Ly.mkDef KX G (fun _ _ _ _ _ _ us hl => match us, hl with | [_], _ => rfl) ?a ?l ?c ?k
        (case a => k_is)
        (case l => k_is)
        (case c => k_is)
        (case k => k_is)
      case x_node_sizes =>
        refine' Ly.mkDef KX G (fun _ _ _ _ _ _ us hl => match us, hl with | [_], _ => rfl) ?a ?l ?c ?k
        (case a => k_is)
        (case l => k_is)
        (case c => k_is)
        (case k => k_is)
      case x_node_posts =>
        refine' Ly.mkDef KX G (fun _ _ _ _ _ _ us hl => match us, hl with | [_], _ => rfl) ?a ?l ?c ?k
        (case a => k_is)
        (case l => k_is)
        (case c => k_is)
        (case k => k_is)
      case x_in_postorder =>
        refine' Ly.mkDef KX G (fun _ _ _ _ _ _ us hl => match us, hl with | [_, _], _ => rfl) ?a ?l ?c ?k
        (case a => k_is)
        (case l => k_is)
        (case c => k_is)
        (case k => k_is)
      case x_is_forest =>
        refine' Ly.mkDef KX G (fun _ _ _ _ _ _ us hl => match us, hl with | [_], _ => rfl) ?a ?l ?c ?k
        (case a => k_is)
        (case l => k_is)
        (case c => k_is)
        (case k => k_is)
      case x_need_forests =>
        refine' Ly.mkDefS KX G (fun _ _ _ _ _ _ rest => by cases rest <;> rfl) ?a ?l ?c ?k
        (case a => k_is)
        (case l => k_is)
        (case c => k_is)
        (case k => k_is)
      case x_forest_size =>
        refine' Ly.mkDef KX G (fun _ _ _ _ _ _ us hl => match us, hl with | [_], _ => rfl) ?a ?l ?c ?k
        (case a => k_is)
        (case l => k_is)
        (case c => k_is)
        (case k => k_is)
      case x_forest_depth =>
        refine' Ly.mkDef KX G (fun _ _ _ _ _ _ us hl => match us, hl with | [_], _ => rfl) ?a ?l ?c ?k
        (case a => k_is)
        (case l => k_is)
        (case c => k_is)
        (case k => k_is)
      case x_forest_words =>
        refine' Ly.mkDef KX G (fun _ _ _ _ _ _ us hl => match us, hl with | [_], _ => rfl) ?a ?l ?c ?k
        (case a => k_is)
        (case l => k_is)
        (case c => k_is)
        (case k => k_is)
      case x_words_behind =>
        refine' Ly.mkDef KX G (fun _ _ _ _ _ _ us hl => match us, hl with | [_], _ => rfl) ?a ?l ?c ?k
        (case a => k_is)
        (case l => k_is)
        (case c => k_is)
        (case k => k_is)
      case x_forest_joined =>
        refine' Ly.mkDef KX G (fun _ _ _ _ _ _ us hl => match us, hl with | [_, _], _ => rfl) ?a ?l ?c ?k
        (case a => k_is)
        (case l => k_is)
        (case c => k_is)
        (case k => k_is)
      case x_forest_turned =>
        refine' Ly.mkDef KX G (fun _ _ _ _ _ _ us hl => match us, hl with | [_], _ => rfl) ?a ?l ?c ?k
        (case a => k_is)
        (case l => k_is)
        (case c => k_is)
        (case k => k_is)
      case x_turned =>
        refine' Ly.mkDef KX G (fun _ _ _ _ _ _ us hl => match us, hl with | [_], _ => rfl) ?a ?l ?c ?k
        (case a => k_is)
        (case l => k_is)
        (case c => k_is)
        (case k => k_is)
      case x_forest_below =>
        refine' Ly.mkDef KX G (fun _ _ _ _ _ _ us hl => match us, hl with | [_, _], _ => rfl) ?a ?l ?c ?k
        (case a => k_is)
        (case l => k_is)
        (case c => k_is)
        (case k => k_is)
      case x_forest_rank =>
        refine' Ly.mkDef KX G (fun _ _ _ _ _ _ us hl => match us, hl with | [_], _ => rfl) ?a ?l ?c ?k
        (case a => k_is)
        (case l => k_is)
        (case c => k_is)
        (case k => k_is)
      case x_l_cell =>
        refine' Ly.mkDef KX G (fun _ _ _ _ _ _ us hl => match us, hl with | [_, _], _ => rfl) ?a ?l ?c ?k
        (case a => k_is)
        (case l => k_is)
        (case c => k_is)
        (case k => k_is)
      case x_l_mix =>
        refine' Ly.mkDef KX G (fun _ _ _ _ _ _ us hl => match us, hl with | [_, _], _ => rfl) ?a ?l ?c ?k
        (case a => k_is)
        (case l => k_is)
        (case c => k_is)
        (case k => k_is)
      case x_l_box =>
        refine' Ly.mkDef KX G (fun _ _ _ _ _ _ us hl => match us, hl with | [_, _], _ => rfl) ?a ?l ?c ?k
        (case a => k_is)
        (case l => k_is)
        (case c => k_is)
        (case k => k_is)
      case x_l_draw =>
        refine' Ly.mkDef KX G (fun _ _ _ _ _ _ us hl => match us, hl with | [_, _], _ => rfl) ?a ?l ?c ?k
        (case a => k_is)
        (case l => k_is)
        (case c => k_is)
        (case k => k_is)
      case x_l_word =>
        refine' Ly.mkDef KX G (fun _ _ _ _ _ _ us hl => match us, hl with | [_], _ => rfl) ?a ?l ?c ?k
        (case a => k_is)
        (case l => k_is)
        (case c => k_is)
        (case k => k_is)
      case x_l_parents =>
        refine' Ly.mkDef KX G (fun _ _ _ _ _ _ us hl => match us, hl with | [_, _], _ => rfl) ?a ?l ?c ?k
        (case a => k_is)
        (case l => k_is)
        (case c => k_is)
        (case k => k_is)
      case x_l_forest =>
        refine' Ly.mkDef KX G (fun _ _ _ _ _ _ us hl => match us, hl with | [_, _], _ => rfl) ?a ?l ?c ?k
        (case a => k_is)
        (case l => k_is)
        (case c => k_is)
        (case k => k_is)
      case x_l_sizes =>
        refine' Ly.mkDef KX G (fun _ _ _ _ _ _ us hl => match us, hl with | [_], _ => rfl) ?a ?l ?c ?k
        (case a => k_is)
        (case l => k_is)
        (case c => k_is)
        (case k => k_is)
      case x_l_depths =>
        refine' Ly.mkDef KX G (fun _ _ _ _ _ _ us hl => match us, hl with | [_], _ => rfl) ?a ?l ?c ?k
        (case a => k_is)
        (case l => k_is)
        (case c => k_is)
        (case k => k_is)
      case x_l_posts =>
        refine' Ly.mkDef KX G (fun _ _ _ _ _ _ us hl => match us, hl with | [_], _ => rfl) ?a ?l ?c ?k
        (case a => k_is)
        (case l => k_is)
        (case c => k_is)
        (case k => k_is)
      case x_l_drawn =>
        refine' Ly.mkDef KX G (fun _ _ _ _ _ _ us hl => match us, hl with | [_], _ => rfl) ?a ?l ?c ?k
        (case a => k_is)
        (case l => k_is)
        (case c => k_is)
        (case k => k_is)
      case x_l_bad_word =>
        refine' Ly.mkDef KX G (fun _ _ _ _ _ _ us hl => match us, hl with | [_], _ => rfl) ?a ?l ?c ?k
        (case a => k_is)
        (case l => k_is)
        (case c => k_is)
        (case k => k_is)
      case x_l_bad_tree =>
        refine' Ly.mkDef KX G (fun _ _ _ _ _ _ us hl => match us, hl with | [_, _, _], _ => rfl) ?a ?l ?c ?k
        (case a => k_is)
        (case l => k_is)
        (case c => k_is)
        (case k => k_is)
      case x_l_bad =>
        refine' Ly.mkDef KX G (fun _ _ _ _ _ _ us hl => match us, hl with | [_, _, _], _ => rfl) ?a ?l ?c ?k
        (case a => k_is)
        (case l => k_is)
        (case c => k_is)
        (case k => k_is)
      case x_l_alike =>
        refine' Ly.mkDef KX G (fun _ _ _ _ _ _ us hl => match us, hl with | [_, _], _ => rfl) ?a ?l ?c ?k
        (case a => k_is)
        (case l => k_is)
        (case c => k_is)
        (case k => k_is)
      case x_l_behind =>
        refine' Ly.mkDef KX G (fun _ _ _ _ _ _ us hl => match us, hl with | [_, _], _ => rfl) ?a ?l ?c ?k
        (case a => k_is)
        (case l => k_is)
        (case c => k_is)
        (case k => k_is)
      case x_l_mirrored =>
        refine' Ly.mkDef KX G (fun _ _ _ _ _ _ us hl => match us, hl with | [_, _], _ => rfl) ?a ?l ?c ?k
        (case a => k_is)
        (case l => k_is)
        (case c => k_is)
        (case k => k_is)
      case x_l_other =>
        refine' Ly.mkDef KX G (fun _ _ _ _ _ _ us hl => match us, hl with | [_, _, _], _ => rfl) ?a ?l ?c ?k
        (case a => k_is)
        (case l => k_is)
        (case c => k_is)
        (case k => k_is)
      case x_l_asked =>
        refine' Ly.mkDef KX G (fun _ _ _ _ _ _ us hl => match us, hl with | [_, _, _], _ => rfl) ?a ?l ?c ?k
        (case a => k_is)
        (case l => k_is)
        (case c => k_is)
        (case k => k_is)
      case x_l_by_name =>
        refine' Ly.mkDef KX G (fun _ _ _ _ _ _ us hl => match us, hl with | [_, _], _ => rfl) ?a ?l ?c ?k
        (case a => k_is)
        (case l => k_is)
        (case c => k_is)
        (case k => k_is)
      case x_l_due =>
        refine' Ly.mkDef KX G (fun _ _ _ _ _ _ us hl => match us, hl with | [_, _], _ => rfl) ?a ?l ?c ?k
        (case a => k_is)
        (case l => k_is)
        (case c => k_is)
        (case k => k_is)
      case x_law =>
        refine' Ly.mkDef KX G (fun _ _ _ _ _ _ us hl => match us, hl with | [_], _ => rfl) ?a ?l ?c ?k
        (case a => k_is)
        (case l => k_is)
        (case c => k_is)
        (case k => k_is)
      case x_c_InvalidForest =>
        refine' Ly.mkExc KX G _ (fun _ _ _ _ _ _ us hl => match us, hl with | [_, _], _ => rfl) ?ag ?a ?l ?sa ?kC ?i ?ty ?ga ?gg ?ca ⟨?f0, trivial⟩ ?lf ?c ?k
        (case ag => k_is)
        (case a => k_is)
        (case l => k_is)
        (case sa => k_is)
        (case kC => k_is)
        (case i => k_is)
        (case ty => k_is)
        (case ga => k_is)
        (case gg => k_is)
        (case ca => k_is)
        (case f0 => k_is)
        (case lf => k_is)
        (case c => k_is)
        (case k => k_is)
      case x_k_LETTERS =>
        refine' Ly.mkConst KX G ?a ?r
        (case a => k_is)
        (case r => first | exact ⟨_, rfl⟩ | exact ⟨_, by with_unfolding_all rfl⟩ | (refine ⟨_, congrArg (fun z => Value.str z _) ?_⟩; decide +kernel))
      case x_k_LONGEST_WORD =>
        refine' Ly.mkConst KX G ?a ?r
        (case a => k_is)
        (case r => first | exact ⟨_, rfl⟩ | exact ⟨_, by with_unfolding_all rfl⟩ | (refine ⟨_, congrArg (fun z => Value.str z _) ?_⟩; decide +kernel))
      case x_tab =>
        refine' Ly.mkTab ?a ?l ?tb1 ?tb2 ?tb3 ?tb4
        (case a => k_is)
        (case l => k_is)
        (case tb1 => rfl)
        (case tb2 => k_is)
        (case tb3 => rfl)
        (case tb4 => rfl)
      case x_tN =>
        first | rfl | kernel_rfl
      case x_oc =>
        refine' ⟨?a, ?b⟩
        (case a => k_is)
        (case b => k_is)
      case x_n_ValueError =>
        refine' PySem.W.mg_none_of KX G ?a
        (case a => k_is)
      case x_n_all =>
        refine' PySem.W.mg_none_of KX G ?a
        (case a => k_is)
      case x_n_tuple =>
        refine' PySem.W.mg_none_of KX G ?a
        (case a => k_is)
      case x_n_reversed =>
        refine' PySem.W.mg_none_of KX G ?a
        (case a => k_is)
      case x_n_zip =>
        refine' PySem.W.mg_none_of KX G ?a
        (case a => k_is)
      case x_n_len =>
        refine' PySem.W.mg_none_of KX G ?a
        (case a => k_is)
      case x_n_max =>
        refine' PySem.W.mg_none_of KX G ?a
        (case a => k_is)
      case x_n_range =>
        refine' PySem.W.mg_none_of KX G ?a
        (case a => k_is)
      case x_n_isinstance =>
        refine' PySem.W.mg_none_of KX G ?a
        (case a => k_is)
      case x_n_bool =>
        refine' PySem.W.mg_none_of KX G ?a
        (case a => k_is)
      case x_n_str =>
        refine' PySem.W.mg_none_of KX G ?a
        (case a => k_is)
      case x_n_list =>
        refine' PySem.W.mg_none_of KX G ?a
        (case a => k_is)
      case x_n_int =>
        refine' PySem.W.mg_none_of KX G ?a
        (case a => k_is)
