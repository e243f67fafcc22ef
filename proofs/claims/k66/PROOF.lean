import PyProof.Rows.All
import Wide.All
import OpenK.AllK
import Wide.FinOn
import HandS.ForMost
import HandS.OwnEq
import HandS.Wide
import HandS.Gcd
import HandS.IsInst
import HandS.Defaults
import HandS.MakeKw
import HandS.ExcBuiltin
import HandS.TryOnly
import HandS.ForExc
import HandS.Zip
import HandS.Codes
import HandS.Evl
import HandS.Conv
import PySem.Challenge.RW_pairahead_k66_mixes_made
import HandS.FStr
import HandS.Text
import HandS.Walk
import HandS.TupAny
import HandS.Words
import HandS.WordsList
import KE.GoesMore
import KE.GoesZip
import KE.GoesEnum
import KE.KCallOwn
import PyProof.Conv_bool
set_option Elab.async false
set_option linter.all false
set_option maxRecDepth 100000
set_option maxHeartbeats 2000000
namespace PLow
open PySem PySem.W PySem.Calls PyProof.Rows
section
variable {prog : Program} {w : World} {M : Model} {A : Around} {E : Value → Shared → Prop} {s : Shared} {K : Frag} {x C L f : Addr} {h₀ : Heap} {m : Str → Option Value} {ox : Obj} {od : Option Obj} {nm : String}

/-- an int's own slot declines an instance -/
theorem add_declines {a : Int} {t : Tok} {R : PySem.Fin → Shared → Prop} (ho : s.heap.get? x = some ox) (hd : ∀ v, ox.data ≠ .prim v) (h : R (.done (.ret .notImplemented)) s) :
    wpAny (model prog w) A (Builtin.«int.__add__» ⟨[Value.int a t, Value.ref x], []⟩) R E s := by
  obtain ⟨hp, g, d, tk, os⟩ := s
  wp_walk
  split
  · rename_i e
    exact absurd e (hd _)
  · wp_walk
    exact h
theorem sub_declines {a : Int} {t : Tok} {R : PySem.Fin → Shared → Prop} (ho : s.heap.get? x = some ox) (hd : ∀ v, ox.data ≠ .prim v) (h : R (.done (.ret .notImplemented)) s) :
    wpAny (model prog w) A (Builtin.«int.__sub__» ⟨[Value.int a t, Value.ref x], []⟩) R E s := by
  obtain ⟨hp, g, d, tk, os⟩ := s
  wp_walk
  split
  · rename_i e
    exact absurd e (hd _)
  · wp_walk
    exact h
theorem mul_declines {a : Int} {t : Tok} {R : PySem.Fin → Shared → Prop} (ho : s.heap.get? x = some ox) (hd : ∀ v, ox.data ≠ .prim v) (h : R (.done (.ret .notImplemented)) s) :
    wpAny (model prog w) A (Builtin.«int.__mul__» ⟨[Value.int a t, Value.ref x], []⟩) R E s := by
  obtain ⟨hp, g, d, tk, os⟩ := s
  wp_walk
  split
  · rename_i e
    exact absurd e (hd _)
  · wp_walk
    exact h

/-- the left operand's own slot, the right one declines: an int and an instance with the reflected method -/
theorem rbin {op : Operator} {id : String} {a : Int} {t : Tok} {B : Builtin} {Q : Value → Shared → Prop} {g : Addr} (F : Fr h₀ L s.heap m) (X₀ : K.In h₀) (I : InstAt s.heap x ox C od) (hc : selfFirst K C = true)
    (hs : findIn K (.ref C) (PySem.dunder op.info.2) = some (some (.ref g))) (hr : findIn K (.ref C) (dunderR op.info.2) = some (some (.ref f))) (hf : isFn K (.ref f) = true)
    (hfT : fillsNumberSlot (.type "int") op.info.2 = pure true) (hsub : subIn K (.ref C) (.type "int") = some false)
    (slot : Slot "int" (PySem.dunder op.info.2) id) (entry : entryFor table id = some B) (args : argsOk id ⟨[Value.int a t, .ref x], []⟩)
    (dec : ∀ (A : Around) (E : Value → Shared → Prop) (R : PySem.Fin → Shared → Prop), R (.done (.ret .notImplemented)) s → wpAny (model prog w) A (B ⟨[Value.int a t, .ref x], []⟩) R E s)
    (h : wpAny (model prog w) A (call (.ref f) [.ref x, .int a t]) (PySem.W.CmpBack Q) E s) : wpAny (model prog w) A (binaryOp op (.int a t) (.ref x)) Q E s := by
  have X := X₀.keeps F.keep
  obtain ⟨cd, rest, hcd, hm⟩ := ksp_first hc
  rcases hi : op.info with ⟨sym, nm'⟩
  rw [hi] at hs hr hfT slot
  dsimp only at hs hr hfT slot
  have one := ksp_try X I hr hf h
  have L0 : Looks (model prog w) s.heap (typeOf (.int a t)) (.type "int") := Looks.of_pure rfl
  have L1 : Looks (model prog w) s.heap (typeOf (.ref x)) (.ref C) := I.type
  have L3 : Looks (model prog w) s.heap (fillsNumberSlot (.ref C) nm') true := fills_K X hcd hm hs
  have L5 : Looks (model prog w) s.heap (isSubtype (.ref C) (.type "int")) false := looks_subIn X hsub
  have hne : (Value.type "int" == Value.ref C) = false := Bool.eq_false_iff.mpr fun q => by cases beq_iff_eq.mp q
  have hpy : numberSlotInPython (.type "int") nm' = pure false := rfl
  simp only [binaryOp, hi]
  refine wpAny_holding (wpAny_bind ?_)
  unfold binaryOp1
  refine wpAny_bind (L0.here (wpAny_bind (L1.here (wpAny_bind (wpAny_of_eq hfT ?_)))))
  simp only [hne, Bool.false_eq_true, if_false]
  refine wpAny_bind (L3.here ?_)
  simp only [Bool.and_self, if_true]
  refine wpAny_bind (L5.here ?_)
  simp only [Bool.false_eq_true, if_false, pure_bind, Bool.not_false, Bool.and_self, if_true, hpy]
  refine wpAny_bind (wpAny_tryMethod_declines (id := id) (typeIs_int s a t) slot ?_)
  refine GQ.call_here slot (typeIs_int s a t) entry args (dec _ _ _ ?_)
  refine ⟨rfl, ?_⟩
  refine wpAny_bind (wpAny_mono one (fun r s' hr' => ?_) fun _ _ e => e)
  obtain ⟨v, rfl, hq⟩ := hr'
  dsimp only
  exact wpAny_bind (wpAny_rule (wpAny_pure (wpAny_pure hq)))

/-- abs(x) by the own method -/
theorem abs_own {Q : Value → Shared → Prop} (F : Fr h₀ L s.heap m) (X₀ : K.In h₀) (I : InstAt s.heap x ox C od) (hs : findIn K (.ref C) "__abs__" = some (some (.ref f))) (hf : isFn K (.ref f) = true)
    (h : wpAny (model prog w) A.in1 (call (.ref f) [.ref x]) Q E s) : wpAny (model prog w) A (call (.builtin "abs") [.ref x]) Q E s := by
  refine call_function_entry kind_abs plain_abs entry_abs (args_abs _) ?_
  unfold Builtin.«abs»
  refine wpAny_bind (m := oneArg "abs" _) (wpAny_pure ?_)
  refine wpAny_bind (special_fn (X₀.keeps F.keep) I hs (beq_iff_eq.mp hf) ?_)
  exact wpAny_mono h (fun v s' q => wpAny_pure ⟨v, rfl, q⟩) fun _ _ z => z
end
end PLow

namespace L2
open PySem PySem.Spec PyProof.Rows
section
variable {X : Cx} {CX : CXT} {k : Nat} {C f g : Addr} {fd : FuncData} {ps : List Str} {sp : Sp} {E : XK} {op : Operator}
theorem cmpBack_of {pins : List (Addr × Obj)} {σ : St} {Q : VK} {u : Value} {s' : Shared} (h : EP X pins σ Q u s') : PySem.W.CmpBack (EP X pins σ Q) u s' := by
  obtain ⟨v, H', I, r, q⟩ := id h
  cases v with
  | non => cases (show u = Value.none from r); exact h
  | bl b => cases (show u = Value.bool b from r); exact h
  | int i => obtain ⟨t, e⟩ := (show ∃ t, u = Value.int i t from r); cases e; exact h
  | str x => obtain ⟨t, e⟩ := (show ∃ t, u = Value.str x t from r); cases e; exact h
  | byt b => obtain ⟨t, e⟩ := (show ∃ t, u = Value.bytes b t from r); cases e; exact h
  | flt b => obtain ⟨t, e⟩ := (show ∃ t, u = Value.float b t from r); cases e; exact h
  | ref a => cases (show u = Value.ref a from r); exact h
  | ty n => cases (show u = Value.type n from r); exact h
/-- what of the class an own operator asks: f the method, g the reflected one -/
structure OwnOp (K : PySem.W.Frag) (C f g : Addr) (op : Operator) : Prop where
  first : PySem.W.selfFirst K C = true
  at_ : PySem.W.findIn K (.ref C) (PySem.dunder op.info.2) = some (some (.ref f))
  fn : PySem.W.isFn K (.ref f) = true
  ar : PySem.W.findIn K (.ref C) (dunderR op.info.2) = some (some (.ref g))
  fr : PySem.W.isFn K (.ref g) = true
  sub : PySem.W.subIn K (.type "int") (.ref C) = some false
  sub' : PySem.W.subIn K (.ref C) (.type "int") = some false
/-- x op y, x an instance with the own method, y an instance of the same class -/
theorem op_ownR (O : OwnOp X.K C f g op) (F : FnOk X.prog X.w X.K X.mg X.base CX k f fd ps sp) (hr : Room k X.A) (hb : Binds X.K fd ps []) (hx : Passes CX X E) :
    OpR X (binaryOp op) (fun x y H Q => ∃ a b dx dy fs gs, x = .ref a ∧ y = .ref b ∧ H a = some (.ins C dx fs) ∧ H b = some (.ins C dy gs) ∧ sp [.ref a, .ref b] H Q E) := by
  intro pins s σ H x y v u Q I rx ry h
  obtain ⟨a, b, dx, dy, fs, gs, rfl, rfl, ha, hb', q⟩ := h
  cases rx
  cases ry
  obtain ⟨mA, J, _⟩ := ins_get I.hok ha
  obtain ⟨mB, J', _⟩ := ins_get I.hok hb'
  obtain ⟨od, J, _⟩ := J.look
  obtain ⟨od', J', _⟩ := J'.look
  obtain ⟨m, hF⟩ := I.fr
  refine PySem.W.binop_K hF I.ok.mod.kin J J'.type O.first O.at_ O.fn ?_
  exact wpAny_mono (run_fn (us := [.ref a, .ref b]) (vs := [.ref a, .ref b]) F hr hb .nil hx I (.cons rfl (.cons rfl .nil)) q) (fun _ _ z => cmpBack_of z) fun _ _ z => z
/-- x op i, i an int -/
theorem op_ownI {fo ro : Option Value} (O : OwnOp X.K C f g op) (h1 : PySem.W.findIn X.K (.type "int") (PySem.dunder op.info.2) = some fo) (h2 : PySem.W.findIn X.K (.type "int") (dunderR op.info.2) = some ro)
    (F : FnOk X.prog X.w X.K X.mg X.base CX k f fd ps sp) (hr : Room k X.A) (hb : Binds X.K fd ps []) (hx : Passes CX X E) :
    OpR X (binaryOp op) (fun x y H Q => ∃ a i dx fs, x = .ref a ∧ y = .int i ∧ H a = some (.ins C dx fs) ∧ sp [.ref a, .int i] H Q E) := by
  intro pins s σ H x y v u Q I rx ry h
  obtain ⟨a, i, dx, fs, rfl, rfl, ha, q⟩ := h
  cases rx
  obtain ⟨t, rfl⟩ := ry
  obtain ⟨mA, J, _⟩ := ins_get I.hok ha
  obtain ⟨od, J, _⟩ := J.look
  obtain ⟨m, hF⟩ := I.fr
  refine PySem.W.ksp_binT hF I.ok.mod.kin J rfl O.first O.at_ O.fn O.ar (.inr ⟨_, rfl⟩) h1 h2 O.sub ?_
  exact wpAny_mono (run_fn (us := [.ref a, .int i t]) (vs := [.ref a, .int i]) F hr hb .nil hx I (.cons rfl (.cons ⟨t, rfl⟩ .nil)) q) (fun _ _ z => cmpBack_of z) fun _ _ z => z
/-- i op x, i an int: the reflected method, F of g -/
theorem op_ownL {id : String} {B : Builtin} (O : OwnOp X.K C f g op) (hfT : fillsNumberSlot (.type "int") op.info.2 = pure true)
    (slot : PySem.Slot "int" (PySem.dunder op.info.2) id) (entry : entryFor table id = some B) (args : ∀ i t x, argsOk id ⟨[Value.int i t, .ref x], []⟩)
    (dec : ∀ (i : Int) (t : Tok) (x : Addr) (ox : Obj) (s : Shared), s.heap.get? x = some ox → (∀ v, ox.data ≠ .prim v) → ∀ (A : Around) (E : Value → Shared → Prop) (R : PySem.Fin → Shared → Prop), R (.done (.ret .notImplemented)) s →
      wpAny (model X.prog X.w) A (B ⟨[Value.int i t, .ref x], []⟩) R E s)
    (F : FnOk X.prog X.w X.K X.mg X.base CX k g fd ps sp) (hr : Room k X.A) (hb : Binds X.K fd ps []) (hx : Passes CX X E) :
    OpR X (binaryOp op) (fun x y H Q => ∃ a i dx fs, x = .int i ∧ y = .ref a ∧ H a = some (.ins C dx fs) ∧ sp [.ref a, .int i] H Q E) := by
  intro pins s σ H x y v u Q I rx ry h
  obtain ⟨a, i, dx, fs, rfl, rfl, ha, q⟩ := h
  obtain ⟨t, rfl⟩ := rx
  cases ry
  obtain ⟨mA, J, _⟩ := ins_get I.hok ha
  have ho := J.obj
  obtain ⟨od, J, _⟩ := J.look
  obtain ⟨m, hF⟩ := I.fr
  refine PLow.rbin hF I.ok.mod.kin J O.first O.at_ O.ar O.fr hfT O.sub' slot entry (args _ _ _) (dec i t a _ s ho (fun v z => by simp [PySem.W.instObj] at z)) ?_
  exact wpAny_mono (run_fn (us := [.ref a, .int i t]) (vs := [.ref a, .int i]) F hr hb .nil hx I (.cons rfl (.cons ⟨t, rfl⟩ .nil)) q) (fun _ _ z => cmpBack_of z) fun _ _ z => z
/-- -x -/
theorem un_own (hs : PySem.W.findIn X.K (.ref C) "__neg__" = some (some (.ref f))) (hf : PySem.W.isFn X.K (.ref f) = true) (F : FnOk X.prog X.w X.K X.mg X.base CX k f fd ps sp) (hr : Room k X.A) (hb : Binds X.K fd ps []) (hx : Passes CX X E) :
    UnR X (unaryOp .USub) (fun x H Q => ∃ a dx fs, x = .ref a ∧ H a = some (.ins C dx fs) ∧ sp [.ref a] H Q E) := by
  intro pins s σ H x v Q I rx h
  obtain ⟨a, dx, fs, rfl, ha, q⟩ := h
  cases rx
  obtain ⟨mA, J, _⟩ := ins_get I.hok ha
  obtain ⟨od, J, _⟩ := J.look
  obtain ⟨m, hF⟩ := I.fr
  refine PySem.W.ksp_neg hF I.ok.mod.kin J hs hf ?_
  exact run_fn (us := [.ref a]) (vs := [.ref a]) F hr hb .nil hx I (.cons rfl .nil) q
/-- abs(x) -/
theorem call_absOwn (hs : PySem.W.findIn X.K (.ref C) "__abs__" = some (some (.ref f))) (hf : PySem.W.isFn X.K (.ref f) = true) (F : FnOk X.prog X.w X.K X.mg X.base CX k f fd ps sp) (hr : Room (k + 1) X.A) (hb : Binds X.K fd ps []) (hx : Passes CX X E) :
    CallR X (.builtin "abs") (fun xs H Q => ∃ a dx fs, xs = [.ref a] ∧ H a = some (.ins C dx fs) ∧ sp [.ref a] H Q E) := by
  intro pins s σ H xs us Q I r h
  obtain ⟨a, dx, fs, rfl, ha, q⟩ := h
  cases r with
  | cons r1 r2 =>
    cases r2
    cases r1
    obtain ⟨mA, J, _⟩ := ins_get I.hok ha
    obtain ⟨od, J, _⟩ := J.look
    obtain ⟨m, hF⟩ := I.fr
    refine PLow.abs_own hF I.ok.mod.kin J hs hf ?_
    have hl := F.len _ _ _ _ q
    have r2 : Vals [V.ref a] [Value.ref a] := .cons rfl .nil
    refine wpAny_call (codeAny_mono (F.run X.A.in1 X.stack s H ⟨[.ref a], []⟩ [.ref a] [.ref a] Q E hr.in1 I.env0.in1 (by
      have := hb s [.ref a] I.kIn (by simpa using hl)
      simpa using this) r2 q) fun r s' hq => ?_)
    cases r with
    | error e => exact hx pins σ H s e s' I hq
    | ok fl =>
      cases fl with
      | ret w => exact I.after hq
      | next => exact False.elim hq
      | brk => exact False.elim hq
      | cont => exact False.elim hq
/-- // by any divisor but 0 below 2 ^ 9000 in size -/
def CDivS (_ j : Int) : Prop := j ≠ 0 ∧ j.natAbs.log2 < 9000
theorem op_fdivS : OpR X (binaryOp .FloorDiv) (rI CDivS fun i j => .int (i.fdiv j)) := opI fun i j _ _ _ _ _ hc q =>
  floordiv_int hc.1 q (.inl (PyProof.noPylong_of_log2 hc.2))
end
end L2

set_option maxHeartbeats 2000000
namespace PA
/-- below 2 ^ n in size -/
abbrev Sm (n : Nat) (x : Int) : Prop := x.natAbs < 2 ^ n
theorem Sm.mono {n m : Nat} {x : Int} (h : Sm n x) (hn : n ≤ m) : Sm m x := Nat.lt_of_lt_of_le h (Nat.pow_le_pow_right (by decide) hn)
theorem Sm.mul {n m k : Nat} {x y : Int} (hx : Sm n x) (hy : Sm m y) (h : n + m ≤ k) : Sm k (x * y) := by
  refine Sm.mono (n := n + m) ?_ h
  unfold Sm
  rw [Int.natAbs_mul, Nat.pow_add]
  exact Nat.mul_lt_mul'' hx hy
theorem Sm.add {n k : Nat} {x y : Int} (hx : Sm n x) (hy : Sm n y) (h : n + 1 ≤ k) : Sm k (x + y) := by
  refine Sm.mono (n := n + 1) ?_ h
  unfold Sm at *
  rw [Nat.pow_succ]
  omega
theorem Sm.sub {n k : Nat} {x y : Int} (hx : Sm n x) (hy : Sm n y) (h : n + 1 ≤ k) : Sm k (x - y) := by
  refine Sm.mono (n := n + 1) ?_ h
  unfold Sm at *
  rw [Nat.pow_succ]
  omega
theorem Sm.neg {n : Nat} {x : Int} (hx : Sm n x) : Sm n (-x) := by
  unfold Sm at *
  rw [Int.natAbs_neg]
  exact hx
theorem Sm.le {n : Nat} {x y : Int} (hx : Sm n x) (h : y.natAbs ≤ x.natAbs) : Sm n y := Nat.lt_of_le_of_lt h hx
theorem Sm.one {n : Nat} (h : 0 < n) : Sm n 1 := by
  show (1 : Int).natAbs < 2 ^ n
  exact Nat.one_lt_two_pow (by omega)

/-- the divisor that a Ratio shortens by -/
def shr (t b : Int) : Int := if b < 0 then -((Nat.gcd t.natAbs b.natAbs : Nat) : Int) else ((Nat.gcd t.natAbs b.natAbs : Nat) : Int)
/-- lowest terms -/
structure Low (T B : Int) : Prop where
  pos : 0 < B
  cop : Nat.gcd T.natAbs B.natAbs = 1
theorem low_one (i : Int) : Low i 1 := ⟨by decide, Nat.gcd_one_right _⟩
theorem gcd_key {a b c d g : Nat} (h1 : a = c * g) (h2 : b = d * g) : Nat.gcd a b = Nat.gcd c d * g := by
  rw [h1, h2]
  exact Nat.gcd_mul_right _ _ _
theorem rat_mk {t b : Int} (hb : b ≠ 0) : shr t b ≠ 0 ∧ (shr t b).natAbs ≤ b.natAbs ∧ Low (t.fdiv (shr t b)) (b.fdiv (shr t b)) ∧ (t.fdiv (shr t b)) * b = t * (b.fdiv (shr t b)) ∧
    (t.fdiv (shr t b)).natAbs ≤ t.natAbs ∧ (b.fdiv (shr t b)).natAbs ≤ b.natAbs := by
  have hg : 0 < Nat.gcd t.natAbs b.natAbs := Nat.gcd_pos_of_pos_right _ (Int.natAbs_pos.mpr hb)
  have hgb : Nat.gcd t.natAbs b.natAbs ≤ b.natAbs := Nat.gcd_le_right _ (Int.natAbs_pos.mpr hb)
  have hsn : (shr t b).natAbs = Nat.gcd t.natAbs b.natAbs := by
    unfold shr
    split
    · rw [Int.natAbs_neg, Int.natAbs_natCast]
    · rw [Int.natAbs_natCast]
  have hs0 : shr t b ≠ 0 := by
    intro z
    rw [z] at hsn
    simp at hsn
    omega
  have dv : ∀ y : Int, (Nat.gcd t.natAbs b.natAbs) ∣ y.natAbs → ∃ q : Int, y = q * shr t b := by
    intro y hy
    have h1 : ((Nat.gcd t.natAbs b.natAbs : Nat) : Int) ∣ y := Int.ofNat_dvd_left.mpr hy
    obtain ⟨q, hq⟩ := h1
    unfold shr
    split
    · exact ⟨-q, by rw [Int.neg_mul_neg, Int.mul_comm]; exact hq⟩
    · exact ⟨q, by rw [Int.mul_comm]; exact hq⟩
  obtain ⟨T, hT⟩ := dv t (Nat.gcd_dvd_left _ _)
  obtain ⟨B, hB⟩ := dv b (Nat.gcd_dvd_right _ _)
  have eT : t.fdiv (shr t b) = T := by
    conv => lhs; lhs; rw [hT]
    exact Int.mul_fdiv_cancel _ hs0
  have eB : b.fdiv (shr t b) = B := by
    conv => lhs; lhs; rw [hB]
    exact Int.mul_fdiv_cancel _ hs0
  rw [eT, eB]
  have nT : t.natAbs = T.natAbs * Nat.gcd t.natAbs b.natAbs := by
    conv => lhs; rw [hT, Int.natAbs_mul, hsn]
  have nB : b.natAbs = B.natAbs * Nat.gcd t.natAbs b.natAbs := by
    conv => lhs; rw [hB, Int.natAbs_mul, hsn]
  refine ⟨hs0, by rw [hsn]; exact hgb, ⟨?_, ?_⟩, ?_, ?_, ?_⟩
  · have hB0 : B ≠ 0 := by
      intro z
      rw [z, Int.zero_mul] at hB
      exact hb hB
    rcases Int.lt_or_gt_of_ne hB0 with h | h
    · exfalso
      unfold shr at hB
      split at hB
      · rename_i hneg
        have : 0 < B * -((Nat.gcd t.natAbs b.natAbs : Nat) : Int) := Int.mul_pos_of_neg_of_neg h (by omega)
        omega
      · rename_i hneg
        have : B * ((Nat.gcd t.natAbs b.natAbs : Nat) : Int) < 0 := Int.mul_neg_of_neg_of_pos h (by omega)
        omega
    · exact h
  · have e : Nat.gcd t.natAbs b.natAbs = Nat.gcd T.natAbs B.natAbs * Nat.gcd t.natAbs b.natAbs := by
      exact gcd_key nT nB
    have e2 : 1 * Nat.gcd t.natAbs b.natAbs = Nat.gcd T.natAbs B.natAbs * Nat.gcd t.natAbs b.natAbs := by rw [Nat.one_mul]; exact e
    exact (Nat.eq_of_mul_eq_mul_right hg e2).symm
  · calc T * b = T * (B * shr t b) := by rw [← hB]
      _ = (T * shr t b) * B := by rw [Int.mul_comm B, ← Int.mul_assoc]
      _ = t * B := by rw [← hT]
  · rw [nT]; exact Nat.le_mul_of_pos_right _ hg
  · rw [nB]; exact Nat.le_mul_of_pos_right _ hg
/-- a fraction has one lowest form -/
theorem Low.uniq {T B T' B' : Int} (h : Low T B) (h' : Low T' B') (e : T * B' = T' * B) : T = T' ∧ B = B' := by
  have n : T.natAbs * B'.natAbs = T'.natAbs * B.natAbs := by rw [← Int.natAbs_mul, ← Int.natAbs_mul, e]
  have d1 : B.natAbs ∣ B'.natAbs := by
    have : B.natAbs ∣ T.natAbs * B'.natAbs := ⟨T'.natAbs, by rw [n, Nat.mul_comm]⟩
    exact (Nat.Coprime.symm h.cop).dvd_of_dvd_mul_left this
  have d2 : B'.natAbs ∣ B.natAbs := by
    have : B'.natAbs ∣ T'.natAbs * B.natAbs := ⟨T.natAbs, by rw [← n, Nat.mul_comm]⟩
    exact (Nat.Coprime.symm h'.cop).dvd_of_dvd_mul_left this
  have eB : B = B' := by
    have := Nat.dvd_antisymm d1 d2
    have p1 := h.pos
    have p2 := h'.pos
    omega
  subst eB
  have hB : B ≠ 0 := by have := h.pos; omega
  exact ⟨Int.eq_of_mul_eq_mul_right hB e, rfl⟩
theorem Low.neg {T B : Int} (h : Low T B) : Low (-T) B := ⟨h.pos, by rw [Int.natAbs_neg]; exact h.cop⟩
/-- a = n / d and b = n / d -/
theorem cross {a b n d x y : Int} (hb : b ≠ 0) (h1 : a * d = n * b) (h2 : n * y = x * d) (hd : d ≠ 0) : a * y = x * b := by
  have : (a * y) * d = (x * b) * d := by
    calc (a * y) * d = (a * d) * y := by rw [Int.mul_assoc, Int.mul_comm y, ← Int.mul_assoc]
      _ = (n * b) * y := by rw [h1]
      _ = (n * y) * b := by rw [Int.mul_assoc, Int.mul_comm b, ← Int.mul_assoc]
      _ = (x * d) * b := by rw [h2]
      _ = (x * b) * d := by rw [Int.mul_assoc, Int.mul_comm d, ← Int.mul_assoc]
  exact Int.eq_of_mul_eq_mul_right hd this
end PA

set_option maxHeartbeats 2000000
/-! a written dict of ints -/
namespace L2
open PySem PySem.Spec PyProof.Rows
/-- the entries of {1: 1, 4: 2, 9: 3, 16: 4} -/
def esM (x1 x2 x3 x4 y1 y2 y3 y4 : Tok) : Array DictEntry := #[⟨1, .int 1 x1, .int 1 y1⟩, ⟨4, .int 4 x2, .int 2 y2⟩, ⟨9, .int 9 x3, .int 3 y3⟩, ⟨16, .int 16 x4, .int 4 y4⟩]
structure KMarks (K : PySem.W.Frag) (d : Addr) : Prop where
  at_ : ∃ x1 x2 x3 x4 y1 y2 y3 y4 n, K.lookup d = some ⟨.type "dict", none, .dict (esM x1 x2 x3 x4 y1 y2 y3 y4) n, #[]⟩
  low : (d == sysModules) = false
/-- 1, 4, 9, 16 by their roots -/
inductive Root : Int → Int → Prop where
  | r1 : Root 1 1
  | r2 : Root 4 2
  | r3 : Root 9 3
  | r4 : Root 16 4
theorem root_find {k v : Int} (r : Root k v) (x1 x2 x3 x4 y1 y2 y3 y4 : Tok) : ∃ t, findBy Value.isInt (esM x1 x2 x3 x4 y1 y2 y3 y4) k = some (.int v t) := by
  cases r
  · exact ⟨y1, rfl⟩
  · exact ⟨y2, rfl⟩
  · exact ⟨y3, rfl⟩
  · exact ⟨y4, rfl⟩
section
variable {X : Cx} {d : Addr}
theorem KMarks.map (D : KMarks X.K d) {pins : List (Addr × Obj)} {σ : St} {H : Hp} {s : Shared} (I : Inv X pins σ H s) : ∃ x1 x2 x3 x4 y1 y2 y3 y4, s.heap.MapOf (PySem.intKind X.prog X.w) d (fun k => findBy Value.isInt (esM x1 x2 x3 x4 y1 y2 y3 y4) k) := by
  obtain ⟨x1, x2, x3, x4, y1, y2, y3, y4, n, e⟩ := D.at_
  refine ⟨x1, x2, x3, x4, y1, y2, y3, y4, _, _, n, I.kIn _ _ e, ⟨rfl, rfl, rfl⟩, rfl, ?_, fun _ => rfl⟩
  intro en hen
  have hm : en ∈ (esM x1 x2 x3 x4 y1 y2 y3 y4).toList := Array.mem_toList_iff.mpr hen
  rcases List.mem_cons.mp hm with rfl | hm
  · exact ⟨1, by simp [PySem.intKind, Value.isInt], (by show (1 : Int) = hashInt 1; decide +kernel)⟩
  rcases List.mem_cons.mp hm with rfl | hm
  · exact ⟨4, by simp [PySem.intKind, Value.isInt], (by show (4 : Int) = hashInt 4; decide +kernel)⟩
  rcases List.mem_cons.mp hm with rfl | hm
  · exact ⟨9, by simp [PySem.intKind, Value.isInt], (by show (9 : Int) = hashInt 9; decide +kernel)⟩
  rcases List.mem_cons.mp hm with rfl | hm
  · exact ⟨16, by simp [PySem.intKind, Value.isInt], (by show (16 : Int) = hashInt 16; decide +kernel)⟩
  cases hm
theorem op_notIn_km (D : KMarks X.K d) : OpR X (compareOp .NotIn) (fun x y H Q => ∃ k v, x = .int k ∧ y = .ref d ∧ Root k v ∧ Q (.bl false) H) := by
  intro pins s σ H x y v u Q I rx ry h
  obtain ⟨k, r, rfl, rfl, hr, q⟩ := h
  obtain ⟨t, rfl⟩ := rx
  cases ry
  obtain ⟨x1, x2, x3, x4, y1, y2, y3, y4, hm⟩ := D.map I
  obtain ⟨tk, ef⟩ := root_find hr x1 x2 x3 x4 y1 y2 y3 y4
  refine wpAny_notIn_of (k := k) (by simp [PySem.intKind, Value.isInt]) D.low hm ?_
  rw [ef]
  exact ⟨.bl false, H, I.tok _, rfl, q⟩
theorem ix_km (D : KMarks X.K d) : IxR X (fun x y H Q => ∃ k v, x = .ref d ∧ y = .int k ∧ Root k v ∧ Q (.int v) H) := by
  intro value slice pins s σ H x y v u Q I rx ry h hs
  obtain ⟨k, r, rfl, rfl, hr, q⟩ := h
  obtain rfl : v = Value.ref d := rx
  obtain ⟨t, rfl⟩ := ry
  obtain ⟨x1, x2, x3, x4, y1, y2, y3, y4, hm⟩ := D.map I
  obtain ⟨tk, ef⟩ := root_find hr x1 x2 x3 x4 y1 y2 y3 y4
  exact tail_any hm.typeIs slot_dict_getitem.lookup (wpAny_getItem_of (k := k) (by simp [PySem.intKind, Value.isInt]) hm ef ⟨.int r, H, I.tok _, ⟨tk, rfl⟩, q⟩) hs
end
/-! len(x) by the own method -/
section
variable {X : Cx} {CX : CXT} {k : Nat} {C f : Addr} {fd : FuncData} {ps : List Str} {sp : Sp} {E : XK}
theorem call_lenOwn (hs : PySem.W.findIn X.K (.ref C) "__len__" = some (some (.ref f))) (hf : PySem.W.isFn X.K (.ref f) = true) (F : FnOk X.prog X.w X.K X.mg X.base CX k f fd ps sp) (hr : Room (k + 1) X.A) (hb : Binds X.K fd ps []) (hx : Passes CX X E) :
    CallR X (.builtin "len") (fun xs H Q => ∃ a dx fs, xs = [.ref a] ∧ H a = some (.ins C dx fs) ∧ sp [.ref a] H (fun v H' => ∃ n : Nat, v = .int n ∧ n ≤ 1000 ∧ Q (.int n) H') E) := by
  intro pins s σ H xs us Q I r h
  obtain ⟨a, dx, fs, rfl, ha, q⟩ := h
  obtain ⟨u, rfl, ru⟩ := vals1 r
  cases ru
  obtain ⟨mA, J, _⟩ := ins_get I.hok ha
  obtain ⟨od, J, _⟩ := J.look
  obtain ⟨m, hF⟩ := I.fr
  refine PySem.W.len_K hF I.ok.mod.kin J hs hf ?_
  have hl := F.len _ _ _ _ q
  have r2 : Vals [V.ref a] [Value.ref a] := .cons rfl .nil
  refine wpAny_call (codeAny_mono (F.run X.A.in1 X.stack s H ⟨[.ref a], []⟩ [.ref a] [.ref a] _ E hr.in1 I.env0.in1 (by
    have := hb s [.ref a] I.kIn (by simpa using hl)
    simpa using this) r2 q) fun r s' hq => ?_)
  cases r with
  | error e => exact hx pins σ H s e s' I hq
  | ok fl =>
    cases fl with
    | ret w =>
      obtain ⟨v, H', I', rv, n, rfl, hn, q'⟩ := I.after hq
      obtain ⟨t, rfl⟩ := rv
      exact ⟨⟨by omega, by omega⟩, .int n, H', I'.tok _, ⟨_, rfl⟩, q'⟩
    | next => exact False.elim hq
    | brk => exact False.elim hq
    | cont => exact False.elim hq
end
end L2

set_option maxHeartbeats 4000000
namespace PA
open PySem L2 RZ
open C8 (pss_cut tCut)
def top (i : Nat) : Stmt := PySem.Challenge.pw_pairahead_k66_mixes_made.main.body.getD i (.Pass ⟨0, 0, 0, 0⟩)
abbrev sIsInt : Stmt := top 7
abbrev sBelow : Stmt := top 8
abbrev sInit : Stmt := inClass (top 30) 0
abbrev sStep : Stmt := inClass (top 30) 2
abbrev sLen : Stmt := inClass (top 30) 4
abbrev sCheck : Stmt := top 32
abbrev sIsRow : Stmt := top 33
/-! ### data -/
abbrev Rw := Int × Bool × Int × Bool
def rv (r : Rw) : List V := [.int r.1, .bl r.2.1, .int r.2.2.1, .bl r.2.2.2]
def RwOk (n : Nat) (r : Rw) : Prop := (0 ≤ r.1 ∧ r.1 < n) ∧ 0 ≤ r.2.2.1 ∧ r.2.2.1 < n
/-- what stands at each place of a list of references -/
def Each (H : Hp) (P : Hp → Addr → Rw → Prop) (xs : List V) (rows : List Rw) : Prop := xs.length = rows.length ∧ ∀ (i : Nat) (x : V) (r : Rw), xs[i]? = some x → rows[i]? = some r → ∃ c, x = .ref c ∧ P H c r
def isT (H : Hp) (c : Addr) (r : Rw) : Prop := H c = some (.tup (rv r))
def isLT (H : Hp) (c : Addr) (r : Rw) : Prop := H c = some (.tup (rv r)) ∨ H c = some (.lst (rv r))
theorem Each.imp {H H' : Hp} {P P' : Hp → Addr → Rw → Prop} {xs : List V} {rows : List Rw} (e : Each H P xs rows) (f : ∀ c r, P H c r → P' H' c r) : Each H' P' xs rows := ⟨e.1, fun i x r h1 h2 => let ⟨c, hx, q⟩ := e.2 i x r h1 h2; ⟨c, hx, f c r q⟩⟩
theorem Each.sameT {H H' : Hp} {xs : List V} {rows : List Rw} (e : Each H isT xs rows) (s : Same H H') : Each H' isT xs rows := e.imp fun c r q => s _ _ q
theorem Each.sameLT {H H' : Hp} {xs : List V} {rows : List Rw} (e : Each H isLT xs rows) (s : Same H H') : Each H' isLT xs rows := e.imp fun c r q => q.elim (fun q => .inl (s _ _ q)) fun q => .inr (s _ _ q)
theorem Each.nil {H : Hp} {P : Hp → Addr → Rw → Prop} : Each H P [] [] := ⟨rfl, fun i x r h _ => by simp at h⟩
theorem Each.push {H : Hp} {P : Hp → Addr → Rw → Prop} {xs : List V} {rows : List Rw} {c : Addr} {r : Rw} (e : Each H P xs rows) (q : P H c r) : Each H P (xs ++ [.ref c]) (rows ++ [r]) := by
  refine ⟨by rw [List.length_append, List.length_append, e.1]; rfl, fun i x r' h1 h2 => ?_⟩
  rcases Nat.lt_or_ge i xs.length with hi | hi
  · rw [List.getElem?_append_left hi] at h1
    rw [List.getElem?_append_left (by rw [← e.1]; exact hi)] at h2
    exact e.2 i x r' h1 h2
  · rw [List.getElem?_append_right hi] at h1
    rw [List.getElem?_append_right (by rw [← e.1]; exact hi), ← e.1] at h2
    cases hk : i - xs.length with
    | zero =>
      rw [hk] at h1 h2
      have h1' : V.ref c = x := by simpa using h1
      have h2' : r = r' := by simpa using h2
      exact ⟨c, h1'.symm, h2' ▸ q⟩
    | succ k =>
      rw [hk] at h1
      simp at h1
/-- a list is changed: tuples stay -/
theorem isT.lst {H : Hp} {c D : Addr} {r : Rw} {xs ys : List V} (q : isT H c r) (hD : H D = some (.lst xs)) : isT (upd H D (.lst ys)) c r := by
  unfold isT
  rw [upd_ne (ne_of (H := H) q hD (by intro z; cases z))]
  exact q
theorem take_succ' {α : Type} {l : List α} {i : Nat} {x : α} (h : l[i]? = some x) : l.take (i + 1) = l.take i ++ [x] := by
  rw [List.take_add_one, h]
  rfl
def rf (R S : Addr) (k : Int) : List (Str × V) := putF "marks" (.int k) (putF "starts" (.ref S) (putF "rows" (.ref R) []))
theorem rs_ : ¬ (("rows" : Str) = "starts") := by decide +kernel
theorem rm_ : ¬ (("rows" : Str) = "marks") := by decide +kernel
theorem sm_ : ¬ (("starts" : Str) = "marks") := by decide +kernel
theorem rf_rows (R S : Addr) (k : Int) : (rf R S k).lookup ("rows" : Str) = some (.ref R) := by
  unfold rf
  rw [lookup_putF, if_neg rm_, lookup_putF, if_neg rs_, lookup_putF, if_pos rfl]
theorem rf_starts (R S : Addr) (k : Int) : (rf R S k).lookup ("starts" : Str) = some (.ref S) := by
  unfold rf
  rw [lookup_putF, if_neg sm_, lookup_putF, if_pos rfl]
theorem rf_marks (R S : Addr) (k : Int) : (rf R S k).lookup ("marks" : Str) = some (.int k) := by
  unfold rf
  rw [lookup_putF, if_pos rfl]
theorem rf_no (R S : Addr) (k : Int) {m : Str} (h1 : ¬ m = "marks") (h2 : ¬ m = "starts") (h3 : ¬ m = "rows") : (rf R S k).lookup m = none := by
  unfold rf
  rw [lookup_putF, if_neg h1, lookup_putF, if_neg h2, lookup_putF, if_neg h3]
  all_goals rfl
/-- a Rule stands at p -/
def RuleAt (K : PySem.W.Frag) (C : Addr) (H : Hp) (p : Addr) (rows : List Rw) (starts : List Int) (k : Int) : Prop := ∃ dx R S refs, H p = some (.ins C dx (rf R S k)) ∧ H R = some (.tup refs) ∧ Each H isT refs rows ∧ SqT K H S (starts.map V.int)
theorem SqT.up {K : PySem.W.Frag} {H H' : Hp} {a : Addr} {xs : List V} (h : SqT K H a xs) (e : Same H H') : SqT K H' a xs :=
  h.elim (fun h => .inl (h.elim (fun h => .inl (e _ _ h)) fun ⟨o, h⟩ => .inr ⟨o, e _ _ h⟩)) fun h => .inr h
theorem RuleAt.same {K : PySem.W.Frag} {C : Addr} {H H' : Hp} {p : Addr} {rows : List Rw} {starts : List Int} {k : Int} (r : RuleAt K C H p rows starts k) (s : Same H H') : RuleAt K C H' p rows starts k := by
  obtain ⟨dx, R, S, refs, h1, h2, h3, h4⟩ := r
  exact ⟨dx, R, S, refs, s _ _ h1, s _ _ h2, h3.sameT s, SqT.up h4 s⟩
structure Txt (K : PySem.W.Frag) (mg : Str → Option Value) (C : Addr) : Prop where
  cl : Cls K C
  nR : NoAttr K C "rows"
  nS : NoAttr K C "starts"
  nM : NoAttr K C "marks"
  mgC : mg "Rule" = some (.ref C)
  isi : mg "isinstance" = none
  int_ : mg "int" = none
  bool_ : mg "bool" = none
  list_ : mg "list" = none
  tup_ : mg "tuple" = none
  len_ : mg "len" = none
  all_ : mg "all" = none
  zip_ : mg "zip" = none
  range_ : mg "range" = none
  most : ∃ t, mg "MOST_ROWS" = some (.int 48 t)
  marks : ∃ d, mg "MARKS_OF_STARTS" = some (.ref d) ∧ KMarks K d
theorem boot_isi : bootBuiltins "isinstance" = some (.builtin "isinstance") := by decide +kernel
theorem boot_int' : bootBuiltins "int" = some (.type "int") := by decide +kernel
theorem boot_bool' : bootBuiltins "bool" = some (.type "bool") := by decide +kernel
theorem boot_tuple' : bootBuiltins "tuple" = some (.type "tuple") := by decide +kernel
theorem boot_list' : bootBuiltins "list" = some (.type "list") := by decide +kernel
theorem boot_all' : bootBuiltins "all" = some (.builtin "all") := by decide +kernel
structure Df (K : PySem.W.Frag) (mg : Str → Option Value) (x : Str) (st : Stmt) (f : Addr) (fd : FuncData) (ps : List Str) : Prop where
  F : Fun K x x st f fd
  B : Binds K fd ps []
  M : mg x = some (.ref f)
/-! ### promises -/
def spIsInt : Sp := fun vs H Q _ => ∃ i, vs = [.int i] ∧ Q (.bl true) H
def spBelow : Sp := fun vs H Q _ => ∃ v c : Int, vs = [.int v, .int c] ∧ 0 ≤ v ∧ v < c ∧ Q (.bl true) H
def spIsRow : Sp := fun vs H Q _ => ∃ (p : Addr) (r : Rw) (n : Nat), vs = [.ref p, .int (n : Int)] ∧ isT H p r ∧ RwOk n r ∧ Q (.bl true) H
def spCheck (K : PySem.W.Frag) : Sp := fun vs H Q _ => ∃ (R S : Addr) (refs : List V) (rows : List Rw) (starts : List Int) (k : Int), vs = [.ref R, .ref S] ∧ H R = some (.tup refs) ∧ Each H isT refs rows ∧ SqT K H S (starts.map V.int) ∧
  1 ≤ rows.length ∧ rows.length ≤ 48 ∧ (∀ r ∈ rows, RwOk rows.length r) ∧ Root (starts.length : Int) k ∧ (∀ s ∈ starts, 0 ≤ s ∧ s < (rows.length : Int)) ∧ ∀ H', Same H H' → Q .non H'
section
variable {P : Program} {w : World} {K : PySem.W.Frag} {mg : Str → Option Value} {base : Heap} {C : Addr}
theorem ifD_no {p A B : Prop} [Decidable p] (h : ¬ p) (q : B) : if decide p = true then A else B := by
  rw [decide_eq_false h]
  exact iteF q
theorem ifD_yes {p A B : Prop} [Decidable p] (h : p) (q : A) : if decide p = true then A else B := by
  rw [decide_eq_true h]
  exact iteT q
theorem ifD_2 {p A B : Prop} [Decidable p] (h1 : p → A) (h2 : ¬ p → B) : if decide p = true then A else B := by
  by_cases h : p
  · exact ifD_yes h (h1 h)
  · exact ifD_no h (h2 h)
theorem Same.new {H : Hp} {p : Addr} {o : HO} (hp : H p = none) : Same H (upd H p o) := fun b u e => by
  rw [upd_ne (ne_of_none e hp)]
  exact e
theorem scIsInt : FnScope ["value"] ["value"] (defScope sIsInt) := ⟨rfl, rfl, rfl, by decide +kernel, rfl, by decide +kernel, by decide +kernel⟩
theorem ok_isInt {f : Addr} {fd : FuncData} (F : Fun K "is_integer" "is_integer" sIsInt f fd) (T : Txt K mg C) : FnOk P w K mg base CX0 1 f fd ["value"] spIsInt := by
  refine F.ok scIsInt (fun vs H Q E h => ?_) (fun cdv A outer s H vs Q E hr h => ?_)
  · obtain ⟨i, rfl, _⟩ := h
    rfl
  · obtain ⟨i, rfl, k⟩ := h
    refine ⟨_, pss_one (ps_ret (pe_and (pe_callB call_isi (by rfl) T.isi boot_isi (pa_cons (pv 0) (pa_cons (pe_bltn (v := .ty "int") (by rfl) T.int_ boot_int' rfl) pa_nil)))
      (pe_one (pe_not (pe_callB call_isi (by rfl) T.isi boot_isi (pa_cons (pv 0) (pa_cons (pe_bltn (v := .ty "bool") (by rfl) T.bool_ boot_bool' rfl) pa_nil))))))), ?_⟩
    refine ⟨_, rfl, _, _, _, _, _, rfl, .ty _, .base (.int i), kit_ty (b := "int") (r := true) (by decide +kernel), _, rfl, iteT ?_⟩
    exact ⟨_, rfl, _, _, _, _, _, rfl, .ty _, .base (.int i), kit_ty (b := "bool") (r := false) (by decide +kernel), _, rfl, k⟩
theorem scBelow : FnScope ["value", "count"] ["value", "count"] (defScope sBelow) := ⟨rfl, rfl, rfl, by decide +kernel, rfl, by decide +kernel, by decide +kernel⟩
theorem ok_below {f g : Addr} {fd gd : FuncData} (F : Fun K "is_below" "is_below" sBelow f fd) (T : Txt K mg C) (D : Df K mg "is_integer" sIsInt g gd ["value"]) : FnOk P w K mg base CX0 2 f fd ["value", "count"] spBelow := by
  have G : FnOk P w K mg base CX0 1 g gd ["value"] spIsInt := ok_isInt D.F T
  refine F.ok scBelow (fun vs H Q E h => ?_) (fun cdv A outer s H vs Q E hr h => ?_)
  · obtain ⟨v, c, rfl, _⟩ := h
    rfl
  · obtain ⟨v, c, rfl, h0, h1, k⟩ := h
    refine ⟨_, pss_one (ps_ret (pe_and (pe_call G hr rfl D.M D.F.kp D.B .nil pass0 (pa_cons (pv 0) pa_nil)) (pe_one (pe_chain op_le op_lt pe_int (pv 0) (pv 1))))), ?_⟩
    refine ⟨_, rfl, v, rfl, _, rfl, iteT ?_⟩
    refine ⟨_, rfl, _, _, rfl, rfl, _, rfl, ifD_yes h0 ⟨_, rfl, _, _, rfl, rfl, ?_⟩⟩
    show Q (V.bl (decide (v < c))) H
    rw [decide_eq_true h1]
    exact k
theorem scIsRow : FnScope ["row", "count", "next_ahead", "falls", "next_behind", "goes"] ["row", "count"] (defScope sIsRow) := ⟨rfl, rfl, rfl, by decide +kernel, rfl, by decide +kernel, by decide +kernel⟩
theorem ok_isRow {f g1 g2 : Addr} {fd gd1 gd2 : FuncData} (F : Fun K "_is_row" "_is_row" sIsRow f fd) (T : Txt K mg C) (D1 : Df K mg "is_integer" sIsInt g1 gd1 ["value"]) (D2 : Df K mg "is_below" sBelow g2 gd2 ["value", "count"]) : FnOk P w K mg base CX0 3 f fd ["row", "count"] spIsRow := by
  have G : FnOk P w K mg base CX0 2 g2 gd2 ["value", "count"] spBelow := ok_below D2.F T D1
  refine F.ok scIsRow (fun vs H Q E h => ?_) (fun cdv A outer s H vs Q E hr h => ?_)
  · obtain ⟨p, r, n, rfl, _⟩ := h
    rfl
  · obtain ⟨p, ⟨a, fl, b, go⟩, n, rfl, hp, ⟨⟨a0, a1⟩, b0, b1⟩, k⟩ := h
    refine ⟨_, pss_cons (ps_if (pt_cmpR op_ne (pe_callB call_len_seq (by rfl) T.len_ PySem.boot_len (pa_cons (pv 0) pa_nil)) pe_int (nomark _)) pss_never pss_nil)
      (pss_cons (ps_asg (pv 0) (pg_tup rfl (pgs_cons (pg_name (i := 2) scIsRow.nd rfl (Or.inl rfl)) (pgs_cons (pg_name (i := 3) scIsRow.nd rfl (Or.inl rfl)) (pgs_cons (pg_name (i := 4) scIsRow.nd rfl (Or.inl rfl)) (pgs_cons (pg_name (i := 5) scIsRow.nd rfl (Or.inl rfl)) pgs_nil))))))
      (pss_cons (ps_if (PW.pt (pw_or (pt_not (pt_val (pe_call G hr rfl D2.M D2.F.kp D2.B .nil pass0 (pa_cons (pv 2) (pa_cons (pv 1) pa_nil))))) (pw_or1 (pt_not (pt_val (pe_call G hr rfl D2.M D2.F.kp D2.B .nil pass0 (pa_cons (pv 4) (pa_cons (pv 1) pa_nil)))))))) pss_never pss_nil)
      (pss_one (ps_ret (pe_and (pe_callB call_isi (by rfl) T.isi boot_isi (pa_cons (pv 3) (pa_cons (pe_bltn (v := .ty "bool") (by rfl) T.bool_ boot_bool' rfl) pa_nil))) (pe_one (pe_callB call_isi (by rfl) T.isi boot_isi (pa_cons (pv 5) (pa_cons (pe_bltn (v := .ty "bool") (by rfl) T.bool_ boot_bool' rfl) pa_nil))))))))), ?_⟩
    refine ⟨_, rfl, p, _, rfl, .inr (SqT.of hp), rfl, _, rfl, iteNS rfl ?_⟩
    refine ⟨_, rfl, p, _, rfl, SqT.of hp, rfl, _, _, rfl, _, _, rfl, _, _, rfl, _, _, rfl, rfl, ?_⟩
    refine ⟨_, rfl, _, rfl, a, _, rfl, a0, a1, _, rfl, iteF ?_⟩
    refine ⟨_, rfl, _, rfl, b, _, rfl, b0, b1, _, rfl, iteF ?_⟩
    refine ⟨_, rfl, _, _, _, _, _, rfl, .ty _, .base (.bl fl), kit_ty (b := "bool") (r := true) (by decide +kernel), _, rfl, iteT ?_⟩
    exact ⟨_, rfl, _, _, _, _, _, rfl, .ty _, .base (.bl go), kit_ty (b := "bool") (r := true) (by decide +kernel), k⟩
end
end PA

set_option maxHeartbeats 4000000
namespace PA
open PySem L2 RZ
open C8 (pss_cut tCut)
/-- the list of what was made so far: all true -/
theorem all_true (n : Nat) : (List.replicate n true).all id = true := by
  rw [List.all_eq_true]
  intro x hx
  rw [(List.mem_replicate.mp hx).2]
  rfl
def rLenK (K : PySem.W.Frag) : List V → Hp → (V → Hp → Prop) → Prop := fun xs H Q => ∃ p ys, xs = [.ref p] ∧ (SqL K H p ys ∨ SqT K H p ys) ∧ Q (.int ys.length) H
theorem call_lenK {X : Cx} {K : PySem.W.Frag} (h : X.K = K) : CallR X (.builtin "len") (rLenK K) := h ▸ call_len_seq
theorem root_le {n k : Int} (r : Root n k) : n ≤ 16 := by
  cases r <;> decide
section
variable {P : Program} {w : World} {K : PySem.W.Frag} {mg : Str → Option Value} {base : Heap} {C : Addr}
theorem scCheck : FnScope ["rows", "starts", "row", "state"] ["rows", "starts"] (defScope sCheck) := ⟨rfl, rfl, rfl, by decide +kernel, rfl, by decide +kernel, by decide +kernel⟩
theorem ok_check {f g1 g2 g3 : Addr} {fd gd1 gd2 gd3 : FuncData} (F : Fun K "_check_table" "_check_table" sCheck f fd) (T : Txt K mg C) (D1 : Df K mg "is_integer" sIsInt g1 gd1 ["value"]) (D2 : Df K mg "is_below" sBelow g2 gd2 ["value", "count"]) (D3 : Df K mg "_is_row" sIsRow g3 gd3 ["row", "count"]) : FnOk P w K mg base CX0 4 f fd ["rows", "starts"] (spCheck K) := by
  have G2 : FnOk P w K mg base CX0 3 g2 gd2 ["value", "count"] spBelow := (ok_below D2.F T D1).mono (by decide)
  have G3 : FnOk P w K mg base CX0 3 g3 gd3 ["row", "count"] spIsRow := ok_isRow D3.F T D1 D2
  obtain ⟨tm, hmost⟩ := T.most
  obtain ⟨dm, hdm, km⟩ := T.marks
  refine F.ok scCheck (fun vs H Q E h => ?_) (fun cdv A outer s H vs Q E hr h => ?_)
  · obtain ⟨R, S, _, _, _, _, rfl, _⟩ := h
    rfl
  · obtain ⟨R, S, refs, rows, starts, k, rfl, hR, hE, hS, h1, h48, hok, hroot, hst, kk⟩ := h
    refine ⟨_, pss_cons (ps_if (pt_not (pt_chain op_le op_le pe_int (pe_callB call_len_seq (by rfl) T.len_ PySem.boot_len (pa_cons (pv 0) pa_nil)) (pe_glob (v := .int 48) rfl hmost ⟨_, rfl⟩))) pss_never pss_nil)
      (pss_cons (ps_if (pt_not (pt_val (pe_callB (cr_all rfl) (by rfl) T.all_ boot_all' (pa_cons (pe_lc (own := [("row", 2)]) (g := gName 2) (tt := tYes) (by rfl) scCheck.nd (pi_tup (pv 0)) (blkOk_by (N := ["rows", "starts", "row", "state"]) (sc := defScope sCheck) (by decide +kernel))
          (fun _ _ _ _ _ => pg_name (i := 2) scCheck.nd rfl (Or.inl rfl)) (fun _ _ _ _ _ => pts_nil)
          (fun _ _ _ _ _ => pe_call G3 hr rfl D3.M D3.F.kp D3.B .nil pass0 (pa_cons (pv 2) (pa_cons (pe_callB (call_lenK (K := K) rfl) (by rfl) T.len_ PySem.boot_len (pa_cons (pv 0) pa_nil)) pa_nil)))) pa_nil)))) pss_never pss_nil)
      (pss_cons (ps_if (pt_cmpR (op_notIn_km km) (pe_callB call_len_seq (by rfl) T.len_ PySem.boot_len (pa_cons (pv 1) pa_nil)) (pe_glob (v := .ref dm) rfl hdm rfl) rfl) pss_never pss_nil)
      (pss_one (ps_if (pt_not (pt_val (pe_callB (cr_all rfl) (by rfl) T.all_ boot_all' (pa_cons (pe_lc (own := [("state", 3)]) (g := gName 3) (tt := tYes) (by rfl) scCheck.nd (pi_tup (pv 1)) (blkOk_by (N := ["rows", "starts", "row", "state"]) (sc := defScope sCheck) (by decide +kernel))
          (fun _ _ _ _ _ => pg_name (i := 3) scCheck.nd rfl (Or.inl rfl)) (fun _ _ _ _ _ => pts_nil)
          (fun _ _ _ _ _ => pe_call G2 hr rfl D2.M D2.F.kp D2.B .nil pass0 (pa_cons (pv 3) (pa_cons (pe_callB (call_lenK (K := K) rfl) (by rfl) T.len_ PySem.boot_len (pa_cons (pv 0) pa_nil)) pa_nil)))) pa_nil)))) pss_never pss_nil)))), ?_⟩
    have hlr : refs.length = rows.length := hE.1
    refine ⟨_, rfl, ?_⟩
    refine ⟨R, _, rfl, .inr (SqT.of hR), _, _, rfl, rfl, _, rfl, ifD_yes (by rw [hlr]; omega) ?_⟩
    refine ⟨_, _, rfl, rfl, _, rfl, ?_⟩
    rw [hlr]
    have h48' : ((rows.length : Int) ≤ 48) := by omega
    rw [decide_eq_true h48']
    refine iteF ?_
    refine ⟨_, rfl, R, rfl, ⟨_, SqT.of hR⟩, fun Dd hD => ?_⟩
    refine lc_tup (K := K) (a := R) (xs := refs) (fun i H' => Same H H' ∧ H' Dd = some (.lst ((List.replicate i true).map V.bl))) ⟨Same.new hD, upd_same⟩ (fun i H' _ q => SqT.of (q.1 _ _ hR)) ?_ ?_
    · rintro i x H' hx ⟨sm, hd⟩
      have hi : i < rows.length := by rw [← hlr]; exact (List.getElem?_eq_some_iff.mp hx).1
      have hr' : rows[i]? = some rows[i] := List.getElem?_eq_getElem hi
      obtain ⟨c, rfl, hc⟩ := hE.2 i x _ hx hr'
      refine ⟨rfl, ?_⟩
      dsimp only [tYes]
      rw [if_pos rfl]
      refine ⟨_, rfl, _, rfl, R, _, rfl, .inr (SqT.of (sm _ _ hR)), c, rows[i], rows.length, congrArg (fun z : Nat => [V.ref c, V.int (z : Int)]) hlr, sm _ _ hc, hok _ (List.getElem_mem hi), ?_⟩
      refine ⟨_, hd, ?_, ?_, ?_⟩
      · rw [List.length_map, List.length_replicate]
        exact Nat.lt_of_lt_of_le hi (Nat.le_trans h48 (by decide))
      · intro c o e
        rw [upd_ne (ne_of_none e hD)]
        exact sm _ _ e
      · rw [upd_same, List.replicate_succ', List.map_append]
        rfl
    rintro H1 ⟨s1, hd1⟩
    refine ⟨Dd, _, rfl, SqL.of hd1, ?_⟩
    rw [all_true]
    refine ⟨true, rfl, iteF ?_⟩
    have hS1 := SqT.up hS s1
    refine ⟨_, rfl, S, _, rfl, .inr hS1, (starts.length : Int), k, ?_, rfl, hroot, _, rfl, iteF ?_⟩
    · show V.int (((starts.map V.int).length : Nat) : Int) = _
      rw [List.length_map]
    refine ⟨_, rfl, S, rfl, ⟨_, hS1⟩, fun De hE' => ?_⟩
    refine lc_tup (K := K) (a := S) (xs := starts.map V.int) (fun i H' => Same H1 H' ∧ H' De = some (.lst ((List.replicate i true).map V.bl))) ⟨Same.new hE', upd_same⟩ (fun i H' _ q => SqT.up hS1 q.1) ?_ ?_
    · rintro i x H' hx ⟨sm, hd⟩
      rw [List.getElem?_map, Option.map_eq_some_iff] at hx
      obtain ⟨z, hz, rfl⟩ := hx
      have hz' := hst z (List.mem_of_getElem? hz)
      refine ⟨rfl, ?_⟩
      dsimp only [tYes]
      rw [if_pos rfl]
      refine ⟨_, rfl, _, rfl, R, _, rfl, .inr (SqT.of (sm _ _ (s1 _ _ hR))), z, (rows.length : Int), congrArg (fun y : Nat => [V.int z, V.int (y : Int)]) hlr, hz'.1, hz'.2, ?_⟩
      refine ⟨_, hd, ?_, ?_, ?_⟩
      · rw [List.length_map, List.length_replicate]
        have : starts.length ≤ 16 := by
          have := root_le hroot
          omega
        have hi := (List.getElem?_eq_some_iff.mp hz).1
        exact Nat.lt_of_lt_of_le (Nat.lt_of_lt_of_le hi this) (by decide)
      · intro c o e
        rw [upd_ne (ne_of_none e hE')]
        exact sm _ _ e
      · rw [upd_same, List.replicate_succ', List.map_append]
        rfl
    rintro H2 ⟨s2, hd2⟩
    refine ⟨De, _, rfl, SqL.of hd2, ?_⟩
    rw [all_true]
    refine ⟨true, rfl, iteF ?_⟩
    exact kk _ (s1.trans s2)
end
end PA

set_option maxHeartbeats 4000000
namespace L2
open PySem PySem.Spec PyProof.Rows
/-- two ways to walk -/
theorem PI.or {X : Cx} {tg l : Expr} {w1 w2 : TI} (h1 : PI X tg l w1) (h2 : PI X tg l w2) : PI X tg l (fun σ H R => w1 σ H R ∨ w2 σ H R) :=
  ⟨fun pins s σ H R I h => h.elim (h1.run pins s σ H R I) (h2.run pins s σ H R I)⟩
end L2
namespace PA
open PySem L2 RZ
open C8 (pss_cut tCut)
/-- a list or a tuple -/
def Sq (K : PySem.W.Frag) (H : Hp) (a : Addr) (xs : List V) : Prop := SqL K H a xs ∨ SqT K H a xs
theorem SqL.up {K : PySem.W.Frag} {H H' : Hp} {a : Addr} {xs : List V} (h : SqL K H a xs) (e : Same H H') : SqL K H' a xs :=
  h.elim (fun h => .inl (h.elim (fun h => .inl (e _ _ h)) fun ⟨o, h⟩ => .inr ⟨o, e _ _ h⟩)) fun h => .inr h
theorem Sq.up {K : PySem.W.Frag} {H H' : Hp} {a : Addr} {xs : List V} (h : Sq K H a xs) (e : Same H H') : Sq K H' a xs := h.imp (fun h => SqL.up h e) fun h => SqT.up h e
theorem isLT.sq {K : PySem.W.Frag} {H : Hp} {c : Addr} {r : Rw} (h : isLT H c r) : Sq K H c (rv r) := h.elim (fun h => .inr (SqT.of h)) fun h => .inl (SqL.of h)
theorem isT.ins {H : Hp} {c p C dx : Addr} {fs : List (Str × V)} {o : HO} {r : Rw} (q : isT H c r) (hp : H p = some (.ins C dx fs)) : isT (upd H p o) c r := by
  unfold isT
  rw [upd_ne (ne_of (H := H) q hp (by intro z; cases z))]
  exact q
theorem SqT.keep {K : PySem.W.Frag} {H H' : Hp} {a p C dx : Addr} {fs : List (Str × V)} {xs : List V} (h : SqT K H a xs) (hp : H p = some (.ins C dx fs)) (kp : ∀ c o, H c = some o → c ≠ p → H' c = some o) : SqT K H' a xs := by
  rcases h with (h | ⟨ob, h⟩) | h
  · exact .inl (.inl (kp _ _ h (ne_of h hp (by intro z; cases z))))
  · exact .inl (.inr ⟨ob, kp _ _ h (ne_of h hp (by intro z; cases z))⟩)
  · exact .inr h
theorem SqL.keep {K : PySem.W.Frag} {H H' : Hp} {a p C dx : Addr} {fs : List (Str × V)} {xs : List V} (h : SqL K H a xs) (hp : H p = some (.ins C dx fs)) (kp : ∀ c o, H c = some o → c ≠ p → H' c = some o) : SqL K H' a xs := by
  rcases h with (h | ⟨ob, h⟩) | h
  · exact .inl (.inl (kp _ _ h (ne_of h hp (by intro z; cases z))))
  · exact .inl (.inr ⟨ob, kp _ _ h (ne_of h hp (by intro z; cases z))⟩)
  · exact .inr h
theorem Sq.keep {K : PySem.W.Frag} {H H' : Hp} {a p C dx : Addr} {fs : List (Str × V)} {xs : List V} (h : Sq K H a xs) (hp : H p = some (.ins C dx fs)) (kp : ∀ c o, H c = some o → c ≠ p → H' c = some o) : Sq K H' a xs := h.imp (fun h => SqL.keep h hp kp) fun h => SqT.keep h hp kp
theorem SqT.ins {K : PySem.W.Frag} {H : Hp} {a p C dx : Addr} {fs : List (Str × V)} {xs : List V} {o : HO} (h : SqT K H a xs) (hp : H p = some (.ins C dx fs)) : SqT K (upd H p o) a xs := SqT.keep h hp fun c o e hc => by rw [upd_ne hc]; exact e
theorem rf2_rows (R S : Addr) : (putF "starts" (.ref S) (putF "rows" (.ref R) [])).lookup ("rows" : Str) = some (V.ref R) := by
  rw [lookup_putF, if_neg rs_, lookup_putF, if_pos rfl]
theorem rf2_starts (R S : Addr) : (putF "starts" (.ref S) (putF "rows" (.ref R) [])).lookup ("starts" : Str) = some (V.ref S) := by
  rw [lookup_putF, if_pos rfl]
/-- what is good for a Rule -/
structure Good (rows : List Rw) (starts : List Int) (k : Int) : Prop where
  one : 1 ≤ rows.length
  most : rows.length ≤ 48
  ok : ∀ r ∈ rows, RwOk rows.length r
  root : Root (starts.length : Int) k
  st : ∀ s ∈ starts, 0 ≤ s ∧ s < (rows.length : Int)
def spInit (K : PySem.W.Frag) (C : Addr) : Sp := fun vs H Q _ => ∃ (p dx G S : Addr) (refs : List V) (rows : List Rw) (starts : List Int) (k : Int), vs = [.ref p, .ref G, .ref S] ∧ H p = some (.ins C dx []) ∧
  Sq K H G refs ∧ Each H isLT refs rows ∧ Sq K H S (starts.map V.int) ∧ Good rows starts k ∧
  ∀ H', (∃ R S' refs', H' p = some (.ins C dx (rf R S' k)) ∧ H' R = some (.tup refs') ∧ Each H' isT refs' rows ∧ SqT K H' S' (starts.map V.int)) → (∀ c o, H c = some o → c ≠ p → H' c = some o) → Q .non H'
abbrev FunI (K : PySem.W.Frag) (f : Addr) (fd : FuncData) (dd : Addr) : Prop := FunD K "__init__" "Rule.__init__" (defArgs sInit) (defBody sInit) (defScope sInit) [V.ref dd] [] f fd
def rTupK (K : PySem.W.Frag) : List V → Hp → (V → Hp → Prop) → Prop := fun xs H Q => ∃ p ys, xs = [.ref p] ∧ ((SqL K H p ys ∧ ∀ l, H l = none → Q (.ref l) (upd H l (.tup ys))) ∨ (SqT K H p ys ∧ Q (.ref p) H))
theorem call_tupleK {X : Cx} {K : PySem.W.Frag} (h : X.K = K) : CallR X (.type "tuple") (rTupK K) := h ▸ call_tuple_of
section
variable {P : Program} {w : World} {K : PySem.W.Frag} {mg : Str → Option Value} {base : Heap} {C : Addr}
theorem scInit : FnScope ["self", "rows", "starts", "row"] ["self", "rows", "starts"] (defScope sInit) := ⟨rfl, rfl, rfl, by decide +kernel, rfl, by decide +kernel, by decide +kernel⟩
theorem ok_init {f g1 g2 g3 g4 dd : Addr} {fd gd1 gd2 gd3 gd4 : FuncData} (F : FunI K f fd dd) (T : Txt K mg C) (D1 : Df K mg "is_integer" sIsInt g1 gd1 ["value"]) (D2 : Df K mg "is_below" sBelow g2 gd2 ["value", "count"]) (D3 : Df K mg "_is_row" sIsRow g3 gd3 ["row", "count"]) (D4 : Df K mg "_check_table" sCheck g4 gd4 ["rows", "starts"]) : FnOk P w K mg base CX0 5 f fd ["self", "rows", "starts"] (spInit K C) := by
  have G4 : FnOk P w K mg base CX0 4 g4 gd4 ["rows", "starts"] (spCheck K) := ok_check D4.F T D1 D2 D3
  obtain ⟨dm, hdm, km⟩ := T.marks
  refine F.ok scInit (fun vs H Q E h => ?_) (fun cdv A outer s H vs Q E hr h => ?_)
  · obtain ⟨p, dx, G, S, _, _, _, _, rfl, _⟩ := h
    rfl
  · obtain ⟨p, dx, G, S, refs, rows, starts, k, rfl, hp, hG, hE, hS, gd, kk⟩ := h
    refine ⟨_, pss_cut (ps_fld (pv 0) (pe_callTy call_tuple_of (by rfl) T.tup_ boot_tuple' (pa_cons (pe_lc (own := [("row", 3)]) (g := gName 3) (tt := tYes) (by rfl) scInit.nd ((pi_list (pv 1)).or (pi_tup (pv 1))) (blkOk_by (N := ["self", "rows", "starts", "row"]) (sc := defScope sInit) (by decide +kernel))
          (fun _ _ _ _ _ => pg_name (i := 3) scInit.nd rfl (Or.inl rfl)) (fun _ _ _ _ _ => pts_nil)
          (fun _ _ _ _ _ => pe_callTy (call_tupleK (K := K) rfl) (by rfl) T.tup_ boot_tuple' (pa_cons (pv 3) pa_nil))) pa_nil)) rfl)
      (pss_cut (ps_fld (pv 0) (pe_callTy call_tuple_of (by rfl) T.tup_ boot_tuple' (pa_cons (pv 2) pa_nil)) rfl)
      (pss_cons (ps_expr (pe_call G4 hr rfl D4.M D4.F.kp D4.B .nil pass0 (pa_cons (pe_fld (pv 0) rfl) (pa_cons (pe_fld (pv 0) rfl) pa_nil))))
      (pss_one (ps_fld (pv 0) (pe_ix (ix_km km) (pe_glob (v := .ref dm) rfl hdm rfl) (pe_callB call_len_seq (by rfl) T.len_ PySem.boot_len (pa_cons (pe_fld (pv 0) rfl) pa_nil)) (fun _ _ => rfl)) rfl)))), ?_⟩
    have hlr : refs.length = rows.length := hE.1
    refine ⟨fun σ' H' => σ' = [some (.ref p), some (.ref G), some (.ref S), none] ∧ ∃ R refs', H' p = some (.ins C dx (putF "rows" (.ref R) [])) ∧ H' R = some (.tup refs') ∧ Each H' isT refs' rows ∧ (∀ c o, H c = some o → c ≠ p → H' c = some o), ?_, ?_⟩
    rcases hG with hG | hG
    · refine .inl ⟨_, rfl, G, rfl, ⟨_, hG⟩, fun Dd hD => ?_⟩
      refine lc_list (K := K) (a := G) (xs := refs) (fun i H' => Same H H' ∧ ∃ acc, H' Dd = some (.lst acc) ∧ Each H' isT acc (rows.take i)) ⟨Same.new hD, [], upd_same, by rw [List.take_zero]; exact Each.nil⟩ (fun i H' _ q => SqL.up hG q.1) ?_ ?_
      · rintro i x H' hx ⟨sm, acc, hd, he⟩
        have hi : i < rows.length := by rw [← hlr]; exact (List.getElem?_eq_some_iff.mp hx).1
        have hr' : rows[i]? = some rows[i] := List.getElem?_eq_getElem hi
        obtain ⟨c, rfl, hc⟩ := hE.2 i x _ hx hr'
        have hal : acc.length < sizeLine := by
          rw [he.1, List.length_take]
          exact Nat.lt_of_le_of_lt (Nat.le_trans (Nat.min_le_left _ _) (Nat.le_of_lt hi)) (Nat.lt_of_le_of_lt gd.most (by decide))
        refine ⟨rfl, ?_⟩
        dsimp only [tYes]
        rw [if_pos rfl]
        rcases hc with hc | hc
        · refine ⟨_, rfl, c, _, rfl, .inr ⟨SqT.of (sm _ _ hc), acc, hd, hal, ?_, _, upd_same, ?_⟩⟩
          · intro c' o e
            rw [upd_ne (ne_of_none e hD)]
            exact sm _ _ e
          · rw [take_succ' hr']
            exact Each.push (he.imp fun c' r' q => q.lst hd) ((show isT H' c rows[i] from sm _ _ hc).lst hd)
        · refine ⟨_, rfl, c, _, rfl, .inl ⟨SqL.of (sm _ _ hc), fun l hl => ⟨acc, ?_, hal, ?_, _, upd_same, ?_⟩⟩⟩
          · rw [upd_ne (ne_of_none hd hl)]
            exact hd
          · intro c' o e
            rw [upd_ne (ne_of_none e hD), upd_ne (ne_of_none (sm _ _ e) hl)]
            exact sm _ _ e
          · have hd' : (upd H' l (.tup (rv rows[i]))) Dd = some (.lst acc) := by rw [upd_ne (ne_of_none hd hl)]; exact hd
            rw [take_succ' hr']
            exact Each.push ((he.sameT (Same.new hl)).imp fun c' r' q => q.lst hd') ((show isT (upd H' l (.tup (rv rows[i]))) l rows[i] from upd_same).lst hd')
      rintro H1 ⟨s1, acc, hd, he⟩
      rw [hlr, List.take_length] at he
      refine ⟨Dd, _, rfl, .inl ⟨SqL.of hd, fun l hl => ?_⟩⟩
      have hp1 : (upd H1 l (.tup acc)) p = some (.ins C dx []) := by rw [upd_ne (ne_of_none (s1 _ _ hp) hl)]; exact s1 _ _ hp
      refine ⟨_, rfl, p, C, dx, _, rfl, hp1, T.cl, T.nR, (by show 0 < 1000; decide), rfl, l, acc, upd_same, ?_, ?_, ?_⟩
      · rw [upd_ne (ne_of hp1 upd_same (by intro z; cases z)).symm]
        exact upd_same
      · exact (he.sameT (Same.new hl)).imp fun c' r' q => isT.ins q hp1
      · intro c o e hc
        rw [upd_ne hc, upd_ne (ne_of_none (s1 _ _ e) hl)]
        exact s1 _ _ e
    · refine .inr ⟨_, rfl, G, rfl, ⟨_, hG⟩, fun Dd hD => ?_⟩
      refine lc_tup (K := K) (a := G) (xs := refs) (fun i H' => Same H H' ∧ ∃ acc, H' Dd = some (.lst acc) ∧ Each H' isT acc (rows.take i)) ⟨Same.new hD, [], upd_same, by rw [List.take_zero]; exact Each.nil⟩ (fun i H' _ q => SqT.up hG q.1) ?_ ?_
      · rintro i x H' hx ⟨sm, acc, hd, he⟩
        have hi : i < rows.length := by rw [← hlr]; exact (List.getElem?_eq_some_iff.mp hx).1
        have hr' : rows[i]? = some rows[i] := List.getElem?_eq_getElem hi
        obtain ⟨c, rfl, hc⟩ := hE.2 i x _ hx hr'
        have hal : acc.length < sizeLine := by
          rw [he.1, List.length_take]
          exact Nat.lt_of_le_of_lt (Nat.le_trans (Nat.min_le_left _ _) (Nat.le_of_lt hi)) (Nat.lt_of_le_of_lt gd.most (by decide))
        refine ⟨rfl, ?_⟩
        dsimp only [tYes]
        rw [if_pos rfl]
        rcases hc with hc | hc
        · refine ⟨_, rfl, c, _, rfl, .inr ⟨SqT.of (sm _ _ hc), acc, hd, hal, ?_, _, upd_same, ?_⟩⟩
          · intro c' o e
            rw [upd_ne (ne_of_none e hD)]
            exact sm _ _ e
          · rw [take_succ' hr']
            exact Each.push (he.imp fun c' r' q => q.lst hd) ((show isT H' c rows[i] from sm _ _ hc).lst hd)
        · refine ⟨_, rfl, c, _, rfl, .inl ⟨SqL.of (sm _ _ hc), fun l hl => ⟨acc, ?_, hal, ?_, _, upd_same, ?_⟩⟩⟩
          · rw [upd_ne (ne_of_none hd hl)]
            exact hd
          · intro c' o e
            rw [upd_ne (ne_of_none e hD), upd_ne (ne_of_none (sm _ _ e) hl)]
            exact sm _ _ e
          · have hd' : (upd H' l (.tup (rv rows[i]))) Dd = some (.lst acc) := by rw [upd_ne (ne_of_none hd hl)]; exact hd
            rw [take_succ' hr']
            exact Each.push ((he.sameT (Same.new hl)).imp fun c' r' q => q.lst hd') ((show isT (upd H' l (.tup (rv rows[i]))) l rows[i] from upd_same).lst hd')
      rintro H1 ⟨s1, acc, hd, he⟩
      rw [hlr, List.take_length] at he
      refine ⟨Dd, _, rfl, .inl ⟨SqL.of hd, fun l hl => ?_⟩⟩
      have hp1 : (upd H1 l (.tup acc)) p = some (.ins C dx []) := by rw [upd_ne (ne_of_none (s1 _ _ hp) hl)]; exact s1 _ _ hp
      refine ⟨_, rfl, p, C, dx, _, rfl, hp1, T.cl, T.nR, (by show 0 < 1000; decide), rfl, l, acc, upd_same, ?_, ?_, ?_⟩
      · rw [upd_ne (ne_of hp1 upd_same (by intro z; cases z)).symm]
        exact upd_same
      · exact (he.sameT (Same.new hl)).imp fun c' r' q => isT.ins q hp1
      · intro c o e hc
        rw [upd_ne hc, upd_ne (ne_of_none (s1 _ _ e) hl)]
        exact s1 _ _ e
    rintro _ H1 ⟨rfl, R, refs', hp1, hR1, hE1, kp1⟩
    have hS1 : Sq K H1 S (starts.map V.int) := Sq.keep hS hp kp1
    refine ⟨fun σ' H' => σ' = [some (.ref p), some (.ref G), some (.ref S), none] ∧ ∃ S', H' p = some (.ins C dx (putF "starts" (.ref S') (putF "rows" (.ref R) []))) ∧ H' R = some (.tup refs') ∧ Each H' isT refs' rows ∧ SqT K H' S' (starts.map V.int) ∧ (∀ c o, H c = some o → c ≠ p → H' c = some o), ?_, ?_⟩
    · rcases hS1 with hS1 | hS1
      · refine ⟨_, rfl, S, _, rfl, .inl ⟨hS1, fun l hl => ?_⟩⟩
        have hp2 : (upd H1 l (.tup (starts.map V.int))) p = some (.ins C dx (putF "rows" (.ref R) [])) := by rw [upd_ne (ne_of_none hp1 hl)]; exact hp1
        refine ⟨_, rfl, p, C, dx, _, rfl, hp2, T.cl, T.nS, (by show 1 < 1000; decide), rfl, l, upd_same, ?_, ?_, ?_, ?_⟩
        · rw [upd_ne (ne_of (Same.new hl _ _ hR1) hp2 (by intro z; cases z))]
          exact Same.new hl _ _ hR1
        · exact (hE1.sameT (Same.new hl)).imp fun c' r' q => isT.ins q hp2
        · exact SqT.ins (SqT.of upd_same) hp2
        · intro c o e hc
          rw [upd_ne hc]
          exact Same.new hl _ _ (kp1 _ _ e hc)
      · refine ⟨_, rfl, S, _, rfl, .inr ⟨hS1, ?_⟩⟩
        refine ⟨_, rfl, p, C, dx, _, rfl, hp1, T.cl, T.nS, (by show 1 < 1000; decide), rfl, S, upd_same, ?_, ?_, ?_, ?_⟩
        · rw [upd_ne (ne_of hR1 hp1 (by intro z; cases z))]
          exact hR1
        · exact hE1.imp fun c' r' q => isT.ins q hp1
        · exact SqT.ins hS1 hp1
        · intro c o e hc
          rw [upd_ne hc]
          exact kp1 _ _ e hc
    rintro _ H2 ⟨rfl, S', hp2, hR2, hE2, hS2, kp2⟩
    refine ⟨_, rfl, p, C, dx, _, _, rfl, hp2, T.cl, T.nR, rf2_rows R S', _, rfl, p, C, dx, _, _, rfl, hp2, T.cl, T.nS, rf2_starts R S', R, S', refs', rows, starts, k, rfl, hR2, hE2, hS2, gd.one, gd.most, gd.ok, gd.root, gd.st, fun H3 s3 => ?_⟩
    refine ⟨_, rfl, p, C, dx, _, _, rfl, s3 _ _ hp2, T.cl, T.nS, rf2_starts R S', S', _, rfl, .inr (SqT.up hS2 s3), (starts.length : Int), k, rfl, ?_, gd.root, ?_⟩
    · show V.int (((starts.map V.int).length : Nat) : Int) = _
      rw [List.length_map]
    refine ⟨_, rfl, p, C, dx, _, rfl, s3 _ _ hp2, T.cl, T.nM, (by show 2 < 1000; decide), ?_⟩
    refine kk _ ⟨R, S', refs', upd_same, ?_, ?_, ?_⟩ ?_
    · rw [upd_ne (ne_of (s3 _ _ hR2) (s3 _ _ hp2) (by intro z; cases z))]
      exact s3 _ _ hR2
    · exact (hE2.sameT s3).imp fun c' r' q => isT.ins q (s3 _ _ hp2)
    · exact SqT.ins (SqT.up hS2 s3) (s3 _ _ hp2)
    · intro c o e hc
      rw [upd_ne hc]
      exact s3 _ _ (kp2 _ _ e hc)
end
end PA

set_option maxHeartbeats 2000000
namespace PA
open PySem L2 RZ
open C8 (pss_cut tCut)
abbrev sDraw : Stmt := top 39
abbrev sStart : Stmt := top 40
abbrev sPick : Stmt := top 41
abbrev sSame : Stmt := top 42
abbrev sTable : Stmt := top 43
abbrev sRefused : Stmt := top 44
abbrev sHas : Stmt := top 45
abbrev sListed : Stmt := top 46
abbrev sLaw : Stmt := top 47
/-! ### data of ints -/
theorem ints_lay : ∀ ns : List Int, PyData.canLayAll0 (ns.map PyData.int) = true
  | [] => by simp [PyData.canLayAll0]
  | z :: zs => by simp [PyData.canLayAll0, PyData.canLay0, ints_lay zs]
theorem ints_depth : ∀ ns : List Int, PyData.depthAll (ns.map PyData.int) ≤ 2
  | [] => by simp [PyData.depthAll]
  | z :: zs => by
    have h1 := ints_depth zs
    simp only [List.map_cons, PyData.depthAll, PyData.depth]
    omega
theorem ints_shaped (ns : List Int) : SeqAt.shaped (.list (ns.map PyData.int)) = true := by
  have h1 := ints_depth ns
  have h2 : PyData.depth (.list (ns.map PyData.int)) ≤ 64 := by
    simp only [PyData.depth]
    omega
  show (PyData.canLay0 (.list (ns.map PyData.int)) && decide (PyData.depth (.list (ns.map PyData.int)) ≤ 64)) = true
  rw [Bool.and_eq_true]
  exact ⟨by simp only [PyData.canLay0]; exact ints_lay ns, decide_eq_true h2⟩
theorem dp_ints {K : PySem.W.Frag} {H : Hp} : ∀ ns : List Int, DpAll K H (ns.map V.int) (ns.map PyData.int)
  | [] => .nil
  | z :: zs => .cons (.int z) (dp_ints zs)
theorem ints_nil (ns : List Int) : PyData.eqv (.list (ns.map PyData.int)) (.list []) = ns.isEmpty := by
  cases ns with
  | nil => simp [PyData.eqv, PyData.eqvAll]
  | cons z zs => simp [PyData.eqv, PyData.eqvAll]
/-! ### the stream of draws: the list at a, the numbers left at l, n draws made -/
def StreamAt (H : Hp) (a l : Addr) (n : Nat) : Prop := a ≠ l ∧ ∃ (ns : List Int) (x z : Int), H a = some (.lst [.ref l, .int x, .int (n : Int), .int z]) ∧ H l = some (.lst (ns.map V.int)) ∧ ns.length ≤ 63 ∧ 0 ≤ x ∧ 0 ≤ z ∧ z < 2147483647
/-- all but the stream is kept -/
def Keep (a l : Addr) (H H' : Hp) : Prop := ∀ c o, c ≠ a → c ≠ l → H c = some o → H' c = some o
theorem Keep.refl (a l : Addr) (H : Hp) : Keep a l H H := fun _ _ _ _ h => h
theorem Keep.trans {a l : Addr} {H H1 H2 : Hp} (h : Keep a l H H1) (h' : Keep a l H1 H2) : Keep a l H H2 := fun c o x y e => h' c o x y (h c o x y e)
theorem Keep.of {a l : Addr} {H H' : Hp} (h : Same H H') : Keep a l H H' := fun c o _ _ e => h c o e
theorem StreamAt.same {H H' : Hp} {a l : Addr} {n : Nat} (h : StreamAt H a l n) (s : Same H H') : StreamAt H' a l n := by
  obtain ⟨ne, ns, x, z, h1, h2, h3⟩ := h
  exact ⟨ne, ns, x, z, s _ _ h1, s _ _ h2, h3⟩
def spDraw : Sp := fun vs H Q _ => ∃ (a l : Addr) (n : Nat) (many : Int), vs = [.ref a, .int many] ∧ StreamAt H a l n ∧ n ≤ 100000 ∧ 0 < many ∧ Sm 9000 many ∧
  ∀ (r : Int) (H' : Hp), 0 ≤ r → r < many → StreamAt H' a l (n + 1) → Keep a l H H' → Q (.int r) H'
section
variable {P : Program} {w : World} {K : PySem.W.Frag} {mg : Str → Option Value} {base : Heap} {C : Addr}
theorem scDraw : FnScope ["_law_stream", "_law_many", "_law_digit", "_law_mixed"] ["_law_stream", "_law_many"] (defScope sDraw) := ⟨rfl, rfl, rfl, by decide +kernel, rfl, by decide +kernel, by decide +kernel⟩
theorem ok_draw {f : Addr} {fd : FuncData} (F : Fun K "_law_draw" "_law_draw" sDraw f fd) (T : Txt K mg C) : FnOk P w K mg base CX0 1 f fd ["_law_stream", "_law_many"] spDraw := by
  refine F.ok scDraw (fun vs H Q E h => ?_) (fun cdv A outer s H vs Q E hr h => ?_)
  · obtain ⟨a, l, n, many, rfl, _⟩ := h
    rfl
  · obtain ⟨a, l, n, many, rfl, ⟨ne, ns, x, z, h1, h2, hl, hx, hz0, hz1⟩, hn, hm, hms, k⟩ := h
    have hW : ∀ j : Int, CDivW j many := fun j => ⟨hm, Nat.lt_of_lt_of_le (PySem.Flt.log2_lt_of (by decide) hms) (Nat.le_refl _)⟩
    refine ⟨_, pss_cut (ps_asg (pe_op op_add (pe_ix ix_list (pv 0) pe_int (fun _ _ => rfl)) pe_int) (pg_sub (pv 0) pe_int set_list))
      (pss_cut (ps_if (PW.pt (pw_and (pt_cmpR op_eq (pe_ix ix_list (pv 0) pe_int (fun _ _ => rfl)) pe_int (nomark _)) (pw_and1 (pt_cmpR (op_neD hr.units) (pe_ix ix_list (pv 0) pe_int (fun _ _ => rfl)) (pe_lst pa_nil) (nomark _)))))
        (pss_cons (ps_asg (pe_bm PySem.F.plainAttrs_list PySem.F.slot_list_pop PySem.F.type_list_pop mt_popAt (pe_ix ix_list (pv 0) pe_int (fun _ _ => rfl)) (pa_cons pe_int pa_nil)) (pg_sub (pv 0) pe_int set_list))
          (pss_one (ps_if (pt_cmpR op_lt (pe_ix ix_list (pv 0) pe_int (fun _ _ => rfl)) (pe_op op_pow pe_int pe_int) (nomark _))
            (pss_cons (ps_asg (pe_op op_mod (pe_callTy call_int1 (by rfl) T.int_ boot_int' (pa_cons (pe_op op_add (pe_op op_add (pe_op op_mul (pe_ix ix_list (pv 0) pe_int (fun _ _ => rfl)) pe_int) (pe_ix ix_list (pv 0) pe_int (fun _ _ => rfl))) pe_int) pa_nil)) pe_int) (pg_sub (pv 0) pe_int set_list))
              (pss_one (ps_asg pe_int (pg_sub (pv 0) pe_int set_list)))) pss_nil))) pss_nil)
      (pss_cons (ps_if (pt_cmpR op_gt (pe_ix ix_list (pv 0) pe_int (fun _ _ => rfl)) pe_int (nomark _))
        (pss_cons (ps_set (i := 2) scDraw.nd rfl (Or.inl rfl) (pe_op op_mod (pe_callTy call_int1 (by rfl) T.int_ boot_int' (pa_cons (pe_ix ix_list (pv 0) pe_int (fun _ _ => rfl)) pa_nil)) (pv 1)))
          (pss_cons (ps_asg (pe_op op_fdivW (pe_ix ix_list (pv 0) pe_int (fun _ _ => rfl)) (pv 1)) (pg_sub (pv 0) pe_int set_list))
            (pss_one (ps_ret (pv 2))))) pss_nil)
      (pss_cons (ps_set (i := 3) scDraw.nd rfl (Or.inl rfl) (pe_op op_mod (pe_op op_pow (pe_op op_add (pe_op op_add (pe_ix ix_list (pv 0) pe_int (fun _ _ => rfl)) (pe_op op_mul pe_int (pe_ix ix_list (pv 0) pe_int (fun _ _ => rfl)))) pe_int) pe_int) pe_int))
      (pss_one (ps_ret (pe_op op_mod (pe_op op_mod (pe_op op_pow (pe_op op_add (pe_op op_add (pe_op op_mul (pv 3) pe_int) (pe_op op_mul (pe_op op_mul pe_int (pe_ix ix_list (pv 0) pe_int (fun _ _ => rfl))) (pe_ix ix_list (pv 0) pe_int (fun _ _ => rfl)))) pe_int) pe_int) pe_int) (pv 1))))))), ?_⟩
    refine ⟨fun σ' H' => σ' = [some (V.ref a), some (V.int many), none, none] ∧ H' = upd H a (.lst [.ref l, .int x, .int ((n : Int) + 1), .int z]), ?_, ?_⟩
    · exact ⟨_, rfl, a, _, 2, _, rfl, rfl, SqL.of h1, rfl, _, _, rfl, rfl, _, rfl, a, _, 2, 2, rfl, rfl, h1, rfl, rfl, rfl⟩
    rintro _ _ ⟨rfl, rfl⟩
    refine ⟨fun σ' H' => σ' = [some (V.ref a), some (V.int many), none, none] ∧ ∃ (ns' : List Int) (x' z' : Int), H' a = some (.lst [.ref l, .int x', .int ((n : Int) + 1), .int z']) ∧ H' l = some (.lst (ns'.map V.int)) ∧ ns'.length ≤ 63 ∧ 0 ≤ x' ∧ 0 ≤ z' ∧ z' < 2147483647 ∧ Keep a l H H', ?_, ?_⟩
    · have kp1 : Keep a l H (upd H a (.lst [.ref l, .int x, .int ((n : Int) + 1), .int z])) := fun c o ca _ e => by rw [upd_ne ca]; exact e
      have hl1 : (upd H a (.lst [.ref l, .int x, .int ((n : Int) + 1), .int z])) l = some (.lst (ns.map V.int)) := by rw [upd_ne ne.symm]; exact h2
      refine ⟨_, rfl, a, _, 1, _, rfl, rfl, SqL.of upd_same, rfl, rfl, _, rfl, ifD_2 (fun hx0 => ?_) (fun _ => iteF ?_)⟩
      · refine ⟨_, rfl, a, _, 0, _, rfl, rfl, SqL.of upd_same, rfl, Nat.zero_le _, fun p hp => ?_⟩
        have npa : a ≠ p := fun e => by rw [← e, upd_same] at hp; cases hp
        have npl : l ≠ p := ne_of_none hl1 hp
        have kp2 : Keep a l H (upd (upd H a (.lst [.ref l, .int x, .int ((n : Int) + 1), .int z])) p (.lst [])) := fun c o ca cl e => by
          rw [upd_ne (ne_of_none (kp1 c o ca cl e) hp)]; exact kp1 c o ca cl e
        refine ⟨.list (ns.map PyData.int), .list [], .lst (SqL.of (by rw [upd_ne npl]; exact hl1)) (dp_ints ns), .lst (SqL.of upd_same) .nil, ints_shaped ns, ints_shaped [], _, rfl, ?_⟩
        rw [ints_nil]
        cases ns with
        | nil => exact iteF ⟨rfl, [], x, z, by rw [upd_ne npa, upd_same], by rw [upd_ne npl]; exact hl1, Nat.zero_le _, hx, hz0, hz1, kp2⟩
        | cons y ys =>
          refine iteT ?_
          have ga : (upd (upd H a (.lst [.ref l, .int x, .int ((n : Int) + 1), .int z])) p (.lst [])) a = some (.lst [.ref l, .int x, .int ((n : Int) + 1), .int z]) := by rw [upd_ne npa, upd_same]
          have gl : (upd (upd H a (.lst [.ref l, .int x, .int ((n : Int) + 1), .int z])) p (.lst [])) l = some (.lst ((y :: ys).map V.int)) := by rw [upd_ne npl]; exact hl1
          generalize (upd (upd H a (.lst [.ref l, .int x, .int ((n : Int) + 1), .int z])) p (.lst [])) = Hb at ga gl kp2
          refine ⟨_, rfl, a, _, 0, _, rfl, rfl, SqL.of ga, rfl, .inl ⟨rfl, _, SqL.of gl⟩, l, _, 0, 0, .int y, rfl, rfl, gl, by decide, by decide, (ixN_seq (Evl.ixN_nat (j := 0) (by simp))).1, rfl, ?_⟩
          have ga2 : (upd Hb l (.lst (((y :: ys).map V.int).eraseIdx 0))) a = some (.lst [.ref l, .int x, .int ((n : Int) + 1), .int z]) := by rw [upd_ne ne]; exact ga
          refine ⟨_, rfl, a, _, 1, 1, rfl, rfl, ga2, rfl, ?_⟩
          have kp3 : ∀ o, Keep a l H (upd (upd Hb l (.lst (((y :: ys).map V.int).eraseIdx 0))) a o) := fun o c u ca cl e => by rw [upd_ne ca, upd_ne cl]; exact kp2 c u ca cl e
          have gl3 : ∀ o, (upd (upd Hb l (.lst (((y :: ys).map V.int).eraseIdx 0))) a o) l = some (.lst (ys.map V.int)) := fun o => by rw [upd_ne ne.symm, upd_same]; rfl
          have hys : ys.length ≤ 63 := Nat.le_trans (Nat.le_succ _) hl
          refine ⟨_, rfl, a, _, 1, _, rfl, rfl, SqL.of upd_same, rfl, 10, 18, rfl, rfl, (by show CPow 10 18; unfold CPow; decide), _, _, rfl, rfl, _, rfl, ifD_2 (fun hy => ?_) (fun hy => ?_)⟩
          · refine ⟨_, rfl, a, _, 3, _, rfl, rfl, SqL.of upd_same, rfl, _, _, rfl, rfl, .inr (by decide), _, rfl, a, _, 1, _, rfl, rfl, SqL.of upd_same, rfl, _, _, rfl, rfl, _, _, rfl, rfl, .inl ⟨_, rfl, _, _, rfl, rfl, (by show (0 : Int) < 2147483647; decide), _, rfl, a, _, 3, 3, rfl, rfl, upd_same, rfl, ?_⟩⟩
            refine ⟨_, rfl, a, _, 1, 1, rfl, rfl, upd_same, rfl, ?_⟩
            rw [upd_upd, upd_upd]
            exact ⟨rfl, ys, 0, (z * 31 + y + 7) % 2147483647, upd_same, gl3 _, hys, by decide, Int.emod_nonneg _ (by decide), Int.emod_lt_of_pos _ (by decide), kp3 _⟩
          · exact ⟨rfl, ys, y, z, upd_same, gl3 _, hys, by
              have h18 : (0 : Int) ≤ 10 ^ (18 : Int).toNat := by decide
              omega, hz0, hz1, kp3 _⟩
      · exact ⟨rfl, ns, x, z, upd_same, hl1, hl, hx, hz0, hz1, kp1⟩
    rintro _ H1 ⟨rfl, ns', x', z', g1, g2, gl, gx, gz0, gz1, kp⟩
    refine ⟨_, rfl, a, _, 1, _, rfl, rfl, SqL.of g1, rfl, _, _, rfl, rfl, _, rfl, ifD_2 (fun hp => ?_) (fun _ => ?_)⟩
    · refine ⟨_, rfl, a, _, 1, _, rfl, rfl, SqL.of g1, rfl, .inl ⟨_, rfl, _, rfl, _, _, rfl, rfl, hm, ?_⟩⟩
      refine ⟨_, rfl, a, _, 1, _, rfl, rfl, SqL.of g1, rfl, _, rfl, _, _, rfl, rfl, hW _, _, rfl, a, _, 1, 1, rfl, rfl, g1, rfl, _, rfl, ?_⟩
      refine k (x' % many) _ (Int.emod_nonneg _ (by omega)) (Int.emod_lt_of_pos _ hm) ⟨ne, ns', x' / many, z', upd_same, by rw [upd_ne ne.symm]; exact g2, gl, Int.ediv_nonneg gx (by omega), gz0, gz1⟩ fun c o ca cl e => by
        rw [upd_ne ca]; exact kp c o ca cl e
    · have hn' : (n : Int) ≤ 100000 := by omega
      have hn0 : (0 : Int) ≤ n := by omega
      refine ⟨_, rfl, a, _, 3, _, rfl, rfl, SqL.of g1, rfl, _, rfl, a, _, 2, _, rfl, rfl, SqL.of g1, rfl, _, _, rfl, rfl, .inl (by decide), _, _, rfl, rfl, _, _, rfl, rfl, _, _, rfl, rfl, ?_, _, _, rfl, rfl, (by show (0 : Int) < 2147483629; decide), ?_⟩
      · show CPow _ 5
        refine ⟨by decide, by decide, ?_⟩
        have e64 : (2 : Nat) ^ 64 = 18446744073709551616 := by decide
        rw [e64]
        omega
      · generalize hmx : ((z' + 104729 * ((n : Int) + 1) + 17) ^ (5 : Int).toNat) % 2147483629 = mx
        have m0 : 0 ≤ mx := by rw [← hmx]; exact Int.emod_nonneg _ (by decide)
        have m1 : mx < 2147483629 := by rw [← hmx]; exact Int.emod_lt_of_pos _ (by decide)
        refine ⟨_, rfl, _, _, rfl, rfl, .inr (by decide), _, rfl, a, _, 2, _, rfl, rfl, SqL.of g1, rfl, _, _, rfl, rfl, .inl (by decide), _, rfl, a, _, 2, _, rfl, rfl, SqL.of g1, rfl, _, _, rfl, rfl, .inr ?_, _, _, rfl, rfl, _, _, rfl, rfl, _, _, rfl, rfl, ?_, _, _, rfl, rfl, (by show (0 : Int) < 1000000007; decide), _, rfl, _, _, rfl, rfl, hm, ?_⟩
        · have e64 : (2 : Int) ^ 64 = 18446744073709551616 := by decide
          rw [e64]
          omega
        · show CPow _ 3
          refine ⟨by decide, by decide, ?_⟩
          have e64 : (2 : Nat) ^ 64 = 18446744073709551616 := by decide
          rw [e64]
          have q0 : 0 ≤ 40503 * ((n : Int) + 1) * ((n : Int) + 1) := Int.mul_nonneg (by omega) (by omega)
          have q1 : 40503 * ((n : Int) + 1) * ((n : Int) + 1) ≤ 40503 * 100001 * 100001 := Int.mul_le_mul (by omega) (by omega) (by omega) (by decide)
          omega
        · exact k _ _ (Int.emod_nonneg _ (by omega)) (Int.emod_lt_of_pos _ hm) ⟨ne, ns', x', z', g1, g2, gl, gx, gz0, gz1⟩ kp
end
theorem sm9000 {x : Int} {n : Nat} (h : Sm n x) (hn : n ≤ 9000) : Sm 9000 x := h.mono hn
theorem sm_small {x : Int} (h : x.natAbs < 8) : Sm 9000 x := sm9000 (n := 3) h (by decide)
def spStart (K : PySem.W.Frag) : Sp := fun vs H Q _ => ∃ (p : Addr) (ns : List Int), vs = [.ref p] ∧ SqL K H p (ns.map V.int) ∧ ns.length ≤ 63 ∧ ∀ (a l : Addr) (H' : Hp), StreamAt H' a l 0 → H a = none → H l = none → Same H H' → Q (.ref a) H'
section
variable {P : Program} {w : World} {K : PySem.W.Frag} {mg : Str → Option Value} {base : Heap} {C : Addr}
theorem scStart : FnScope ["_law_script"] ["_law_script"] (defScope sStart) := ⟨rfl, rfl, rfl, by decide +kernel, rfl, by decide +kernel, by decide +kernel⟩
theorem ok_start {f : Addr} {fd : FuncData} (F : Fun K "_law_start" "_law_start" sStart f fd) (T : Txt K mg C) : FnOk P w K mg base CX0 1 f fd ["_law_script"] (spStart K) := by
  refine F.ok scStart (fun vs H Q E h => ?_) (fun cdv A outer s H vs Q E hr h => ?_)
  · obtain ⟨p, ns, rfl, _⟩ := h
    rfl
  · obtain ⟨p, ns, rfl, hS, hl, k⟩ := h
    refine ⟨_, pss_one (ps_ret (pe_lst (pa_cons (pe_callTy call_list_of (by rfl) T.list_ boot_list' (pa_cons (pv 0) pa_nil)) (pa_cons pe_int (pa_cons pe_int (pa_cons pe_int pa_nil)))))), ?_⟩
    refine ⟨_, rfl, p, _, rfl, .inl hS, fun l hl' => ⟨by show 4 ≤ sizeLine; decide, fun a ha => ?_⟩⟩
    have nal : a ≠ l := fun e => by rw [e, upd_same] at ha; cases ha
    have ha0 : H a = Option.none := by rw [upd_ne nal] at ha; exact ha
    exact k a l _ ⟨nal, ns, 0, 0, upd_same, by rw [upd_ne nal.symm, upd_same], hl, by decide, by decide, by decide⟩ ha0 hl' ((Same.new hl').trans (Same.new ha))
end
end PA

set_option maxHeartbeats 4000000
namespace PA
open PySem L2 RZ
/-! ### a comprehension over zip -/
section
variable {K : PySem.W.Frag} {a b : Addr} {xs ys : List V} {g : TG} {tt : TT} {te : TE} {vs : List Nat} {σ : L2.St} {H1 : Hp} {D : Addr} {Qd : Hp → Prop}
theorem lc_zipL (hl : xs.length = ys.length) (Pv : Nat → Hp → Prop) (h0 : Pv 0 (upd H1 D (.lst []))) (hq : ∀ i H, Pv i H → SqL K H a xs ∧ SqL K H b ys)
    (hs : ∀ (i : Nat) (x y : V) (T : Addr) (H : Hp), xs[i]? = some x → ys[i]? = some y → Pv i H → H T = none → g (.ref T) (wipe σ vs) (upd H T (.tup [x, y])) fun σ2 H2 => wipe σ2 vs = wipe σ vs ∧ tt σ2 H2 fun c H3 =>
      if c = true then te σ2 H3 fun z H4 => ∃ acc, H4 D = some (.lst acc) ∧ acc.length < sizeLine ∧ Pv (i + 1) (upd H4 D (.lst (acc ++ [z]))) else Pv (i + 1) H3) (hd : ∀ H, Pv xs.length H → Qd H) :
    ∃ W : Nat → Nat → Hp → Prop, (∃ m, W 0 m (upd H1 D (.lst []))) ∧ ∀ i m H, W i m H →
      ((Itz K a b).stop i H ∧ Qd H) ∨ ((Itz K a b).go i H ∧ ∃ Nx : Hp → Prop, (∀ H', Nx H' → ∃ m', m' < m ∧ W (i + 1) m' H') ∧ ∀ x H', (Itz K a b).yld i H x H' → g x (wipe σ vs) H' fun σ2 H2 => wipe σ2 vs = wipe σ vs ∧ tt σ2 H2 fun c H3 =>
        if c = true then te σ2 H3 fun z H4 => ∃ acc, H4 D = some (.lst acc) ∧ acc.length < sizeLine ∧ Nx (upd H4 D (.lst (acc ++ [z]))) else Nx H3) := by
  refine ⟨fun i m H => m = xs.length - i ∧ i ≤ xs.length ∧ Pv i H, ⟨xs.length, rfl, Nat.zero_le _, h0⟩, ?_⟩
  rintro i m H ⟨rfl, hi, p⟩
  obtain ⟨qx, qy⟩ := hq i H p
  by_cases hlt : i < xs.length
  · have hx : xs[i]? = some xs[i] := List.getElem?_eq_getElem hlt
    have hlt2 : i < ys.length := by omega
    have hy : ys[i]? = some ys[i] := List.getElem?_eq_getElem hlt2
    refine .inr ⟨⟨xs, ys, _, _, qx, qy, hx, hy⟩, Pv (i + 1), fun H' p' => ⟨xs.length - (i + 1), by omega, rfl, hlt, p'⟩, fun v H' y => ?_⟩
    obtain ⟨T, x', y', rfl, hT, rfl, f1, f2⟩ := y
    exact hs i x' y' T H (f1 xs qx) (f2 ys qy) p hT
  · have e : i = xs.length := by omega
    subst e
    exact .inl ⟨⟨xs, ys, qx, qy, Or.inl (Nat.le_refl _)⟩, hd H p⟩
theorem lc_zipT (hl : xs.length = ys.length) (Pv : Nat → Hp → Prop) (h0 : Pv 0 (upd H1 D (.lst []))) (hq : ∀ i H, Pv i H → SqT K H a xs ∧ SqT K H b ys)
    (hs : ∀ (i : Nat) (x y : V) (T : Addr) (H : Hp), xs[i]? = some x → ys[i]? = some y → Pv i H → H T = none → g (.ref T) (wipe σ vs) (upd H T (.tup [x, y])) fun σ2 H2 => wipe σ2 vs = wipe σ vs ∧ tt σ2 H2 fun c H3 =>
      if c = true then te σ2 H3 fun z H4 => ∃ acc, H4 D = some (.lst acc) ∧ acc.length < sizeLine ∧ Pv (i + 1) (upd H4 D (.lst (acc ++ [z]))) else Pv (i + 1) H3) (hd : ∀ H, Pv xs.length H → Qd H) :
    ∃ W : Nat → Nat → Hp → Prop, (∃ m, W 0 m (upd H1 D (.lst []))) ∧ ∀ i m H, W i m H →
      ((ItzT K a b).stop i H ∧ Qd H) ∨ ((ItzT K a b).go i H ∧ ∃ Nx : Hp → Prop, (∀ H', Nx H' → ∃ m', m' < m ∧ W (i + 1) m' H') ∧ ∀ x H', (ItzT K a b).yld i H x H' → g x (wipe σ vs) H' fun σ2 H2 => wipe σ2 vs = wipe σ vs ∧ tt σ2 H2 fun c H3 =>
        if c = true then te σ2 H3 fun z H4 => ∃ acc, H4 D = some (.lst acc) ∧ acc.length < sizeLine ∧ Nx (upd H4 D (.lst (acc ++ [z]))) else Nx H3) := by
  refine ⟨fun i m H => m = xs.length - i ∧ i ≤ xs.length ∧ Pv i H, ⟨xs.length, rfl, Nat.zero_le _, h0⟩, ?_⟩
  rintro i m H ⟨rfl, hi, p⟩
  obtain ⟨qx, qy⟩ := hq i H p
  by_cases hlt : i < xs.length
  · have hx : xs[i]? = some xs[i] := List.getElem?_eq_getElem hlt
    have hlt2 : i < ys.length := by omega
    have hy : ys[i]? = some ys[i] := List.getElem?_eq_getElem hlt2
    refine .inr ⟨⟨xs, ys, _, _, qx, qy, hx, hy⟩, Pv (i + 1), fun H' p' => ⟨xs.length - (i + 1), by omega, rfl, hlt, p'⟩, fun v H' y => ?_⟩
    obtain ⟨T, x', y', rfl, hT, rfl, f1, f2⟩ := y
    exact hs i x' y' T H (f1 xs qx) (f2 ys qy) p hT
  · have e : i = xs.length := by omega
    subst e
    exact .inl ⟨⟨xs, ys, qx, qy, Or.inl (Nat.le_refl _)⟩, hd H p⟩
end
/-! ### two values that are the same, to the depth n: ints, bools, lists and tuples of such -/
inductive Two (K : PySem.W.Frag) (H : Hp) : Nat → V → V → Prop where
  | bl (n : Nat) (b : Bool) : Two K H n (.bl b) (.bl b)
  | int (n : Nat) (i : Int) : Two K H n (.int i) (.int i)
  | lst {n : Nat} {a b : Addr} {xs ys : List V} (ha : H a = some (.lst xs)) (hb : H b = some (.lst ys)) (hl : xs.length = ys.length) (hsz : xs.length ≤ sizeLine) (hi : ∀ (i : Nat) (x y : V), xs[i]? = some x → ys[i]? = some y → Two K H n x y) : Two K H (n + 1) (.ref a) (.ref b)
  | tup {n : Nat} {a b : Addr} {xs ys : List V} (ha : SqT K H a xs) (hb : SqT K H b ys) (hl : xs.length = ys.length) (hsz : xs.length ≤ sizeLine) (hi : ∀ (i : Nat) (x y : V), xs[i]? = some x → ys[i]? = some y → Two K H n x y) : Two K H (n + 1) (.ref a) (.ref b)
theorem Two.same {K : PySem.W.Frag} {H H' : Hp} {n : Nat} {x y : V} (t : Two K H n x y) (s : Same H H') : Two K H' n x y := by
  induction t with
  | bl n b => exact .bl n b
  | int n i => exact .int n i
  | lst ha hb hl hz _ ih => exact .lst (s _ _ ha) (s _ _ hb) hl hz ih
  | tup ha hb hl hz _ ih => exact .tup (SqT.up ha s) (SqT.up hb s) hl hz ih
theorem tyT {K : PySem.W.Frag} {H : Hp} {a : Addr} {xs : List V} (h : SqT K H a xs) : TyX K H (.ref a) (.type "tuple") := by
  rcases h with (h | ⟨ob, h⟩) | ⟨o, its, n, h1, h2, _⟩
  · exact .base (.tup h)
  · exact .fTuple h
  · exact .kTuple h1 h2
def spSame (K : PySem.W.Frag) (n : Nat) : Sp := fun vs H Q _ => ∃ x y, vs = [x, y] ∧ Two K H n x y ∧ ∀ H', Same H H' → Q (.bl true) H'
section
variable {P : Program} {w : World} {K : PySem.W.Frag} {mg : Str → Option Value} {base : Heap} {C : Addr}
theorem scSame : FnScope ["_law_found", "_law_due", "_law_one", "_law_other"] ["_law_found", "_law_due"] (defScope sSame) := ⟨rfl, rfl, rfl, by decide +kernel, rfl, by decide +kernel, by decide +kernel⟩
theorem kit2 {t : String} {b1 b2 r : Bool} (h1 : kitB t "list" = some b1) (h2 : kitB t "tuple" = some b2) (hr : (b1 || b2) = r) : PySem.W.kitAny K (.type t) [.type "list", .type "tuple"] = some r := by
  subst hr
  refine kitAny_cons (b := b1) (kit_ty h1) (fun e => ?_) (fun e => by rw [e]; rfl)
  subst e
  refine kitAny_cons (b := b2) (kit_ty h2) (fun e => ?_) (fun e => by rw [e]; rfl)
  subst e
  exact kitAny_nil
theorem ok_same {f : Addr} {fd : FuncData} (D : Df K mg "_law_same" sSame f fd ["_law_found", "_law_due"]) (T : Txt K mg C) : ∀ n : Nat, FnOk P w K mg base CX0 (n + 1) f fd ["_law_found", "_law_due"] (spSame K n) := by
  have hlen : ∀ n, ∀ vs H Q E, spSame K n vs H Q E → vs.length = (["_law_found", "_law_due"] : List Str).length := fun n vs H Q E h => by
    obtain ⟨x, y, rfl, _⟩ := h
    rfl
  intro n
  induction n with
  | zero =>
    refine D.F.ok scSame (hlen 0) (fun cdv A outer s H vs Q E hr h => ?_)
    obtain ⟨x, y, rfl, t, k⟩ := h
    refine ⟨_, pss_cons (ps_if (pt_val (pe_callB call_isiT (by rfl) T.isi boot_isi (pa_cons (pv 1) (pa_cons (pe_tup (pa_cons (pe_bltn (v := .ty "list") (by rfl) T.list_ boot_list' rfl) (pa_cons (pe_bltn (v := .ty "tuple") (by rfl) T.tup_ boot_tuple' rfl) pa_nil))) pa_nil)))) pss_never pss_nil)
      (pss_cons (ps_if (pt_val (pe_callB call_isi (by rfl) T.isi boot_isi (pa_cons (pv 1) (pa_cons (pe_bltn (v := .ty "int") (by rfl) T.int_ boot_int' rfl) pa_nil))))
        (pss_one (ps_ret (pe_and (pe_callB call_isi (by rfl) T.isi boot_isi (pa_cons (pv 0) (pa_cons (pe_bltn (v := .ty "int") (by rfl) T.int_ boot_int' rfl) pa_nil)))
          (pe_and (pe_cmpR op_eq (pe_callB call_isi (by rfl) T.isi boot_isi (pa_cons (pv 0) (pa_cons (pe_bltn (v := .ty "bool") (by rfl) T.bool_ boot_bool' rfl) pa_nil))) (pe_callB call_isi (by rfl) T.isi boot_isi (pa_cons (pv 1) (pa_cons (pe_bltn (v := .ty "bool") (by rfl) T.bool_ boot_bool' rfl) pa_nil))) (nomark _))
            (pe_one (pe_cmpR op_eq (pv 0) (pv 1) (nomark _))))))) pss_nil) pss_never), ?_⟩
    cases t with
    | int _ i =>
      refine ⟨_, rfl, by show 2 ≤ sizeLine; decide, fun tp htp => ⟨_, tp, _, _, [.type "list", .type "tuple"], _, rfl, upd_same, .cons (.ty _) (.cons (.ty _) .nil), .base (.int i), kit2 (b1 := false) (b2 := false) (by decide +kernel) (by decide +kernel) rfl, _, rfl, iteF ?_⟩⟩
      refine ⟨_, rfl, _, _, _, _, _, rfl, .ty _, .base (.int i), kit_ty (b := "int") (r := true) (by decide +kernel), _, rfl, iteT ?_⟩
      refine ⟨_, rfl, _, _, _, _, _, rfl, .ty _, .base (.int i), kit_ty (b := "int") (r := true) (by decide +kernel), _, rfl, iteT ?_⟩
      refine ⟨_, rfl, _, _, _, _, _, rfl, .ty _, .base (.int i), kit_ty (b := "bool") (r := false) (by decide +kernel), _, rfl, _, _, _, _, _, rfl, .ty _, .base (.int i), kit_ty (b := "bool") (r := false) (by decide +kernel), rfl, _, rfl, ifD_yes rfl ?_⟩
      refine ⟨_, rfl, _, rfl, rfl, ?_⟩
      show Q (V.bl (decide (V.int i = V.int i))) _
      rw [decide_eq_true rfl]
      exact k _ (Same.new htp)
    | bl _ b =>
      refine ⟨_, rfl, by show 2 ≤ sizeLine; decide, fun tp htp => ⟨_, tp, _, _, [.type "list", .type "tuple"], _, rfl, upd_same, .cons (.ty _) (.cons (.ty _) .nil), .base (.bl b), kit2 (b1 := false) (b2 := false) (by decide +kernel) (by decide +kernel) rfl, _, rfl, iteF ?_⟩⟩
      refine ⟨_, rfl, _, _, _, _, _, rfl, .ty _, .base (.bl b), kit_ty (b := "int") (r := true) (by decide +kernel), _, rfl, iteT ?_⟩
      refine ⟨_, rfl, _, _, _, _, _, rfl, .ty _, .base (.bl b), kit_ty (b := "int") (r := true) (by decide +kernel), _, rfl, iteT ?_⟩
      refine ⟨_, rfl, _, _, _, _, _, rfl, .ty _, .base (.bl b), kit_ty (b := "bool") (r := true) (by decide +kernel), _, rfl, _, _, _, _, _, rfl, .ty _, .base (.bl b), kit_ty (b := "bool") (r := true) (by decide +kernel), rfl, _, rfl, ifD_yes rfl ?_⟩
      refine ⟨_, rfl, _, rfl, rfl, ?_⟩
      show Q (V.bl (decide (V.bl b = V.bl b))) _
      rw [decide_eq_true rfl]
      exact k _ (Same.new htp)
  | succ n ih =>
    refine D.F.ok scSame (hlen (n + 1)) (fun cdv A outer s H vs Q E hr h => ?_)
    obtain ⟨x, y, rfl, t, k⟩ := h
    cases t with
    | int _ i =>
      refine ⟨_, pss_cons (ps_if (pt_val (pe_callB call_isiT (by rfl) T.isi boot_isi (pa_cons (pv 1) (pa_cons (pe_tup (pa_cons (pe_bltn (v := .ty "list") (by rfl) T.list_ boot_list' rfl) (pa_cons (pe_bltn (v := .ty "tuple") (by rfl) T.tup_ boot_tuple' rfl) pa_nil))) pa_nil)))) pss_never pss_nil)
      (pss_cons (ps_if (pt_val (pe_callB call_isi (by rfl) T.isi boot_isi (pa_cons (pv 1) (pa_cons (pe_bltn (v := .ty "int") (by rfl) T.int_ boot_int' rfl) pa_nil))))
        (pss_one (ps_ret (pe_and (pe_callB call_isi (by rfl) T.isi boot_isi (pa_cons (pv 0) (pa_cons (pe_bltn (v := .ty "int") (by rfl) T.int_ boot_int' rfl) pa_nil)))
          (pe_and (pe_cmpR op_eq (pe_callB call_isi (by rfl) T.isi boot_isi (pa_cons (pv 0) (pa_cons (pe_bltn (v := .ty "bool") (by rfl) T.bool_ boot_bool' rfl) pa_nil))) (pe_callB call_isi (by rfl) T.isi boot_isi (pa_cons (pv 1) (pa_cons (pe_bltn (v := .ty "bool") (by rfl) T.bool_ boot_bool' rfl) pa_nil))) (nomark _))
            (pe_one (pe_cmpR op_eq (pv 0) (pv 1) (nomark _))))))) pss_nil) pss_never), ?_⟩
      refine ⟨_, rfl, by show 2 ≤ sizeLine; decide, fun tp htp => ⟨_, tp, _, _, [.type "list", .type "tuple"], _, rfl, upd_same, .cons (.ty _) (.cons (.ty _) .nil), .base (.int i), kit2 (b1 := false) (b2 := false) (by decide +kernel) (by decide +kernel) rfl, _, rfl, iteF ?_⟩⟩
      refine ⟨_, rfl, _, _, _, _, _, rfl, .ty _, .base (.int i), kit_ty (b := "int") (r := true) (by decide +kernel), _, rfl, iteT ?_⟩
      refine ⟨_, rfl, _, _, _, _, _, rfl, .ty _, .base (.int i), kit_ty (b := "int") (r := true) (by decide +kernel), _, rfl, iteT ?_⟩
      refine ⟨_, rfl, _, _, _, _, _, rfl, .ty _, .base (.int i), kit_ty (b := "bool") (r := false) (by decide +kernel), _, rfl, _, _, _, _, _, rfl, .ty _, .base (.int i), kit_ty (b := "bool") (r := false) (by decide +kernel), rfl, _, rfl, ifD_yes rfl ?_⟩
      refine ⟨_, rfl, _, rfl, rfl, ?_⟩
      show Q (V.bl (decide (V.int i = V.int i))) _
      rw [decide_eq_true rfl]
      exact k _ (Same.new htp)
    | bl _ b =>
      refine ⟨_, pss_cons (ps_if (pt_val (pe_callB call_isiT (by rfl) T.isi boot_isi (pa_cons (pv 1) (pa_cons (pe_tup (pa_cons (pe_bltn (v := .ty "list") (by rfl) T.list_ boot_list' rfl) (pa_cons (pe_bltn (v := .ty "tuple") (by rfl) T.tup_ boot_tuple' rfl) pa_nil))) pa_nil)))) pss_never pss_nil)
      (pss_cons (ps_if (pt_val (pe_callB call_isi (by rfl) T.isi boot_isi (pa_cons (pv 1) (pa_cons (pe_bltn (v := .ty "int") (by rfl) T.int_ boot_int' rfl) pa_nil))))
        (pss_one (ps_ret (pe_and (pe_callB call_isi (by rfl) T.isi boot_isi (pa_cons (pv 0) (pa_cons (pe_bltn (v := .ty "int") (by rfl) T.int_ boot_int' rfl) pa_nil)))
          (pe_and (pe_cmpR op_eq (pe_callB call_isi (by rfl) T.isi boot_isi (pa_cons (pv 0) (pa_cons (pe_bltn (v := .ty "bool") (by rfl) T.bool_ boot_bool' rfl) pa_nil))) (pe_callB call_isi (by rfl) T.isi boot_isi (pa_cons (pv 1) (pa_cons (pe_bltn (v := .ty "bool") (by rfl) T.bool_ boot_bool' rfl) pa_nil))) (nomark _))
            (pe_one (pe_cmpR op_eq (pv 0) (pv 1) (nomark _))))))) pss_nil) pss_never), ?_⟩
      refine ⟨_, rfl, by show 2 ≤ sizeLine; decide, fun tp htp => ⟨_, tp, _, _, [.type "list", .type "tuple"], _, rfl, upd_same, .cons (.ty _) (.cons (.ty _) .nil), .base (.bl b), kit2 (b1 := false) (b2 := false) (by decide +kernel) (by decide +kernel) rfl, _, rfl, iteF ?_⟩⟩
      refine ⟨_, rfl, _, _, _, _, _, rfl, .ty _, .base (.bl b), kit_ty (b := "int") (r := true) (by decide +kernel), _, rfl, iteT ?_⟩
      refine ⟨_, rfl, _, _, _, _, _, rfl, .ty _, .base (.bl b), kit_ty (b := "int") (r := true) (by decide +kernel), _, rfl, iteT ?_⟩
      refine ⟨_, rfl, _, _, _, _, _, rfl, .ty _, .base (.bl b), kit_ty (b := "bool") (r := true) (by decide +kernel), _, rfl, _, _, _, _, _, rfl, .ty _, .base (.bl b), kit_ty (b := "bool") (r := true) (by decide +kernel), rfl, _, rfl, ifD_yes rfl ?_⟩
      refine ⟨_, rfl, _, rfl, rfl, ?_⟩
      show Q (V.bl (decide (V.bl b = V.bl b))) _
      rw [decide_eq_true rfl]
      exact k _ (Same.new htp)
    | @lst _ a b xs ys ha hb hl hsz hi =>
      refine ⟨_, pss_cons (ps_if (pt_val (pe_callB call_isiT (by rfl) T.isi boot_isi (pa_cons (pv 1) (pa_cons (pe_tup (pa_cons (pe_bltn (v := .ty "list") (by rfl) T.list_ boot_list' rfl) (pa_cons (pe_bltn (v := .ty "tuple") (by rfl) T.tup_ boot_tuple' rfl) pa_nil))) pa_nil))))
      (pss_cons (ps_if (PW.pt (pw_or (pt_cmpR op_ne (pe_callB call_isi (by rfl) T.isi boot_isi (pa_cons (pv 0) (pa_cons (pe_bltn (v := .ty "list") (by rfl) T.list_ boot_list' rfl) pa_nil))) (pe_callB call_isi (by rfl) T.isi boot_isi (pa_cons (pv 1) (pa_cons (pe_bltn (v := .ty "list") (by rfl) T.list_ boot_list' rfl) pa_nil))) (nomark _)) (pw_or1 (pt_cmpR op_ne (pe_callB call_isi (by rfl) T.isi boot_isi (pa_cons (pv 0) (pa_cons (pe_bltn (v := .ty "tuple") (by rfl) T.tup_ boot_tuple' rfl) pa_nil))) (pe_callB call_isi (by rfl) T.isi boot_isi (pa_cons (pv 1) (pa_cons (pe_bltn (v := .ty "tuple") (by rfl) T.tup_ boot_tuple' rfl) pa_nil))) (nomark _))))) pss_never pss_nil)
        (pss_one (ps_ret (pe_and (pe_cmpR op_eq (pe_callB call_len_seq (by rfl) T.len_ PySem.boot_len (pa_cons (pv 0) pa_nil)) (pe_callB call_len_seq (by rfl) T.len_ PySem.boot_len (pa_cons (pv 1) pa_nil)) (nomark _))
          (pe_one (pe_callB (cr_all rfl) (by rfl) T.all_ boot_all' (pa_cons (pe_lc (own := [("_law_one", 2), ("_law_other", 3)]) (g := gTup K 2 (gCons (gName 2) (gCons (gName 3) gNil))) (tt := tYes) (by rfl) scSame.nd (pi_zipA (by rfl) T.zip_ (pa_cons (pv 0) (pa_cons (pv 1) pa_nil))) (blkOk_by (N := ["_law_found", "_law_due", "_law_one", "_law_other"]) (sc := defScope sSame) (by decide +kernel))
            (fun _ _ _ _ _ => by exact pg_tup rfl (pgs_cons (pg_name (i := 2) scSame.nd rfl (Or.inl rfl)) (pgs_cons (pg_name (i := 3) scSame.nd rfl (Or.inl rfl)) pgs_nil))) (fun _ _ _ _ _ => pts_nil)
            (fun _ _ _ _ _ => pe_call ih hr rfl D.M D.F.kp D.B .nil pass0 (pa_cons (pv 2) (pa_cons (pv 3) pa_nil)))) pa_nil))))))) pss_nil) pss_never, ?_⟩
      refine ⟨_, rfl, by show 2 ≤ sizeLine; decide, fun tp htp => ?_⟩
      have s1 : Same H (upd H tp (.tup [.ty "list", .ty "tuple"])) := Same.new htp
      have hA := s1 _ _ ha
      have hB := s1 _ _ hb
      refine ⟨_, tp, _, _, [.type "list", .type "tuple"], _, rfl, upd_same, .cons (.ty _) (.cons (.ty _) .nil), .base (.lst hB), kit2 (b1 := true) (b2 := false) (by decide +kernel) (by decide +kernel) rfl, _, rfl, iteT ?_⟩
      refine ⟨_, rfl, _, _, _, _, _, rfl, .ty _, .base (.lst hA), kit_ty (b := "list") (r := true) (by decide +kernel), _, rfl, _, _, _, _, _, rfl, .ty _, .base (.lst hB), kit_ty (b := "list") (r := true) (by decide +kernel), rfl, _, rfl, iteNS rfl ?_⟩
      refine ⟨_, rfl, _, _, _, _, _, rfl, .ty _, .base (.lst hA), kit_ty (b := "tuple") (r := false) (by decide +kernel), _, rfl, _, _, _, _, _, rfl, .ty _, .base (.lst hB), kit_ty (b := "tuple") (r := false) (by decide +kernel), rfl, _, rfl, iteNS rfl ?_⟩
      refine ⟨_, rfl, _, _, rfl, .inl (SqL.of hA), _, rfl, _, _, rfl, .inl (SqL.of hB), rfl, _, rfl, ifD_yes (by rw [hl]) ?_⟩
      refine ⟨_, rfl, _, rfl, _, _, xs, ys, rfl, .inl ⟨SqL.of hA, SqL.of hB, fun Dd hD => ?_⟩⟩
      refine lc_zipL hl (fun i H' => Same (upd H tp (.tup [.ty "list", .ty "tuple"])) H' ∧ H' Dd = some (.lst ((List.replicate i true).map V.bl))) ⟨Same.new hD, upd_same⟩ (fun i H' q => ⟨SqL.of (q.1 _ _ hA), SqL.of (q.1 _ _ hB)⟩) ?_ ?_
      · rintro i x y tt H' hx hy ⟨sm, hd⟩ ht
        refine ⟨tt, _, rfl, SqT.of upd_same, rfl, _, _, rfl, _, _, rfl, rfl, rfl, ?_⟩
        dsimp only [tYes]
        rw [if_pos rfl]
        have s2 : Same H' (upd H' tt (.tup [x, y])) := Same.new ht
        refine ⟨_, rfl, _, rfl, x, y, rfl, ((hi i x y hx hy).same s1).same (sm.trans s2), fun H2 s3 => ⟨_, s3 _ _ (s2 _ _ hd), ?_, ?_, ?_⟩⟩
        · rw [List.length_map, List.length_replicate]
          exact Nat.lt_of_lt_of_le (List.getElem?_eq_some_iff.mp hx).1 hsz
        · intro c o e
          rw [upd_ne (ne_of_none e hD)]
          exact s3 _ _ (s2 _ _ (sm _ _ e))
        · rw [upd_same, List.replicate_succ', List.map_append]
          rfl
      · rintro H' ⟨sm, hd⟩
        refine ⟨Dd, _, rfl, SqL.of hd, ?_⟩
        have ea : (List.replicate xs.length true).all id = true := by
          rw [List.all_eq_true]
          intro x hx
          rw [(List.mem_replicate.mp hx).2]
          rfl
        rw [ea]
        exact k _ (s1.trans sm)
    | @tup _ a b xs ys ha hb hl hsz hi =>
      refine ⟨_, pss_cons (ps_if (pt_val (pe_callB call_isiT (by rfl) T.isi boot_isi (pa_cons (pv 1) (pa_cons (pe_tup (pa_cons (pe_bltn (v := .ty "list") (by rfl) T.list_ boot_list' rfl) (pa_cons (pe_bltn (v := .ty "tuple") (by rfl) T.tup_ boot_tuple' rfl) pa_nil))) pa_nil))))
      (pss_cons (ps_if (PW.pt (pw_or (pt_cmpR op_ne (pe_callB call_isi (by rfl) T.isi boot_isi (pa_cons (pv 0) (pa_cons (pe_bltn (v := .ty "list") (by rfl) T.list_ boot_list' rfl) pa_nil))) (pe_callB call_isi (by rfl) T.isi boot_isi (pa_cons (pv 1) (pa_cons (pe_bltn (v := .ty "list") (by rfl) T.list_ boot_list' rfl) pa_nil))) (nomark _)) (pw_or1 (pt_cmpR op_ne (pe_callB call_isi (by rfl) T.isi boot_isi (pa_cons (pv 0) (pa_cons (pe_bltn (v := .ty "tuple") (by rfl) T.tup_ boot_tuple' rfl) pa_nil))) (pe_callB call_isi (by rfl) T.isi boot_isi (pa_cons (pv 1) (pa_cons (pe_bltn (v := .ty "tuple") (by rfl) T.tup_ boot_tuple' rfl) pa_nil))) (nomark _))))) pss_never pss_nil)
        (pss_one (ps_ret (pe_and (pe_cmpR op_eq (pe_callB call_len_seq (by rfl) T.len_ PySem.boot_len (pa_cons (pv 0) pa_nil)) (pe_callB call_len_seq (by rfl) T.len_ PySem.boot_len (pa_cons (pv 1) pa_nil)) (nomark _))
          (pe_one (pe_callB (cr_all rfl) (by rfl) T.all_ boot_all' (pa_cons (pe_lc (own := [("_law_one", 2), ("_law_other", 3)]) (g := gTup K 2 (gCons (gName 2) (gCons (gName 3) gNil))) (tt := tYes) (by rfl) scSame.nd (pi_zipA (by rfl) T.zip_ (pa_cons (pv 0) (pa_cons (pv 1) pa_nil))) (blkOk_by (N := ["_law_found", "_law_due", "_law_one", "_law_other"]) (sc := defScope sSame) (by decide +kernel))
            (fun _ _ _ _ _ => by exact pg_tup rfl (pgs_cons (pg_name (i := 2) scSame.nd rfl (Or.inl rfl)) (pgs_cons (pg_name (i := 3) scSame.nd rfl (Or.inl rfl)) pgs_nil))) (fun _ _ _ _ _ => pts_nil)
            (fun _ _ _ _ _ => pe_call ih hr rfl D.M D.F.kp D.B .nil pass0 (pa_cons (pv 2) (pa_cons (pv 3) pa_nil)))) pa_nil))))))) pss_nil) pss_never, ?_⟩
      refine ⟨_, rfl, by show 2 ≤ sizeLine; decide, fun tp htp => ?_⟩
      have s1 : Same H (upd H tp (.tup [.ty "list", .ty "tuple"])) := Same.new htp
      have hA := SqT.up ha s1
      have hB := SqT.up hb s1
      refine ⟨_, tp, _, _, [.type "list", .type "tuple"], _, rfl, upd_same, .cons (.ty _) (.cons (.ty _) .nil), tyT hB, kit2 (b1 := false) (b2 := true) (by decide +kernel) (by decide +kernel) rfl, _, rfl, iteT ?_⟩
      refine ⟨_, rfl, _, _, _, _, _, rfl, .ty _, tyT hA, kit_ty (b := "list") (r := false) (by decide +kernel), _, rfl, _, _, _, _, _, rfl, .ty _, tyT hB, kit_ty (b := "list") (r := false) (by decide +kernel), rfl, _, rfl, iteNS rfl ?_⟩
      refine ⟨_, rfl, _, _, _, _, _, rfl, .ty _, tyT hA, kit_ty (b := "tuple") (r := true) (by decide +kernel), _, rfl, _, _, _, _, _, rfl, .ty _, tyT hB, kit_ty (b := "tuple") (r := true) (by decide +kernel), rfl, _, rfl, iteNS rfl ?_⟩
      refine ⟨_, rfl, _, _, rfl, .inr (hA), _, rfl, _, _, rfl, .inr (hB), rfl, _, rfl, ifD_yes (by rw [hl]) ?_⟩
      refine ⟨_, rfl, _, rfl, _, _, xs, ys, rfl, .inr ⟨hA, hB, fun Dd hD => ?_⟩⟩
      refine lc_zipT hl (fun i H' => Same (upd H tp (.tup [.ty "list", .ty "tuple"])) H' ∧ H' Dd = some (.lst ((List.replicate i true).map V.bl))) ⟨Same.new hD, upd_same⟩ (fun i H' q => ⟨SqT.up hA q.1, SqT.up hB q.1⟩) ?_ ?_
      · rintro i x y tt H' hx hy ⟨sm, hd⟩ ht
        refine ⟨tt, _, rfl, SqT.of upd_same, rfl, _, _, rfl, _, _, rfl, rfl, rfl, ?_⟩
        dsimp only [tYes]
        rw [if_pos rfl]
        have s2 : Same H' (upd H' tt (.tup [x, y])) := Same.new ht
        refine ⟨_, rfl, _, rfl, x, y, rfl, ((hi i x y hx hy).same s1).same (sm.trans s2), fun H2 s3 => ⟨_, s3 _ _ (s2 _ _ hd), ?_, ?_, ?_⟩⟩
        · rw [List.length_map, List.length_replicate]
          exact Nat.lt_of_lt_of_le (List.getElem?_eq_some_iff.mp hx).1 hsz
        · intro c o e
          rw [upd_ne (ne_of_none e hD)]
          exact s3 _ _ (s2 _ _ (sm _ _ e))
        · rw [upd_same, List.replicate_succ', List.map_append]
          rfl
      · rintro H' ⟨sm, hd⟩
        refine ⟨Dd, _, rfl, SqL.of hd, ?_⟩
        have ea : (List.replicate xs.length true).all id = true := by
          rw [List.all_eq_true]
          intro x hx
          rw [(List.mem_replicate.mp hx).2]
          rfl
        rw [ea]
        exact k _ (s1.trans sm)
end
end PA

set_option maxHeartbeats 4000000
namespace PA
open PySem L2 RZ
open C8 (pss_cut tCut)
abbrev sStr : Stmt := inClass (top 30) 6
abbrev sRowsTx : Stmt := top 35
abbrev sRowTx : Stmt := top 36
abbrev sStartsTx : Stmt := top 37
def intS (i : Int) : Str := Str.ofString (toString i)
def fallS (b : Bool) : Str := if b = true then "fall" else "stay"
def goS (b : Bool) : Str := if b = true then "go" else "stay"
def rowTx (r : Rw) : Str := (((((((Str.empty ++ intS r.1) ++ (" " : Str)) ++ fallS r.2.1) ++ (" " : Str)) ++ intS r.2.2.1) ++ (" " : Str)) ++ goS r.2.2.2)
def rowsTx (rows : List Rw) : Str := Txt.join "; " (rows.map rowTx)
def wordsTx (starts : List Int) : Str := Txt.join " " (starts.map intS)
def startsTx (starts : List Int) : Str := if starts = [0] then "" else (Str.empty ++ (" | " : Str)) ++ wordsTx starts
def ruleTx (rows : List Rw) (starts : List Int) : Str := (Str.empty ++ rowsTx rows) ++ startsTx starts
theorem app_le {x y : Str} {m n : Nat} (hx : x.length ≤ m) (hy : y.length ≤ n) : (x ++ y).length ≤ m + n := by
  rw [Str.length_append]
  omega
theorem small_log {i : Int} (h0 : 0 ≤ i) (h1 : i < 48) : i.natAbs.log2 < 1920 := by
  have e : (2 : Nat) ^ 6 = 64 := by decide
  have h : i.natAbs < 2 ^ 6 := by
    rw [e]
    omega
  have h2 : i.natAbs.log2 < 6 := PySem.Flt.log2_lt_of (by decide) h
  exact Nat.lt_of_lt_of_le h2 (by decide)
theorem intS_le {i : Int} (h0 : 0 ≤ i) (h1 : i < 48) : (intS i).length ≤ 1921 := by
  have e := int_text_length_le (k := 1920) (by decide) (small_log h0 h1)
  unfold intS
  rw [ofString_length]
  exact e
theorem fallS_le (b : Bool) : (fallS b).length ≤ 4 := by cases b <;> decide +kernel
theorem goS_le (b : Bool) : (goS b).length ≤ 4 := by cases b <;> decide +kernel
theorem sp_le : (" " : Str).length ≤ 1 := by decide +kernel
theorem em_le : (Str.empty).length ≤ 0 := by decide +kernel
def spRowTx : Sp := fun vs H Q _ => ∃ (c : Addr) (r : Rw), vs = [.ref c] ∧ isT H c r ∧ RwOk 48 r ∧ Q (.str (rowTx r)) H
section
variable {P : Program} {w : World} {K : PySem.W.Frag} {mg : Str → Option Value} {base : Heap} {C : Addr}
theorem scRowTx : FnScope ["row", "next_ahead", "falls", "next_behind", "goes", "first", "second"] ["row"] (defScope sRowTx) := ⟨rfl, rfl, rfl, by decide +kernel, rfl, by decide +kernel, by decide +kernel⟩
theorem ok_rowTx {f : Addr} {fd : FuncData} (F : Fun K "_row_text" "_row_text" sRowTx f fd) : FnOk P w K mg base CX0 1 f fd ["row"] spRowTx := by
  refine F.ok scRowTx (fun vs H Q E h => ?_) (fun cdv A outer s H vs Q E hr h => ?_)
  · obtain ⟨c, _, rfl, _⟩ := h
    rfl
  · obtain ⟨c, ⟨ra, rb, rc, rd⟩, rfl, hc, ⟨⟨a0, a1⟩, c0, c1⟩, kk⟩ := h
    refine ⟨_, pss_cons (ps_asg (pv 0) (pg_tup rfl (pgs_cons (pg_name (i := 1) scRowTx.nd rfl (Or.inl rfl)) (pgs_cons (pg_name (i := 2) scRowTx.nd rfl (Or.inl rfl)) (pgs_cons (pg_name (i := 3) scRowTx.nd rfl (Or.inl rfl)) (pgs_cons (pg_name (i := 4) scRowTx.nd rfl (Or.inl rfl)) pgs_nil))))))
      (pss_cut (ps_set (i := 5) scRowTx.nd rfl (Or.inl rfl) (pe_ifExp (pt_val (pv 2)) pe_str pe_str))
      (pss_cut (ps_set (i := 6) scRowTx.nd rfl (Or.inl rfl) (pe_ifExp (pt_val (pv 4)) pe_str pe_str))
      (pss_one (ps_ret (pe_joined (.cons (pe_fmt (pv 1)) (.cons pe_str (.cons (pe_fmt (pv 5)) (.cons pe_str (.cons (pe_fmt (pv 3)) (.cons pe_str (.cons (pe_fmt (pv 6)) .nil)))))))))))), ?_⟩
    refine ⟨_, rfl, c, _, rfl, SqT.of hc, rfl, _, _, rfl, _, _, rfl, _, _, rfl, _, _, rfl, rfl, ?_⟩
    refine ⟨fun σ' H' => H' = H ∧ σ' = [some (V.ref c), some (V.int ra), some (V.bl rb), some (V.int rc), some (V.bl rd), some (V.str (fallS rb)), none], ?_, ?_⟩
    · refine ⟨_, rfl, rb, rfl, ?_⟩
      cases rb with
      | true => exact iteT ⟨rfl, rfl⟩
      | false => exact iteF ⟨rfl, rfl⟩
    rintro _ H1 ⟨e1, rfl⟩
    subst e1
    refine ⟨fun σ' H' => H' = H1 ∧ σ' = [some (V.ref c), some (V.int ra), some (V.bl rb), some (V.int rc), some (V.bl rd), some (V.str (fallS rb)), some (V.str (goS rd))], ?_, ?_⟩
    · refine ⟨_, rfl, rd, rfl, ?_⟩
      cases rd with
      | true => exact iteT ⟨rfl, rfl⟩
      | false => exact iteF ⟨rfl, rfl⟩
    rintro _ H2 ⟨e2, rfl⟩
    subst e2
    have q1 := app_le em_le (intS_le a0 a1)
    have q2 := app_le q1 sp_le
    have q3 := app_le q2 (fallS_le rb)
    have q4 := app_le q3 sp_le
    have q5 := app_le q4 (intS_le c0 c1)
    have q6 := app_le q5 sp_le
    have q7 := app_le q6 (goS_le rd)
    have big : ∀ {n : Nat}, n ≤ 4000 → n ≤ sizeLine := fun h => Nat.le_trans h (by decide)
    refine ⟨_, rfl, .inr ⟨ra, rfl, small_log a0 a1, _, rfl, big (Nat.le_trans q1 (by decide)), ?_⟩⟩
    refine ⟨_, rfl, big (Nat.le_trans q2 (by decide)), ?_⟩
    refine ⟨_, rfl, .inl ⟨_, rfl, big (Nat.le_trans (fallS_le rb) (by decide)), _, rfl, big (Nat.le_trans q3 (by decide)), ?_⟩⟩
    refine ⟨_, rfl, big (Nat.le_trans q4 (by decide)), ?_⟩
    refine ⟨_, rfl, .inr ⟨rc, rfl, small_log c0 c1, _, rfl, big (Nat.le_trans q5 (by decide)), ?_⟩⟩
    refine ⟨_, rfl, big (Nat.le_trans q6 (by decide)), ?_⟩
    refine ⟨_, rfl, .inl ⟨_, rfl, big (Nat.le_trans (goS_le rd) (by decide)), _, rfl, big (Nat.le_trans q7 (by decide)), ?_⟩⟩
    exact kk
end
end PA

set_option maxHeartbeats 4000000
namespace PA
open PySem L2 RZ
open C8 (pss_cut tCut)
/-- what the texts of rules ask of the module -/
structure TxtS (K : PySem.W.Frag) (mg : Str → Option Value) : Prop where
  str_ : mg "str" = none
  plain : ∃ dp, mg "PLAIN_STARTS" = some (.ref dp) ∧ ∀ H, SqT K H dp [V.int 0]
def spRowsTx : Sp := fun vs H Q _ => ∃ (R : Addr) (refs : List V) (rows : List Rw), vs = [.ref R] ∧ H R = some (.tup refs) ∧ Each H isT refs rows ∧ rows.length ≤ 48 ∧ (∀ r ∈ rows, RwOk 48 r) ∧ ∀ H', Same H H' → Q (.str (rowsTx rows)) H'
def spStartsTx (K : PySem.W.Frag) : Sp := fun vs H Q _ => ∃ (S : Addr) (starts : List Int), vs = [.ref S] ∧ SqT K H S (starts.map V.int) ∧ starts.length ≤ 16 ∧ (∀ s ∈ starts, 0 ≤ s ∧ s < 48) ∧ ∀ H', Same H H' → Q (.str (startsTx starts)) H'
def spStr (K : PySem.W.Frag) (C : Addr) : Sp := fun vs H Q _ => ∃ (p : Addr) (rows : List Rw) (starts : List Int) (k : Int), vs = [.ref p] ∧ RuleAt K C H p rows starts k ∧ rows.length ≤ 48 ∧ (∀ r ∈ rows, RwOk 48 r) ∧ starts.length ≤ 16 ∧ (∀ s ∈ starts, 0 ≤ s ∧ s < 48) ∧ ∀ H', Same H H' → Q (.str (ruleTx rows starts)) H'
theorem rowTx_le {r : Rw} (h : RwOk 48 r) : (rowTx r).length ≤ 4000 := by
  obtain ⟨ra, rb, rc, rd⟩ := r
  obtain ⟨⟨a0, a1⟩, c0, c1⟩ := h
  have q1 := app_le em_le (intS_le a0 a1)
  have q2 := app_le q1 sp_le
  have q3 := app_le q2 (fallS_le rb)
  have q4 := app_le q3 sp_le
  have q5 := app_le q4 (intS_le c0 c1)
  have q6 := app_le q5 sp_le
  have q7 := app_le q6 (goS_le rd)
  exact Nat.le_trans q7 (by decide)
theorem sum_le {m : Nat} : ∀ ys : List Str, (∀ y ∈ ys, y.length ≤ m) → (ys.map (·.length)).sum ≤ ys.length * m
  | [], _ => by simp
  | y :: ys, h => by
    have h1 := sum_le ys fun z hz => h z (List.mem_cons_of_mem _ hz)
    have h2 := h y List.mem_cons_self
    simp only [List.map_cons, List.sum_cons, List.length_cons, Nat.add_mul, Nat.one_mul]
    omega
section
variable {P : Program} {w : World} {K : PySem.W.Frag} {mg : Str → Option Value} {base : Heap} {C : Addr}
theorem scRowsTx : FnScope ["rows", "row"] ["rows"] (defScope sRowsTx) := ⟨rfl, rfl, rfl, by decide +kernel, rfl, by decide +kernel, by decide +kernel⟩
theorem ok_rowsTx {f g : Addr} {fd gd : FuncData} (F : Fun K "_rows_text" "_rows_text" sRowsTx f fd) (D : Df K mg "_row_text" sRowTx g gd ["row"]) : FnOk P w K mg base CX0 2 f fd ["rows"] spRowsTx := by
  have G : FnOk P w K mg base CX0 1 g gd ["row"] spRowTx := ok_rowTx D.F
  refine F.ok scRowsTx (fun vs H Q E h => ?_) (fun cdv A outer s H vs Q E hr h => ?_)
  · obtain ⟨R, _, _, rfl, _⟩ := h
    rfl
  · obtain ⟨R, refs, rows, rfl, hR, hE, h48, hok, kk⟩ := h
    have hlr : refs.length = rows.length := hE.1
    refine ⟨_, pss_one (ps_ret (pe_join pe_str (pe_lc (own := [("row", 1)]) (g := gName 1) (tt := tYes) (by rfl) scRowsTx.nd (pi_tup (pv 0)) (blkOk_by (N := ["rows", "row"]) (sc := defScope sRowsTx) (by decide +kernel))
          (fun _ _ _ _ _ => pg_name (i := 1) scRowsTx.nd rfl (Or.inl rfl)) (fun _ _ _ _ _ => pts_nil)
          (fun _ _ _ _ _ => pe_call G hr rfl D.M D.F.kp D.B .nil pass0 (pa_cons (pv 1) pa_nil))))), ?_⟩
    refine ⟨⟨_, rfl⟩, _, rfl, R, rfl, ⟨_, SqT.of hR⟩, fun Dd hD => ?_⟩
    refine lc_tup (K := K) (a := R) (xs := refs) (fun i H' => Same H H' ∧ H' Dd = some (.lst (((rows.take i).map rowTx).map V.str))) ⟨Same.new hD, by rw [List.take_zero]; exact upd_same⟩ (fun i H' _ q => SqT.of (q.1 _ _ hR)) ?_ ?_
    · rintro i x H' hx ⟨sm, hd⟩
      have hi : i < rows.length := by rw [← hlr]; exact (List.getElem?_eq_some_iff.mp hx).1
      have hr' : rows[i]? = some rows[i] := List.getElem?_eq_getElem hi
      obtain ⟨c, rfl, hc⟩ := hE.2 i x _ hx hr'
      refine ⟨rfl, ?_⟩
      dsimp only [tYes]
      rw [if_pos rfl]
      refine ⟨_, rfl, c, rows[i], rfl, sm _ _ hc, hok _ (List.getElem_mem hi), _, hd, ?_, ?_, ?_⟩
      · rw [List.length_map, List.length_map, List.length_take]
        exact Nat.lt_of_le_of_lt (Nat.le_trans (Nat.min_le_left _ _) (Nat.le_of_lt hi)) (Nat.lt_of_le_of_lt h48 (by decide))
      · intro c' o e
        rw [upd_ne (ne_of_none e hD)]
        exact sm _ _ e
      · rw [upd_same, take_succ' hr', List.map_append, List.map_append]
        rfl
    · rintro H1 ⟨s1, hd⟩
      rw [hlr, List.take_length] at hd
      refine ⟨_, Dd, rows.map rowTx, rfl, rfl, .inl (SqL.of hd), ?_, kk H1 s1⟩
      have h1 := sum_le (m := 4000) (rows.map rowTx) fun y hy => by
        obtain ⟨r, hr, rfl⟩ := List.mem_map.mp hy
        exact rowTx_le (hok r hr)
      rw [List.length_map] at h1 ⊢
      have h2 : ("; " : Str).length = 2 := by decide +kernel
      rw [h2]
      omega
end
end PA

set_option maxHeartbeats 4000000
namespace PA
open PySem L2 RZ
open C8 (pss_cut tCut)
theorem intsT_shaped (ns : List Int) : SeqAt.shaped (.tuple (ns.map PyData.int)) = true := by
  have h1 := ints_depth ns
  have h2 : PyData.depth (.tuple (ns.map PyData.int)) ≤ 64 := by
    simp only [PyData.depth]
    omega
  show (PyData.canLay0 (.tuple (ns.map PyData.int)) && decide (PyData.depth (.tuple (ns.map PyData.int)) ≤ 64)) = true
  rw [Bool.and_eq_true]
  exact ⟨by simp only [PyData.canLay0]; exact ints_lay ns, decide_eq_true h2⟩
theorem intsT_zero (ns : List Int) : PyData.eqv (.tuple (ns.map PyData.int)) (.tuple [.int 0]) = decide (ns = [0]) := by
  cases ns with
  | nil => simp [PyData.eqv, PyData.eqvAll]
  | cons z zs =>
    cases zs with
    | nil =>
      by_cases hz : z = 0
      · subst hz; simp [PyData.eqv, PyData.eqvAll]
      · simp [PyData.eqv, PyData.eqvAll, hz]
    | cons y ys => simp [PyData.eqv, PyData.eqvAll]
theorem boot_str' : bootBuiltins "str" = some (.type "str") := by decide +kernel
def rStrK : List V → Hp → (V → Hp → Prop) → Prop := fun xs H Q => ∃ i : Int, xs = [.int i] ∧ i.natAbs.log2 < 1920 ∧ Q (.str (intS i)) H
theorem words_le {starts : List Int} (h16 : starts.length ≤ 16) (hst : ∀ s ∈ starts, 0 ≤ s ∧ s < 48) : ((starts.map intS).map (·.length)).sum + (starts.map intS).length * (" " : Str).length ≤ 40000 := by
  have h1 := sum_le (m := 1921) (starts.map intS) fun y hy => by
    obtain ⟨r, hr, rfl⟩ := List.mem_map.mp hy
    exact intS_le (hst r hr).1 (hst r hr).2
  rw [List.length_map] at h1 ⊢
  have h2 : (" " : Str).length = 1 := by decide +kernel
  rw [h2]
  omega
theorem join_le (sep : Str) (ys : List Str) : (Txt.join sep ys).length ≤ (ys.map (·.length)).sum + ys.length * sep.length := by
  unfold Txt.join
  rw [StrLaws.glued_eq_join]
  exact StrLaws.join_length_le sep ys
section
variable {P : Program} {w : World} {K : PySem.W.Frag} {mg : Str → Option Value} {base : Heap} {C : Addr}
theorem scStartsTx : FnScope ["starts", "words", "state"] ["starts"] (defScope sStartsTx) := ⟨rfl, rfl, rfl, by decide +kernel, rfl, by decide +kernel, by decide +kernel⟩
theorem ok_startsTx {f : Addr} {fd : FuncData} (F : Fun K "_starts_text" "_starts_text" sStartsTx f fd) (TS : TxtS K mg) : FnOk P w K mg base CX0 1 f fd ["starts"] (spStartsTx K) := by
  obtain ⟨dp, hdp, hpl⟩ := TS.plain
  refine F.ok scStartsTx (fun vs H Q E h => ?_) (fun cdv A outer s H vs Q E hr h => ?_)
  · obtain ⟨S, _, rfl, _⟩ := h
    rfl
  · obtain ⟨S, starts, rfl, hS, h16, hst, kk⟩ := h
    refine ⟨_, pss_cons (ps_if (pt_cmpR (op_eqD hr.units) (pv 0) (pe_glob (v := .ref dp) rfl hdp rfl) (nomark _)) (pss_one (ps_ret pe_str)) pss_nil)
      (pss_cons (ps_set (i := 1) scStartsTx.nd rfl (Or.inl rfl) (pe_join pe_str (pe_lc (own := [("state", 2)]) (g := gName 2) (tt := tYes) (by rfl) scStartsTx.nd (pi_tup (pv 0)) (blkOk_by (N := ["starts", "words", "state"]) (sc := defScope sStartsTx) (by decide +kernel))
          (fun _ _ _ _ _ => pg_name (i := 2) scStartsTx.nd rfl (Or.inl rfl)) (fun _ _ _ _ _ => pts_nil)
          (fun _ _ _ _ _ => pe_callTy call_str_int (by rfl) TS.str_ boot_str' (pa_cons (pv 2) pa_nil)))))
      (pss_one (ps_ret (pe_joined (.cons pe_str (.cons (pe_fmt (pv 1)) .nil)))))), ?_⟩
    refine ⟨_, rfl, .tuple (starts.map PyData.int), .tuple [.int 0], .tup hS (dp_ints starts), .tup (hpl H) (.cons (.int 0) .nil), intsT_shaped starts, intsT_shaped [0], _, rfl, ?_⟩
    rw [intsT_zero]
    refine ifD_2 (fun hz => ?_) (fun hz => ?_)
    · have := kk H fun _ _ e => e
      unfold startsTx at this
      rw [if_pos hz] at this
      exact this
    · refine ⟨⟨_, rfl⟩, _, rfl, S, rfl, ⟨_, hS⟩, fun Dd hD => ?_⟩
      refine lc_tup (K := K) (a := S) (xs := starts.map V.int) (fun i H' => Same H H' ∧ H' Dd = some (.lst (((starts.take i).map intS).map V.str))) ⟨Same.new hD, by rw [List.take_zero]; exact upd_same⟩ (fun i H' _ q => SqT.up hS q.1) ?_ ?_
      · rintro i x H' hx ⟨sm, hd⟩
        rw [List.getElem?_map, Option.map_eq_some_iff] at hx
        obtain ⟨z, hz', rfl⟩ := hx
        have hzz := hst z (List.mem_of_getElem? hz')
        refine ⟨rfl, ?_⟩
        dsimp only [tYes]
        rw [if_pos rfl]
        refine ⟨_, rfl, z, rfl, small_log hzz.1 hzz.2, _, hd, ?_, ?_, ?_⟩
        · rw [List.length_map, List.length_map, List.length_take]
          exact Nat.lt_of_le_of_lt (Nat.le_trans (Nat.min_le_right _ _) h16) (by decide)
        · intro c' o e
          rw [upd_ne (ne_of_none e hD)]
          exact sm _ _ e
        · rw [upd_same, take_succ' hz', List.map_append, List.map_append]
          rfl
      · rintro H1 ⟨s1, hd⟩
        rw [List.length_map, List.take_length] at hd
        have hw := words_le h16 hst
        refine ⟨_, Dd, starts.map intS, rfl, rfl, .inl (SqL.of hd), Nat.le_trans hw (by decide), ?_⟩
        have hj := join_le " " (starts.map intS)
        have h3 : (" | " : Str).length ≤ 3 := by decide +kernel
        have big : ∀ {n : Nat}, n ≤ 60000 → n ≤ sizeLine := fun h => Nat.le_trans h (by decide)
        have q1 := app_le em_le h3
        have q2 := app_le q1 (Nat.le_trans hj hw)
        refine ⟨_, rfl, big (Nat.le_trans q1 (by decide)), ?_⟩
        refine ⟨_, rfl, .inl ⟨_, rfl, big (Nat.le_trans (Nat.le_trans hj hw) (by decide)), _, rfl, big (Nat.le_trans q2 (by decide)), ?_⟩⟩
        have := kk H1 s1
        unfold startsTx at this
        rw [if_neg hz] at this
        exact this
theorem rows_le {rows : List Rw} (h48 : rows.length ≤ 48) (hok : ∀ r ∈ rows, RwOk 48 r) : (rowsTx rows).length ≤ 200000 := by
  have h := join_le "; " (rows.map rowTx)
  have h1 := sum_le (m := 4000) (rows.map rowTx) fun y hy => by
    obtain ⟨r, hr, rfl⟩ := List.mem_map.mp hy
    exact rowTx_le (hok r hr)
  rw [List.length_map] at h h1
  have h2 : ("; " : Str).length = 2 := by decide +kernel
  rw [h2] at h
  show (Txt.join "; " (rows.map rowTx)).length ≤ _
  omega
theorem starts_le {starts : List Int} (h16 : starts.length ≤ 16) (hst : ∀ s ∈ starts, 0 ≤ s ∧ s < 48) : (startsTx starts).length ≤ 40003 := by
  unfold startsTx
  by_cases hz : starts = [0]
  · rw [if_pos hz]
    exact Nat.zero_le _
  · rw [if_neg hz]
    have h3 : (" | " : Str).length ≤ 3 := by decide +kernel
    have q := app_le (app_le em_le h3) (Nat.le_trans (join_le " " (starts.map intS)) (words_le h16 hst))
    exact Nat.le_trans q (by decide)
theorem scStr : FnScope ["self"] ["self"] (defScope sStr) := ⟨rfl, rfl, rfl, by decide +kernel, rfl, by decide +kernel, by decide +kernel⟩
theorem ok_str {f g1 g2 g3 : Addr} {fd gd1 gd2 gd3 : FuncData} (F : Fun K "__str__" "Rule.__str__" sStr f fd) (T : Txt K mg C) (TS : TxtS K mg) (D1 : Df K mg "_rows_text" sRowsTx g1 gd1 ["rows"]) (D2 : Df K mg "_row_text" sRowTx g2 gd2 ["row"]) (D3 : Df K mg "_starts_text" sStartsTx g3 gd3 ["starts"]) : FnOk P w K mg base CX0 3 f fd ["self"] (spStr K C) := by
  have G1 : FnOk P w K mg base CX0 2 g1 gd1 ["rows"] spRowsTx := ok_rowsTx D1.F D2
  have G3 : FnOk P w K mg base CX0 1 g3 gd3 ["starts"] (spStartsTx K) := ok_startsTx D3.F TS
  refine F.ok scStr (fun vs H Q E h => ?_) (fun cdv A outer s H vs Q E hr h => ?_)
  · obtain ⟨p, _, _, _, rfl, _⟩ := h
    rfl
  · obtain ⟨p, rows, starts, k, rfl, ra, h48, hok, h16, hst, kk⟩ := h
    have hr1 : Room 1 _ := hr.mono (by decide)
    obtain ⟨dx, R, S, refs, hp, hR, hE, hS⟩ := ra
    refine ⟨_, pss_one (ps_ret (pe_joined (.cons (pe_fmt (pe_call G1 hr rfl D1.M D1.F.kp D1.B .nil pass0 (pa_cons (pe_fld (pv 0) rfl) pa_nil))) (.cons (pe_fmt (pe_call G3 hr1 rfl D3.M D3.F.kp D3.B .nil pass0 (pa_cons (pe_fld (pv 0) rfl) pa_nil))) .nil)))), ?_⟩
    have big : ∀ {n : Nat}, n ≤ 300000 → n ≤ sizeLine := fun h => Nat.le_trans h (by decide)
    have q1 := app_le em_le (rows_le h48 hok)
    have q2 := app_le q1 (starts_le h16 hst)
    refine ⟨_, rfl, p, C, dx, _, _, rfl, hp, T.cl, T.nR, rf_rows _ _ _, R, refs, rows, rfl, hR, hE, h48, hok, fun H1 s1 => ?_⟩
    refine .inl ⟨_, rfl, big (Nat.le_trans (rows_le h48 hok) (by decide)), _, rfl, big (Nat.le_trans q1 (by decide)), ?_⟩
    refine ⟨_, rfl, p, C, dx, _, _, rfl, s1 _ _ hp, T.cl, T.nS, rf_starts _ _ _, S, starts, rfl, SqT.up hS s1, h16, hst, fun H2 s2 => ?_⟩
    refine .inl ⟨_, rfl, big (Nat.le_trans (starts_le h16 hst) (by decide)), _, rfl, big (Nat.le_trans q2 (by decide)), ?_⟩
    exact kk H2 (s1.trans s2)
end
end PA

set_option maxHeartbeats 4000000
namespace PA
open PySem L2 RZ
open C8 (pss_cut tCut)
abbrev sIsPos : Stmt := top 9
abbrev sMInit : Stmt := inClass (top 31) 0
abbrev sMLen : Stmt := inClass (top 31) 1
abbrev sMAdd : Stmt := inClass (top 31) 2
abbrev sMMul : Stmt := inClass (top 31) 3
abbrev sMRmul : Stmt := inClass (top 31) 4
/-- what stands at each place of a list of references, for any kind of data -/
def Ea {α : Type} (H : Hp) (P : Hp → Addr → α → Prop) (xs : List V) (ds : List α) : Prop := xs.length = ds.length ∧ ∀ (i : Nat) (x : V) (r : α), xs[i]? = some x → ds[i]? = some r → ∃ c, x = .ref c ∧ P H c r
section
variable {α : Type} {H H' : Hp} {P P' : Hp → Addr → α → Prop} {xs ys : List V} {ds es : List α} {c : Addr} {r : α}
theorem Ea.imp (e : Ea H P xs ds) (f : ∀ c r, P H c r → P' H' c r) : Ea H' P' xs ds := ⟨e.1, fun i x r h1 h2 => let ⟨c, hx, q⟩ := e.2 i x r h1 h2; ⟨c, hx, f c r q⟩⟩
theorem Ea.nil : Ea H P [] [] := ⟨rfl, fun i x r h _ => by simp at h⟩
theorem Ea.append (e : Ea H P xs ds) (e' : Ea H P ys es) : Ea H P (xs ++ ys) (ds ++ es) := by
  refine ⟨by rw [List.length_append, List.length_append, e.1, e'.1], fun i x r h1 h2 => ?_⟩
  rcases Nat.lt_or_ge i xs.length with hi | hi
  · rw [List.getElem?_append_left hi] at h1
    rw [List.getElem?_append_left (by rw [← e.1]; exact hi)] at h2
    exact e.2 i x r h1 h2
  · rw [List.getElem?_append_right hi] at h1
    rw [List.getElem?_append_right (by rw [← e.1]; exact hi), ← e.1] at h2
    exact e'.2 _ x r h1 h2
theorem Ea.one (q : P H c r) : Ea H P [.ref c] [r] := by
  refine ⟨rfl, fun i x r' h1 h2 => ?_⟩
  match i, h1, h2 with
  | 0, h1, h2 =>
    cases h1
    cases h2
    exact ⟨c, rfl, q⟩
  | (j + 1), h1, _ => simp at h1
theorem Ea.push (e : Ea H P xs ds) (q : P H c r) : Ea H P (xs ++ [.ref c]) (ds ++ [r]) := e.append (.one q)
theorem Ea.get (e : Ea H P xs ds) {i : Nat} {r : α} (h : ds[i]? = some r) : ∃ c, xs[i]? = some (.ref c) ∧ P H c r := by
  have hi : i < xs.length := by rw [e.1]; exact (List.getElem?_eq_some_iff.mp h).1
  obtain ⟨c, hc, q⟩ := e.2 i _ r (List.getElem?_eq_getElem hi) h
  exact ⟨c, by rw [List.getElem?_eq_getElem hi, hc], q⟩
end
/-! ### parts: a weight and a rule -/
abbrev Pt := Int × Addr
def pv_ (q : Pt) : List V := [.int q.1, .ref q.2]
def isP (H : Hp) (c : Addr) (q : Pt) : Prop := H c = some (.tup (pv_ q))
def isPLT (H : Hp) (c : Addr) (q : Pt) : Prop := H c = some (.tup (pv_ q)) ∨ H c = some (.lst (pv_ q))
def mf (T : Addr) : List (Str × V) := putF "parts" (.ref T) []
theorem mf_parts (T : Addr) : (mf T).lookup ("parts" : Str) = some (.ref T) := by
  unfold mf
  rw [lookup_putF, if_pos rfl]
theorem mf_no (T : Addr) {m : Str} (h1 : ¬ m = "parts") : (mf T).lookup m = none := by
  unfold mf
  rw [lookup_putF, if_neg h1]
  all_goals rfl
/-- a Mix of these parts stands at p -/
def MixAt (D : Addr) (H : Hp) (p : Addr) (ps : List Pt) : Prop := ∃ dx T refs, H p = some (.ins D dx (mf T)) ∧ H T = some (.tup refs) ∧ Ea H isP refs ps
theorem MixAt.same {D : Addr} {H H' : Hp} {p : Addr} {ps : List Pt} (m : MixAt D H p ps) (s : Same H H') : MixAt D H' p ps := by
  obtain ⟨dx, T, refs, h1, h2, h3⟩ := m
  exact ⟨dx, T, refs, s _ _ h1, s _ _ h2, h3.imp fun c r q => s _ _ q⟩
theorem MixAt.nl {D : Addr} {H H' : Hp} {p : Addr} {ps : List Pt} (m : MixAt D H p ps) (nl : ∀ c o, H c = some o → (∀ xs, o ≠ .lst xs) → H' c = some o) : MixAt D H' p ps := by
  obtain ⟨dx, T, refs, h1, h2, h3⟩ := m
  exact ⟨dx, T, refs, nl _ _ h1 (by intro xs e; cases e), nl _ _ h2 (by intro xs e; cases e), h3.imp fun c r q => nl _ _ q (by intro xs e; cases e)⟩
theorem isP.lst {H : Hp} {c D : Addr} {r : Pt} {xs ys : List V} (q : isP H c r) (hD : H D = some (.lst xs)) : isP (upd H D (.lst ys)) c r := by
  unfold isP
  rw [upd_ne (ne_of (H := H) q hD (by intro z; cases z))]
  exact q
theorem isP.ins {H : Hp} {c p C dx : Addr} {fs : List (Str × V)} {o : HO} {r : Pt} (q : isP H c r) (hp : H p = some (.ins C dx fs)) : isP (upd H p o) c r := by
  unfold isP
  rw [upd_ne (ne_of (H := H) q hp (by intro z; cases z))]
  exact q
structure TxtM (K : PySem.W.Frag) (mg : Str → Option Value) (D : Addr) : Prop where
  cl : Cls K D
  nP : NoAttr K D "parts"
  mgD : mg "Mix" = some (.ref D)
def spIsPos : Sp := fun vs H Q _ => ∃ i : Int, vs = [.int i] ∧ Q (.bl (decide (0 < i))) H
def spMInit (K : PySem.W.Frag) (D : Addr) : Sp := fun vs H Q _ => ∃ (p dx L : Addr) (refs : List V) (ps : List Pt), vs = [.ref p, .ref L] ∧ H p = some (.ins D dx []) ∧ Sq K H L refs ∧ Ea H isPLT refs ps ∧ 1 ≤ ps.length ∧ ps.length ≤ 1000 ∧ (∀ q ∈ ps, 0 < q.1) ∧
  ∀ H', (∃ T refs', H' p = some (.ins D dx (mf T)) ∧ H' T = some (.tup refs') ∧ Ea H' isP refs' ps) → (∀ c o, H c = some o → c ≠ p → H' c = some o) → Q .non H'
section
variable {P : Program} {w : World} {K : PySem.W.Frag} {mg : Str → Option Value} {base : Heap} {C D : Addr}
theorem scIsPos : FnScope ["value"] ["value"] (defScope sIsPos) := ⟨rfl, rfl, rfl, by decide +kernel, rfl, by decide +kernel, by decide +kernel⟩
theorem ok_isPos {f g : Addr} {fd gd : FuncData} (F : Fun K "is_positive" "is_positive" sIsPos f fd) (T : Txt K mg C) (D1 : Df K mg "is_integer" sIsInt g gd ["value"]) : FnOk P w K mg base CX0 2 f fd ["value"] spIsPos := by
  have G : FnOk P w K mg base CX0 1 g gd ["value"] spIsInt := ok_isInt D1.F T
  refine F.ok scIsPos (fun vs H Q E h => ?_) (fun cdv A outer s H vs Q E hr h => ?_)
  · obtain ⟨i, rfl, _⟩ := h
    rfl
  · obtain ⟨i, rfl, kk⟩ := h
    refine ⟨_, pss_one (ps_ret (pe_and (pe_call G hr rfl D1.M D1.F.kp D1.B .nil pass0 (pa_cons (pv 0) pa_nil)) (pe_one (pe_cmpR op_gt (pv 0) pe_int (nomark _))))), ?_⟩
    exact ⟨_, rfl, i, rfl, _, rfl, iteT ⟨_, rfl, _, _, rfl, rfl, kk⟩⟩
theorem scMLen : FnScope ["self"] ["self"] (defScope sMLen) := ⟨rfl, rfl, rfl, by decide +kernel, rfl, by decide +kernel, by decide +kernel⟩
def spMLen (D : Addr) : Sp := fun vs H Q _ => ∃ (p : Addr) (ps : List Pt), vs = [.ref p] ∧ MixAt D H p ps ∧ Q (.int (ps.length : Int)) H
theorem ok_mlen {f : Addr} {fd : FuncData} (F : Fun K "__len__" "Mix.__len__" sMLen f fd) (T : Txt K mg C) (TM : TxtM K mg D) : FnOk P w K mg base CX0 1 f fd ["self"] (spMLen D) := by
  refine F.ok scMLen (fun vs H Q E h => ?_) (fun cdv A outer s H vs Q E hr h => ?_)
  · obtain ⟨p, _, rfl, _⟩ := h
    rfl
  · obtain ⟨p, ps, rfl, ⟨dx, R, refs, hp, hR, hE⟩, kk⟩ := h
    refine ⟨_, pss_one (ps_ret (pe_callB call_len_seq (by rfl) T.len_ PySem.boot_len (pa_cons (pe_fld (pv 0) rfl) pa_nil))), ?_⟩
    refine ⟨_, rfl, p, D, dx, _, _, rfl, hp, TM.cl, TM.nP, mf_parts _, R, _, rfl, .inr (SqT.of hR), ?_⟩
    rw [hE.1]
    exact kk
end
end PA

set_option maxHeartbeats 4000000
namespace PA
open PySem L2 RZ
open C8 (pss_cut tCut)
theorem Ea.sameP {H H' : Hp} {xs : List V} {ps : List Pt} (e : Ea H isP xs ps) (s : Same H H') : Ea H' isP xs ps := e.imp fun c r q => s _ _ q
def rIxTK (K : PySem.W.Frag) : R2 := fun x y H Q => ∃ p xs i v, x = .ref p ∧ y = .int i ∧ SqT K H p xs ∧ atI xs i = some v ∧ Q v H
theorem ix_tupK {X : Cx} {K : PySem.W.Frag} (h : X.K = K) : IxR X (rIxTK K) := h ▸ ix_tup
section
variable {P : Program} {w : World} {K : PySem.W.Frag} {mg : Str → Option Value} {base : Heap} {C D : Addr}
theorem scMInit : FnScope ["self", "parts", "part"] ["self", "parts"] (defScope sMInit) := ⟨rfl, rfl, rfl, by decide +kernel, rfl, by decide +kernel, by decide +kernel⟩
theorem ok_minit {f g1 g2 : Addr} {fd gd1 gd2 : FuncData} (F : Fun K "__init__" "Mix.__init__" sMInit f fd) (T : Txt K mg C) (TM : TxtM K mg D) (D1 : Df K mg "is_integer" sIsInt g1 gd1 ["value"]) (D2 : Df K mg "is_positive" sIsPos g2 gd2 ["value"]) : FnOk P w K mg base CX0 3 f fd ["self", "parts"] (spMInit K D) := by
  have G2 : FnOk P w K mg base CX0 2 g2 gd2 ["value"] spIsPos := ok_isPos D2.F T D1
  refine F.ok scMInit (fun vs H Q E h => ?_) (fun cdv A outer s H vs Q E hr h => ?_)
  · obtain ⟨p, dx, L, _, _, rfl, _⟩ := h
    rfl
  · obtain ⟨p, dx, L, refs, ps, rfl, hp, hL, hE, h1, hm, hpos, kk⟩ := h
    have hlr : refs.length = ps.length := hE.1
    refine ⟨_, pss_cut (ps_fld (pv 0) (pe_callTy call_tuple_of (by rfl) T.tup_ boot_tuple' (pa_cons (pe_lc (own := [("part", 2)]) (g := gName 2) (tt := tYes) (by rfl) scMInit.nd ((pi_list (pv 1)).or (pi_tup (pv 1))) (blkOk_by (N := ["self", "parts", "part"]) (sc := defScope sMInit) (by decide +kernel))
          (fun _ _ _ _ _ => pg_name (i := 2) scMInit.nd rfl (Or.inl rfl)) (fun _ _ _ _ _ => pts_nil)
          (fun _ _ _ _ _ => pe_callTy (call_tupleK (K := K) rfl) (by rfl) T.tup_ boot_tuple' (pa_cons (pv 2) pa_nil))) pa_nil)) rfl)
      (pss_cons (ps_if (pt_cmpR op_eq (pe_callB call_len_seq (by rfl) T.len_ PySem.boot_len (pa_cons (pe_fld (pv 0) rfl) pa_nil)) pe_int (nomark _)) pss_never pss_nil)
      (pss_one (ps_if (pt_not (pt_val (pe_callB (cr_all rfl) (by rfl) T.all_ boot_all' (pa_cons (pe_lc (own := [("part", 2)]) (g := gName 2) (tt := tYes) (by rfl) scMInit.nd (pi_tup (pe_fld (pv 0) rfl)) (blkOk_by (N := ["self", "parts", "part"]) (sc := defScope sMInit) (by decide +kernel))
          (fun _ _ _ _ _ => pg_name (i := 2) scMInit.nd rfl (Or.inl rfl)) (fun _ _ _ _ _ => pts_nil)
          (fun _ _ _ _ _ => pe_call G2 hr rfl D2.M D2.F.kp D2.B .nil pass0 (pa_cons (pe_ix (ix_tupK (K := K) rfl) (pv 2) pe_int (fun _ _ => rfl)) pa_nil))) pa_nil)))) pss_never pss_nil))), ?_⟩
    have hsz : ∀ {n : Nat}, n < ps.length → n < sizeLine := fun h => Nat.lt_of_lt_of_le (Nat.lt_of_lt_of_le h hm) (by decide)
    refine ⟨fun σ' H' => σ' = [some (.ref p), some (.ref L), none] ∧ ∃ R refs', H' p = some (.ins D dx (mf R)) ∧ H' R = some (.tup refs') ∧ Ea H' isP refs' ps ∧ (∀ c o, H c = some o → c ≠ p → H' c = some o), ?_, ?_⟩
    · rcases hL with hL | hL
      · refine .inl ⟨_, rfl, L, rfl, ⟨_, hL⟩, fun Dd hD => ?_⟩
        refine lc_list (K := K) (a := L) (xs := refs) (fun i H' => Same H H' ∧ ∃ acc, H' Dd = some (.lst acc) ∧ Ea H' isP acc (ps.take i)) ⟨Same.new hD, [], upd_same, by rw [List.take_zero]; exact Ea.nil⟩ (fun i H' _ q => SqL.up hL q.1) ?_ ?_
        · rintro i x H' hx ⟨sm, acc, hd, he⟩
          have hi : i < ps.length := by rw [← hlr]; exact (List.getElem?_eq_some_iff.mp hx).1
          have hr' : ps[i]? = some ps[i] := List.getElem?_eq_getElem hi
          obtain ⟨c, rfl, hc⟩ := hE.2 i x _ hx hr'
          have hal : acc.length < sizeLine := by
            rw [he.1, List.length_take]
            exact Nat.lt_of_le_of_lt (Nat.min_le_left _ _) (hsz hi)
          refine ⟨rfl, ?_⟩
          dsimp only [tYes]
          rw [if_pos rfl]
          rcases hc with hc | hc
          · refine ⟨_, rfl, c, _, rfl, .inr ⟨SqT.of (sm _ _ hc), acc, hd, hal, ?_, _, upd_same, ?_⟩⟩
            · intro c' o e
              rw [upd_ne (ne_of_none e hD)]
              exact sm _ _ e
            · rw [take_succ' hr']
              exact Ea.push (he.imp fun c' r' q => q.lst hd) ((show isP H' c ps[i] from sm _ _ hc).lst hd)
          · refine ⟨_, rfl, c, _, rfl, .inl ⟨SqL.of (sm _ _ hc), fun l hl => ⟨acc, ?_, hal, ?_, _, upd_same, ?_⟩⟩⟩
            · rw [upd_ne (ne_of_none hd hl)]
              exact hd
            · intro c' o e
              rw [upd_ne (ne_of_none e hD), upd_ne (ne_of_none (sm _ _ e) hl)]
              exact sm _ _ e
            · have hd' : (upd H' l (.tup (pv_ ps[i]))) Dd = some (.lst acc) := by rw [upd_ne (ne_of_none hd hl)]; exact hd
              rw [take_succ' hr']
              exact Ea.push ((Ea.sameP he (Same.new hl)).imp fun c' r' q => q.lst hd') ((show isP (upd H' l (.tup (pv_ ps[i]))) l ps[i] from upd_same).lst hd')
        rintro H1 ⟨s1, acc, hd, he⟩
        rw [hlr, List.take_length] at he
        refine ⟨Dd, _, rfl, .inl ⟨SqL.of hd, fun l hl => ?_⟩⟩
        have hp1 : (upd H1 l (.tup acc)) p = some (.ins D dx []) := by rw [upd_ne (ne_of_none (s1 _ _ hp) hl)]; exact s1 _ _ hp
        refine ⟨_, rfl, p, D, dx, _, rfl, hp1, TM.cl, TM.nP, (by show 0 < 1000; decide), rfl, l, acc, upd_same, ?_, ?_, ?_⟩
        · rw [upd_ne (ne_of hp1 upd_same (by intro z; cases z)).symm]
          exact upd_same
        · exact (Ea.sameP he (Same.new hl)).imp fun c' r' q => isP.ins q hp1
        · intro c o e hc
          rw [upd_ne hc, upd_ne (ne_of_none (s1 _ _ e) hl)]
          exact s1 _ _ e
      · refine .inr ⟨_, rfl, L, rfl, ⟨_, hL⟩, fun Dd hD => ?_⟩
        refine lc_tup (K := K) (a := L) (xs := refs) (fun i H' => Same H H' ∧ ∃ acc, H' Dd = some (.lst acc) ∧ Ea H' isP acc (ps.take i)) ⟨Same.new hD, [], upd_same, by rw [List.take_zero]; exact Ea.nil⟩ (fun i H' _ q => SqT.up hL q.1) ?_ ?_
        · rintro i x H' hx ⟨sm, acc, hd, he⟩
          have hi : i < ps.length := by rw [← hlr]; exact (List.getElem?_eq_some_iff.mp hx).1
          have hr' : ps[i]? = some ps[i] := List.getElem?_eq_getElem hi
          obtain ⟨c, rfl, hc⟩ := hE.2 i x _ hx hr'
          have hal : acc.length < sizeLine := by
            rw [he.1, List.length_take]
            exact Nat.lt_of_le_of_lt (Nat.min_le_left _ _) (hsz hi)
          refine ⟨rfl, ?_⟩
          dsimp only [tYes]
          rw [if_pos rfl]
          rcases hc with hc | hc
          · refine ⟨_, rfl, c, _, rfl, .inr ⟨SqT.of (sm _ _ hc), acc, hd, hal, ?_, _, upd_same, ?_⟩⟩
            · intro c' o e
              rw [upd_ne (ne_of_none e hD)]
              exact sm _ _ e
            · rw [take_succ' hr']
              exact Ea.push (he.imp fun c' r' q => q.lst hd) ((show isP H' c ps[i] from sm _ _ hc).lst hd)
          · refine ⟨_, rfl, c, _, rfl, .inl ⟨SqL.of (sm _ _ hc), fun l hl => ⟨acc, ?_, hal, ?_, _, upd_same, ?_⟩⟩⟩
            · rw [upd_ne (ne_of_none hd hl)]
              exact hd
            · intro c' o e
              rw [upd_ne (ne_of_none e hD), upd_ne (ne_of_none (sm _ _ e) hl)]
              exact sm _ _ e
            · have hd' : (upd H' l (.tup (pv_ ps[i]))) Dd = some (.lst acc) := by rw [upd_ne (ne_of_none hd hl)]; exact hd
              rw [take_succ' hr']
              exact Ea.push ((Ea.sameP he (Same.new hl)).imp fun c' r' q => q.lst hd') ((show isP (upd H' l (.tup (pv_ ps[i]))) l ps[i] from upd_same).lst hd')
        rintro H1 ⟨s1, acc, hd, he⟩
        rw [hlr, List.take_length] at he
        refine ⟨Dd, _, rfl, .inl ⟨SqL.of hd, fun l hl => ?_⟩⟩
        have hp1 : (upd H1 l (.tup acc)) p = some (.ins D dx []) := by rw [upd_ne (ne_of_none (s1 _ _ hp) hl)]; exact s1 _ _ hp
        refine ⟨_, rfl, p, D, dx, _, rfl, hp1, TM.cl, TM.nP, (by show 0 < 1000; decide), rfl, l, acc, upd_same, ?_, ?_, ?_⟩
        · rw [upd_ne (ne_of hp1 upd_same (by intro z; cases z)).symm]
          exact upd_same
        · exact (Ea.sameP he (Same.new hl)).imp fun c' r' q => isP.ins q hp1
        · intro c o e hc
          rw [upd_ne hc, upd_ne (ne_of_none (s1 _ _ e) hl)]
          exact s1 _ _ e
    rintro _ H1 ⟨rfl, R, refs', hp1, hR1, hE1, kp1⟩
    have hl1 : refs'.length = ps.length := hE1.1
    refine ⟨_, rfl, p, D, dx, _, _, rfl, hp1, TM.cl, TM.nP, mf_parts _, R, _, rfl, .inr (SqT.of hR1), rfl, _, rfl, ifD_no (fun z => ?_) ?_⟩
    · have z' : ((refs'.length : Nat) : Int) = 0 := by injection z
      omega
    refine ⟨_, rfl, p, D, dx, _, _, rfl, hp1, TM.cl, TM.nP, mf_parts _, R, rfl, ⟨_, SqT.of hR1⟩, fun Dd hD => ?_⟩
    refine lc_tup (K := K) (a := R) (xs := refs') (fun i H' => Same H1 H' ∧ H' Dd = some (.lst ((List.replicate i true).map V.bl))) ⟨Same.new hD, upd_same⟩ (fun i H' _ q => SqT.of (q.1 _ _ hR1)) ?_ ?_
    · rintro i x H' hx ⟨sm, hd⟩
      have hi : i < ps.length := by rw [← hl1]; exact (List.getElem?_eq_some_iff.mp hx).1
      have hr' : ps[i]? = some ps[i] := List.getElem?_eq_getElem hi
      obtain ⟨c, rfl, hc⟩ := hE1.2 i x _ hx hr'
      have hw := hpos _ (List.getElem_mem hi)
      refine ⟨rfl, ?_⟩
      dsimp only [tYes]
      rw [if_pos rfl]
      refine ⟨_, rfl, c, _, 0, _, rfl, rfl, SqT.of (sm _ _ hc), rfl, ps[i].1, rfl, ?_⟩
      rw [decide_eq_true hw]
      refine ⟨_, hd, ?_, ?_, ?_⟩
      · rw [List.length_map, List.length_replicate]
        exact hsz hi
      · intro c o e
        rw [upd_ne (ne_of_none e hD)]
        exact sm _ _ e
      · rw [upd_same, List.replicate_succ', List.map_append]
        rfl
    rintro H2 ⟨s2, hd2⟩
    refine ⟨Dd, _, rfl, SqL.of hd2, ?_⟩
    rw [all_true]
    refine ⟨true, rfl, iteF ?_⟩
    exact kk H2 ⟨R, refs', s2 _ _ hp1, s2 _ _ hR1, hE1.imp fun c r q => s2 _ _ q⟩ fun c o e hc => s2 _ _ (kp1 c o e hc)
end
end PA

set_option maxHeartbeats 4000000
namespace PLow
open PySem PySem.W PySem.Calls PyProof.Rows
section
variable {K : Frag} {prog : Program} {w : World} {A : Around} {E : Value → Shared → Prop} {s : Shared} {x y f f2 C D L : Addr} {ox oy : Obj} {od od2 : Option Obj} {h₀ : Heap} {m : Str → Option Value}
/-- x op y, y an instance of another own class that has the operator too -/
theorem ksp_binC {op : Operator} {rc rd : Option Value} {Q : Value → Shared → Prop} (F : Fr h₀ L s.heap m) (X₀ : K.In h₀) (I : W.InstAt s.heap x ox C od) (J : W.InstAt s.heap y oy D od2) (hc : selfFirst K C = true) (hd : selfFirst K D = true)
    (hs : findIn K (.ref C) (PySem.dunder op.info.2) = some (some (.ref f))) (hf : isFn K (.ref f) = true) (hr : findIn K (.ref C) (dunderR op.info.2) = some rc) (hp : rc = none ∨ ∃ g : Addr, rc = some (.ref g))
    (hs2 : findIn K (.ref D) (PySem.dunder op.info.2) = some (some (.ref f2))) (hr2 : findIn K (.ref D) (dunderR op.info.2) = some rd) (hp2 : rd = none ∨ ∃ g : Addr, rd = some (.ref g))
    (hne : (Value.ref C == Value.ref D) = false) (hsub : subIn K (.ref D) (.ref C) = some false)
    (h : wpAny (model prog w) A (call (.ref f) [.ref x, .ref y]) (W.CmpBack Q) E s) : wpAny (model prog w) A (binaryOp op (.ref x) (.ref y)) Q E s := by
  have inNow := X₀.keeps F.keep
  have ⟨kC, tC, lookC, mroC⟩ := ksp_first hc
  have ⟨kD, tD, lookD, mroD⟩ := ksp_first hd
  cases hop : op.info with
  | mk sgn word =>
    rw [hop] at hs hr hs2 hr2
    have go := ksp_try inNow I hs hf h
    have a1 := I.type (M := model prog w)
    have a2 := J.type (M := model prog w)
    have a3 := fills_K (M := model prog w) inNow lookC mroC hs
    have a4 := fills_K (M := model prog w) inNow lookD mroD hs2
    have a5 := looks_subIn (M := model prog w) inNow hsub
    have a6 := ksp_inPy (M := model prog w) inNow hs hr hp
    have a7 := ksp_inPy (M := model prog w) inNow hs2 hr2 hp2
    cases s with
    | mk hh gg dd tt oo =>
      simp only [binaryOp, hop]
      refine wpAny_holding (wpAny_bind ?_)
      unfold binaryOp1
      refine wpAny_bind (a1.at ?_)
      refine wpAny_bind (a2.at ?_)
      refine wpAny_bind (a3.at ?_)
      simp only [hne, Bool.false_eq_true, if_false]
      ksp_lk
      refine wpAny_mono go ?_ fun _ _ z => z
      rintro _ s2 ⟨v, rfl, qv⟩
      ksp_lk
      exact qv
end
end PLow
namespace L2
open PySem PySem.Spec PyProof.Rows
section
variable {X : Cx} {CX : CXT} {k : Nat} {C D f f2 : Addr} {fd : FuncData} {ps : List Str} {sp : Sp} {E : XK} {op : Operator}
/-- an own operator between two instances of one class -/
structure OwnS (K : PySem.W.Frag) (C f : Addr) (op : Operator) : Prop where
  first : PySem.W.selfFirst K C = true
  at_ : PySem.W.findIn K (.ref C) (PySem.dunder op.info.2) = some (some (.ref f))
  fn : PySem.W.isFn K (.ref f) = true
/-- an own operator between an instance of C and one of D, which has it too -/
structure OwnX (K : PySem.W.Frag) (C D f f2 : Addr) (op : Operator) : Prop where
  S : OwnS K C f op
  S2 : OwnS K D f2 op
  ar : ∃ rc : Option Value, PySem.W.findIn K (.ref C) (dunderR op.info.2) = some rc ∧ (rc = none ∨ ∃ g : Addr, rc = some (.ref g))
  ar2 : ∃ rc : Option Value, PySem.W.findIn K (.ref D) (dunderR op.info.2) = some rc ∧ (rc = none ∨ ∃ g : Addr, rc = some (.ref g))
  ne : (Value.ref C == Value.ref D) = false
  sub : PySem.W.subIn K (.ref D) (.ref C) = some false
theorem op_ownS (O : OwnS X.K C f op) (F : FnOk X.prog X.w X.K X.mg X.base CX k f fd ps sp) (hr : Room k X.A) (hb : Binds X.K fd ps []) (hx : Passes CX X E) :
    OpR X (binaryOp op) (fun x y H Q => ∃ a b dx dy fs gs, x = .ref a ∧ y = .ref b ∧ H a = some (.ins C dx fs) ∧ H b = some (.ins C dy gs) ∧ sp [.ref a, .ref b] H Q E) := by
  intro pins s σ H x y v u Q I rx ry h
  obtain ⟨a, b, dx, dy, fs, gs, rfl, rfl, ha, hb', q⟩ := h
  cases rx
  cases ry
  obtain ⟨mA, J, _⟩ := ins_get I.hok ha
  obtain ⟨mB, J', _⟩ := ins_get I.hok hb'
  obtain ⟨od, J, _⟩ := J.look
  obtain ⟨od', J', _⟩ := J'.look
  obtain ⟨m, hF⟩ := I.fr
  refine PySem.W.binop_K hF I.ok.mod.kin J J'.type O.first O.at_ O.fn ?_
  exact wpAny_mono (run_fn (us := [.ref a, .ref b]) (vs := [.ref a, .ref b]) F hr hb .nil hx I (.cons rfl (.cons rfl .nil)) q) (fun _ _ z => cmpBack_of z) fun _ _ z => z
theorem op_ownX (O : OwnX X.K C D f f2 op) (F : FnOk X.prog X.w X.K X.mg X.base CX k f fd ps sp) (hr : Room k X.A) (hb : Binds X.K fd ps []) (hx : Passes CX X E) :
    OpR X (binaryOp op) (fun x y H Q => ∃ a b dx dy fs gs, x = .ref a ∧ y = .ref b ∧ H a = some (.ins C dx fs) ∧ H b = some (.ins D dy gs) ∧ sp [.ref a, .ref b] H Q E) := by
  intro pins s σ H x y v u Q I rx ry h
  obtain ⟨a, b, dx, dy, fs, gs, rfl, rfl, ha, hb', q⟩ := h
  cases rx
  cases ry
  obtain ⟨mA, J, _⟩ := ins_get I.hok ha
  obtain ⟨mB, J', _⟩ := ins_get I.hok hb'
  obtain ⟨od, J, _⟩ := J.look
  obtain ⟨od', J', _⟩ := J'.look
  obtain ⟨m, hF⟩ := I.fr
  obtain ⟨rc, r1, r2⟩ := O.ar
  obtain ⟨rd, r3, r4⟩ := O.ar2
  refine PLow.ksp_binC hF I.ok.mod.kin J J' O.S.first O.S2.first O.S.at_ O.S.fn r1 r2 O.S2.at_ r3 r4 O.ne O.sub ?_
  exact wpAny_mono (run_fn (us := [.ref a, .ref b]) (vs := [.ref a, .ref b]) F hr hb .nil hx I (.cons rfl (.cons rfl .nil)) q) (fun _ _ z => cmpBack_of z) fun _ _ z => z
end
end L2

set_option maxHeartbeats 4000000
namespace PA
open PySem L2 RZ
open C8 (pss_cut tCut)
/-- isinstance over the two classes -/
structure TxtI (K : PySem.W.Frag) (C D : Addr) : Prop where
  q1 : PySem.W.findIn K (.ref C) "__class__" = some (some (.builtin "object.__class__"))
  q1' : PySem.W.findIn K (.ref D) "__class__" = some (some (.builtin "object.__class__"))
  q2 : PySem.W.specialIn K (.builtin "object.__class__") "__get__" = some (some (.builtin "getset_descriptor.__get__"))
  q3 : PySem.W.takesIn K (.builtin "object.__class__") = some true
  q4 : PySem.W.mroIn K C (.type "object") = some true
  q4' : PySem.W.mroIn K D (.type "object") = some true
  kCC : PySem.W.kitOne K (.ref C) (.ref C) = some true
  kDC : PySem.W.kitOne K (.ref D) (.ref C) = some false
  kDD : PySem.W.kitOne K (.ref D) (.ref D) = some true
/-- an instance of the class at C -/
def InsOf (C : Addr) (H : Hp) (q : Addr) : Prop := ∃ dx fs, H q = some (.ins C dx fs)
theorem InsOf.same {C : Addr} {H H' : Hp} {q : Addr} (h : InsOf C H q) (s : Same H H') : InsOf C H' q := let ⟨dx, fs, e⟩ := h; ⟨dx, fs, s _ _ e⟩
theorem MixAt.ins {D : Addr} {H : Hp} {p : Addr} {ps : List Pt} (m : MixAt D H p ps) : InsOf D H p := by
  obtain ⟨dx, T, _, h, _⟩ := m
  exact ⟨dx, _, h⟩
theorem mk_mix {K : PySem.W.Frag} {D : Addr} {H : Hp} {Q : VK} {E : XK} {L : Addr} {refs : List V} {ps : List Pt} (hL : Sq K H L refs) (hE : Ea H isPLT refs ps) (h1 : 1 ≤ ps.length) (hm : ps.length ≤ 1000) (hpos : ∀ q ∈ ps, 0 < q.1)
    {x dx : Addr} (nx : H x = none) (ndx : H dx = none) (nex : dx ≠ x) (kk : ∀ H', Same H H' → MixAt D H' x ps → Q .non H') :
    spMInit K D [V.ref x, V.ref L] (upd (upd H dx (.own x)) x (.ins D dx [])) Q E := by
  have s1 : Same H (upd (upd H dx (.own x)) x (.ins D dx [])) := fun c o e => by
    rw [upd_ne (ne_of_none e nx), upd_ne (ne_of_none e ndx)]
    exact e
  refine ⟨x, dx, L, refs, ps, rfl, upd_same, hL.up s1, hE.imp (fun c r q => q.imp (fun q => s1 _ _ q) fun q => s1 _ _ q), h1, hm, hpos, fun H' ⟨T, refs', a, b, c⟩ kp => kk H' (fun c' o e => kp c' o (s1 _ _ e) (ne_of_none e nx)) ⟨dx, T, refs', a, b, c⟩⟩
/-- the parts that an operand of + brings -/
def Part (C D : Addr) (H : Hp) (q : Addr) (qs : List Pt) : Prop := (InsOf C H q ∧ qs = [(1, q)]) ∨ (MixAt D H q qs ∧ 1 ≤ qs.length ∧ ∀ z ∈ qs, 0 < z.1)
theorem Part.same {C D : Addr} {H H' : Hp} {q : Addr} {qs : List Pt} (h : Part C D H q qs) (s : Same H H') : Part C D H' q qs := h.imp (fun h => ⟨h.1.same s, h.2⟩) fun h => ⟨h.1.same s, h.2⟩
theorem Part.one {C D : Addr} {H : Hp} {q : Addr} {qs : List Pt} (h : Part C D H q qs) : 1 ≤ qs.length := by
  rcases h with ⟨_, rfl⟩ | ⟨_, h, _⟩
  · exact Nat.le_refl _
  · exact h
theorem Part.pos {C D : Addr} {H : Hp} {q : Addr} {qs : List Pt} (h : Part C D H q qs) : ∀ z ∈ qs, 0 < z.1 := by
  rcases h with ⟨_, rfl⟩ | ⟨_, _, h⟩
  · intro z hz
    cases List.mem_singleton.mp hz
    show (0 : Int) < 1
    decide
  · exact h
theorem Same.none {H H' : Hp} {x : Addr} (s : Same H H') (h : H' x = Option.none) : H x = Option.none := by
  cases e : H x with
  | none => rfl
  | some o => rw [s _ _ e] at h; cases h
def spMAdd (C D : Addr) : Sp := fun vs H Q _ => ∃ (p q : Addr) (ps qs : List Pt), vs = [.ref p, .ref q] ∧ MixAt D H p ps ∧ 1 ≤ ps.length ∧ (∀ z ∈ ps, 0 < z.1) ∧ Part C D H q qs ∧ ps.length + qs.length ≤ 1000 ∧
  ∀ x H', H x = none → Same H H' → MixAt D H' x (ps ++ qs) → Q (.ref x) H'
section
variable {P : Program} {w : World} {K : PySem.W.Frag} {mg : Str → Option Value} {base : Heap} {C D : Addr}
theorem scMAdd : FnScope ["self", "other"] ["self", "other"] (defScope sMAdd) := ⟨rfl, rfl, rfl, by decide +kernel, rfl, by decide +kernel, by decide +kernel⟩
theorem ok_madd {f fi g1 g2 : Addr} {fd di gd1 gd2 : FuncData} (F : Fun K "__add__" "Mix.__add__" sMAdd f fd) (T : Txt K mg C) (TM : TxtM K mg D) (TI : TxtI K C D) (FI : Fun K "__init__" "Mix.__init__" sMInit fi di) (M : Mk K D fi) (bI : Binds K di ["self", "parts"] [])
    (D1 : Df K mg "is_integer" sIsInt g1 gd1 ["value"]) (D2 : Df K mg "is_positive" sIsPos g2 gd2 ["value"]) : FnOk P w K mg base CX0 5 f fd ["self", "other"] (spMAdd C D) := by
  have GI : FnOk P w K mg base CX0 3 fi di ["self", "parts"] (spMInit K D) := ok_minit FI T TM D1 D2
  refine F.ok scMAdd (fun vs H Q E h => ?_) (fun cdv A outer s H vs Q E hr h => ?_)
  · obtain ⟨p, q, _, _, rfl, _⟩ := h
    rfl
  · obtain ⟨p, q, ps, qs, rfl, hp, h1, hps, hq, hle, kk⟩ := h
    refine ⟨_, pss_cons (ps_if (pt_val (pe_callB call_isi (by rfl) T.isi boot_isi (pa_cons (pv 1) (pa_cons (pe_glob (v := .ref C) rfl T.mgC rfl) pa_nil))))
        (pss_one (ps_ret (pe_make M GI hr rfl TM.mgD bI .nil pass0 (pa_cons (pe_op op_catT (pe_fld (pv 0) rfl) (pe_tup (pa_cons (pe_tup (pa_cons pe_int (pa_cons (pv 1) pa_nil))) pa_nil))) pa_nil)))) pss_nil)
      (pss_cons (ps_if (pt_val (pe_callB call_isi (by rfl) T.isi boot_isi (pa_cons (pv 1) (pa_cons (pe_glob (v := .ref D) rfl TM.mgD rfl) pa_nil))))
        (pss_one (ps_ret (pe_make M GI hr rfl TM.mgD bI .nil pass0 (pa_cons (pe_op op_catT (pe_fld (pv 0) rfl) (pe_fld (pv 1) rfl)) pa_nil)))) pss_nil)
      pss_never), ?_⟩
    obtain ⟨dx, R, refs, hpo, hR, hE⟩ := id hp
    have hne : refs ≠ [] := by
      intro e
      have := hE.1
      rw [e] at this
      have h0 : (0 : Nat) = ps.length := this
      omega
    have hall : ∀ z ∈ ps ++ qs, 0 < z.1 := fun z hz => (List.mem_append.mp hz).elim (hps z) (hq.pos z)
    have hlen1 : 1 ≤ (ps ++ qs).length := by rw [List.length_append]; omega
    have hlen2 : (ps ++ qs).length ≤ 1000 := by rw [List.length_append]; exact hle
    rcases hq with ⟨⟨dq, fq, hqo⟩, rfl⟩ | ⟨hq, hq1, hqp⟩
    · refine ⟨_, rfl, _, _, _, _, _, rfl, .own C, .base (.ins hqo T.cl TI.q1 TI.q2 TI.q3 TI.q4), TI.kCC, _, rfl, iteT ?_⟩
      refine ⟨_, rfl, p, D, dx, _, _, rfl, hpo, TM.cl, TM.nP, mf_parts _, _, rfl, by show 2 ≤ sizeLine; decide, fun t ht => ⟨by show 1 ≤ sizeLine; decide, fun t2 ht2 => ?_⟩⟩
      have s1 := Same.new (o := .tup [.int 1, .ref q]) ht
      have s2 := Same.new (o := .tup [.ref t]) ht2
      refine ⟨R, t2, refs, [.ref t], rfl, rfl, SqT.of (s2 _ _ (s1 _ _ hR)), SqT.of upd_same, hne, ?_, fun e => (by cases e), fun _ u hu => ?_⟩
      · rw [hE.1]
        exact Nat.le_trans (Nat.le_trans (Nat.add_le_add_left (Nat.le_refl 1) _) hle) (by decide)
      have s3 := Same.new (o := .tup (refs ++ [.ref t])) hu
      have sm := (s1.trans s2).trans s3
      refine fun x dx' nx ndx nex => mk_mix (ps := ps ++ [(1, q)]) (.inr (SqT.of upd_same)) ?_ hlen1 hlen2 hall nx ndx nex fun H' s' m' => ⟨rfl, kk x H' (Same.none sm nx) (sm.trans s') m'⟩
      refine (((hE.sameP sm).append (.one (r := (1, q)) ?_))).imp fun c r z => .inl z
      exact s3 _ _ (s2 _ _ upd_same)
    · obtain ⟨dq, R2, refs2, hqo, hR2, hE2⟩ := id hq
      refine ⟨_, rfl, _, _, _, _, _, rfl, .own C, .base (.ins hqo TM.cl TI.q1' TI.q2 TI.q3 TI.q4'), TI.kDC, _, rfl, iteF ?_⟩
      refine ⟨_, rfl, _, _, _, _, _, rfl, .own D, .base (.ins hqo TM.cl TI.q1' TI.q2 TI.q3 TI.q4'), TI.kDD, _, rfl, iteT ?_⟩
      refine ⟨_, rfl, p, D, dx, _, _, rfl, hpo, TM.cl, TM.nP, mf_parts _, _, rfl, q, D, dq, _, _, rfl, hqo, TM.cl, TM.nP, mf_parts _, ?_⟩
      refine ⟨R, R2, refs, refs2, rfl, rfl, SqT.of hR, SqT.of hR2, hne, ?_, fun e => ?_, fun _ u hu => ?_⟩
      · rw [hE.1, hE2.1]
        exact Nat.le_trans hle (by decide)
      · have := hE2.1
        rw [e] at this
        have h0 : (0 : Nat) = qs.length := this
        omega
      have s3 := Same.new (o := .tup (refs ++ refs2)) hu
      refine fun x dx' nx ndx nex => mk_mix (ps := ps ++ qs) (.inr (SqT.of upd_same)) ?_ hlen1 hlen2 hall nx ndx nex fun H' s' m' => ⟨rfl, kk x H' (Same.none s3 nx) (s3.trans s') m'⟩
      exact (((hE.append hE2).sameP s3)).imp fun c r z => .inl z
end
end PA

set_option maxHeartbeats 4000000
namespace PA
open PySem L2 RZ
open C8 (pss_cut tCut)
theorem mulw {n m : Nat} {x y : Int} (hx : Sm n x) (hy : Sm m y) (hn : 0 < n) (hm : 0 < m) (h : n + m ≤ 1000000) : CMulW x y := wide_mul hx hy hn hm h
def times (t : Int) (z : Pt) : Pt := (z.1 * t, z.2)
def spMMul (D : Addr) : Sp := fun vs H Q _ => ∃ (p : Addr) (t : Int) (ps : List Pt), vs = [.ref p, .int t] ∧ 0 < t ∧ Sm 1000 t ∧ MixAt D H p ps ∧ 1 ≤ ps.length ∧ ps.length ≤ 1000 ∧ (∀ z ∈ ps, 0 < z.1 ∧ Sm 1000 z.1) ∧
  ∀ x H', H x = none → Same H H' → MixAt D H' x (ps.map (times t)) → Q (.ref x) H'
section
variable {P : Program} {w : World} {K : PySem.W.Frag} {mg : Str → Option Value} {base : Heap} {C D : Addr}
theorem scMMul : FnScope ["self", "other", "weight", "rule"] ["self", "other"] (defScope sMMul) := ⟨rfl, rfl, rfl, by decide +kernel, rfl, by decide +kernel, by decide +kernel⟩
theorem ok_mmul {f fi g1 g2 : Addr} {fd di gd1 gd2 : FuncData} (F : Fun K "__mul__" "Mix.__mul__" sMMul f fd) (T : Txt K mg C) (TM : TxtM K mg D) (FI : Fun K "__init__" "Mix.__init__" sMInit fi di) (M : Mk K D fi) (bI : Binds K di ["self", "parts"] [])
    (D1 : Df K mg "is_integer" sIsInt g1 gd1 ["value"]) (D2 : Df K mg "is_positive" sIsPos g2 gd2 ["value"]) : FnOk P w K mg base CX0 5 f fd ["self", "other"] (spMMul D) := by
  have GI : FnOk P w K mg base CX0 3 fi di ["self", "parts"] (spMInit K D) := ok_minit FI T TM D1 D2
  have G2 : FnOk P w K mg base CX0 2 g2 gd2 ["value"] spIsPos := ok_isPos D2.F T D1
  refine F.ok scMMul (fun vs H Q E h => ?_) (fun cdv A outer s H vs Q E hr h => ?_)
  · obtain ⟨p, t, _, rfl, _⟩ := h
    rfl
  · obtain ⟨p, t, ps, rfl, t0, ts, hp, h1, hm, hps, kk⟩ := h
    have hr2 : Room 2 _ := hr.mono (by decide)
    refine ⟨_, pss_cons (ps_if (pt_not (pt_val (pe_call G2 hr2 rfl D2.M D2.F.kp D2.B .nil pass0 (pa_cons (pv 1) pa_nil)))) pss_never pss_nil)
      (pss_one (ps_ret (pe_make M GI hr rfl TM.mgD bI .nil pass0 (pa_cons (pe_lc (own := [("weight", 2), ("rule", 3)]) (g := gTup K 2 (gCons (gName 2) (gCons (gName 3) gNil))) (tt := tYes) (by rfl) scMMul.nd (pi_tup (pe_fld (pv 0) rfl)) (blkOk_by (N := ["self", "other", "weight", "rule"]) (sc := defScope sMMul) (by decide +kernel))
            (fun _ _ _ _ _ => by exact pg_tup rfl (pgs_cons (pg_name (i := 2) scMMul.nd rfl (Or.inl rfl)) (pgs_cons (pg_name (i := 3) scMMul.nd rfl (Or.inl rfl)) pgs_nil))) (fun _ _ _ _ _ => pts_nil)
            (fun _ _ _ _ _ => pe_tup (pa_cons (pe_op op_mulW (pv 2) (pv 1)) (pa_cons (pv 3) pa_nil)))) pa_nil)))), ?_⟩
    obtain ⟨dx, R, refs, hpo, hR, hE⟩ := id hp
    have hlr : refs.length = ps.length := hE.1
    refine ⟨_, rfl, t, rfl, ?_⟩
    rw [decide_eq_true t0]
    refine ⟨true, rfl, iteF ?_⟩
    refine ⟨_, rfl, p, D, dx, _, _, rfl, hpo, TM.cl, TM.nP, mf_parts _, R, rfl, ⟨_, SqT.of hR⟩, fun Dd hD => ?_⟩
    refine lc_tup (K := K) (a := R) (xs := refs) (fun i H' => Same H H' ∧ ∃ acc, H' Dd = some (.lst acc) ∧ Ea H' isP acc ((ps.take i).map (times t))) ⟨Same.new hD, [], upd_same, by rw [List.take_zero]; exact Ea.nil⟩ (fun i H' _ q => SqT.of (q.1 _ _ hR)) ?_ ?_
    · rintro i x H' hx ⟨sm, acc, hd, he⟩
      have hi : i < ps.length := by rw [← hlr]; exact (List.getElem?_eq_some_iff.mp hx).1
      have hr' : ps[i]? = some ps[i] := List.getElem?_eq_getElem hi
      obtain ⟨c, rfl, hc⟩ := hE.2 i x _ hx hr'
      have hw := hps _ (List.getElem_mem hi)
      have hal : acc.length < sizeLine := by
        rw [he.1, List.length_map, List.length_take]
        exact Nat.lt_of_le_of_lt (Nat.min_le_left _ _) (Nat.lt_of_lt_of_le (Nat.lt_of_lt_of_le hi hm) (by decide))
      refine ⟨c, _, rfl, SqT.of (sm _ _ hc), rfl, _, _, rfl, _, _, rfl, rfl, rfl, ?_⟩
      dsimp only [tYes]
      rw [if_pos rfl]
      refine ⟨_, rfl, _, rfl, _, _, rfl, rfl, mulw hw.2 ts (by decide) (by decide) (by decide), _, rfl, by show 2 ≤ sizeLine; decide, fun l hl => ?_⟩
      have sl := Same.new (o := .tup [.int (ps[i].1 * t), .ref ps[i].2]) hl
      have hd' := sl _ _ hd
      refine ⟨acc, hd', hal, ?_, _, upd_same, ?_⟩
      · intro c' o e
        rw [upd_ne (ne_of_none e hD)]
        exact sl _ _ (sm _ _ e)
      · rw [take_succ' hr', List.map_append]
        exact Ea.push ((he.sameP sl).imp fun c' r' q => q.lst hd') ((show isP _ l (times t ps[i]) from upd_same).lst hd')
    · rintro H1 ⟨s1, acc, hd, he⟩
      rw [hlr, List.take_length] at he
      refine fun x dx' nx ndx nex => mk_mix (ps := ps.map (times t)) (.inl (SqL.of hd)) (he.imp fun c r z => .inl z) (by rw [List.length_map]; exact h1) (by rw [List.length_map]; exact hm) ?_ nx ndx nex fun H' s' m' => ⟨rfl, kk x H' (Same.none s1 nx) (s1.trans s') m'⟩
      intro z hz
      obtain ⟨z0, hz0, rfl⟩ := List.mem_map.mp hz
      exact Int.mul_pos (hps z0 hz0).1 t0
end
end PA

set_option maxHeartbeats 4000000
namespace PA
open PySem L2 RZ
open C8 (pss_cut tCut)
abbrev sRAdd : Stmt := inClass (top 30) 10
abbrev sRMul : Stmt := inClass (top 30) 11
abbrev sRRmul : Stmt := inClass (top 30) 12
/-- own operator with an int, with what the int's class answers -/
structure OwnM (K : PySem.W.Frag) (C f g : Addr) (op : Operator) : Prop where
  O : OwnOp K C f g op
  h1 : ∃ fo, PySem.W.findIn K (.type "int") (PySem.dunder op.info.2) = some fo
  h2 : ∃ ro, PySem.W.findIn K (.type "int") (dunderR op.info.2) = some ro
/-- the def's and the class's own things of Mix -/
structure LibM (K : PySem.W.Frag) (mg : Str → Option Value) (C D fi fa fm g1 g2 : Addr) (di da dm gd1 gd2 : FuncData) : Prop where
  T : Txt K mg C
  TM : TxtM K mg D
  TI : TxtI K C D
  FI : Fun K "__init__" "Mix.__init__" sMInit fi di
  M : Mk K D fi
  bI : Binds K di ["self", "parts"] []
  FA : Fun K "__add__" "Mix.__add__" sMAdd fa da
  bA : Binds K da ["self", "other"] []
  FM : Fun K "__mul__" "Mix.__mul__" sMMul fm dm
  bM : Binds K dm ["self", "other"] []
  D1 : Df K mg "is_integer" sIsInt g1 gd1 ["value"]
  D2 : Df K mg "is_positive" sIsPos g2 gd2 ["value"]
def spRAdd (C D : Addr) : Sp := fun vs H Q _ => ∃ (r q : Addr) (qs : List Pt), vs = [.ref r, .ref q] ∧ InsOf C H r ∧ Part C D H q qs ∧ qs.length ≤ 900 ∧ ∀ x H', H x = none → Same H H' → MixAt D H' x ([(1, r)] ++ qs) → Q (.ref x) H'
def spRMul (C D : Addr) : Sp := fun vs H Q _ => ∃ (r : Addr) (t : Int), vs = [.ref r, .int t] ∧ InsOf C H r ∧ 0 < t ∧ Sm 1000 t ∧ ∀ x H', H x = none → Same H H' → MixAt D H' x [(1 * t, r)] → Q (.ref x) H'
section
variable {P : Program} {w : World} {K : PySem.W.Frag} {mg : Str → Option Value} {base : Heap} {C D fi fa fm g1 g2 : Addr} {di da dm gd1 gd2 : FuncData}
theorem scMRmul : FnScope ["self", "other"] ["self", "other"] (defScope sMRmul) := ⟨rfl, rfl, rfl, by decide +kernel, rfl, by decide +kernel, by decide +kernel⟩
theorem ok_mrmul {f : Addr} {fd : FuncData} (F : Fun K "__rmul__" "Mix.__rmul__" sMRmul f fd) (L : LibM K mg C D fi fa fm g1 g2 di da dm gd1 gd2) (O : OwnM K D fm f .Mult) : FnOk P w K mg base CX0 6 f fd ["self", "other"] (spMMul D) := by
  have GM : FnOk P w K mg base CX0 5 fm dm ["self", "other"] (spMMul D) := ok_mmul L.FM L.T L.TM L.FI L.M L.bI L.D1 L.D2
  obtain ⟨fo, h1⟩ := O.h1
  obtain ⟨ro, h2⟩ := O.h2
  refine F.ok scMRmul (fun vs H Q E h => ?_) (fun cdv A outer s H vs Q E hr h => ?_)
  · obtain ⟨p, t, _, rfl, _⟩ := h
    rfl
  · obtain ⟨p, t, ps, rfl, hh⟩ := h
    obtain ⟨t0, ts, ⟨dx, R, refs, hpo, hrest⟩, hq⟩ := id hh
    refine ⟨_, pss_one (ps_ret (pe_op (op_ownI (E := E0) O.O h1 h2 GM hr L.bM pass0) (pv 0) (pv 1))), ?_⟩
    exact ⟨_, rfl, _, rfl, p, t, dx, _, rfl, rfl, hpo, p, t, ps, rfl, hh⟩
theorem scRMul : FnScope ["self", "other"] ["self", "other"] (defScope sRMul) := ⟨rfl, rfl, rfl, by decide +kernel, rfl, by decide +kernel, by decide +kernel⟩
theorem one_part {K : PySem.W.Frag} {H : Hp} {r l : Addr} {t : Addr} (ht : H t = some (.tup [.int 1, .ref r])) : Ea H isPLT [.ref t] [((1 : Int), r)] := .one (.inl ht)
theorem ok_rmul {f fr : Addr} {fd : FuncData} (F : Fun K "__mul__" "Rule.__mul__" sRMul f fd) (L : LibM K mg C D fi fa fm g1 g2 di da dm gd1 gd2) (O : OwnM K D fm fr .Mult) : FnOk P w K mg base CX0 6 f fd ["self", "other"] (spRMul C D) := by
  have GM : FnOk P w K mg base CX0 5 fm dm ["self", "other"] (spMMul D) := ok_mmul L.FM L.T L.TM L.FI L.M L.bI L.D1 L.D2
  have GI : FnOk P w K mg base CX0 3 fi di ["self", "parts"] (spMInit K D) := ok_minit L.FI L.T L.TM L.D1 L.D2
  obtain ⟨fo, h1⟩ := O.h1
  obtain ⟨ro, h2⟩ := O.h2
  refine F.ok scRMul (fun vs H Q E h => ?_) (fun cdv A outer s H vs Q E hr h => ?_)
  · obtain ⟨r, t, rfl, _⟩ := h
    rfl
  · obtain ⟨r, t, rfl, hr0, t0, ts, kk⟩ := h
    have hr4 : Room 4 _ := hr.mono (by decide)
    refine ⟨_, pss_one (ps_ret (pe_op (op_ownI (E := E0) O.O h1 h2 GM hr L.bM pass0) (pe_make L.M GI hr4 rfl L.TM.mgD L.bI .nil pass0 (pa_cons (pe_lst (pa_cons (pe_tup (pa_cons pe_int (pa_cons (pv 0) pa_nil))) pa_nil)) pa_nil)) (pv 1))), ?_⟩
    refine ⟨_, rfl, by show 2 ≤ sizeLine; decide, fun u hu => ⟨by show 1 ≤ sizeLine; decide, fun l hl => ?_⟩⟩
    have s1 := Same.new (o := .tup [.int 1, .ref r]) hu
    have s2 := Same.new (o := .lst [.ref u]) hl
    refine fun x dx' nx ndx nex => mk_mix (ps := [(1, r)]) (.inl (SqL.of upd_same)) (one_part (K := K) (l := l) (s2 _ _ upd_same)) (Nat.le_refl _) (by show 1 ≤ 1000; decide) (by intro z hz; cases List.mem_singleton.mp hz; show (0 : Int) < 1; decide) nx ndx nex fun H' s' m' => ⟨rfl, ?_⟩
    obtain ⟨dx, R, refs, hpo, hrest⟩ := id m'
    have sm := (s1.trans s2).trans s'
    refine ⟨_, rfl, x, t, dx, _, rfl, rfl, hpo, x, t, [(1, r)], rfl, t0, ts, m', Nat.le_refl _, (by show 1 ≤ 1000; decide), ?_, fun y H2 ny sy my => kk y H2 (Same.none sm ny) (sm.trans sy) my⟩
    intro z hz
    cases List.mem_singleton.mp hz
    exact ⟨by show (0 : Int) < 1; decide, Sm.one (by decide)⟩
theorem scRRmul : FnScope ["self", "other"] ["self", "other"] (defScope sRRmul) := ⟨rfl, rfl, rfl, by decide +kernel, rfl, by decide +kernel, by decide +kernel⟩
theorem ok_rrmul {f g fr : Addr} {fd gd : FuncData} (F : Fun K "__rmul__" "Rule.__rmul__" sRRmul g gd) (L : LibM K mg C D fi fa fm g1 g2 di da dm gd1 gd2) (O : OwnM K D fm fr .Mult) (FR : Fun K "__mul__" "Rule.__mul__" sRMul f fd) (bR : Binds K fd ["self", "other"] []) (OR : OwnM K C f g .Mult) :
    FnOk P w K mg base CX0 7 g gd ["self", "other"] (spRMul C D) := by
  have GM : FnOk P w K mg base CX0 6 f fd ["self", "other"] (spRMul C D) := ok_rmul FR L O
  obtain ⟨fo, h1⟩ := OR.h1
  obtain ⟨ro, h2⟩ := OR.h2
  refine F.ok scRRmul (fun vs H Q E h => ?_) (fun cdv A outer s H vs Q E hr h => ?_)
  · obtain ⟨r, t, rfl, _⟩ := h
    rfl
  · obtain ⟨r, t, rfl, hh⟩ := h
    obtain ⟨⟨dx, fs, hro⟩, hq⟩ := id hh
    refine ⟨_, pss_one (ps_ret (pe_op (op_ownI (E := E0) OR.O h1 h2 GM hr bR pass0) (pv 0) (pv 1))), ?_⟩
    exact ⟨_, rfl, _, rfl, r, t, dx, _, rfl, rfl, hro, r, t, rfl, hh⟩
theorem scRAdd : FnScope ["self", "other"] ["self", "other"] (defScope sRAdd) := ⟨rfl, rfl, rfl, by decide +kernel, rfl, by decide +kernel, by decide +kernel⟩
theorem ok_radd {f fs : Addr} {fd : FuncData} (F : Fun K "__add__" "Rule.__add__" sRAdd f fd) (L : LibM K mg C D fi fa fm g1 g2 di da dm gd1 gd2) (OS : OwnS K D fa .Add) (OX : OwnX K D C fa f .Add) : FnOk P w K mg base CX0 6 f fd ["self", "other"] (spRAdd C D) := by
  have GA : FnOk P w K mg base CX0 5 fa da ["self", "other"] (spMAdd C D) := ok_madd L.FA L.T L.TM L.TI L.FI L.M L.bI L.D1 L.D2
  have GI : FnOk P w K mg base CX0 3 fi di ["self", "parts"] (spMInit K D) := ok_minit L.FI L.T L.TM L.D1 L.D2
  refine F.ok scRAdd (fun vs H Q E h => ?_) (fun cdv A outer s H vs Q E hr h => ?_)
  · obtain ⟨r, q, _, rfl, _⟩ := h
    rfl
  · obtain ⟨r, q, qs, rfl, hr0, hq, hm, kk⟩ := h
    have hr4 : Room 4 _ := hr.mono (by decide)
    refine ⟨_, pss_one (ps_ret (pe_op ((op_ownX (E := E0) OX GA hr L.bA pass0).or (op_ownS (E := E0) OS GA hr L.bA pass0)) (pe_make L.M GI hr4 rfl L.TM.mgD L.bI .nil pass0 (pa_cons (pe_lst (pa_cons (pe_tup (pa_cons pe_int (pa_cons (pv 0) pa_nil))) pa_nil)) pa_nil)) (pv 1))), ?_⟩
    refine ⟨_, rfl, by show 2 ≤ sizeLine; decide, fun u hu => ⟨by show 1 ≤ sizeLine; decide, fun l hl => ?_⟩⟩
    have s1 := Same.new (o := .tup [.int 1, .ref r]) hu
    have s2 := Same.new (o := .lst [.ref u]) hl
    refine fun x dx' nx ndx nex => mk_mix (ps := [(1, r)]) (.inl (SqL.of upd_same)) (one_part (K := K) (l := l) (s2 _ _ upd_same)) (Nat.le_refl _) (by show 1 ≤ 1000; decide) (by intro z hz; cases List.mem_singleton.mp hz; show (0 : Int) < 1; decide) nx ndx nex fun H' s' m' => ⟨rfl, ?_⟩
    obtain ⟨dx, R, refs, hpo, hrest⟩ := id m'
    have sm := (s1.trans s2).trans s'
    have hq' := hq.same sm
    refine ⟨_, rfl, ?_⟩
    have hsp : spMAdd C D [.ref x, .ref q] H' Q E0 := by
      refine ⟨x, q, [(1, r)], qs, rfl, m', Nat.le_refl _, ?_, hq', ?_, fun y H2 ny sy my => kk y H2 (Same.none sm ny) (sm.trans sy) my⟩
      · intro z hz
        cases List.mem_singleton.mp hz
        show (0 : Int) < 1
        decide
      · show 1 + qs.length ≤ 1000
        omega
    rcases id hq' with ⟨⟨dq, fq, hqo⟩, _⟩ | ⟨hqm, _, _⟩
    · exact .inl ⟨x, q, dx, dq, _, fq, rfl, rfl, hpo, hqo, hsp⟩
    · obtain ⟨dq, fq, hqo⟩ := hqm.ins
      exact .inr ⟨x, q, dx, dq, _, fq, rfl, rfl, hpo, hqo, hsp⟩
end
end PA

set_option maxHeartbeats 4000000
namespace PA
open PySem L2 RZ
open C8 (pss_cut tCut)
theorem atI_nat {α : Type} {xs : List α} {i : Nat} {x : α} (h : xs[i]? = some x) : atI xs (i : Int) = some x := by
  unfold atI
  rw [Evl.ixN_nat (List.getElem?_eq_some_iff.mp h).1]
  exact h
theorem StreamAt.ne {H : Hp} {a l p : Addr} {n : Nat} (S : StreamAt H a l n) (h : H p = none) : p ≠ a ∧ p ≠ l := by
  obtain ⟨ne, ns, x, z, h1, h2, _⟩ := S
  exact ⟨(ne_of_none h1 h).symm, (ne_of_none h2 h).symm⟩
theorem sm48 {z : Int} (h1 : 1 ≤ z) (h2 : z ≤ 48) : Sm 9000 z := by
  refine sm9000 (n := 6) ?_ (by decide)
  have e : (2 : Nat) ^ 6 = 64 := by decide
  show z.natAbs < 2 ^ 6
  rw [e]
  omega
theorem isT.kp {H H' : Hp} {a l c : Addr} {n : Nat} {r : Rw} (q : isT H c r) (S : StreamAt H a l n) (k : Keep a l H H') : isT H' c r := by
  obtain ⟨ne, ns, x, z, h1, h2, _⟩ := S
  exact k _ _ (ne_of (H := H) q h1 (by intro z; cases z)) (ne_of (H := H) q h2 (by intro z; cases z)) q
theorem StreamAt.at_ {H : Hp} {a l : Addr} {n m : Nat} (S : StreamAt H a l n) (e : n = m) : StreamAt H a l m := e ▸ S
theorem StreamAt.lst {H : Hp} {a l p : Addr} {n : Nat} {xs ys : List V} (S : StreamAt H a l n) (hp : H p = some (.lst xs)) (pa : p ≠ a) (pl : p ≠ l) : StreamAt (upd H p (.lst ys)) a l n := by
  obtain ⟨ne, ns, x, z, h1, h2, h3⟩ := S
  exact ⟨ne, ns, x, z, by rw [upd_ne pa.symm]; exact h1, by rw [upd_ne pl.symm]; exact h2, h3⟩

def spPick : Sp := fun vs H Q _ => ∃ (a l L : Addr) (n : Nat) (xs : List V), vs = [.ref a, .ref L] ∧ StreamAt H a l n ∧ n ≤ 2000 ∧ H L = some (.lst xs) ∧ L ≠ a ∧ L ≠ l ∧ 1 ≤ xs.length ∧ xs.length ≤ 48 ∧
  ∀ (i : Nat) (x : V) (H' : Hp), xs[i]? = some x → StreamAt H' a l (n + 1) → Keep a l H H' → Q x H'
def spTable : Sp := fun vs H Q _ => ∃ (a l : Addr) (n : Nat) (most : Int), vs = [.ref a, .int most] ∧ StreamAt H a l n ∧ n ≤ 1000 ∧ 1 ≤ most ∧ most ≤ 48 ∧
  ∀ (t R S : Addr) (refs : List V) (rows : List Rw) (n' : Nat) (H' : Hp), H' t = some (.tup [.ref R, .ref S, .int 1]) → H' R = some (.lst refs) → Each H' isT refs rows → H' S = some (.lst [.int 0]) → Good rows [0] 1 →
    StreamAt H' a l n' → n' ≤ n + 300 → Keep a l H H' → R ≠ a → R ≠ l → S ≠ a → S ≠ l → H R = none → H S = none → Q (.ref t) H'
section
variable {P : Program} {w : World} {K : PySem.W.Frag} {mg : Str → Option Value} {base : Heap} {C : Addr}
theorem scPick : FnScope ["_law_stream", "_law_some"] ["_law_stream", "_law_some"] (defScope sPick) := ⟨rfl, rfl, rfl, by decide +kernel, rfl, by decide +kernel, by decide +kernel⟩
theorem ok_pick {f g : Addr} {fd gd : FuncData} (F : Fun K "_law_pick" "_law_pick" sPick f fd) (T : Txt K mg C) (D : Df K mg "_law_draw" sDraw g gd ["_law_stream", "_law_many"]) : FnOk P w K mg base CX0 2 f fd ["_law_stream", "_law_some"] spPick := by
  have G : FnOk P w K mg base CX0 1 g gd ["_law_stream", "_law_many"] spDraw := ok_draw D.F T
  refine F.ok scPick (fun vs H Q E h => ?_) (fun cdv A outer s H vs Q E hr h => ?_)
  · obtain ⟨a, l, L, n, _, rfl, _⟩ := h
    rfl
  · obtain ⟨a, l, L, n, xs, rfl, S0, hn, hL, La, Ll, h1, h48, kk⟩ := h
    refine ⟨_, pss_one (ps_ret (pe_ix ix_list (pv 1) (pe_call G hr rfl D.M D.F.kp D.B .nil pass0 (pa_cons (pv 0) (pa_cons (pe_callB call_len_seq (by rfl) T.len_ PySem.boot_len (pa_cons (pv 1) pa_nil)) pa_nil))) (fun _ _ => rfl))), ?_⟩
    refine ⟨_, rfl, _, rfl, _, rfl, L, xs, rfl, .inl (SqL.of hL), a, l, n, _, rfl, S0, by omega, by omega, sm48 (by omega) (by omega), fun r H1 r0 r1 S1 kp1 => ?_⟩
    have hi : r.toNat < xs.length := by omega
    have hx : xs[r.toNat]? = some xs[r.toNat] := List.getElem?_eq_getElem hi
    have ha := atI_nat hx
    rw [Int.toNat_of_nonneg r0] at ha
    exact ⟨L, xs, r, _, rfl, rfl, SqL.of (kp1 _ _ La Ll hL), ha, kk _ _ H1 hx S1 kp1⟩
theorem scTable : FnScope ["_law_stream", "_law_most", "_law_size", "_law_rows", "_law_k", "_law_row"] ["_law_stream", "_law_most"] (defScope sTable) := ⟨rfl, rfl, rfl, by decide +kernel, rfl, by decide +kernel, by decide +kernel⟩
theorem ok_table {f g : Addr} {fd gd : FuncData} (F : Fun K "_law_p_table" "_law_p_table" sTable f fd) (T : Txt K mg C) (D : Df K mg "_law_draw" sDraw g gd ["_law_stream", "_law_many"]) : FnOk P w K mg base CX0 2 f fd ["_law_stream", "_law_most"] spTable := by
  have G : FnOk P w K mg base CX0 1 g gd ["_law_stream", "_law_many"] spDraw := ok_draw D.F T
  refine F.ok scTable (fun vs H Q E h => ?_) (fun cdv A outer s H vs Q E hr h => ?_)
  · obtain ⟨a, l, n, _, rfl, _⟩ := h
    rfl
  · obtain ⟨a, l, n, most, rfl, S0, hn, m1, m48, kk⟩ := h
    refine ⟨_, pss_cons (ps_set (i := 2) scTable.nd rfl (Or.inl rfl) (pe_op op_add pe_int (pe_call G hr rfl D.M D.F.kp D.B .nil pass0 (pa_cons (pv 0) (pa_cons (pv 1) pa_nil)))))
      (pss_cons (ps_set (i := 3) scTable.nd rfl (Or.inl rfl) (pe_lst pa_nil))
      (pss_cut (ps_for PassesOwn.never rfl (pi_range1 (by rfl) T.range_ (pa_cons (pv 2) pa_nil)) (pg_name (i := 4) scTable.nd rfl (Or.inl rfl))
        (pss_cons (ps_set (i := 5) scTable.nd rfl (Or.inl rfl) (pe_lst (pa_cons (pe_call G hr rfl D.M D.F.kp D.B .nil pass0 (pa_cons (pv 0) (pa_cons (pv 2) pa_nil)))
            (pa_cons (pe_cmpR op_eq (pe_call G hr rfl D.M D.F.kp D.B .nil pass0 (pa_cons (pv 0) (pa_cons pe_int pa_nil))) pe_int (nomark _))
            (pa_cons (pe_call G hr rfl D.M D.F.kp D.B .nil pass0 (pa_cons (pv 0) (pa_cons (pv 2) pa_nil)))
            (pa_cons (pe_cmpR op_gt (pe_call G hr rfl D.M D.F.kp D.B .nil pass0 (pa_cons (pv 0) (pa_cons pe_int pa_nil))) pe_int (nomark _)) pa_nil))))))
        (pss_one (ps_expr (pe_bm PySem.F.plainAttrs_list PySem.F.slot_list_append PySem.F.type_list_append mt_append (pv 3) (pa_cons (pe_tup (pa_cons (pe_ix ix_list (pv 5) pe_int (fun _ _ => rfl)) (pa_cons (pe_ix ix_list (pv 5) pe_int (fun _ _ => rfl)) (pa_cons (pe_ix ix_list (pv 5) pe_int (fun _ _ => rfl)) (pa_cons (pe_ix ix_list (pv 5) pe_int (fun _ _ => rfl)) pa_nil))))) pa_nil))))))
      (pss_one (ps_ret (pe_tup (pa_cons (pv 3) (pa_cons (pe_lst (pa_cons pe_int pa_nil)) (pa_cons pe_int pa_nil)))))))), ?_⟩
    have e24 := @sm48
    refine ⟨_, rfl, _, rfl, a, l, n, most, rfl, S0, by omega, by omega, e24 m1 m48, fun r H1 r0 r1 S1 kp1 => ⟨_, _, rfl, rfl, ?_⟩⟩
    obtain ⟨sz, hsz⟩ : ∃ sz : Nat, 1 + r = (sz : Int) := ⟨(1 + r).toNat, (Int.toNat_of_nonneg (by omega)).symm⟩
    show gName 2 (V.int (1 + r)) _ _ _
    rw [hsz]
    have sz1 : 1 ≤ sz := by omega
    have sz48 : sz ≤ 48 := by omega
    refine ⟨Nat.zero_le _, fun R hR0 => ?_⟩
    obtain ⟨Ra, Rl⟩ := S1.ne hR0
    have HR : H R = none := by
      cases e : H R with
      | none => rfl
      | some o => have := kp1 R o Ra Rl e; rw [hR0] at this; cases this
    refine ⟨fun σ' H' => ∃ x4 x5 refs rows, σ' = [some (V.ref a), some (V.int most), some (V.int (sz : Int)), some (V.ref R), x4, x5] ∧ StreamAt H' a l (n + 1 + 4 * sz) ∧ Keep a l H H' ∧ H' R = some (.lst refs) ∧ Each H' isT refs rows ∧ rows.length = sz ∧ (∀ r ∈ rows, RwOk sz r), ?_, ?_⟩
    · refine ⟨_, rfl, (sz : Int), rfl, by omega, by omega, ?_⟩
      refine for_range (n := sz) (fun i σ' H' => ∃ x4 x5 refs rows, σ' = [some (V.ref a), some (V.int most), some (V.int (sz : Int)), some (V.ref R), x4, x5] ∧ StreamAt H' a l (n + 1 + 4 * i) ∧ Keep a l H H' ∧ H' R = some (.lst refs) ∧ Each H' isT refs rows ∧ rows.length = i ∧ (∀ r ∈ rows, RwOk sz r)) ?_ ?_ ?_
      · refine ⟨none, none, [], [], rfl, S1.same (Same.new hR0), kp1.trans (Keep.of (Same.new hR0)), upd_same, Each.nil, rfl, fun r hr => by cases hr⟩
      · rintro i _ H3 hi ⟨x4, x5, refs, rows, rfl, S3, kp3, hR, hE, hlen, hok⟩
        refine ⟨_, rfl, _, rfl, a, l, _, _, rfl, S3, by omega, by omega, e24 (by omega) (by omega), fun r1 H4 r10 r11 S4 kp4 => ?_⟩
        refine ⟨_, rfl, a, l, _, _, rfl, S4, by omega, by decide, e24 (by decide) (by decide), fun r2 H5 r20 r21 S5 kp5 => ⟨rfl, ?_⟩⟩
        refine ⟨_, rfl, _, rfl, a, l, _, _, rfl, S5, by omega, by omega, e24 (by omega) (by omega), fun r3 H6 r30 r31 S6 kp6 => ?_⟩
        refine ⟨_, rfl, a, l, _, _, rfl, S6, by omega, by decide, e24 (by decide) (by decide), fun r4 H7 r40 r41 S7 kp7 => ⟨_, _, rfl, rfl, by show 4 ≤ sizeLine; decide, fun q hq => ?_⟩⟩
        have kp37 : Keep a l H3 H7 := ((kp4.trans kp5).trans kp6).trans kp7
        have hR7 : H7 R = some (.lst refs) := kp37 _ _ Ra Rl hR
        have hE7 : Each H7 isT refs rows := hE.imp fun c r q => q.kp S3 kp37
        have s8 := Same.new (o := .lst [.int r1, .bl (decide (V.int r2 = V.int 0)), .int r3, .bl (decide (0 < r4))]) hq
        refine ⟨_, rfl, .inl ⟨rfl, _, SqL.of (s8 _ _ hR7)⟩, ?_⟩
        refine ⟨_, rfl, q, _, 0, _, rfl, rfl, SqL.of upd_same, rfl, _, rfl, q, _, 1, _, rfl, rfl, SqL.of upd_same, rfl, _, rfl, q, _, 2, _, rfl, rfl, SqL.of upd_same, rfl, _, rfl, q, _, 3, _, rfl, rfl, SqL.of upd_same, rfl, by show 4 ≤ sizeLine; decide, fun tp htp => ?_⟩
        have s9 := Same.new (o := .tup [.int r1, .bl (decide (V.int r2 = V.int 0)), .int r3, .bl (decide (0 < r4))]) htp
        have hR9 := s9 _ _ (s8 _ _ hR7)
        have hE9 : Each _ isT refs rows := (hE7.sameT s8).sameT s9
        refine ⟨R, refs, _, rfl, rfl, hR9, ?_, ?_⟩
        · rw [hE.1, hlen]
          exact Nat.lt_of_lt_of_le hi (Nat.le_trans sz48 (by decide))
        refine ⟨_, _, _, rows ++ [(r1, decide (V.int r2 = V.int 0), r3, decide (0 < r4))], rfl, ?_, ?_, upd_same, ?_, ?_, ?_⟩
        · refine StreamAt.at_ (n := n + 1 + 4 * i + 4) ?_ (by omega)
          exact ((S7.same s8).same s9).lst hR9 Ra Rl
        · intro c o ca cl e
          rw [upd_ne (ne_of_none e HR)]
          exact s9 _ _ (s8 _ _ ((kp3.trans kp37) c o ca cl e))
        · exact (hE9.imp fun c r q => q.lst hR9).push ((show isT _ tp (r1, decide (V.int r2 = V.int 0), r3, decide (0 < r4)) from upd_same).lst hR9)
        · rw [List.length_append, hlen]
          rfl
        · intro r hr
          rcases List.mem_append.mp hr with hr | hr
          · exact hok r hr
          · cases List.mem_singleton.mp hr
            exact ⟨⟨r10, r11⟩, r30, r31⟩
      · rintro σ' H' ⟨x4, x5, refs, rows, rfl, S3, kp3, hR, hE, hlen, hok⟩
        exact ⟨x4, x5, refs, rows, rfl, S3, kp3, hR, hE, hlen, hok⟩
    rintro _ H3 ⟨x4, x5, refs, rows, rfl, S3, kp3, hR, hE, hlen, hok⟩
    refine ⟨_, rfl, by show 1 ≤ sizeLine; decide, fun S hS => ⟨by show 3 ≤ sizeLine; decide, fun tp htp => ?_⟩⟩
    obtain ⟨Sa, Sl⟩ := S3.ne hS
    have s4 := Same.new (o := .lst [.int 0]) hS
    have s5 := Same.new (o := .tup [.ref R, .ref S, .int 1]) htp
    have HS : H S = none := by
      cases e : H S with
      | none => rfl
      | some o => have := kp3 S o Sa Sl e; rw [hS] at this; cases this
    refine kk tp R S refs rows _ _ upd_same (s5 _ _ (s4 _ _ hR)) ((hE.sameT s4).sameT s5) (s5 _ _ upd_same) ⟨by omega, by omega, ?_, .r1, ?_⟩ ((S3.same s4).same s5) (by omega) ((kp3.trans (Keep.of s4)).trans (Keep.of s5)) Ra Rl Sa Sl HR HS
    · intro r hr
      rw [hlen]
      exact hok r hr
    · intro z hz
      cases List.mem_singleton.mp hz
      omega
end
end PA

set_option maxHeartbeats 2000000
/-! what serves every row -/
namespace L2
open PySem PySem.Spec PyProof.Rows
/-- a list or a tuple -/
def Sq (K : PySem.W.Frag) (H : Hp) (a : Addr) (xs : List V) : Prop := SqL K H a xs ∨ SqT K H a xs
theorem SqT.up {K : PySem.W.Frag} {H H' : Hp} {a : Addr} {xs : List V} (h : SqT K H a xs) (e : Same H H') : SqT K H' a xs :=
  h.elim (fun h => .inl (h.elim (fun h => .inl (e _ _ h)) fun ⟨o, h⟩ => .inr ⟨o, e _ _ h⟩)) fun h => .inr h
theorem SqL.up {K : PySem.W.Frag} {H H' : Hp} {a : Addr} {xs : List V} (h : SqL K H a xs) (e : Same H H') : SqL K H' a xs :=
  h.elim (fun h => .inl (h.elim (fun h => .inl (e _ _ h)) fun ⟨o, h⟩ => .inr ⟨o, e _ _ h⟩)) fun h => .inr h
theorem Sq.up {K : PySem.W.Frag} {H H' : Hp} {a : Addr} {xs : List V} (h : Sq K H a xs) (e : Same H H') : Sq K H' a xs := h.imp (fun h => SqL.up h e) fun h => SqT.up h e
theorem walk_l {K : PySem.W.Frag} {a : Addr} {xs : List V} : Walk (Itl K a) xs.length (fun H => SqL K H a xs) (YAt xs) :=
  ⟨fun i H hi q => ⟨xs, xs[i], q, by simp [hi]⟩, fun H q => ⟨xs, q, Nat.le_refl _⟩, fun i H x H' hi q y => ⟨y.1, y.2 xs q⟩⟩
theorem walk_t {K : PySem.W.Frag} {a : Addr} {xs : List V} : Walk (Itt K a) xs.length (fun H => SqT K H a xs) (YAt xs) :=
  ⟨fun i H hi q => ⟨xs, xs[i], q, by simp [hi]⟩, fun H q => ⟨xs, q, Nat.le_refl _⟩, fun i H x H' hi q y => ⟨y.1, y.2 xs q⟩⟩
/-- how a value that is a list or a tuple of xs stands, as one of the two -/
inductive Kind where
  | l | t
def Sk (K : PySem.W.Frag) (k : Kind) (H : Hp) (a : Addr) (xs : List V) : Prop := match k with
  | .l => SqL K H a xs
  | .t => SqT K H a xs
theorem Sk.sq {K : PySem.W.Frag} {k : Kind} {H : Hp} {a : Addr} {xs : List V} (h : Sk K k H a xs) : Sq K H a xs := by
  cases k
  · exact .inl h
  · exact .inr h
theorem Sk.up {K : PySem.W.Frag} {k : Kind} {H H' : Hp} {a : Addr} {xs : List V} (h : Sk K k H a xs) (e : Same H H') : Sk K k H' a xs := by
  cases k
  · exact SqL.up h e
  · exact SqT.up h e
theorem Sq.kind {K : PySem.W.Frag} {H : Hp} {a : Addr} {xs : List V} (h : Sq K H a xs) : ∃ k, Sk K k H a xs := h.elim (fun h => ⟨.l, h⟩) fun h => ⟨.t, h⟩
def ItSq (K : PySem.W.Frag) (k : Kind) (a : Addr) : It := match k with
  | .l => Itl K a
  | .t => Itt K a
theorem walk_k {K : PySem.W.Frag} {k : Kind} {a : Addr} {xs : List V} : Walk (ItSq K k a) xs.length (fun H => Sk K k H a xs) (YAt xs) := by
  cases k
  · exact walk_l
  · exact walk_t
/-- a walk over a list or a tuple -/
def iSq (K : PySem.W.Frag) (tl : TE) : TI := fun σ H R => ∃ k : Kind, tl σ H fun x H1 => ∃ a, x = .ref a ∧ (∃ xs, Sk K k H1 a xs) ∧ R (ItSq K k a) H1
theorem pi_sq {X : Cx} {tg l : Expr} {tl : TE} (hl : PE X l tl) : PI X tg l (iSq X.K tl) := by
  refine ⟨fun pins s σ H R I ⟨k, h⟩ => ?_⟩
  cases k
  · exact (pi_list hl).run pins s σ H R I h
  · exact (pi_tup hl).run pins s σ H R I h
/-! ### comprehensions -/
section
variable {J : It} {n : Nat} {G : Hp → Prop} {xs : List V} {g : TG} {tt : TT} {te : TE} {vs : List Nat} {σ : L2.St} {H1 : Hp} {D : Addr} {Qd : Hp → Prop}
theorem new_ {H : Hp} {p : Addr} {o : HO} (hp : H p = none) : Same H (upd H p o) := fun b u e => by
  rw [upd_ne (ne_of_none e hp)]
  exact e
/-- all but D is as it was -/
def But (D : Addr) (H H' : Hp) : Prop := ∀ c o, c ≠ D → H c = some o → H' c = some o
/-- the values are made one after another, the heap of before stays -/
theorem lc_acc (w : Walk J n G (YAt xs)) (hn : n ≤ sizeLine) (hD : H1 D = none) (hG : ∀ H, Same H1 H → G H) (A : Nat → List V → Hp → Prop) (hl : ∀ i acc H, A i acc H → acc.length ≤ i) (A0 : A 0 [] (upd H1 D (.lst [])))
    (hs : ∀ (i : Nat) (x : V) (H : Hp) (acc : List V) (Φ : V → Hp → Prop) (Ψ : Hp → Prop), i < n → xs[i]? = some x → Same H1 H → H D = some (.lst acc) → A i acc H →
      (∀ y H4, Same H H4 → H4 D = some (.lst acc) → (∀ H5, H5 D = some (.lst (acc ++ [y])) → But D H4 H5 → But D H5 H4 → A (i + 1) (acc ++ [y]) H5) → Φ y H4) →
      g x (wipe σ vs) H fun σ2 H2 => wipe σ2 vs = wipe σ vs ∧ tt σ2 H2 fun b H3 => if b = true then te σ2 H3 Φ else Ψ H3)
    (hd : ∀ H acc, Same H1 H → H D = some (.lst acc) → A n acc H → Qd H) :
    ∃ W : Nat → Nat → Hp → Prop, (∃ m, W 0 m (upd H1 D (.lst []))) ∧ ∀ i m H, W i m H →
      (J.stop i H ∧ Qd H) ∨ (J.go i H ∧ ∃ Nx : Hp → Prop, (∀ H', Nx H' → ∃ m', m' < m ∧ W (i + 1) m' H') ∧ ∀ x H', J.yld i H x H' → g x (wipe σ vs) H' fun σ2 H2 => wipe σ2 vs = wipe σ vs ∧ tt σ2 H2 fun b H3 =>
        if b = true then te σ2 H3 fun y H4 => ∃ acc, H4 D = some (.lst acc) ∧ acc.length < sizeLine ∧ Nx (upd H4 D (.lst (acc ++ [y]))) else Nx H3) := by
  refine lc_it w (fun i H => Same H1 H ∧ ∃ acc, H D = some (.lst acc) ∧ A i acc H) ⟨new_ hD, [], upd_same, A0⟩ (fun i H _ p => hG H p.1) (fun i x H H' hi p y => ?_) fun H p => ?_
  · obtain ⟨rfl, hx⟩ := y
    obtain ⟨sm, acc, hd', ha⟩ := p
    refine hs i x _ acc _ _ hi hx sm hd' ha fun y H4 s4 d4 k => ⟨acc, d4, Nat.lt_of_lt_of_le (Nat.lt_of_le_of_lt (hl _ _ _ ha) hi) hn, fun c o e => ?_, acc ++ [y], upd_same, k _ upd_same (fun c o cd e => ?_) fun c o cd e => ?_⟩
    · rw [upd_ne (ne_of_none e hD)]
      exact s4 _ _ (sm _ _ e)
    · rw [upd_ne cd]
      exact e
    · rw [upd_ne cd] at e
      exact e
  · obtain ⟨sm, acc, hd', ha⟩ := p
    exact hd H acc sm hd' ha
/-- values that do not hang on the heap -/
theorem lc_same (w : Walk J n G (YAt xs)) (hn : n ≤ sizeLine) (hD : H1 D = none) (hG : ∀ H, Same H1 H → G H) (ys : List V) (hy : ys.length = n)
    (hs : ∀ (i : Nat) (x y : V) (H : Hp) (Φ : V → Hp → Prop) (Ψ : Hp → Prop), xs[i]? = some x → ys[i]? = some y → Same H1 H → (∀ H4, Same H H4 → Φ y H4) →
      g x (wipe σ vs) H fun σ2 H2 => wipe σ2 vs = wipe σ vs ∧ tt σ2 H2 fun b H3 => if b = true then te σ2 H3 Φ else Ψ H3)
    (hd : ∀ H, Same H1 H → H D = some (.lst ys) → Qd H) :
    ∃ W : Nat → Nat → Hp → Prop, (∃ m, W 0 m (upd H1 D (.lst []))) ∧ ∀ i m H, W i m H →
      (J.stop i H ∧ Qd H) ∨ (J.go i H ∧ ∃ Nx : Hp → Prop, (∀ H', Nx H' → ∃ m', m' < m ∧ W (i + 1) m' H') ∧ ∀ x H', J.yld i H x H' → g x (wipe σ vs) H' fun σ2 H2 => wipe σ2 vs = wipe σ vs ∧ tt σ2 H2 fun b H3 =>
        if b = true then te σ2 H3 fun y H4 => ∃ acc, H4 D = some (.lst acc) ∧ acc.length < sizeLine ∧ Nx (upd H4 D (.lst (acc ++ [y]))) else Nx H3) := by
  refine lc_acc w hn hD hG (fun i acc _ => acc = ys.take i) (fun i acc H e => by rw [e, List.length_take]; omega) (by rw [List.take_zero]) (fun i x H acc Φ Ψ hi hx sm hd' ha k => ?_) fun H acc sm hd' ha => hd H sm ?_
  · have hi' : i < ys.length := by omega
    have ey : ys[i]? = some ys[i] := List.getElem?_eq_getElem hi'
    refine hs i x ys[i] H Φ Ψ hx ey sm fun H4 s4 => k _ H4 s4 (s4 _ _ hd') fun H5 _ _ _ => ?_
    rw [ha, List.take_add_one, ey]
    rfl
  · rw [hd', ha, ← hy, List.take_length]
end
/-! ### x in an instance with the own method -/
section
variable {X : Cx} {CX : CXT} {k : Nat} {C f : Addr} {fd : FuncData} {ps : List Str} {sp : Sp} {E : XK}
theorem op_inOwn (hs : PySem.W.findIn X.K (.ref C) "__contains__" = some (some (.ref f))) (hf : PySem.W.isFn X.K (.ref f) = true) (F : FnOk X.prog X.w X.K X.mg X.base CX k f fd ps sp) (hr : Room k X.A) (hb : Binds X.K fd ps []) (hx : Passes CX X E) :
    OpR X (compareOp .In) (fun x y H Q => ∃ a dx fs, y = .ref a ∧ H a = some (.ins C dx fs) ∧ sp [.ref a, x] H (fun v H' => ∃ b, v = .bl b ∧ Q (.bl b) H') E) := by
  intro pins s σ H x y v u Q I rx ry h
  obtain ⟨a, dx, fs, rfl, ha, q⟩ := h
  cases ry
  obtain ⟨mA, J, _⟩ := ins_get I.hok ha
  obtain ⟨od, J, _⟩ := J.look
  obtain ⟨m, hF⟩ := I.fr
  refine PySem.W.in_K hF I.ok.mod.kin J hs hf ?_
  refine wpAny_mono (run_fn (us := [.ref a, v]) (vs := [.ref a, x]) F hr hb .nil hx I (.cons rfl (.cons rx .nil)) q) (fun w s' z => ?_) fun _ _ z => z
  obtain ⟨v', H', I', rv, b, rfl, q'⟩ := z
  cases rv
  exact wpAny_truthy_bool ⟨.bl b, H', I', rfl, q'⟩
theorem op_notInOwn (hs : PySem.W.findIn X.K (.ref C) "__contains__" = some (some (.ref f))) (hf : PySem.W.isFn X.K (.ref f) = true) (F : FnOk X.prog X.w X.K X.mg X.base CX k f fd ps sp) (hr : Room k X.A) (hb : Binds X.K fd ps []) (hx : Passes CX X E) :
    OpR X (compareOp .NotIn) (fun x y H Q => ∃ a dx fs, y = .ref a ∧ H a = some (.ins C dx fs) ∧ sp [.ref a, x] H (fun v H' => ∃ b, v = .bl b ∧ Q (.bl (!b)) H') E) := by
  intro pins s σ H x y v u Q I rx ry h
  obtain ⟨a, dx, fs, rfl, ha, q⟩ := h
  cases ry
  obtain ⟨mA, J, _⟩ := ins_get I.hok ha
  obtain ⟨od, J, _⟩ := J.look
  obtain ⟨m, hF⟩ := I.fr
  refine PySem.W.notIn_K hF I.ok.mod.kin J hs hf ?_
  refine wpAny_mono (run_fn (us := [.ref a, v]) (vs := [.ref a, x]) F hr hb .nil hx I (.cons rfl (.cons rx .nil)) q) (fun w s' z => ?_) fun _ _ z => z
  obtain ⟨v', H', I', rv, b, rfl, q'⟩ := z
  cases rv
  exact wpAny_truthy_bool ⟨.bl (!b), H', I', rfl, q'⟩
end
end L2

set_option maxHeartbeats 2000000
namespace L2
open PySem PySem.Spec PyProof.Rows RZ
/-! ### zip, slices of lists and tuples -/
theorem walk_zipT {K : PySem.W.Frag} {a b : Addr} {xs ys : List V} {n : Nat} (hn : n = min xs.length ys.length) : Walk (ItzT K a b) n (fun H => SqT K H a xs ∧ SqT K H b ys) (YPair (fun i => xs[i]?) (fun i => ys[i]?)) :=
  ⟨fun i H hi q => ⟨xs, ys, xs[i]'(by omega), ys[i]'(by omega), q.1, q.2, List.getElem?_eq_getElem _, List.getElem?_eq_getElem _⟩,
    fun H q => ⟨xs, ys, q.1, q.2, by omega⟩, fun i H v H' hi q y => by
      obtain ⟨T, x, y', rfl, hT, rfl, f1, f2⟩ := y
      exact ⟨T, x, y', rfl, hT, rfl, f1 xs q.1, f2 ys q.2⟩⟩
def ItZk (K : PySem.W.Frag) (k : Kind) (a b : Addr) : It := match k with
  | .l => Itz K a b
  | .t => ItzT K a b
theorem walk_zk {K : PySem.W.Frag} {k : Kind} {a b : Addr} {xs ys : List V} {n : Nat} (hn : n = min xs.length ys.length) : Walk (ItZk K k a b) n (fun H => Sk K k H a xs ∧ Sk K k H b ys) (YPair (fun i => xs[i]?) (fun i => ys[i]?)) := by
  cases k
  · exact walk_zip hn
  · exact walk_zipT hn
theorem zip_k {K : PySem.W.Frag} {k : Kind} {H : Hp} {a b : Addr} {xs ys : List V} {R : It → Hp → Prop} (ha : Sk K k H a xs) (hb : Sk K k H b ys) (h : R (ItZk K k a b) H) :
    (SqL K H a xs ∧ SqL K H b ys ∧ R (Itz K a b) H) ∨ (SqT K H a xs ∧ SqT K H b ys ∧ R (ItzT K a b) H) := by
  cases k
  · exact .inl ⟨ha, hb, h⟩
  · exact .inr ⟨ha, hb, h⟩
theorem cut_all {xs : List V} {lo hi : Option Int} (h : HT.sIx xs.length 0 lo = 0 ∧ HT.sIx xs.length xs.length hi = xs.length) : cutV xs lo hi = xs := by
  unfold cutV
  rw [h.1, h.2, List.drop_zero, Nat.sub_zero, List.take_length]
theorem sl_k {K : PySem.W.Frag} {k : Kind} {H : Hp} {a : Addr} {xs : List V} {lo hi : Option Int} {Q : V → Hp → Prop} (ha : Sk K k H a xs) (h : ∀ p H', Same H H' → Sk K k H' p (cutV xs lo hi) → Q (.ref p) H') :
    rSlL K (.ref a) lo hi H Q ∨ rSlA K (.ref a) lo hi H Q := by
  cases k
  · exact .inl ⟨a, xs, rfl, ha, fun p hp => h p _ (new_ hp) (SqL.of upd_same)⟩
  · exact .inr ⟨a, xs, rfl, ha, fun w => h a H (fun _ _ e => e) (by rw [cut_all w]; exact ha), fun _ p hp => h p _ (new_ hp) (SqT.of upd_same)⟩
theorem cut_1 (xs : List V) : cutV xs (some (1 : Int)) none = xs.drop 1 := by
  unfold cutV
  rw [show (1 : Int) = ((1 : Nat) : Int) from rfl, HT.sIx_nat, HT.sIx_none]
  rcases Nat.eq_zero_or_pos xs.length with h | h
  · have : xs = [] := List.length_eq_zero_iff.mp h
    subst this
    rfl
  · rw [Nat.min_eq_left h, List.take_of_length_le (by rw [List.length_drop]; exact Nat.le_refl _)]
theorem cut_to (xs : List V) (n : Nat) : cutV xs none (some (n : Int)) = xs.take n := by
  unfold cutV
  rw [HT.sIx_nat, HT.sIx_none, List.drop_zero, Nat.sub_zero]
  rcases Nat.le_total n xs.length with h | h
  · rw [Nat.min_eq_left h]
  · rw [Nat.min_eq_right h, List.take_length, List.take_of_length_le h]
/-! ### small words -/
theorem take_succ' {α : Type} {l : List α} {i : Nat} {x : α} (h : l[i]? = some x) : l.take (i + 1) = l.take i ++ [x] := by
  rw [List.take_add_one, h]
  rfl
theorem ifD_no {p A B : Prop} [Decidable p] (h : ¬ p) (q : B) : if decide p = true then A else B := by
  rw [decide_eq_false h]
  exact iteF q
theorem ifD_yes {p A B : Prop} [Decidable p] (h : p) (q : A) : if decide p = true then A else B := by
  rw [decide_eq_true h]
  exact iteT q
theorem ifD_2 {p A B : Prop} [Decidable p] (h1 : p → A) (h2 : ¬ p → B) : if decide p = true then A else B := by
  by_cases h : p
  · exact ifD_yes h (h1 h)
  · exact ifD_no h (h2 h)
theorem ifB_2 {b : Bool} {A B : Prop} (h1 : b = true → A) (h2 : b = false → B) : if b = true then A else B := by
  cases b
  · exact iteF (h2 rfl)
  · exact iteT (h1 rfl)
theorem Same.none {H H' : Hp} {x : Addr} (s : Same H H') (h : H' x = Option.none) : H x = Option.none := by
  cases e : H x with
  | none => rfl
  | some o => rw [s _ _ e] at h; cases h
theorem all_true (n : Nat) : (List.replicate n true).all id = true := by
  rw [List.all_eq_true]
  intro x hx
  rw [(List.mem_replicate.mp hx).2]
  rfl
theorem boot_isi : bootBuiltins "isinstance" = some (.builtin "isinstance") := by decide +kernel
theorem boot_int' : bootBuiltins "int" = some (.type "int") := by decide +kernel
theorem boot_bool' : bootBuiltins "bool" = some (.type "bool") := by decide +kernel
theorem boot_tuple' : bootBuiltins "tuple" = some (.type "tuple") := by decide +kernel
theorem boot_list' : bootBuiltins "list" = some (.type "list") := by decide +kernel
theorem boot_all' : bootBuiltins "all" = some (.builtin "all") := by decide +kernel
structure Df (K : PySem.W.Frag) (mg : Str → Option Value) (x : Str) (st : Stmt) (f : Addr) (fd : FuncData) (ps : List Str) : Prop where
  F : Fun K x x st f fd
  B : Binds K fd ps []
  M : mg x = some (.ref f)
def rTupK (K : PySem.W.Frag) : List V → Hp → (V → Hp → Prop) → Prop := fun xs H Q => ∃ p ys, xs = [.ref p] ∧ ((SqL K H p ys ∧ ∀ l, H l = none → Q (.ref l) (upd H l (.tup ys))) ∨ (SqT K H p ys ∧ Q (.ref p) H))
theorem call_tupleK {X : Cx} {K : PySem.W.Frag} (h : X.K = K) : CallR X (.type "tuple") (rTupK K) := h ▸ call_tuple_of
def rLstK (K : PySem.W.Frag) : List V → Hp → (V → Hp → Prop) → Prop := fun xs H Q => ∃ p ys, xs = [.ref p] ∧ (SqL K H p ys ∨ SqT K H p ys) ∧ ∀ l, H l = none → Q (.ref l) (upd H l (.lst ys))
theorem call_listK {X : Cx} {K : PySem.W.Frag} (h : X.K = K) : CallR X (.type "list") (rLstK K) := h ▸ call_list_of
def rLenK (K : PySem.W.Frag) : List V → Hp → (V → Hp → Prop) → Prop := fun xs H Q => ∃ p ys, xs = [.ref p] ∧ (SqL K H p ys ∨ SqT K H p ys) ∧ Q (.int ys.length) H
theorem call_lenK {X : Cx} {K : PySem.W.Frag} (h : X.K = K) : CallR X (.builtin "len") (rLenK K) := h ▸ call_len_seq
def rIxTK (K : PySem.W.Frag) : R2 := fun x y H Q => ∃ p xs i v, x = .ref p ∧ y = .int i ∧ SqT K H p xs ∧ atI xs i = some v ∧ Q v H
theorem ix_tupK {X : Cx} {K : PySem.W.Frag} (h : X.K = K) : IxR X (rIxTK K) := h ▸ ix_tup
/-! ### what stands at each place of a list of references -/
def Ea {α : Type} (H : Hp) (P : Hp → Addr → α → Prop) (xs : List V) (ds : List α) : Prop := xs.length = ds.length ∧ ∀ (i : Nat) (x : V) (r : α), xs[i]? = some x → ds[i]? = some r → ∃ c, x = .ref c ∧ P H c r
section
variable {α : Type} {H H' : Hp} {P P' : Hp → Addr → α → Prop} {xs ys : List V} {ds es : List α} {c : Addr} {r : α}
theorem Ea.imp (e : Ea H P xs ds) (f : ∀ c r, P H c r → P' H' c r) : Ea H' P' xs ds := ⟨e.1, fun i x r h1 h2 => let ⟨c, hx, q⟩ := e.2 i x r h1 h2; ⟨c, hx, f c r q⟩⟩
theorem Ea.nil : Ea H P [] [] := ⟨rfl, fun i x r h _ => by simp at h⟩
theorem Ea.append (e : Ea H P xs ds) (e' : Ea H P ys es) : Ea H P (xs ++ ys) (ds ++ es) := by
  refine ⟨by rw [List.length_append, List.length_append, e.1, e'.1], fun i x r h1 h2 => ?_⟩
  rcases Nat.lt_or_ge i xs.length with hi | hi
  · rw [List.getElem?_append_left hi] at h1
    rw [List.getElem?_append_left (by rw [← e.1]; exact hi)] at h2
    exact e.2 i x r h1 h2
  · rw [List.getElem?_append_right hi] at h1
    rw [List.getElem?_append_right (by rw [← e.1]; exact hi), ← e.1] at h2
    exact e'.2 _ x r h1 h2
theorem Ea.one (q : P H c r) : Ea H P [.ref c] [r] := by
  refine ⟨rfl, fun i x r' h1 h2 => ?_⟩
  match i, h1, h2 with
  | 0, h1, h2 =>
    cases h1
    cases h2
    exact ⟨c, rfl, q⟩
  | (j + 1), h1, _ => simp at h1
theorem Ea.push (e : Ea H P xs ds) (q : P H c r) : Ea H P (xs ++ [.ref c]) (ds ++ [r]) := e.append (.one q)
theorem Ea.get (e : Ea H P xs ds) {i : Nat} {r : α} (h : ds[i]? = some r) : ∃ c, xs[i]? = some (.ref c) ∧ P H c r := by
  have hi : i < xs.length := by rw [e.1]; exact (List.getElem?_eq_some_iff.mp h).1
  obtain ⟨c, hc, q⟩ := e.2 i _ r (List.getElem?_eq_getElem hi) h
  exact ⟨c, by rw [List.getElem?_eq_getElem hi, hc], q⟩
theorem Ea.at_ (e : Ea H P xs ds) {i : Nat} {x : V} (h : xs[i]? = some x) : ∃ c r, x = .ref c ∧ ds[i]? = some r ∧ P H c r := by
  have hi : i < ds.length := by rw [← e.1]; exact (List.getElem?_eq_some_iff.mp h).1
  obtain ⟨c, hc, q⟩ := e.2 i _ _ h (List.getElem?_eq_getElem hi)
  exact ⟨c, _, hc, List.getElem?_eq_getElem hi, q⟩
end
/-- a tuple at c of what r is written as -/
def TupOf {α : Type} (f : α → List V) (H : Hp) (c : Addr) (r : α) : Prop := H c = some (.tup (f r))
section
variable {α : Type} {f : α → List V} {H H' : Hp} {xs : List V} {ds : List α} {c p C dx : Addr} {r : α}
theorem TupOf.lst {ys zs : List V} (q : TupOf f H c r) (hD : H p = some (.lst ys)) : TupOf f (upd H p (.lst zs)) c r := by
  unfold TupOf
  rw [upd_ne (ne_of (H := H) q hD (by intro z; cases z))]
  exact q
theorem TupOf.ins {fs : List (Str × V)} {o : HO} (q : TupOf f H c r) (hp : H p = some (.ins C dx fs)) : TupOf f (upd H p o) c r := by
  unfold TupOf
  rw [upd_ne (ne_of (H := H) q hp (by intro z; cases z))]
  exact q
theorem TupOf.but {ys : List V} (q : TupOf f H c r) (hD : H p = some (.lst ys)) (b : But p H H') : TupOf f H' c r := b _ _ (ne_of (H := H) q hD (by intro z; cases z)) q
theorem Ea.same (e : Ea H (TupOf f) xs ds) (s : Same H H') : Ea H' (TupOf f) xs ds := e.imp fun c r q => s _ _ q
end
end L2

set_option maxHeartbeats 4000000
/-! zip and enumerate over lists and tuples in any mix -/
namespace L2
open PySem PySem.Spec PyProof.Rows RZ
def IterK (k : Kind) (h : Heap) (it a : Addr) (i : Nat) : Prop := match k with
  | .l => h.IsListIter it a i
  | .t => h.IsTupleIter it a i
def SeqK (k : Kind) (h : Heap) (a : Addr) (its : Array Value) : Prop := match k with
  | .l => h.IsList a its
  | .t => h.IsTuple a its
def begO (k : Kind) (a : Addr) : Obj := match k with
  | .l => { cls := .type "list_iterator", data := .fields #[.ref a, .int 0 0] }
  | .t => { cls := .type "tuple_iterator", data := .fields #[.ref a, .int 0 0] }
theorem begins_k (k : Kind) (a : Addr) (its : Array Value) : Begins (.ref a) (begO k a) fun h => SeqK k h a its := by
  cases k
  · exact begins_list a its
  · exact begins_tuple a its
theorem iter_0 {k : Kind} {h : Heap} {it a : Addr} (e : h.get? it = some (begO k a)) : IterK k h it a 0 := by
  cases k
  · exact ⟨_, e, rfl, rfl⟩
  · exact ⟨_, e, rfl, rfl⟩
theorem iterK_at {k : Kind} {h h' : Heap} {it a : Addr} {i : Nat} (x : IterK k h it a i) (e : ∀ o, h.get? it = some o → h'.get? it = some o) : IterK k h' it a i := by
  cases k
  · exact x.at e
  · exact x.at e
theorem iterK_obj {k : Kind} {h : Heap} {it a : Addr} {i : Nat} (x : IterK k h it a i) : ∃ o, h.get? it = some o ∧ ∀ v, o.data ≠ .cell v := by
  cases k
  · obtain ⟨o, e, _, d⟩ := x
    exact ⟨o, e, fun v z => by rw [d] at z; cases z⟩
  · obtain ⟨o, e, _, d⟩ := x
    exact ⟨o, e, fun v z => by rw [d] at z; cases z⟩
theorem seqK_lt {k : Kind} {h : Heap} {a : Addr} {its : Array Value} (x : SeqK k h a its) : a < h.objs.size := by
  cases k
  · obtain ⟨o, e, _⟩ := x; exact Heap.lt_size e
  · obtain ⟨o, e, _⟩ := x; exact Heap.lt_size e
theorem draws_k {P : Program} {w : World} {A : Around} (k : Kind) (hh : A.handled = none) (it a : Addr) (hne : a ≠ it) (its : Array Value) :
    Draws P w A it [it, a] its.size (fun i v => its[i]? = some v) (fun i h => IterK k h it a i ∧ SeqK k h a its) := by
  cases k
  · exact Draws.list hh it a hne its
  · exact Draws.tuple hh it a hne its
theorem seq_k {X : Cx} {pins : List (Addr × Obj)} {σ : L2.St} {H : Hp} {s : Shared} {k : Kind} {a : Addr} {xs : List V} (I : Inv X pins σ H s) (h : Sk X.K k H a xs) : ∃ its : List Value, Vals xs its ∧ SeqK k s.heap a its.toArray := by
  cases k
  · obtain ⟨its, r, p, _⟩ := I.list h
    exact ⟨its, r, p.isList⟩
  · obtain ⟨its, r, p, _⟩ := I.tuple h
    exact ⟨its, r, p⟩
theorem sk_inj {X : Cx} {pins : List (Addr × Obj)} {σ : L2.St} {H : Hp} {s : Shared} {k : Kind} {a : Addr} {xs ys : List V} (I : Inv X pins σ H s) (h : Sk X.K k H a xs) (h' : Sk X.K k H a ys) : xs = ys := by
  cases k
  · exact I.list_inj h h'
  · exact I.tuple_inj h h'
/-! ### zip -/
def ItM (K : PySem.W.Frag) (k1 k2 : Kind) (a b : Addr) : It :=
  ⟨fun i H => ∃ (xs ys : List V), Sk K k1 H a xs ∧ Sk K k2 H b ys ∧ i < xs.length ∧ i < ys.length,
    fun i H v H' => ∃ T x y, v = .ref T ∧ H T = none ∧ H' = upd H T (.tup [x, y]) ∧ (∀ xs, Sk K k1 H a xs → xs[i]? = some x) ∧ ∀ ys, Sk K k2 H b ys → ys[i]? = some y,
    fun i H => ∃ (xs ys : List V), Sk K k1 H a xs ∧ Sk K k2 H b ys ∧ i ≤ xs.length ∧ i ≤ ys.length ∧ (i = xs.length ∨ i = ys.length)⟩
theorem walk_m {K : PySem.W.Frag} {k1 k2 : Kind} {a b : Addr} {xs ys : List V} {n : Nat} (hn : n = min xs.length ys.length) : Walk (ItM K k1 k2 a b) n (fun H => Sk K k1 H a xs ∧ Sk K k2 H b ys) (YPair (fun i => xs[i]?) (fun i => ys[i]?)) :=
  ⟨fun i H hi q => ⟨xs, ys, q.1, q.2, by omega, by omega⟩, fun H q => ⟨xs, ys, q.1, q.2, by omega, by omega, by omega⟩, fun i H v H' hi q y => by
    obtain ⟨T, x, z, rfl, hT, rfl, f1, f2⟩ := y
    exact ⟨T, x, z, rfl, hT, rfl, f1 xs q.1, f2 ys q.2⟩⟩
theorem turn_m {P : Program} {w : World} {K : PySem.W.Frag} {k1 k2 : Kind} {elts : List Expr} {kk : Nat} {tpos : Pos} {a b z TI TO i1 i2 : Addr} (S : ZipSep2 z TI TO i1 i2 [i1, a] [i2, b]) (na : a ≠ i1) (nb : b ≠ i2) :
    Turn P w K (.Tuple elts kk tpos) (ItM K k1 k2 a b) [z, TI, TO, i1, i2] z (fun i h => IsZip h z TI TO .none ∧ IsTupOf2 h TI (.ref i1) (.ref i2) ∧ (∃ x y, IsTupOf2 h TO x y) ∧ IterK k1 h i1 a i ∧ IterK k2 h i2 b i) where
  mem := List.mem_cons_self
  obj := fun i h st c hc => by
    obtain ⟨g1, g2, ⟨x, y, g3⟩, g4, g5⟩ := st
    simp only [List.mem_cons, List.not_mem_nil, or_false] at hc
    rcases hc with rfl | rfl | rfl | rfl | rfl
    · exact ⟨_, g1, fun v e => by cases e⟩
    · exact ⟨_, g2, fun v e => by cases e⟩
    · exact ⟨_, g3, fun v e => by cases e⟩
    · exact iterK_obj g4
    · exact iterK_obj g5
  keep := fun i h h' st kp => by
    obtain ⟨g1, g2, ⟨x, y, g3⟩, g4, g5⟩ := st
    exact ⟨kp z (by simp) _ g1, kp TI (by simp) _ g2, ⟨x, y, kp TO (by simp) _ g3⟩, iterK_at g4 fun o e => kp i1 (by simp) o e, iterK_at g5 fun o e => kp i2 (by simp) o e⟩
  item := by
    intro X eP ew eK calm i pins s σ H E I own st go
    subst eP ew eK
    obtain ⟨g1, g2, ⟨x0, y0, g3⟩, g4, g5⟩ := st
    obtain ⟨xs, ys, qx, qy, lx, ly⟩ := go
    obtain ⟨us, ru, pu⟩ := seq_k I qx
    obtain ⟨vs, rv, pv⟩ := seq_k I qy
    have hu := ru.length
    have hv := rv.length
    have zlt : z < s.heap.objs.size := Heap.lt_size g1
    have D1 := draws_k (P := X.prog) (w := X.w) (A := X.A.in1) k1 (I.ok.hd calm) i1 a na us.toArray
    have D2 := draws_k (P := X.prog) (w := X.w) (A := X.A.in1) k2 (I.ok.hd calm) i2 b nb vs.toArray
    refine wpAny_pyNext_zipD2_item S D1 D2 g1 g2 g3 ⟨g4, pu⟩ ⟨g5, pv⟩ (by simp; omega) (by simp; omega) fun x1 x2 h' tk px py z' t' s1 s2 nt hsz kp => ?_
    obtain ⟨v1, e1, r1⟩ : ∃ v1, xs[i]? = some v1 ∧ RelV v1 x1 := by
      have ex : xs[i]? = some xs[i] := List.getElem?_eq_getElem lx
      obtain ⟨u, hu', ru'⟩ := ru.get ex
      have : u = x1 := by
        have px' : us[i]? = some x1 := by simpa using px
        rw [hu'] at px'
        exact Option.some.inj px'
      exact ⟨_, ex, this ▸ ru'⟩
    obtain ⟨v2, e2, r2⟩ : ∃ v2, ys[i]? = some v2 ∧ RelV v2 x2 := by
      have ey : ys[i]? = some ys[i] := List.getElem?_eq_getElem ly
      obtain ⟨u, hu', ru'⟩ := rv.get ey
      have : u = x2 := by
        have py' : vs[i]? = some x2 := by simpa using py
        rw [hu'] at py'
        exact Option.some.inj py'
      exact ⟨_, ey, this ▸ ru'⟩
    refine ⟨_, rfl, wpAny_letOwnedTupleGo_zip (s := { s with heap := h', toks := tk }) z' fun g z'' sb => ?_⟩
    have nt2 : g.get? s.heap.objs.size = some { cls := .type "tuple", data := .seq #[x1, x2] } := (sb.2 _ (Nat.ne_of_gt zlt)).trans nt
    have ob : ObjOk X.prog X.w (upd H s.heap.objs.size (.tup [v1, v2])) g s.heap.objs.size (.tup [v1, v2]) :=
      ⟨by show 2 ≤ sizeLine; decide, [x1, x2], .cons r1 (.cons r2 .nil), _, nt2, rfl, _, rfl⟩
    have all : ∀ c o, ¬ c ∈ [z, TI, TO, i1, i2] → s.heap.get? c = some o → g.get? c = some o := fun c o hn e => by
      simp only [List.mem_cons, List.not_mem_nil, or_false, not_or] at hn
      exact (sb.2 c hn.1).trans (kp c o hn.1 hn.2.2.1 hn.2.2.2.1 hn.2.2.2.2 e)
    have J := I.turnedNew (t' := tk) (ch := [z, TI, TO, i1, i2]) all own (Nat.le_refl _) ob
    have sz1 := S.zf1
    have sz2 := S.zf2
    simp only [List.mem_cons, List.not_mem_nil, or_false, not_or] at sz1 sz2
    refine ⟨.ref s.heap.objs.size, _, J, rfl, ⟨_, v1, v2, rfl, I.hok.fresh (Nat.le_refl _), rfl, fun l hl => by rw [sk_inj I hl qx]; exact e1, fun l hl => by rw [sk_inj I hl qy]; exact e2⟩, ⟨z'', ?_, ⟨x1, x2, ?_⟩, ?_, ?_⟩, fun c hc => ?_⟩
    · have := (sb.2 TI S.TIz).trans (kp TI _ S.TIz S.TITO S.TIi1 S.TIi2 g2)
      exact this
    · exact (sb.2 TO S.TOz).trans t'
    · exact iterK_at s1.1 fun o e => (sb.2 i1 (fun q => sz1.1 q.symm)).trans e
    · exact iterK_at s2.1 fun o e => (sb.2 i2 (fun q => sz2.1 q.symm)).trans e
    · have clt : c < s.heap.objs.size := by
        simp only [List.mem_cons, List.not_mem_nil, or_false] at hc
        rcases hc with rfl | rfl | rfl | rfl | rfl
        · exact zlt
        · exact Heap.lt_size g2
        · exact Heap.lt_size g3
        · obtain ⟨_, e, _⟩ := iterK_obj g4; exact Heap.lt_size e
        · obtain ⟨_, e, _⟩ := iterK_obj g5; exact Heap.lt_size e
      rw [upd_ne (Nat.ne_of_lt clt)]
      exact (own c hc).1
  done := by
    intro X eP ew eK calm i pins s σ H E I own st go
    subst eP ew eK
    obtain ⟨g1, g2, ⟨x0, y0, g3⟩, g4, g5⟩ := st
    obtain ⟨xs, ys, qx, qy, lx, ly, le⟩ := go
    obtain ⟨us, ru, pu⟩ := seq_k I qx
    obtain ⟨vs, rv, pv⟩ := seq_k I qy
    have hu := ru.length
    have hv := rv.length
    have D1 := draws_k (P := X.prog) (w := X.w) (A := X.A.in1) k1 (I.ok.hd calm) i1 a na us.toArray
    have D2 := draws_k (P := X.prog) (w := X.w) (A := X.A.in1) k2 (I.ok.hd calm) i2 b nb vs.toArray
    refine wpAny_pyNext_zipD2_end S D1 D2 g1 g2 g3 ⟨g4, pu⟩ ⟨g5, pv⟩ (by simp; omega) (by simp; omega) (by simp; omega) fun h' tk kp => ⟨rfl, ?_⟩
    refine I.turnedL (t' := tk) (ch := [z, TI, TO, i1, i2]) (fun c o hn e => ?_) own
    simp only [List.mem_cons, List.not_mem_nil, or_false, not_or] at hn
    exact kp c o hn.1 hn.2.2.1 hn.2.2.2.1 hn.2.2.2.2 e
  self := fun A i s Q E st h => wpAny_pyIter_zip st.1 h
/-- zip of a list or a tuple with a list or a tuple -/
def iZipM (K : PySem.W.Frag) (ta : TA) : TI := fun σ H R => ta σ H fun vs H1 => ∃ k1 k2 a b xs ys, vs = [.ref a, .ref b] ∧ Sk K k1 H1 a xs ∧ Sk K k2 H1 b ys ∧ R (ItM K k1 k2 a b) H1
theorem pi_zipM {X : Cx} {e e2 : Expr} {ta : TA} {p pos tpos : Pos} {elts : List Expr} {kk : Nat} (hg : Gl X "zip") (hm : X.mg "zip" = none) (ha : PA X [e, e2] ta)
    (hs : starEach [e, e2] X.env = (false, eval e X.env) :: starEach [e2] X.env := by rfl) (hpl : (backTo pos (starEach [e2] X.env)).any (·.1) = false := by rfl) :
    PI X (.Tuple elts kk tpos) (.Call (.Name "zip" p) [e, e2] [] pos) (iZipM X.K ta) := by
  refine ⟨fun pins s σ H R I h => Call_ (ld_blt I hg hm PyProof.Rows.boot_zip (PyProof.Rows.callWith_type1 (thn (ha.run pos pins s σ H _ I h) fun us t q => ?_) hs hpl))⟩
  obtain ⟨vs, G, J, r1, k1, k2, a, b, xs, ys, ev, qx, qy, q⟩ := q
  subst ev
  cases r1 with
  | cons ra rr =>
    cases rr with
    | cons rb rr =>
      cases rr
      cases ra
      cases rb
      obtain ⟨us, ru, pu⟩ := seq_k J qx
      obtain ⟨ws, rw_, pw⟩ := seq_k J qy
      have la := seqK_lt pu
      have lb := seqK_lt pw
      generalize hN : t.heap.objs.size = N at la lb
      refine zip_begins2 (begins_k k1 a us.toArray) (begins_k k2 b ws.toArray) pu pw fun h' g1 g2 g3 g4 g5 hsz kp => wpAny_pyIter_zip g1 ?_
      rw [hN] at g1 g2 g3 g4 g5
      rw [hN]
      have J2 : Inv X pins σ G { t with heap := h' } := J.kept (t' := t.toks) kp
      have S : ZipSep2 (N + 4) (N + 2) (N + 3) N (N + 1) [N, a] [N + 1, b] :=
        zip_sep2 (fp1 := [a]) (fp2 := [b]) (fun c hc => by rw [List.mem_singleton.mp hc]; exact la) (fun c hc => by rw [List.mem_singleton.mp hc]; exact lb)
      refine ⟨N + 4, [N + 4, N + 2, N + 3, N, N + 1], _, _, G, rfl, J2, turn_m (k1 := k1) (k2 := k2) S (Nat.ne_of_lt la) (Nat.ne_of_lt (Nat.lt_succ_of_lt lb)), ⟨g1, g2, ⟨_, _, g3⟩, iter_0 g4, iter_0 g5⟩, fun c hc => ?_, q⟩
      have le : t.heap.objs.size ≤ c := by
        rw [hN]
        simp only [List.mem_cons, List.not_mem_nil, or_false] at hc
        rcases hc with h1 | h1 | h1 | h1 | h1 <;> rw [h1]
        · exact Nat.le_add_right N 4
        · exact Nat.le_add_right N 2
        · exact Nat.le_add_right N 3
        · exact Nat.le_refl N
        · exact Nat.le_add_right N 1
      exact J.fpOk le (J.hok.fresh le)
end L2

set_option maxHeartbeats 2000000
namespace PLow
open PySem PySem.W PySem.Calls PyProof.Rows
section
variable {prog : Program} {w : World} {A : Around} {E : Value → Shared → Prop} {s : Shared} {K : Frag} {x C L f : Addr} {h₀ : Heap} {m : Str → Option Value} {ox : Obj} {od : Option Obj}
theorem mul_declinesB {b : Bool} {R : PySem.Fin → Shared → Prop} (ho : s.heap.get? x = some ox) (hd : ∀ v, ox.data ≠ .prim v) (h : R (.done (.ret .notImplemented)) s) :
    wpAny (model prog w) A (Builtin.«int.__mul__» ⟨[Value.bool b, Value.ref x], []⟩) R E s := by
  obtain ⟨hp, g, d, tk, os⟩ := s
  wp_walk
  split
  · rename_i e
    exact absurd e (hd _)
  · wp_walk
    exact h
theorem rbinB {op : Operator} {id : String} {b : Bool} {B : Builtin} {Q : Value → Shared → Prop} {g : Addr} (F : Fr h₀ L s.heap m) (X₀ : K.In h₀) (I : InstAt s.heap x ox C od) (hc : selfFirst K C = true)
    (hs : findIn K (.ref C) (PySem.dunder op.info.2) = some (some (.ref g))) (hr : findIn K (.ref C) (dunderR op.info.2) = some (some (.ref f))) (hf : isFn K (.ref f) = true)
    (hfT : fillsNumberSlot (.type "bool") op.info.2 = pure true) (hsub : subIn K (.ref C) (.type "bool") = some false)
    (slot : Slot "bool" (PySem.dunder op.info.2) id) (entry : entryFor table id = some B) (args : argsOk id ⟨[Value.bool b, .ref x], []⟩)
    (dec : ∀ (A : Around) (E : Value → Shared → Prop) (R : PySem.Fin → Shared → Prop), R (.done (.ret .notImplemented)) s → wpAny (model prog w) A (B ⟨[Value.bool b, .ref x], []⟩) R E s)
    (h : wpAny (model prog w) A (call (.ref f) [.ref x, .bool b]) (PySem.W.CmpBack Q) E s) : wpAny (model prog w) A (binaryOp op (.bool b) (.ref x)) Q E s := by
  have X := X₀.keeps F.keep
  obtain ⟨cd, rest, hcd, hm⟩ := ksp_first hc
  rcases hi : op.info with ⟨sym, nm'⟩
  rw [hi] at hs hr hfT slot
  dsimp only at hs hr hfT slot
  have one := ksp_try X I hr hf h
  have L0 : Looks (model prog w) s.heap (typeOf (.bool b)) (.type "bool") := Looks.of_pure rfl
  have L1 : Looks (model prog w) s.heap (typeOf (.ref x)) (.ref C) := I.type
  have L3 : Looks (model prog w) s.heap (fillsNumberSlot (.ref C) nm') true := fills_K X hcd hm hs
  have L5 : Looks (model prog w) s.heap (isSubtype (.ref C) (.type "bool")) false := looks_subIn X hsub
  have hne : (Value.type "bool" == Value.ref C) = false := Bool.eq_false_iff.mpr fun q => by cases beq_iff_eq.mp q
  have hpy : numberSlotInPython (.type "bool") nm' = pure false := rfl
  simp only [binaryOp, hi]
  refine wpAny_holding (wpAny_bind ?_)
  unfold binaryOp1
  refine wpAny_bind (L0.here (wpAny_bind (L1.here (wpAny_bind (wpAny_of_eq hfT ?_)))))
  simp only [hne, Bool.false_eq_true, if_false]
  refine wpAny_bind (L3.here ?_)
  simp only [Bool.and_self, if_true]
  refine wpAny_bind (L5.here ?_)
  simp only [Bool.false_eq_true, if_false, pure_bind, Bool.not_false, Bool.and_self, if_true, hpy]
  refine wpAny_bind (wpAny_tryMethod_declines (id := id) (PyProof.Rows.typeIs_bool s b) slot ?_)
  refine GQ.call_here slot (PyProof.Rows.typeIs_bool s b) entry args (dec _ _ _ ?_)
  refine ⟨rfl, ?_⟩
  refine wpAny_bind (wpAny_mono one (fun r s' hr' => ?_) fun _ _ e => e)
  obtain ⟨v, rfl, hq⟩ := hr'
  dsimp only
  exact wpAny_bind (wpAny_rule (wpAny_pure (wpAny_pure hq)))
end
end PLow
namespace L2
open PySem PySem.Spec PyProof.Rows
/-- what an own operator asks of bools -/
structure OwnB (K : PySem.W.Frag) (C : Addr) (op : Operator) : Prop where
  h1 : ∃ fo, PySem.W.findIn K (.type "bool") (PySem.dunder op.info.2) = some fo
  h2 : ∃ ro, PySem.W.findIn K (.type "bool") (dunderR op.info.2) = some ro
  sub : PySem.W.subIn K (.type "bool") (.ref C) = some false
  sub' : PySem.W.subIn K (.ref C) (.type "bool") = some false
section
variable {X : Cx} {CX : CXT} {k : Nat} {C f g : Addr} {fd : FuncData} {ps : List Str} {sp : Sp} {E : XK} {op : Operator}
/-- x op b, b True or False -/
theorem op_ownIB (O : OwnOp X.K C f g op) (OB : OwnB X.K C op)
    (F : FnOk X.prog X.w X.K X.mg X.base CX k f fd ps sp) (hr : Room k X.A) (hb : Binds X.K fd ps []) (hx : Passes CX X E) :
    OpR X (binaryOp op) (fun x y H Q => ∃ a i dx fs, x = .ref a ∧ y = .bl i ∧ H a = some (.ins C dx fs) ∧ sp [.ref a, .bl i] H Q E) := by
  intro pins s σ H x y v u Q I rx ry h
  obtain ⟨a, i, dx, fs, rfl, rfl, ha, q⟩ := h
  cases rx
  cases ry
  obtain ⟨mA, J, _⟩ := ins_get I.hok ha
  obtain ⟨od, J, _⟩ := J.look
  obtain ⟨m, hF⟩ := I.fr
  obtain ⟨fo, h1⟩ := OB.h1
  obtain ⟨ro, h2⟩ := OB.h2
  refine PySem.W.ksp_binT hF I.ok.mod.kin J rfl O.first O.at_ O.fn O.ar (.inr ⟨_, rfl⟩) h1 h2 OB.sub ?_
  exact wpAny_mono (run_fn (us := [.ref a, .bool i]) (vs := [.ref a, .bl i]) F hr hb .nil hx I (.cons rfl (.cons rfl .nil)) q) (fun _ _ z => cmpBack_of z) fun _ _ z => z
/-- b op x, b True or False: the reflected method, F of g -/
theorem op_ownLB {id : String} {B : Builtin} (O : OwnOp X.K C f g op) (OB : OwnB X.K C op) (hfT : fillsNumberSlot (.type "bool") op.info.2 = pure true)
    (slot : PySem.Slot "bool" (PySem.dunder op.info.2) id) (entry : entryFor table id = some B) (args : ∀ i x, argsOk id ⟨[Value.bool i, .ref x], []⟩)
    (dec : ∀ (i : Bool) (x : Addr) (ox : Obj) (s : Shared), s.heap.get? x = some ox → (∀ v, ox.data ≠ .prim v) → ∀ (A : Around) (E : Value → Shared → Prop) (R : PySem.Fin → Shared → Prop), R (.done (.ret .notImplemented)) s →
      wpAny (model X.prog X.w) A (B ⟨[Value.bool i, .ref x], []⟩) R E s)
    (F : FnOk X.prog X.w X.K X.mg X.base CX k g fd ps sp) (hr : Room k X.A) (hb : Binds X.K fd ps []) (hx : Passes CX X E) :
    OpR X (binaryOp op) (fun x y H Q => ∃ a i dx fs, x = .bl i ∧ y = .ref a ∧ H a = some (.ins C dx fs) ∧ sp [.ref a, .bl i] H Q E) := by
  intro pins s σ H x y v u Q I rx ry h
  obtain ⟨a, i, dx, fs, rfl, rfl, ha, q⟩ := h
  cases rx
  cases ry
  obtain ⟨mA, J, _⟩ := ins_get I.hok ha
  have ho := J.obj
  obtain ⟨od, J, _⟩ := J.look
  obtain ⟨m, hF⟩ := I.fr
  refine PLow.rbinB hF I.ok.mod.kin J O.first O.at_ O.ar O.fr hfT OB.sub' slot entry (args _ _) (dec i a _ s ho (fun v z => by simp [PySem.W.instObj] at z)) ?_
  exact wpAny_mono (run_fn (us := [.ref a, .bool i]) (vs := [.ref a, .bl i]) F hr hb .nil hx I (.cons rfl (.cons rfl .nil)) q) (fun _ _ z => cmpBack_of z) fun _ _ z => z
end
end L2

set_option maxHeartbeats 2000000
namespace PLow
open PySem PySem.W PySem.Calls PyProof.Rows
section
variable {prog : Program} {w : World} {A : Around} {E : Value → Shared → Prop} {s : Shared} {K : Frag} {x C L f : Addr} {h₀ : Heap} {m : Str → Option Value} {ox : Obj} {od : Option Obj}
/-- bool(x) by the own method -/
theorem bool_own {Q : Value → Shared → Prop} (F : Fr h₀ L s.heap m) (X₀ : K.In h₀) (I : InstAt s.heap x ox C od) (hs : findIn K (.ref C) "__bool__" = some (some (.ref f))) (hf : isFn K (.ref f) = true)
    (h : wpAny (model prog w) A.in1.in1 (call (.ref f) [.ref x]) (PySem.W.BoolBack fun b s' => Q (.bool b) s') E s) : wpAny (model prog w) A (call (.type "bool") [.ref x]) Q E s := by
  refine callType_newIn (S := fun A R s' => s' = s ∧ wpAny (model prog w) A.in1 (call (.ref f) [.ref x]) (PySem.W.BoolBack fun b s' => R (.ok (.ret (.bool b))) s') (fun e s' => R (.error e) s') s) PySem.F.called_bool PySem.F.newNe_bool (PySem.F.typeCall_bool_1 _) (PySem.F.newCall_bool_1 _)
    (fun obj => PySem.F.args_object_init_2 obj _) PySem.F.entry_bool_new ?_ ⟨rfl, ?_⟩
  · rintro A R s' ⟨rfl, hc⟩
    have tr : ∀ {Q' : Bool → Shared → Prop}, wpAny (model prog w) A.in1 (call (.ref f) [.ref x]) (PySem.W.BoolBack Q') (fun e s' => R (.error e) s') s' → wpAny (model prog w) A.in1 (truthy (.ref x)) Q' (fun e s' => R (.error e) s') s' := fun z => truthy_K F X₀ I hs hf z
    have f1 := PySem.F.conv_sub_bool
    refine wpAny_bind (m := isType _) (wpAny_pure ?_)
    dsimp only
    simp only [Bool.not_true, Bool.false_eq_true, if_false]
    refine wpAny_bind (wpAny_of_eq f1 ?_)
    simp only [Bool.not_true, Bool.false_eq_true, if_false]
    refine wpAny_bind (m := someArgs _ _ _ _) (wpAny_pure ?_)
    dsimp only
    refine wpAny_bind (tr (wpAny_mono hc (fun v s' hv => ?_) fun _ _ z => z))
    cases v <;> first | exact hv.elim | skip
    exact wpAny_pure hv
  · refine wpAny_mono h (fun v s' hv => ?_) fun _ _ z => z
    cases v <;> first | exact hv.elim | skip
    exact ⟨rfl, hv⟩
end
end PLow
namespace L2
open PySem PySem.Spec PyProof.Rows
section
variable {X : Cx} {CX : CXT} {k : Nat} {C f : Addr} {fd : FuncData} {ps : List Str} {sp : Sp} {E : XK} {op : CmpOp}
/-- an own comparison -/
structure OwnC (K : PySem.W.Frag) (C f : Addr) (op : CmpOp) : Prop where
  at_ : PySem.W.findIn K (.ref C) (cmpInfo op).2.1 = some (some (.ref f))
  fn : PySem.W.isFn K (.ref f) = true
  sub : PySem.W.subIn K (.type "int") (.ref C) = some false
theorem rich_own (O : OwnC X.K C f op) (F : FnOk X.prog X.w X.K X.mg X.base CX k f fd ps sp) (hr : Room k X.A) (hb : Binds X.K fd ps []) (hx : Passes CX X E) {pins : List (Addr × Obj)} {s : Shared} {σ : St} {H : Hp} {y : V} {u : Value} {Q : VK} {a dx : Addr} {fs : List (Str × V)}
    (I : Inv X pins σ H s) (ha : H a = some (.ins C dx fs)) (ry : RelV y u) (hy : (∃ i, y = .int i) ∨ ∃ b dy gs, y = .ref b ∧ H b = some (.ins C dy gs)) (q : sp [.ref a, y] H Q E) :
    wpAny (model X.prog X.w) X.A (richCompare op (.ref a) u) (EP X pins σ Q) X.xe s := by
  obtain ⟨mA, J, _⟩ := ins_get I.hok ha
  obtain ⟨od, J, _⟩ := J.look
  obtain ⟨m, hF⟩ := I.fr
  have fin : wpAny (model X.prog X.w) X.A (call (.ref f) [.ref a, u]) (PySem.W.CmpBack (EP X pins σ Q)) X.xe s :=
    wpAny_mono (run_fn (us := [.ref a, u]) (vs := [.ref a, y]) F hr hb .nil hx I (.cons rfl (.cons ry .nil)) q) (fun _ _ z => cmpBack_of z) fun _ _ z => z
  rcases hy with ⟨i, rfl⟩ | ⟨b, dy, gs, rfl, hb'⟩
  · obtain ⟨t, rfl⟩ := ry
    refine PySem.W.cmp_K (op := op) (tb := .type "int") hr.units0 hF I.ok.mod.kin J (PySem.W.Looks.of_pure rfl) ?_ O.at_ O.fn fin
    unfold PySem.W.notFirst
    rw [O.sub]
    simp
  · cases ry
    obtain ⟨mB, J', _⟩ := ins_get I.hok hb'
    obtain ⟨od', J', _⟩ := J'.look
    exact PySem.W.cmp_K (op := op) (tb := .ref C) hr.units0 hF I.ok.mod.kin J J'.type (by simp [PySem.W.notFirst]) O.at_ O.fn fin
def rOwnC (C : Addr) (sp : Sp) (E : XK) : R2 := fun x y H Q => ∃ a dx fs, x = .ref a ∧ H a = some (.ins C dx fs) ∧ ((∃ i, y = .int i) ∨ ∃ b dy gs, y = .ref b ∧ H b = some (.ins C dy gs)) ∧ sp [x, y] H Q E
theorem op_ownC (O : OwnC X.K C f op) (F : FnOk X.prog X.w X.K X.mg X.base CX k f fd ps sp) (hr : Room k X.A) (hb : Binds X.K fd ps []) (hx : Passes CX X E) (hc : ∀ v u, compareOp op v u = richCompare op v u := by intro _ _; rfl) : OpR X (compareOp op) (rOwnC C sp E) := by
  intro pins s σ H x y v u Q I rx ry h
  obtain ⟨a, dx, fs, rfl, ha, hy, q⟩ := h
  cases rx
  rw [hc]
  exact rich_own O F hr hb hx I ha ry hy q
/-- a call of a built-in class whose own method answers, two levels in -/
theorem run_in2 {pins : List (Addr × Obj)} {σ : St} {H : Hp} {s : Shared} {Q : VK} {a : Addr} (F : FnOk X.prog X.w X.K X.mg X.base CX k f fd ps sp) (hr : Room (k + 2) X.A) (hb : Binds X.K fd ps []) (hx : Passes CX X E) (I : Inv X pins σ H s) (q : sp [.ref a] H Q E) :
    wpAny (model X.prog X.w) X.A.in1.in1 (call (.ref f) [.ref a]) (EP X pins σ Q) X.xe s := by
  have hl := F.len _ _ _ _ q
  have r2 : Vals [V.ref a] [Value.ref a] := .cons rfl .nil
  refine wpAny_call (codeAny_mono (F.run X.A.in1.in1 X.stack s H ⟨[.ref a], []⟩ [.ref a] [.ref a] Q E hr.in1.in1 I.env0.in1.in1 (by
    have := hb s [.ref a] I.kIn (by simpa using hl)
    simpa using this) r2 q) fun r s' hq => ?_)
  cases r with
  | error e => exact hx pins σ H s e s' I hq
  | ok fl =>
    cases fl with
    | ret w => exact I.after hq
    | next => exact False.elim hq
    | brk => exact False.elim hq
    | cont => exact False.elim hq
/-- bool(x) -/
theorem call_boolOwn (hs : PySem.W.findIn X.K (.ref C) "__bool__" = some (some (.ref f))) (hf : PySem.W.isFn X.K (.ref f) = true) (F : FnOk X.prog X.w X.K X.mg X.base CX k f fd ps sp) (hr : Room (k + 2) X.A) (hb : Binds X.K fd ps []) (hx : Passes CX X E) :
    CallR X (.type "bool") (fun xs H Q => ∃ a dx fs, xs = [.ref a] ∧ H a = some (.ins C dx fs) ∧ sp [.ref a] H (fun v H' => ∃ b, v = .bl b ∧ Q (.bl b) H') E) := by
  intro pins s σ H xs us Q I r h
  obtain ⟨a, dx, fs, rfl, ha, q⟩ := h
  obtain ⟨u, rfl, ru⟩ := vals1 r
  cases ru
  obtain ⟨mA, J, _⟩ := ins_get I.hok ha
  obtain ⟨od, J, _⟩ := J.look
  obtain ⟨m, hF⟩ := I.fr
  refine PLow.bool_own hF I.ok.mod.kin J hs hf (wpAny_mono (run_in2 F hr hb hx I q) (fun u s' z => ?_) fun _ _ z => z)
  obtain ⟨v, H', I', rv, b, rfl, q'⟩ := z
  cases rv
  exact ⟨.bl b, H', I', rfl, q'⟩
/-- str(x) -/
theorem call_strOwn (hs : PySem.W.findIn X.K (.ref C) "__str__" = some (some (.ref f))) (hf : PySem.W.isFn X.K (.ref f) = true) (F : FnOk X.prog X.w X.K X.mg X.base CX k f fd ps sp) (hr : Room (k + 2) X.A) (hb : Binds X.K fd ps []) (hx : Passes CX X E) :
    CallR X (.type "str") (fun xs H Q => ∃ a dx fs, xs = [.ref a] ∧ H a = some (.ins C dx fs) ∧ sp [.ref a] H (fun v H' => ∃ b, v = .str b ∧ Q (.str b) H') E) := by
  intro pins s σ H xs us Q I r h
  obtain ⟨a, dx, fs, rfl, ha, q⟩ := h
  obtain ⟨u, rfl, ru⟩ := vals1 r
  cases ru
  obtain ⟨mA, J, _⟩ := ins_get I.hok ha
  obtain ⟨od, J, _⟩ := J.look
  have hu := hr.units
  refine PySem.W.kso_call (by show X.A.units + 1 + 1 < cLine; omega) I.kIn J hs hf (wpAny_mono (run_in2 F hr hb hx I q) (fun u s' z => ?_) fun _ _ z => z)
  obtain ⟨v, H', I', rv, b, rfl, q'⟩ := z
  obtain ⟨t, rfl⟩ := rv
  exact ⟨.str b, H', I', ⟨t, rfl⟩, q'⟩
end
end L2

set_option maxHeartbeats 4000000
namespace PA
open PySem L2 RZ
open C8 (pss_cut tCut)
/-- what the class InvalidMix is -/
structure TxtX (K : PySem.W.Frag) (mg : Str → Option Value) (X : Addr) : Prop where
  x : PySem.W.excIn K X [.type "ValueError", .type "Exception", .type "BaseException", .type "object"] "ValueError.__new__" = true
  g : mg "InvalidMix" = some (.ref X)
  k : PySem.W.keepIn K (.ref X) = true
  b : PySem.W.subIn K (.ref X) (.type "BaseException") = some true
  t : PySem.W.typeIn K (.ref X) = some (.type "type")
  e : PySem.W.exmOne K (.ref X) (.ref X) = some true
/-- a weight that may be none -/
def good : V → Bool
  | .int i => decide (0 < i)
  | _ => false
inductive Wt : V → Prop
  | int (i : Int) : Wt (.int i)
  | bl (b : Bool) : Wt (.bl b)
abbrev Pw := V × Addr
def pw_ (q : Pw) : List V := [q.1, .ref q.2]
def isW (H : Hp) (c : Addr) (q : Pw) : Prop := H c = some (.tup (pw_ q))
def spIsInt2 : Sp := fun vs H Q _ => ∃ v, vs = [v] ∧ ((∃ i, v = .int i ∧ Q (.bl true) H) ∨ (∃ b, v = .bl b ∧ Q (.bl false) H))
def spIsPos2 : Sp := fun vs H Q _ => ∃ v, vs = [v] ∧ Wt v ∧ Q (.bl (good v)) H
def spMInit0 (K : PySem.W.Frag) (D X : Addr) : Sp := fun vs H _ E => ∃ (p dx L : Addr) (refs : List V) (ps : List Pw), vs = [.ref p, .ref L] ∧ H p = some (.ins D dx []) ∧ Sq K H L refs ∧ Ea H isW refs ps ∧ ps.length ≤ 10 ∧ (∀ z ∈ ps, Wt z.1) ∧
  (ps.length = 0 ∨ (ps.map fun z => good z.1).all id = false) ∧ ∀ H', (∀ c o, H c = some o → c ≠ p → H' c = some o) → E (.ref X) none H'
def spMMul0 (X : Addr) : Sp := fun vs H _ E => ∃ (p : Addr) (v : V), vs = [.ref p, v] ∧ Wt v ∧ good v = false ∧ E (.ref X) none H
def spMRmul0 (D X : Addr) : Sp := fun vs H _ E => ∃ (p dx : Addr) (fs : List (Str × V)) (v : V), vs = [.ref p, v] ∧ H p = some (.ins D dx fs) ∧ Wt v ∧ good v = false ∧ E (.ref X) none H
def spRMul0 (X : Addr) : Sp := fun vs H _ E => ∃ (r : Addr) (v : V), vs = [.ref r, v] ∧ Wt v ∧ good v = false ∧ ∀ H', Same H H' → E (.ref X) none H'
section
variable {P : Program} {w : World} {K : PySem.W.Frag} {mg : Str → Option Value} {base : Heap} {C D X : Addr}
theorem ok_isInt2 {f : Addr} {fd : FuncData} (F : Fun K "is_integer" "is_integer" sIsInt f fd) (T : Txt K mg C) : FnOk P w K mg base CX0 1 f fd ["value"] spIsInt2 := by
  refine F.ok scIsInt (fun vs H Q E h => ?_) (fun cdv A outer s H vs Q E hr h => ?_)
  · obtain ⟨v, rfl, _⟩ := h
    rfl
  · obtain ⟨v, rfl, k⟩ := h
    refine ⟨_, pss_one (ps_ret (pe_and (pe_callB call_isi (by rfl) T.isi boot_isi (pa_cons (pv 0) (pa_cons (pe_bltn (v := .ty "int") (by rfl) T.int_ boot_int' rfl) pa_nil)))
      (pe_one (pe_not (pe_callB call_isi (by rfl) T.isi boot_isi (pa_cons (pv 0) (pa_cons (pe_bltn (v := .ty "bool") (by rfl) T.bool_ boot_bool' rfl) pa_nil))))))), ?_⟩
    rcases k with ⟨i, rfl, k⟩ | ⟨b, rfl, k⟩
    · refine ⟨_, rfl, _, _, _, _, _, rfl, .ty _, .base (.int i), kit_ty (b := "int") (r := true) (by decide +kernel), _, rfl, iteT ?_⟩
      exact ⟨_, rfl, _, _, _, _, _, rfl, .ty _, .base (.int i), kit_ty (b := "bool") (r := false) (by decide +kernel), _, rfl, k⟩
    · refine ⟨_, rfl, _, _, _, _, _, rfl, .ty _, .base (.bl b), kit_ty (b := "int") (r := true) (by decide +kernel), _, rfl, iteT ?_⟩
      exact ⟨_, rfl, _, _, _, _, _, rfl, .ty _, .base (.bl b), kit_ty (b := "bool") (r := true) (by decide +kernel), _, rfl, k⟩
theorem ok_isPos2 {f g : Addr} {fd gd : FuncData} (F : Fun K "is_positive" "is_positive" sIsPos f fd) (T : Txt K mg C) (D1 : Df K mg "is_integer" sIsInt g gd ["value"]) : FnOk P w K mg base CX0 2 f fd ["value"] spIsPos2 := by
  have G : FnOk P w K mg base CX0 1 g gd ["value"] spIsInt2 := ok_isInt2 D1.F T
  refine F.ok scIsPos (fun vs H Q E h => ?_) (fun cdv A outer s H vs Q E hr h => ?_)
  · obtain ⟨v, rfl, _⟩ := h
    rfl
  · obtain ⟨v, rfl, hw, kk⟩ := h
    refine ⟨_, pss_one (ps_ret (pe_and (pe_call G hr rfl D1.M D1.F.kp D1.B .nil pass0 (pa_cons (pv 0) pa_nil)) (pe_one (pe_cmpR op_gt (pv 0) pe_int (nomark _))))), ?_⟩
    cases hw with
    | int i => exact ⟨_, rfl, _, rfl, .inl ⟨i, rfl, _, rfl, iteT ⟨_, rfl, _, _, rfl, rfl, kk⟩⟩⟩
    | bl b => exact ⟨_, rfl, _, rfl, .inr ⟨b, rfl, _, rfl, iteF kk⟩⟩
theorem ok_minit0 {f g1 g2 : Addr} {fd gd1 gd2 : FuncData} (F : Fun K "__init__" "Mix.__init__" sMInit f fd) (T : Txt K mg C) (TM : TxtM K mg D) (TX : TxtX K mg X) (D1 : Df K mg "is_integer" sIsInt g1 gd1 ["value"]) (D2 : Df K mg "is_positive" sIsPos g2 gd2 ["value"]) : FnOk P w K mg base (L2.CX P w) 3 f fd ["self", "parts"] (spMInit0 K D X) := by
  have G2 : FnOk P w K mg base CX0 2 g2 gd2 ["value"] spIsPos2 := ok_isPos2 D2.F T D1
  refine F.okX scMInit (fun vs H Q E h => ?_) (fun cdv A outer s H vs Q E hr h => ?_)
  · obtain ⟨p, dx, L, _, _, rfl, _⟩ := h
    rfl
  · obtain ⟨p, dx, L, refs, ps, rfl, hp, hL, hE, hm, hwt, hbad, kk⟩ := h
    have hlr : refs.length = ps.length := hE.1
    refine ⟨_, pss_cut (ps_fld (pv 0) (pe_callTy call_tuple_of (by rfl) T.tup_ boot_tuple' (pa_cons (pe_lc (own := [("part", 2)]) (g := gName 2) (tt := tYes) (by rfl) scMInit.nd (pi_sq (pv 1)) (blkOk_by (N := ["self", "parts", "part"]) (sc := defScope sMInit) (by decide +kernel))
          (fun _ _ _ _ _ => pg_name (i := 2) scMInit.nd rfl (Or.inl rfl)) (fun _ _ _ _ _ => pts_nil)
          (fun _ _ _ _ _ => pe_callTy (call_tupleK (K := K) rfl) (by rfl) T.tup_ boot_tuple' (pa_cons (pv 2) pa_nil))) pa_nil)) rfl)
      (pss_cons (ps_if (pt_cmpR op_eq (pe_callB call_len_seq (by rfl) T.len_ PySem.boot_len (pa_cons (pe_fld (pv 0) rfl) pa_nil)) pe_int (nomark _))
        (pss_one (ps_raise rfl (takes_of rfl rfl rfl rfl) (pmk_own PySem.F.excBase_ValueError TX.x TX.g TX.k (raises_own TX.b TX.t) (by rfl)))) pss_nil)
      (pss_one (ps_if (pt_not (pt_val (pe_callB (cr_all rfl) (by rfl) T.all_ boot_all' (pa_cons (pe_lc (own := [("part", 2)]) (g := gName 2) (tt := tYes) (by rfl) scMInit.nd (pi_tup (pe_fld (pv 0) rfl)) (blkOk_by (N := ["self", "parts", "part"]) (sc := defScope sMInit) (by decide +kernel))
          (fun _ _ _ _ _ => pg_name (i := 2) scMInit.nd rfl (Or.inl rfl)) (fun _ _ _ _ _ => pts_nil)
          (fun _ _ _ _ _ => pe_call G2 hr rfl D2.M D2.F.kp D2.B .nil pass0 (pa_cons (pe_ix (ix_tupK (K := K) rfl) (pv 2) pe_int (fun _ _ => rfl)) pa_nil))) pa_nil))))
        (pss_one (ps_raise rfl (takes_of rfl rfl rfl rfl) (pmk_own PySem.F.excBase_ValueError TX.x TX.g TX.k (raises_own TX.b TX.t) (by rfl)))) pss_nil))), ?_⟩
    have hsz : refs.length ≤ sizeLine := by rw [hlr]; exact Nat.le_trans hm (by decide)
    refine ⟨fun σ' H' => σ' = [some (.ref p), some (.ref L), none] ∧ ∃ R refs', H' p = some (.ins D dx (mf R)) ∧ H' R = some (.tup refs') ∧ Ea H' isW refs' ps ∧ (∀ c o, H c = some o → c ≠ p → H' c = some o), ?_, ?_⟩
    · obtain ⟨k, hk⟩ : ∃ k, Sk K k H L refs := hL.elim (fun h => ⟨.l, h⟩) fun h => ⟨.t, h⟩
      refine ⟨k, _, rfl, L, rfl, ⟨_, hk⟩, fun Dd hD => ?_⟩
      refine lc_acc (xs := refs) (walk_k (k := k)) hsz hD (fun H' s' => hk.up s') (fun i acc H' => Ea H' isW acc (ps.take i)) (fun i acc H' e => by rw [e.1, List.length_take]; omega) (by rw [List.take_zero]; exact Ea.nil) (fun i x H' acc Φ Ψ hi hx sm hd he kf => ?_) fun H1 acc s1 hd he => ?_
      · have hi' : i < ps.length := by rw [← hlr]; exact hi
        have hr' : ps[i]? = some ps[i] := List.getElem?_eq_getElem hi'
        obtain ⟨c, rfl, hc⟩ := hE.2 i x _ hx hr'
        refine ⟨rfl, ?_⟩
        dsimp only [tYes]
        rw [if_pos rfl]
        refine ⟨_, rfl, c, _, rfl, .inr ⟨SqT.of (sm _ _ hc), kf _ H' (fun _ _ e => e) hd fun H5 h5 b1 b2 => ?_⟩⟩
        rw [take_succ' hr']
        exact Ea.push (he.imp fun c' r' q => TupOf.but (f := pw_) q hd b1) (TupOf.but (f := pw_) (sm _ _ hc) hd b1)
      · rw [hlr, List.take_length] at he
        refine ⟨Dd, _, rfl, .inl ⟨SqL.of hd, fun l hl => ?_⟩⟩
        have sl := Same.new (o := .tup acc) hl
        have hp1 := sl _ _ (s1 _ _ hp)
        refine ⟨_, rfl, p, D, dx, _, rfl, hp1, TM.cl, TM.nP, (by show 0 < 1000; decide), rfl, l, acc, upd_same, ?_, ?_, fun c o e hc => by rw [upd_ne hc]; exact sl _ _ (s1 _ _ e)⟩
        · rw [upd_ne (ne_of hp1 upd_same (by intro z; cases z)).symm]
          exact upd_same
        · exact he.imp fun c' r' q => TupOf.ins (f := pw_) (sl _ _ q) hp1
    rintro _ H1 ⟨rfl, R, refs', hp1, hR1, hE1, kp1⟩
    have hl1 : refs'.length = ps.length := hE1.1
    refine ⟨_, rfl, p, D, dx, _, _, rfl, hp1, TM.cl, TM.nP, mf_parts _, R, _, rfl, .inr (SqT.of hR1), rfl, _, rfl, ifD_2 (fun _ => kk H1 kp1) fun z => ?_⟩
    have hall : (ps.map fun z => good z.1).all id = false := hbad.resolve_left fun q => z (by rw [hl1, q]; rfl)
    refine ⟨_, rfl, p, D, dx, _, _, rfl, hp1, TM.cl, TM.nP, mf_parts _, R, rfl, ⟨_, SqT.of hR1⟩, fun Dd hD => ?_⟩
    refine lc_same (xs := refs') (walk_t (K := K) (a := R) (xs := refs')) (by rw [hl1]; exact Nat.le_trans hm (by decide)) hD (fun H' s' => SqT.of (s' _ _ hR1)) ((ps.map fun z => good z.1).map V.bl) (by simp [hl1]) (fun i x y H' Φ Ψ hx hy sm k => ?_) fun H2 s2 hd2 => ?_
    · rw [List.getElem?_map, Option.map_eq_some_iff] at hy
      obtain ⟨y, hy, rfl⟩ := hy
      rw [List.getElem?_map, Option.map_eq_some_iff] at hy
      obtain ⟨q, hq, rfl⟩ := hy
      obtain ⟨c, rfl, hc⟩ := hE1.2 i x _ hx hq
      refine ⟨rfl, ?_⟩
      dsimp only [tYes]
      rw [if_pos rfl]
      exact ⟨_, rfl, c, _, 0, _, rfl, rfl, SqT.of (sm _ _ hc), rfl, q.1, rfl, hwt q (List.mem_of_getElem? hq), k H' fun _ _ e => e⟩
    refine ⟨Dd, _, rfl, SqL.of hd2, ?_⟩
    rw [hall]
    exact ⟨false, rfl, iteT (kk H2 fun c o e hc => s2 _ _ (kp1 c o e hc))⟩
theorem ok_mmul0 {f g1 g2 : Addr} {fd gd1 gd2 : FuncData} (F : Fun K "__mul__" "Mix.__mul__" sMMul f fd) (T : Txt K mg C) (TX : TxtX K mg X)
    (D1 : Df K mg "is_integer" sIsInt g1 gd1 ["value"]) (D2 : Df K mg "is_positive" sIsPos g2 gd2 ["value"]) : FnOk P w K mg base (L2.CX P w) 3 f fd ["self", "other"] (spMMul0 X) := by
  have G2 : FnOk P w K mg base CX0 2 g2 gd2 ["value"] spIsPos2 := ok_isPos2 D2.F T D1
  refine F.okX scMMul (fun vs H Q E h => ?_) (fun cdv A outer s H vs Q E hr h => ?_)
  · obtain ⟨p, t, rfl, _⟩ := h
    rfl
  · obtain ⟨p, v, rfl, hw, hb, kk⟩ := h
    refine ⟨_, pss_cons (ps_if (pt_not (pt_val (pe_call G2 hr rfl D2.M D2.F.kp D2.B .nil pass0 (pa_cons (pv 1) pa_nil))))
        (pss_one (ps_raise rfl (takes_of rfl rfl rfl rfl) (pmk_own PySem.F.excBase_ValueError TX.x TX.g TX.k (raises_own TX.b TX.t) (by rfl)))) pss_nil) pss_never, ?_⟩
    refine ⟨_, rfl, v, rfl, hw, ?_⟩
    rw [hb]
    exact ⟨false, rfl, iteT kk⟩
end
end PA

set_option maxHeartbeats 4000000
namespace PA
open PySem L2 RZ
open C8 (pss_cut tCut)
abbrev EW (W : WX) : XK := fun cls d H => ∀ σ, W cls d σ H
/-- the makings and operators that are refused -/
structure LibX (K : PySem.W.Frag) (mg : Str → Option Value) (C D X fi fm fr frr fR fa fs g1 g2 : Addr) (di dm dr drr dR da ds gd1 gd2 : FuncData) : Prop where
  L : LibM K mg C D fi fa fm g1 g2 di da dm gd1 gd2
  TX : TxtX K mg X
  O : OwnM K D fm fr .Mult
  OB : OwnB K D .Mult
  FR : Fun K "__rmul__" "Mix.__rmul__" sMRmul fr dr
  bR : Binds K dr ["self", "other"] []
  OR : OwnM K C fR frr .Mult
  ORB : OwnB K C .Mult
  FRM : Fun K "__mul__" "Rule.__mul__" sRMul fR dR
  bRM : Binds K dR ["self", "other"] []
section
variable {P : Program} {w : World} {K : PySem.W.Frag} {mg : Str → Option Value} {base : Heap} {C D X fi fm fr frr fR fa fs g1 g2 : Addr} {di dm dr drr dR da ds gd1 gd2 : FuncData}
theorem ok_mrmul0 (L : LibX K mg C D X fi fm fr frr fR fa fs g1 g2 di dm dr drr dR da ds gd1 gd2) : FnOk P w K mg base (L2.CX P w) 4 fr dr ["self", "other"] (spMRmul0 D X) := by
  have GM : FnOk P w K mg base (L2.CX P w) 3 fm dm ["self", "other"] (spMMul0 X) := ok_mmul0 L.L.FM L.L.T L.TX L.L.D1 L.L.D2
  obtain ⟨fo, h1⟩ := L.O.h1
  obtain ⟨ro, h2⟩ := L.O.h2
  refine L.FR.okX scMRmul (fun vs H Q E h => ?_) (fun cdv A outer s H vs Q E hr h => ?_)
  · obtain ⟨p, _, _, v, rfl, _⟩ := h
    rfl
  · obtain ⟨p, dx, fs, v, rfl, hp, hw, hb, kk⟩ := h
    refine ⟨_, pss_one (ps_ret (pe_op ((op_ownI (E := E) L.O.O h1 h2 GM hr L.L.bM (passes_call (takes_of rfl rfl rfl rfl) (fun _ _ _ _ z => z))).or (op_ownIB (E := E) L.O.O L.OB GM hr L.L.bM (passes_call (takes_of rfl rfl rfl rfl) (fun _ _ _ _ z => z)))) (pv 0) (pv 1))), ?_⟩
    refine ⟨_, rfl, _, rfl, ?_⟩
    cases hw with
    | int i => exact .inl ⟨p, i, dx, fs, rfl, rfl, hp, p, .int i, rfl, .int i, hb, kk⟩
    | bl b => exact .inr ⟨p, b, dx, fs, rfl, rfl, hp, p, .bl b, rfl, .bl b, hb, kk⟩
theorem ok_rmul0 (L : LibX K mg C D X fi fm fr frr fR fa fs g1 g2 di dm dr drr dR da ds gd1 gd2) : FnOk P w K mg base (L2.CX P w) 5 fR dR ["self", "other"] (spRMul0 X) := by
  have GM : FnOk P w K mg base (L2.CX P w) 3 fm dm ["self", "other"] (spMMul0 X) := ok_mmul0 L.L.FM L.L.T L.TX L.L.D1 L.L.D2
  have GI : FnOk P w K mg base CX0 3 fi di ["self", "parts"] (spMInit K D) := ok_minit L.L.FI L.L.T L.L.TM L.L.D1 L.L.D2
  obtain ⟨fo, h1⟩ := L.O.h1
  obtain ⟨ro, h2⟩ := L.O.h2
  refine L.FRM.okX scRMul (fun vs H Q E h => ?_) (fun cdv A outer s H vs Q E hr h => ?_)
  · obtain ⟨p, v, rfl, _⟩ := h
    rfl
  · obtain ⟨r, v, rfl, hw, hb, kk⟩ := h
    have hr3 : Room 3 _ := hr.mono (by decide)
    refine ⟨_, pss_one (ps_ret (pe_op ((op_ownI (E := E) L.O.O h1 h2 GM hr3 L.L.bM (passes_call (takes_of rfl rfl rfl rfl) (fun _ _ _ _ z => z))).or (op_ownIB (E := E) L.O.O L.OB GM hr3 L.L.bM (passes_call (takes_of rfl rfl rfl rfl) (fun _ _ _ _ z => z))))
      (pe_make L.L.M GI hr rfl L.L.TM.mgD L.L.bI .nil pass0 (pa_cons (pe_lst (pa_cons (pe_tup (pa_cons pe_int (pa_cons (pv 0) pa_nil))) pa_nil)) pa_nil)) (pv 1))), ?_⟩
    refine ⟨_, rfl, by show 2 ≤ sizeLine; decide, fun u hu => ⟨by show 1 ≤ sizeLine; decide, fun l hl => ?_⟩⟩
    have s1 := Same.new (o := .tup [.int 1, .ref r]) hu
    have s2 := Same.new (o := .lst [.ref u]) hl
    refine fun x dx' nx ndx nex => mk_mix (ps := [(1, r)]) (.inl (SqL.of upd_same)) (one_part (K := K) (l := l) (s2 _ _ upd_same)) (Nat.le_refl _) (by show 1 ≤ 1000; decide) (by intro z hz; cases List.mem_singleton.mp hz; show (0 : Int) < 1; decide) nx ndx nex fun H' s' m' => ⟨rfl, ?_⟩
    obtain ⟨dx, R, refs, hpo, hrest⟩ := id m'
    refine ⟨_, rfl, ?_⟩
    cases hw with
    | int i => exact .inl ⟨x, i, dx, _, rfl, rfl, hpo, x, .int i, rfl, .int i, hb, kk H' ((s1.trans s2).trans s')⟩
    | bl b => exact .inr ⟨x, b, dx, _, rfl, rfl, hpo, x, .bl b, rfl, .bl b, hb, kk H' ((s1.trans s2).trans s')⟩
end
end PA

set_option maxHeartbeats 4000000
namespace PA
open PySem L2 RZ
open C8 (pss_cut tCut)
/-- a part: a weight, a rule and its text -/
abbrev Pd := Int × Addr × Str
def Pd.pt (z : Pd) : Pt := (z.1, z.2.1)
def dv (z : Pd) : List V := [.int z.1, .str z.2.2]
def isDue (H : Hp) (c : Addr) (z : Pd) : Prop := H c = some (.tup (dv z))
/-- a rule with this text stands at r -/
def TxAt (K : PySem.W.Frag) (C : Addr) (H : Hp) (r : Addr) (t : Str) : Prop := ∃ rows starts k, RuleAt K C H r rows starts k ∧ rows.length ≤ 48 ∧ (∀ r ∈ rows, RwOk 48 r) ∧ starts.length ≤ 16 ∧ (∀ s ∈ starts, 0 ≤ s ∧ s < 48) ∧ t = ruleTx rows starts
theorem TxAt.same {K : PySem.W.Frag} {C : Addr} {H H' : Hp} {r : Addr} {t : Str} (h : TxAt K C H r t) (s : Same H H') : TxAt K C H' r t := by
  obtain ⟨rows, starts, k, h1, h2⟩ := h
  exact ⟨rows, starts, k, h1.same s, h2⟩
def spHas (K : PySem.W.Frag) (C D : Addr) : Sp := fun vs H Q _ => ∃ (m d : Addr) (refs : List V) (zs : List Pd), vs = [.ref m, .ref d] ∧ MixAt D H m (zs.map Pd.pt) ∧ H d = some (.lst refs) ∧ Ea H isDue refs zs ∧ (∀ z ∈ zs, TxAt K C H z.2.1 z.2.2) ∧ zs.length ≤ 1000 ∧ ∀ H', Same H H' → Q (.bl true) H'
section
variable {P : Program} {w : World} {K : PySem.W.Frag} {mg : Str → Option Value} {base : Heap} {C D fl fs : Addr} {dl ds : FuncData}
/-- what is asked of the classes' own __len__ and __str__ -/
structure TxtL (K : PySem.W.Frag) (C D fl fs : Addr) (dl ds : FuncData) : Prop where
  FL : Fun K "__len__" "Mix.__len__" sMLen fl dl
  bL : Binds K dl ["self"] []
  mL : Meth K D "__len__" fl
  FS : Fun K "__str__" "Rule.__str__" sStr fs ds
  bS : Binds K ds ["self"] []
  mS : Meth K C "__str__" fs
theorem scHas : FnScope ["_law_mix", "_law_due", "_law_part", "_law_one"] ["_law_mix", "_law_due"] (defScope sHas) := ⟨rfl, rfl, rfl, by decide +kernel, rfl, by decide +kernel, by decide +kernel⟩
theorem ok_has {f gs g1 g2 g3 : Addr} {fd gds gd1 gd2 gd3 : FuncData} (F : Fun K "_law_p_has" "_law_p_has" sHas f fd) (T : Txt K mg C) (TM : TxtM K mg D) (TS : TxtS K mg) (TL : TxtL K C D fl fs dl ds)
    (DS : Df K mg "_law_same" sSame gs gds ["_law_found", "_law_due"]) (D1 : Df K mg "_rows_text" sRowsTx g1 gd1 ["rows"]) (D2 : Df K mg "_row_text" sRowTx g2 gd2 ["row"]) (D3 : Df K mg "_starts_text" sStartsTx g3 gd3 ["starts"]) :
    FnOk P w K mg base CX0 6 f fd ["_law_mix", "_law_due"] (spHas K C D) := by
  have GL : FnOk P w K mg base CX0 1 fl dl ["self"] (spMLen D) := ok_mlen TL.FL T TM
  have GSt : FnOk P w K mg base CX0 3 fs ds ["self"] (spStr K C) := ok_str TL.FS T TS D1 D2 D3
  have GS : FnOk P w K mg base CX0 1 gs gds ["_law_found", "_law_due"] (spSame K 0) := ok_same DS T 0
  refine F.ok scHas (fun vs H Q E h => ?_) (fun cdv A outer s H vs Q E hr h => ?_)
  · obtain ⟨m, d, _, _, rfl, _⟩ := h
    rfl
  · obtain ⟨m, d, refs, zs, rfl, hm, hd, hE, hT, hl, kk⟩ := h
    have hr1 : Room 1 _ := hr.mono (by decide)
    have hr2 : Room 2 _ := hr.mono (by decide)
    refine ⟨_, pss_cons (ps_if (PW.pt (pw_or (pt_not (pt_val (pe_callB call_isi (by rfl) T.isi boot_isi (pa_cons (pe_fld (pv 0) rfl) (pa_cons (pe_bltn (v := .ty "tuple") (by rfl) T.tup_ boot_tuple' rfl) pa_nil)))))
        (pw_or (pt_cmpR op_ne (pe_callB (call_lenOwn (E := E0) TL.mL.at_ TL.mL.fn GL hr2 TL.bL pass0) (by rfl) T.len_ PySem.boot_len (pa_cons (pv 0) pa_nil)) (pe_callB call_len_seq (by rfl) T.len_ PySem.boot_len (pa_cons (pv 1) pa_nil)) (nomark _))
        (pw_or1 (pt_cmpR op_ne (pe_callB call_len_seq (by rfl) T.len_ PySem.boot_len (pa_cons (pe_fld (pv 0) rfl) pa_nil)) (pe_callB call_len_seq (by rfl) T.len_ PySem.boot_len (pa_cons (pv 1) pa_nil)) (nomark _)))))) pss_never pss_nil)
      (pss_cons (ps_for PassesOwn.never rfl (pi_zipM (by rfl) T.zip_ (pa_cons (pe_fld (pv 0) rfl) (pa_cons (pv 1) pa_nil))) (pg_tup rfl (pgs_cons (pg_name (i := 2) scHas.nd rfl (Or.inl rfl)) (pgs_cons (pg_name (i := 3) scHas.nd rfl (Or.inl rfl)) pgs_nil)))
        (pss_one (ps_if (PW.pt (pw_or (pt_not (pt_val (pe_callB call_isi (by rfl) T.isi boot_isi (pa_cons (pv 2) (pa_cons (pe_bltn (v := .ty "tuple") (by rfl) T.tup_ boot_tuple' rfl) pa_nil)))))
          (pw_or (pt_cmpR op_ne (pe_callB call_len_seq (by rfl) T.len_ PySem.boot_len (pa_cons (pv 2) pa_nil)) pe_int (nomark _))
          (pw_or (pt_not (pt_val (pe_call GS hr1 rfl DS.M DS.F.kp DS.B .nil pass0 (pa_cons (pe_ix ix_tup (pv 2) pe_int (fun _ _ => rfl)) (pa_cons (pe_ix ix_tup (pv 3) pe_int (fun _ _ => rfl)) pa_nil)))))
          (pw_or1 (pt_cmpR op_ne (pe_callTy (call_strOwn (E := E0) TL.mS.at_ TL.mS.fn GSt hr TL.bS pass0) (by rfl) TS.str_ boot_str' (pa_cons (pe_ix ix_tup (pv 2) pe_int (fun _ _ => rfl)) pa_nil)) (pe_ix ix_tup (pv 3) pe_int (fun _ _ => rfl)) (nomark _))))))) pss_never pss_nil)))
      (pss_one (ps_ret pe_bl))), ?_⟩
    obtain ⟨dx, R, pr, hmo, hR, hP⟩ := id hm
    have hlp : pr.length = zs.length := by rw [hP.1, List.length_map]
    have hlr : refs.length = zs.length := hE.1
    refine ⟨_, rfl, m, D, dx, _, _, rfl, hmo, TM.cl, TM.nP, mf_parts _, _, _, _, _, _, rfl, .ty _, .base (.tup hR), kit_ty (b := "tuple") (r := true) (by decide +kernel), _, rfl, iteF ?_⟩
    refine ⟨_, rfl, m, dx, _, rfl, hmo, m, zs.map Pd.pt, rfl, hm, zs.length, by rw [List.length_map], hl, ?_⟩
    refine ⟨_, rfl, d, _, rfl, .inl (SqL.of hd), rfl, _, rfl, ?_⟩
    rw [hlr, decide_eq_true rfl]
    refine iteF ?_
    refine ⟨_, rfl, m, D, dx, _, _, rfl, hmo, TM.cl, TM.nP, mf_parts _, R, _, rfl, .inr (SqT.of hR), ?_⟩
    refine ⟨_, rfl, d, _, rfl, .inl (SqL.of hd), rfl, _, rfl, ?_⟩
    rw [hlr, hlp, decide_eq_true rfl]
    refine iteF ?_
    refine ⟨_, rfl, m, D, dx, _, _, rfl, hmo, TM.cl, TM.nP, mf_parts _, ?_⟩
    refine ⟨_, rfl, .t, .l, R, d, pr, refs, rfl, SqT.of hR, SqL.of hd, ?_⟩
    refine for_it (walk_m (K := K) (k1 := .t) (k2 := .l) (a := R) (b := d) (xs := pr) (ys := refs) rfl) (fun i σ' H' => ∃ x2 x3, σ' = [some (.ref m), some (.ref d), x2, x3] ∧ Same H H') ⟨_, _, rfl, fun _ _ e => e⟩ (fun i σ' H' _ q => by
      obtain ⟨_, _, _, s'⟩ := q
      exact ⟨SqT.of (s' _ _ hR), SqL.of (s' _ _ hd)⟩) ?_ ?_
    · rintro i _ _ H2 _ hi ⟨x2, x3, rfl, s2⟩ ⟨t, x, y, rfl, ht, rfl, hx, hy⟩
      dsimp only at hx hy
      have hiz : i < zs.length := by rw [← hlr]; exact (List.getElem?_eq_some_iff.mp hy).1
      have hz : zs[i]? = some zs[i] := List.getElem?_eq_getElem hiz
      obtain ⟨c, rfl, hc⟩ := hP.2 i x (zs[i]).pt hx (by rw [List.getElem?_map, hz]; rfl)
      obtain ⟨c2, rfl, hc2⟩ := hE.2 i y _ hy hz
      have s3 := Same.new (o := .tup [.ref c, .ref c2]) ht
      have sm := s2.trans s3
      have hc' := sm _ _ hc
      have hc2' := sm _ _ hc2
      refine ⟨t, _, rfl, SqT.of upd_same, rfl, _, _, rfl, _, _, rfl, rfl, ?_⟩
      refine ⟨_, rfl, _, _, _, _, _, rfl, .ty _, .base (.tup hc'), kit_ty (b := "tuple") (r := true) (by decide +kernel), _, rfl, iteF ?_⟩
      refine ⟨_, rfl, c, _, rfl, .inr (SqT.of hc'), rfl, _, rfl, iteF ?_⟩
      refine ⟨_, rfl, c, _, 0, _, rfl, rfl, SqT.of hc', rfl, _, rfl, c2, _, 0, _, rfl, rfl, SqT.of hc2', rfl, ?_⟩
      refine ⟨_, _, rfl, .int _ _, fun H5 s5 => ⟨_, rfl, iteF ?_⟩⟩
      have hc5 := s5 _ _ hc'
      have hc25 := s5 _ _ hc2'
      obtain ⟨rows, starts, k, hru, g1, g2, g3, g4, htx⟩ := (hT zs[i] (List.getElem_mem hiz)).same (sm.trans s5)
      obtain ⟨dr, RR, SS, rr, hro, hrest⟩ := id hru
      refine ⟨_, rfl, c, _, 1, _, rfl, rfl, SqT.of hc5, rfl, ?_⟩
      refine ⟨(zs[i]).2.1, dr, _, rfl, hro, _, rows, starts, k, rfl, hru, g1, g2, g3, g4, fun H6 s6 => ⟨_, rfl, ?_⟩⟩
      refine ⟨_, rfl, c2, _, 1, _, rfl, rfl, SqT.of (s6 _ _ hc25), rfl, rfl, _, rfl, ?_⟩
      rw [← htx, decide_eq_true rfl]
      exact iteF ⟨_, _, rfl, (sm.trans s5).trans s6⟩
    · rintro _ H2 ⟨x2, x3, rfl, s2⟩
      exact kk H2 s2
end
end PA

set_option maxHeartbeats 4000000
namespace PA
open PySem L2 RZ
open C8 (pss_cut tCut)
/-- a rule of the law's own list: the rule, its text, True -/
abbrev Pl := Addr × Str
def isPl (K : PySem.W.Frag) (C : Addr) (H : Hp) (e : Addr) (p : Pl) : Prop := ∃ d c, H e = some (.tup [.ref p.1, .ref d, .bl true]) ∧ H d = some (.lst [.ref c]) ∧ H c = some (.tup [.int 1, .str p.2]) ∧ TxAt K C H p.1 p.2
def lst3 (t : Int) (ps : List Pl) : List Pd := ps.mapIdx fun i p => (t + (i : Int), p.1, p.2)
theorem lst3_get {t : Int} {ps : List Pl} {i : Nat} {p : Pl} (h : ps[i]? = some p) : (lst3 t ps)[i]? = some (t + (i : Int), p.1, p.2) := by
  unfold lst3
  rw [List.getElem?_mapIdx, h]
  rfl
theorem lst3_len (t : Int) (ps : List Pl) : (lst3 t ps).length = ps.length := by
  unfold lst3
  rw [List.length_mapIdx]
def isLp (P0 : Addr) (H0 : Hp) (H : Hp) (c : Addr) (q : Pt) : Prop := (c ≠ P0 ∧ H0 c = none) ∧ H c = some (.lst (pv_ q))
theorem lst3_pos {t : Int} (ht : 0 < t) (ps : List Pl) : ∀ z ∈ (lst3 t ps).map Pd.pt, 0 < z.1 := by
  intro z hz
  obtain ⟨y, hy, rfl⟩ := List.mem_map.mp hz
  obtain ⟨i, hi⟩ := List.mem_iff_getElem?.mp hy
  unfold lst3 at hi
  rw [List.getElem?_mapIdx, Option.map_eq_some_iff] at hi
  obtain ⟨p, _, rfl⟩ := hi
  show 0 < t + (i : Int)
  omega
def spListed (K : PySem.W.Frag) (C D : Addr) : Sp := fun vs H Q _ => ∃ (L : Addr) (t : Int) (refs : List V) (ps : List Pl), vs = [.ref L, .int t] ∧ H L = some (.lst refs) ∧ Ea H (isPl K C) (refs.take 3) ps ∧ 1 ≤ ps.length ∧ 0 < t ∧
  ∀ (q m d : Addr) (drefs : List V) (H' : Hp), Same H H' → H d = none → H m = none → H' q = some (.tup [.ref m, .ref d, .bl true]) → MixAt D H' m ((lst3 t ps).map Pd.pt) → H' d = some (.lst drefs) → Ea H' isDue drefs (lst3 t ps) → Q (.ref q) H'
def rIxLK (K : PySem.W.Frag) : R2 := fun x y H Q => ∃ p xs i v, x = .ref p ∧ y = .int i ∧ SqL K H p xs ∧ atI xs i = some v ∧ Q v H
theorem ix_listK {X : Cx} {K : PySem.W.Frag} (h : X.K = K) : IxR X (rIxLK K) := h ▸ ix_list
theorem atI_nat' {xs : List V} {i : Nat} {x : V} (h : xs[i]? = some x) : atI xs (i : Int) = some x := atI_nat h
section
variable {P : Program} {w : World} {K : PySem.W.Frag} {mg : Str → Option Value} {base : Heap} {C D : Addr}
theorem scListed : FnScope ["_law_some", "_law_times", "_law_parts", "_law_mix", "_law_due", "_law_kept", "_law_k", "_law_rule", "_law_part"] ["_law_some", "_law_times"] (defScope sListed) := ⟨rfl, rfl, rfl, by decide +kernel, rfl, by decide +kernel, by decide +kernel⟩
theorem ok_listed {f fi g1 g2 : Addr} {fd di gd1 gd2 : FuncData} (F : Fun K "_law_p_listed" "_law_p_listed" sListed f fd) (T : Txt K mg C) (TM : TxtM K mg D) (hen : mg "enumerate" = none) (FI : Fun K "__init__" "Mix.__init__" sMInit fi di) (M : Mk K D fi) (bI : Binds K di ["self", "parts"] [])
    (D1 : Df K mg "is_integer" sIsInt g1 gd1 ["value"]) (D2 : Df K mg "is_positive" sIsPos g2 gd2 ["value"]) : FnOk P w K mg base CX0 5 f fd ["_law_some", "_law_times"] (spListed K C D) := by
  have GI : FnOk P w K mg base CX0 3 fi di ["self", "parts"] (spMInit K D) := ok_minit FI T TM D1 D2
  refine F.ok scListed (fun vs H Q E h => ?_) (fun cdv A outer s H vs Q E hr h => ?_)
  · obtain ⟨L, t, _, _, rfl, _⟩ := h
    rfl
  · obtain ⟨L, t, refs, ps, rfl, hL, hE, h1, ht0, kk⟩ := h
    have hr4 : Room 4 _ := hr.mono (by decide)
    refine ⟨_, pss_cons (ps_setLc (i := 2) (own := [("_law_k", 6), ("_law_rule", 7)]) (g := gTup K 2 (gCons (gName 6) (gCons (gName 7) gNil))) (tt := tYes) (by rfl) scListed.nd rfl rfl (sw_true rfl rfl rfl (by decide +kernel)) (pi_enum (by rfl) hen (pa_cons (pe_slice sl_list (pv 0) po_none (po_some pe_int)) pa_nil)) (blkOk_by (N := ["_law_some", "_law_times", "_law_parts", "_law_mix", "_law_due", "_law_kept", "_law_k", "_law_rule", "_law_part"]) (sc := defScope sListed) (by decide +kernel))
            (fun _ _ _ _ _ => by exact pg_tup rfl (pgs_cons (pg_name (i := 6) scListed.nd rfl (Or.inl rfl)) (pgs_cons (pg_name (i := 7) scListed.nd rfl (Or.inl rfl)) pgs_nil))) (fun _ _ _ _ _ => pts_nil) (fun _ _ _ _ _ => pe_lst (pa_cons (pe_op op_add (pv 1) (pv 6)) (pa_cons (pe_ix (ix_tupK (K := K) rfl) (pv 7) pe_int (fun _ _ => rfl)) pa_nil))))
      (pss_cons (ps_par (i := 3) (j := 4) (by rfl) scListed.nd rfl rfl (by decide) rfl rfl (pa_cons (pe_make M GI hr4 rfl TM.mgD bI .nil pass0 (pa_cons (pv 2) pa_nil))
            (pa_cons (pe_lc (own := [("_law_k", 6), ("_law_rule", 7)]) (g := gTup K 2 (gCons (gName 6) (gCons (gName 7) gNil))) (tt := tYes) (by rfl) scListed.nd (pi_enum (by rfl) hen (pa_cons (pe_slice sl_list (pv 0) po_none (po_some pe_int)) pa_nil)) (blkOk_by (N := ["_law_some", "_law_times", "_law_parts", "_law_mix", "_law_due", "_law_kept", "_law_k", "_law_rule", "_law_part"]) (sc := defScope sListed) (by decide +kernel))
            (fun _ _ _ _ _ => by exact pg_tup rfl (pgs_cons (pg_name (i := 6) scListed.nd rfl (Or.inl rfl)) (pgs_cons (pg_name (i := 7) scListed.nd rfl (Or.inl rfl)) pgs_nil))) (fun _ _ _ _ _ => pts_nil)
            (fun _ _ _ _ _ => pe_tup (pa_cons (pe_op op_add (pv 1) (pv 6)) (pa_cons (pe_ix (ix_tupK (K := K) rfl) (pe_ix (ix_listK (K := K) rfl) (pe_ix (ix_tupK (K := K) rfl) (pv 7) pe_int (fun _ _ => rfl)) pe_int (fun _ _ => rfl)) pe_int (fun _ _ => rfl)) pa_nil)))) pa_nil)) (by rfl))
      (pss_cons (ps_set (i := 5) scListed.nd rfl (Or.inl rfl) (pe_and (pe_cmpR (op_eqD hr.units)
            (pe_lc (own := [("_law_part", 8)]) (g := gName 8) (tt := tYes) (by rfl) scListed.nd (pi_list (pv 2)) (blkOk_by (N := ["_law_some", "_law_times", "_law_parts", "_law_mix", "_law_due", "_law_kept", "_law_k", "_law_rule", "_law_part"]) (sc := defScope sListed) (by decide +kernel))
              (fun _ _ _ _ _ => pg_name (i := 8) scListed.nd rfl (Or.inl rfl)) (fun _ _ _ _ _ => pts_nil) (fun _ _ _ _ _ => pe_ix (ix_listK (K := K) rfl) (pv 8) pe_int (fun _ _ => rfl)))
            (pe_lc (own := [("_law_part", 8)]) (g := gName 8) (tt := tYes) (by rfl) scListed.nd (pi_list (pv 4)) (blkOk_by (N := ["_law_some", "_law_times", "_law_parts", "_law_mix", "_law_due", "_law_kept", "_law_k", "_law_rule", "_law_part"]) (sc := defScope sListed) (by decide +kernel))
              (fun _ _ _ _ _ => pg_name (i := 8) scListed.nd rfl (Or.inl rfl)) (fun _ _ _ _ _ => pts_nil) (fun _ _ _ _ _ => pe_ix (ix_tupK (K := K) rfl) (pv 8) pe_int (fun _ _ => rfl))) (nomark _))
          (pe_one (pe_cmpR op_eq (pe_callB call_len_seq (by rfl) T.len_ PySem.boot_len (pa_cons (pe_ix ix_list (pv 2) pe_int (fun _ _ => rfl)) pa_nil)) pe_int (nomark _)))))
      (pss_cons (ps_asg pe_int (pg_sub (pe_ix ix_list (pv 2) pe_int (fun _ _ => rfl)) pe_int set_list))
      (pss_cons (ps_expr (pe_bm PySem.F.plainAttrs_list PySem.F.slot_list_append PySem.F.type_list_append mt_append (pv 2) (pa_cons (pe_lst (pa_cons pe_int (pa_cons (pe_ix ix_tup (pe_ix ix_list (pv 0) pe_int (fun _ _ => rfl)) pe_int (fun _ _ => rfl)) pa_nil))) pa_nil)))
      (pss_one (ps_ret (pe_tup (pa_cons (pv 3) (pa_cons (pv 4) (pa_cons (pv 5) pa_nil)))))))))), ?_⟩
    have hsz : (refs.take 3).length ≤ sizeLine := by
      rw [List.length_take]
      exact Nat.le_trans (Nat.min_le_left _ _) (by decide)
    have hlr : (refs.take 3).length = ps.length := hE.1
    have ecut : cutV refs none (some (3 : Int)) = refs.take 3 := cut_to refs 3
    -- parts
    refine ⟨_, rfl, _, rfl, L, refs, rfl, SqL.of hL, fun l1 hl1 => ?_⟩
    rw [ecut]
    have s1 := Same.new (o := .lst (refs.take 3)) hl1
    have hl1' : (upd H l1 (.lst (refs.take 3))) l1 = some (.lst (refs.take 3)) := upd_same
    generalize upd H l1 (.lst (refs.take 3)) = H1 at s1 hl1'
    refine ⟨l1, _, rfl, SqL.of hl1', fun P0 hP0 => ?_⟩
    refine lc_it (walk_enum (K := K) (a := l1) (xs := refs.take 3)) (fun i H' => Same H1 H' ∧ ∃ acc, H' P0 = some (.lst acc) ∧ Ea H' (isLp P0 H1) acc (((lst3 t ps).map Pd.pt).take i)) ⟨Same.new hP0, [], upd_same, by rw [List.take_zero]; exact Ea.nil⟩ (fun i H' _ q => SqL.of (q.1 _ _ hl1')) ?_ ?_
    · rintro i x H2 _ hi ⟨sm, acc, hd, he⟩ ⟨u, x, y, rfl, hu, rfl, hx, hy⟩
      dsimp only at hx hy
      cases hx
      have hip : i < ps.length := by rw [← hlr]; exact hi
      have hp : ps[i]? = some ps[i] := List.getElem?_eq_getElem hip
      obtain ⟨e, rfl, d, c, q1, q2, q3, q4⟩ := hE.2 i y _ hy hp
      have hz : ((lst3 t ps).map Pd.pt)[i]? = some (t + (i : Int), (ps[i]).1) := by rw [List.getElem?_map, lst3_get hp]; rfl
      have su := Same.new (o := .tup [.int (i : Int), .ref e]) hu
      have hal : acc.length < sizeLine := by
        rw [he.1, List.length_take]
        exact Nat.lt_of_le_of_lt (Nat.min_le_left _ _) (Nat.lt_of_lt_of_le hi hsz)
      refine ⟨u, _, rfl, SqT.of upd_same, rfl, _, _, rfl, _, _, rfl, rfl, rfl, ?_⟩
      dsimp only [tYes]
      rw [if_pos rfl]
      refine ⟨_, rfl, _, rfl, _, _, rfl, rfl, _, rfl, e, _, 0, _, rfl, rfl, SqT.of (su _ _ (sm _ _ (s1 _ _ q1))), rfl, by show 2 ≤ sizeLine; decide, fun v hv => ?_⟩
      have sv := Same.new (o := .lst [.int (t + (i : Int)), .ref (ps[i]).1]) hv
      have hd' := sv _ _ (su _ _ hd)
      have hlt : ∀ {c : Addr} {o : HO}, H2 c = some o → c ≠ P0 → (upd (upd (upd H2 u (.tup [.int (i : Int), .ref e])) v (.lst [.int (t + (i : Int)), .ref (ps[i]).1])) P0 (.lst (acc ++ [.ref v]))) c = some o := fun h hc => by
        rw [upd_ne hc]
        exact sv _ _ (su _ _ h)
      refine ⟨acc, hd', hal, ?_, _, upd_same, ?_⟩
      · intro c' o e'
        exact hlt (sm _ _ e') (ne_of_none e' hP0)
      · rw [take_succ' hz]
        refine Ea.push (he.imp fun c' r' q => ⟨q.1, hlt q.2 q.1.1⟩) ⟨⟨(ne_of_none (su _ _ hd) hv).symm, Same.none (sm.trans su) hv⟩, ?_⟩
        rw [upd_ne (ne_of_none (su _ _ hd) hv).symm]
        exact upd_same
    rintro H2 ⟨s2, acc, hd, he⟩
    rw [hlr, ← lst3_len t ps, ← List.length_map (f := Pd.pt), List.take_length] at he
    have hlen : ((lst3 t ps).map Pd.pt).length = ps.length := by rw [List.length_map, lst3_len]
    have hps3 : ps.length ≤ 3 := by
      rw [← hlr, List.length_take]
      exact Nat.min_le_left _ _
    -- the mix
    refine ⟨_, rfl, fun m dx nm ndx nem => mk_mix (ps := (lst3 t ps).map Pd.pt) (.inl (SqL.of hd)) (he.imp fun c r z => .inr z.2) (by rw [hlen]; exact h1) (by rw [hlen]; exact Nat.le_trans hps3 (by decide)) (lst3_pos ht0 ps) nm ndx nem fun H3 s3 m3 => ⟨rfl, ?_⟩⟩
    have q3 : Same H H3 := (s1.trans s2).trans s3
    refine ⟨_, rfl, _, rfl, L, refs, rfl, SqL.of (q3 _ _ hL), fun l2 hl2 => ?_⟩
    rw [ecut]
    have s4 := Same.new (o := .lst (refs.take 3)) hl2
    have hl2' : (upd H3 l2 (.lst (refs.take 3))) l2 = some (.lst (refs.take 3)) := upd_same
    generalize upd H3 l2 (.lst (refs.take 3)) = H4 at s4 hl2'
    have q4 := q3.trans s4
    refine ⟨l2, _, rfl, SqL.of hl2', fun D0 hD0 => ?_⟩
    refine lc_it (walk_enum (K := K) (a := l2) (xs := refs.take 3)) (fun i H' => Same H4 H' ∧ ∃ acc, H' D0 = some (.lst acc) ∧ Ea H' isDue acc ((lst3 t ps).take i)) ⟨Same.new hD0, [], upd_same, by rw [List.take_zero]; exact Ea.nil⟩ (fun i H' _ q => SqL.up (SqL.of hl2') q.1) ?_ ?_
    · rintro i x H5 _ hi ⟨sm, dacc, hdd, hed⟩ ⟨u, x, y, rfl, hu, rfl, hx, hy⟩
      dsimp only at hx hy
      cases hx
      have hip : i < ps.length := by rw [← hlr]; exact hi
      have hp : ps[i]? = some ps[i] := List.getElem?_eq_getElem hip
      obtain ⟨e, rfl, d, c, r1, r2, r3, r4⟩ := hE.2 i y _ hy hp
      have hz := lst3_get (t := t) hp
      have su := Same.new (o := .tup [.int (i : Int), .ref e]) hu
      have hal : dacc.length < sizeLine := by
        rw [hed.1, List.length_take]
        exact Nat.lt_of_le_of_lt (Nat.min_le_left _ _) (Nat.lt_of_lt_of_le hi hsz)
      have qm := (q4.trans sm).trans su
      refine ⟨u, _, rfl, SqT.of upd_same, rfl, _, _, rfl, _, _, rfl, rfl, rfl, ?_⟩
      dsimp only [tYes]
      rw [if_pos rfl]
      refine ⟨_, rfl, _, rfl, _, _, rfl, rfl, _, rfl, e, _, 1, _, rfl, rfl, SqT.of (qm _ _ r1), rfl, d, _, 0, _, rfl, rfl, SqL.of (qm _ _ r2), rfl, c, _, 1, _, rfl, rfl, SqT.of (qm _ _ r3), rfl, by show 2 ≤ sizeLine; decide, fun v hv => ?_⟩
      have sv := Same.new (o := .tup (dv (t + (i : Int), (ps[i]).1, (ps[i]).2))) hv
      have hd' := sv _ _ (su _ _ hdd)
      refine ⟨dacc, hd', hal, ?_, _, upd_same, ?_⟩
      · intro c' o e'
        rw [upd_ne (ne_of_none e' hD0)]
        exact sv _ _ (su _ _ (sm _ _ e'))
      · rw [take_succ' hz]
        exact Ea.push (hed.imp fun c' r' q => TupOf.lst (f := dv) (sv _ _ (su _ _ q)) hd') (TupOf.lst (f := dv) upd_same hd')
    rintro H5 ⟨s5, dacc, hdd, hed⟩
    rw [hlr, ← lst3_len t ps, List.take_length] at hed
    refine ⟨_, _, rfl, ?_⟩
    have hdP : H5 P0 = some (.lst acc) := s5 _ _ (s4 _ _ (s3 _ _ hd))
    have heP : Ea H5 (isLp P0 H1) acc ((lst3 t ps).map Pd.pt) := he.imp fun c' r' q => ⟨q.1, s5 _ _ (s4 _ _ (s3 _ _ q.2))⟩
    have m5 := (m3.same s4).same s5
    have q5 := q4.trans s5
    clear hl1' hl2'
    have hacc : acc.length = ps.length := by rw [he.1, hlen]
    have hdacc : dacc.length = ps.length := by rw [hed.1, lst3_len]
    have h1s : 1 ≤ ps.length := h1
    -- kept
    refine ⟨_, rfl, P0, rfl, ⟨_, SqL.of hdP⟩, fun K1 hK1 => ?_⟩
    refine lc_same (xs := acc) (walk_l (K := K) (a := P0) (xs := acc)) (by rw [hacc]; exact Nat.le_trans hps3 (by decide)) hK1 (fun H' s' => SqL.of (s' _ _ hdP)) (((lst3 t ps).map fun z => z.1).map V.int) (by rw [List.length_map, List.length_map, lst3_len, hacc]) (fun i x y H' Φ Ψ hx hy sm k => ?_) fun H6 s6 hK6 => ?_
    · rw [List.getElem?_map, Option.map_eq_some_iff] at hy
      obtain ⟨y, hy, rfl⟩ := hy
      rw [List.getElem?_map, Option.map_eq_some_iff] at hy
      obtain ⟨z, hz, rfl⟩ := hy
      obtain ⟨c, rfl, _, hc⟩ := heP.2 i x z.pt hx (by rw [List.getElem?_map, hz]; rfl)
      refine ⟨rfl, ?_⟩
      dsimp only [tYes]
      rw [if_pos rfl]
      exact ⟨_, rfl, c, _, 0, _, rfl, rfl, SqL.of (sm _ _ hc), rfl, k H' fun _ _ e => e⟩
    refine ⟨_, rfl, D0, rfl, ⟨_, SqL.of (s6 _ _ hdd)⟩, fun K2 hK2 => ?_⟩
    refine lc_same (xs := dacc) (walk_l (K := K) (a := D0) (xs := dacc)) (by rw [hdacc]; exact Nat.le_trans hps3 (by decide)) hK2 (fun H' s' => SqL.of (s' _ _ (s6 _ _ hdd))) (((lst3 t ps).map fun z => z.1).map V.int) (by rw [List.length_map, List.length_map, lst3_len, hdacc]) (fun i x y H' Φ Ψ hx hy sm k => ?_) fun H7 s7 hK7 => ?_
    · rw [List.getElem?_map, Option.map_eq_some_iff] at hy
      obtain ⟨y, hy, rfl⟩ := hy
      rw [List.getElem?_map, Option.map_eq_some_iff] at hy
      obtain ⟨z, hz, rfl⟩ := hy
      obtain ⟨c, rfl, hc⟩ := hed.2 i x z hx hz
      refine ⟨rfl, ?_⟩
      dsimp only [tYes]
      rw [if_pos rfl]
      exact ⟨_, rfl, c, _, 0, _, rfl, rfl, SqT.of (sm _ _ (s6 _ _ hc)), rfl, k H' fun _ _ e => e⟩
    have q7 := s6.trans s7
    refine ⟨.list (((lst3 t ps).map fun z => z.1).map PyData.int), .list (((lst3 t ps).map fun z => z.1).map PyData.int), .lst (SqL.of (s7 _ _ hK6)) (dp_ints _), .lst (SqL.of hK7) (dp_ints _), ints_shaped _, ints_shaped _, ?_⟩
    rw [SeqAt.eqv_refl _ (by simp only [PyData.canLay0]; exact ints_lay _)]
    refine ⟨_, rfl, iteT ?_⟩
    obtain ⟨c0, hc0, ⟨hne0, hnc0⟩, hcp⟩ := heP.get (i := 0) (List.getElem?_eq_getElem (by rw [hlen]; exact h1))
    have hP7 := q7 _ _ hdP
    have hc7 := q7 _ _ hcp
    refine ⟨_, rfl, P0, _, _, _, rfl, rfl, SqL.of hP7, atI_nat (i := 0) hc0, c0, _, rfl, .inl (SqL.of hc7), rfl, ?_⟩
    -- the lists are changed
    refine ⟨_, rfl, P0, _, _, _, rfl, rfl, SqL.of hP7, atI_nat (i := 0) hc0, c0, _, _, _, rfl, rfl, hc7, rfl, ?_⟩
    have nH : H c0 = none := Same.none s1 hnc0
    have nP : H P0 = none := Same.none s1 hP0
    have nD : H D0 = none := Same.none q4 hD0
    have hLc : L ≠ c0 := ne_of_none hL nH
    have q75 := q5.trans q7
    have hc4 : H4 c0 = some (.lst (pv_ (((lst3 t ps).map Pd.pt)[0]'(by rw [hlen]; exact h1)))) := by
      obtain ⟨c0', hc0', _, hcp'⟩ := he.get (i := 0) (List.getElem?_eq_getElem (by rw [hlen]; exact h1))
      rw [hc0] at hc0'
      cases hc0'
      exact s4 _ _ (s3 _ _ hcp')
    have hDc : D0 ≠ c0 := (ne_of_none hc4 hD0).symm
    have hDP : D0 ≠ P0 := (ne_of_none (s4 _ _ (s3 _ _ hd)) hD0).symm
    generalize hH8 : upd H7 c0 _ = H8
    have h8 : ∀ {c : Addr} {o : HO}, c ≠ c0 → H7 c = some o → H8 c = some o := fun hc h => by
      rw [← hH8, upd_ne hc]
      exact h
    have hL8 := h8 hLc (q75 _ _ hL)
    have hP8 := h8 hne0.symm hP7
    refine ⟨_, rfl, .inl ⟨rfl, _, SqL.of hP8⟩, ?_⟩
    obtain ⟨e0, he0, d0, cc0, z1, z2, z3, z4⟩ := hE.get (i := 0) (List.getElem?_eq_getElem h1)
    have he0' : refs[0]? = some (.ref e0) := by
      rw [List.getElem?_take] at he0
      simpa using he0
    have hec : e0 ≠ c0 := ne_of_none z1 nH
    refine ⟨_, rfl, L, _, _, _, rfl, rfl, SqL.of hL8, atI_nat (i := 0) he0', e0, _, 0, _, rfl, rfl, SqT.of (h8 hec (q75 _ _ z1)), rfl, by show 2 ≤ sizeLine; decide, fun v hv => ?_⟩
    have sv := Same.new (o := .lst [.int 1, .ref (ps[0]'h1).1]) hv
    have hP9 := sv _ _ hP8
    refine ⟨P0, acc, _, rfl, rfl, hP9, ?_, ?_⟩
    · rw [hacc]
      exact Nat.lt_of_le_of_lt hps3 (by decide)
    have h9 : ∀ {c : Addr} {o : HO}, c ≠ c0 → c ≠ P0 → H7 c = some o → (upd (upd H8 v (.lst [.int 1, .ref (ps[0]'h1).1])) P0 (.lst (acc ++ [.ref v]))) c = some o := fun hc hc2 h => by
      rw [upd_ne hc2]
      exact sv _ _ (h8 hc h)
    have nl7 : ∀ c o, H7 c = some o → (∀ xs, o ≠ .lst xs) → (upd (upd H8 v (.lst [.int 1, .ref (ps[0]'h1).1])) P0 (.lst (acc ++ [.ref v]))) c = some o := fun c o h n =>
      h9 (ne_of h hc7 (n _)) (ne_of h hP7 (n _)) h
    generalize hH9 : upd (upd H8 v (.lst [.int 1, .ref (ps[0]'h1).1])) P0 (.lst (acc ++ [.ref v])) = H9 at h9 nl7
    refine ⟨_, rfl, _, rfl, _, rfl, by show 3 ≤ sizeLine; decide, fun q hq => ?_⟩
    have sq := Same.new (o := .tup [.ref m, .ref D0, .bl true]) hq
    refine kk q m D0 dacc _ (fun c o h => sq _ _ (h9 (ne_of_none h nH) (ne_of_none h nP) (q75 _ _ h))) nD (Same.none (s1.trans s2) nm) upd_same ((((m5.same q7)).nl nl7).same sq) (sq _ _ (h9 hDc hDP (q7 _ _ hdd))) (hed.imp fun c r z => sq _ _ (nl7 _ _ (q7 _ _ z) (by intro xs e; cases e)))
end
end PA

set_option maxHeartbeats 4000000
namespace PA
open PySem L2 RZ
open C8 (pss_cut tCut)
/-- a Rule, made with the starts of a plain one -/
theorem mk_rule {K : PySem.W.Frag} {C : Addr} {H : Hp} {Q : VK} {E : XK} {G S : Addr} {refs : List V} {rows : List Rw} {starts : List Int} {k : Int} (hG : Sq K H G refs) (hE : Each H isLT refs rows) (hS : Sq K H S (starts.map V.int)) (gd : Good rows starts k)
    {x dx : Addr} (nx : H x = none) (ndx : H dx = none) (nex : dx ≠ x) (kk : ∀ H', Same H H' → RuleAt K C H' x rows starts k → Q .non H') :
    spInit K C [V.ref x, V.ref G, V.ref S] (upd (upd H dx (.own x)) x (.ins C dx [])) Q E := by
  have s1 : Same H (upd (upd H dx (.own x)) x (.ins C dx [])) := fun c o e => by
    rw [upd_ne (ne_of_none e nx), upd_ne (ne_of_none e ndx)]
    exact e
  refine ⟨x, dx, G, S, refs, rows, starts, k, rfl, upd_same, hG.up s1, hE.sameLT s1, hS.up s1, gd, fun H' ⟨R, S', refs', h1, h2, h3, h4⟩ kp => kk H' (fun c o e => kp c o (s1 _ _ e) (ne_of_none e nx)) ⟨dx, R, S', refs', h1, h2, h3, h4⟩⟩
theorem RuleAt.ins {K : PySem.W.Frag} {C : Addr} {H : Hp} {p : Addr} {rows : List Rw} {starts : List Int} {k : Int} (r : RuleAt K C H p rows starts k) : InsOf C H p := by
  obtain ⟨dx, R, S, refs, h, _⟩ := r
  exact ⟨dx, _, h⟩
def spRefused (K : PySem.W.Frag) : Sp := fun vs H Q _ => ∃ (v t f : V), vs = [v, t, f] ∧
  ((∃ L refs ps, v = .ref L ∧ Sq K H L refs ∧ Ea H isW refs ps ∧ ps.length ≤ 10 ∧ (∀ z ∈ ps, Wt z.1) ∧ (ps.length = 0 ∨ (ps.map fun z : Pw => good z.1).all id = false)) ∨ (v = .non ∧ (∃ b, f = .bl b) ∧ Wt t ∧ good t = false)) ∧ ∀ H', Same H H' → Q (.bl true) H'
section
variable {P : Program} {w : World} {K : PySem.W.Frag} {mg : Str → Option Value} {base : Heap} {C D X fi fm fr frr fR fa fs g1 g2 : Addr} {di dm dr drr dR da ds gd1 gd2 : FuncData}
theorem scRefused : FnScope ["_law_parts", "_law_times", "_law_first"] ["_law_parts", "_law_times", "_law_first"] (defScope sRefused) := ⟨rfl, rfl, rfl, by decide +kernel, rfl, by decide +kernel, by decide +kernel⟩
/-- what makes Rules -/
structure LibR (K : PySem.W.Frag) (mg : Str → Option Value) (C fI dd g1 g2 g3 g4 : Addr) (dI gd1 gd2 gd3 gd4 : FuncData) : Prop where
  I : FunI K fI dI dd
  M : Mk K C fI
  b2 : Binds K dI ["self", "rows", "starts"] []
  b1 : ∃ ds, Vals [V.ref dd] ds ∧ Binds K dI ["self", "rows", "starts"] ds
  dd : ∀ H, SqT K H dd [V.int 0]
  D1 : Df K mg "is_integer" sIsInt g1 gd1 ["value"]
  D2 : Df K mg "is_below" sBelow g2 gd2 ["value", "count"]
  D3 : Df K mg "_is_row" sIsRow g3 gd3 ["row", "count"]
  D4 : Df K mg "_check_table" sCheck g4 gd4 ["rows", "starts"]
theorem one_row (b : Bool) : Good [((0 : Int), false, (0 : Int), b)] [0] 1 := by
  refine ⟨by show 1 ≤ 1; decide, by show 1 ≤ 48; decide, fun r hr => ?_, .r1, fun s hs => ?_⟩
  · cases List.mem_singleton.mp hr
    show ((0 : Int) ≤ 0 ∧ (0 : Int) < ((1 : Nat) : Int)) ∧ (0 : Int) ≤ 0 ∧ (0 : Int) < ((1 : Nat) : Int)
    decide
  · cases List.mem_singleton.mp hs
    show (0 : Int) ≤ 0 ∧ (0 : Int) < ((1 : Nat) : Int)
    decide
/-- a row's list: [(0, False, 0, b)] -/
def tRow (K : PySem.W.Frag) (C dd : Addr) (b : Bool) : TE := tMake C (spInit K C) [V.ref dd] E0 (tCons (tLst (tCons (tTup (tCons (tC (.int 0)) (tCons (tC (.bl false)) (tCons (tC (.int 0)) (tCons (tC (.bl b)) tNil))))) tNil)) tNil)
def rI0 (C : Addr) (sp : Sp) (E : XK) : R2 := fun x y H Q => ∃ a i dx fs, x = .ref a ∧ y = .int i ∧ H a = some (.ins C dx fs) ∧ sp [.ref a, .int i] H Q E
def rB0 (C : Addr) (sp : Sp) (E : XK) : R2 := fun x y H Q => ∃ a i dx fs, x = .ref a ∧ y = .bl i ∧ H a = some (.ins C dx fs) ∧ sp [.ref a, .bl i] H Q E
def rLI (C : Addr) (sp : Sp) (E : XK) : R2 := fun x y H Q => ∃ a i dx fs, x = .int i ∧ y = .ref a ∧ H a = some (.ins C dx fs) ∧ sp [.ref a, .int i] H Q E
def rLB (C : Addr) (sp : Sp) (E : XK) : R2 := fun x y H Q => ∃ a i dx fs, x = .bl i ∧ y = .ref a ∧ H a = some (.ins C dx fs) ∧ sp [.ref a, .bl i] H Q E
def rSS (C : Addr) (sp : Sp) : R2 := fun x y H Q => ∃ a b dx dy fs gs, x = .ref a ∧ y = .ref b ∧ H a = some (.ins C dx fs) ∧ H b = some (.ins C dy gs) ∧ sp [.ref a, .ref b] H Q E0
def rOr (r r' : R2) : R2 := fun x y H Q => r x y H Q ∨ r' x y H Q
def tbRef (K : PySem.W.Frag) (C D X dd : Addr) (W : WX) : TS :=
  tSeq (tIfS (tB (tNotN (tVar 0))) (tDrop (tMake D (spMInit0 K D X) [] (EW W) (tCons (tVar 0) tNil)))
    (tIfS (tB (tVar 2)) (tDrop (tOp (rOr (rI0 C (spRMul0 X) (EW W)) (rB0 C (spRMul0 X) (EW W))) (tRow K C dd true) (tVar 1)))
      (tDrop (tOp (rOr (rLI D (spMRmul0 D X) (EW W)) (rLB D (spMRmul0 D X) (EW W))) (tVar 1) (tOp (rSS C (spRAdd C D)) (tRow K C dd true) (tRow K C dd false))))))
    (tRet (tC (.bl false)))
theorem row_rd {b : Bool} {dd : Addr} {σ : L2.St} {H : Hp} {R : VK} (hdd : ∀ H, SqT K H dd [V.int 0]) (k : ∀ x H', Same H H' → InsOf C H' x → R (.ref x) H') : tRow K C dd b σ H R := by
  refine ⟨by show 4 ≤ sizeLine; decide, fun u hu => ⟨by show 1 ≤ sizeLine; decide, fun l hl => ?_⟩⟩
  have s1 := Same.new (o := .tup [.int 0, .bl false, .int 0, .bl b]) hu
  have s2 := Same.new (o := .lst [.ref u]) hl
  intro x dx nx ndx nex
  have hu2 : (upd (upd H u (.tup [.int 0, .bl false, .int 0, .bl b])) l (.lst [.ref u])) u = some (.tup (rv (0, false, 0, b))) := s2 _ _ upd_same
  refine mk_rule (G := l) (S := dd) (refs := [.ref u]) (rows := [(0, false, 0, b)]) (starts := [0]) (k := 1) (.inl (SqL.of upd_same)) (Each.push (xs := []) (rows := []) Each.nil (.inl hu2)) (.inr (hdd _)) (one_row b) nx ndx nex fun H' s' r' => ⟨rfl, k x H' ((s1.trans s2).trans s') r'.ins⟩
theorem ok_refused {f q2 q3 q4 fRa fI dd : Addr} {fd e2 e3 e4 dRa dI : FuncData} (F : Fun K "_law_p_refused" "_law_p_refused" sRefused f fd) (L : LibX K mg C D X fi fm fr frr fR fa fs g1 g2 di dm dr drr dR da ds gd1 gd2)
    (R : LibR K mg C fI dd g1 q2 q3 q4 dI gd1 e2 e3 e4) (FA : Fun K "__add__" "Rule.__add__" sRAdd fRa dRa) (bA : Binds K dRa ["self", "other"] []) (OS : OwnS K D fa .Add) (OX : OwnX K D C fa fRa .Add) (OSR : OwnS K C fRa .Add) :
    FnOk P w K mg base CX0 8 f fd ["_law_parts", "_law_times", "_law_first"] (spRefused K) := by
  have T := L.L.T
  have TX := L.TX
  obtain ⟨dvs, vd, bd⟩ := R.b1
  have GI : FnOk P w K mg base CX0 5 fI dI ["self", "rows", "starts"] (spInit K C) := ok_init R.I T R.D1 R.D2 R.D3 R.D4
  have GA : FnOk P w K mg base CX0 6 fRa dRa ["self", "other"] (spRAdd C D) := ok_radd (fs := fR) FA L.L OS OX
  have G0 : FnOk P w K mg base (L2.CX P w) 3 fi di ["self", "parts"] (spMInit0 K D X) := ok_minit0 L.L.FI T L.L.TM TX L.L.D1 L.L.D2
  have G1 : FnOk P w K mg base (L2.CX P w) 5 fR dR ["self", "other"] (spRMul0 X) := ok_rmul0 L
  have G2 : FnOk P w K mg base (L2.CX P w) 4 fr dr ["self", "other"] (spMRmul0 D X) := ok_mrmul0 L
  obtain ⟨fo, h1⟩ := L.OR.h1
  obtain ⟨ro, h2⟩ := L.OR.h2
  refine F.ok scRefused (fun vs H Q E h => ?_) (fun cdv A outer s H vs Q E hr h => ?_)
  · obtain ⟨v, t, f, rfl, _⟩ := h
    rfl
  · obtain ⟨v, t, b, rfl, hc, kk⟩ := h
    have hr4 : Room 4 _ := hr.mono (by decide)
    have hr5 : Room 5 _ := hr.mono (by decide)
    have hr6 : Room 6 _ := hr.mono (by decide)
    refine ⟨_, pss_one (ps_try_only (tb := tbRef K C D X dd) (ts := fun _ _ _ => tRet (tC (.bl true))) (Wout := fun _ _ _ _ => False) rfl rfl ⟨by rfl, by decide, .inl TX.g⟩ takes0
      (fun W pn xe tk _ => pss_cons (ps_if (pt_cmp (pc_notN (pv 0))) (pss_one (ps_expr (by exact (pe_make (E := EW W) L.L.M G0 hr4 (by rfl) L.L.TM.mgD L.L.bI .nil (passes_call tk (fun _ _ σ _ z => z σ)) (pa_cons (pv 0) pa_nil)))))
          (pss_one (ps_if (pt_val (pv 2))
            (pss_one (ps_expr (by exact (pe_op (OpR.or (op_ownI (E := EW W) L.OR.O h1 h2 G1 hr5 L.bRM (passes_call tk (fun _ _ σ _ z => z σ))) (op_ownIB (E := EW W) L.OR.O L.ORB G1 hr5 L.bRM (passes_call tk (fun _ _ σ _ z => z σ))))
              (pe_make R.M GI hr6 (by rfl) T.mgC bd vd pass0 (pa_cons (pe_lst (pa_cons (pe_tup (pa_cons pe_int (pa_cons pe_bl (pa_cons pe_int (pa_cons pe_bl pa_nil))))) pa_nil)) pa_nil)) (pv 1)))))
            (pss_one (ps_expr (by exact (pe_op (OpR.or (op_ownL (E := EW W) L.O.O PySem.F.fills_int_mul PySem.F.slot_int_mul PySem.F.entry_int_mul (fun _ _ _ => PySem.F.args_int_mul_2 _ _) (fun i t x ox s ho hd A E R z => PLow.mul_declines ho hd z) G2 hr4 L.bR (passes_call tk (fun _ _ σ _ z => z σ)))
                (op_ownLB (E := EW W) L.O.O L.OB PySem.F.fills_bool_mul PySem.F.slot_bool_mul PySem.F.entry_int_mul (fun _ _ => PySem.F.args_int_mul_2 _ _) (fun i x ox s ho hd A E R z => PLow.mul_declinesB ho hd z) G2 hr4 L.bR (passes_call tk (fun _ _ σ _ z => z σ)))) (pv 1)
              (pe_op (op_ownS (E := E0) OSR GA hr6 bA pass0)
                (pe_make R.M GI hr6 (by rfl) T.mgC bd vd pass0 (pa_cons (pe_lst (pa_cons (pe_tup (pa_cons pe_int (pa_cons pe_bl (pa_cons pe_int (pa_cons pe_bl pa_nil))))) pa_nil)) pa_nil))
                (pe_make R.M GI hr6 (by rfl) T.mgC bd vd pass0 (pa_cons (pe_lst (pa_cons (pe_tup (pa_cons pe_int (pa_cons pe_bl (pa_cons pe_int (pa_cons pe_bl pa_nil))))) pa_nil)) pa_nil))))))))))
        (pss_one (ps_ret pe_bl)))
      (fun a oe cls d pn hz hf => pss_one (ps_ret pe_bl))), ?_⟩
    rcases hc with ⟨L0, refs, ps, rfl, hL, hE, hm, hwt, hbad⟩ | ⟨rfl, ⟨b, rfl⟩, hw, hb⟩
    · refine ⟨_, rfl, _, rfl, ?_⟩
      rw [decide_eq_false (by intro z; cases z)]
      refine iteT ⟨_, rfl, fun x dx nx ndx nex => ?_⟩
      have s1 : Same H (upd (upd H dx (.own x)) x (.ins D dx [])) := fun c o e => by
        rw [upd_ne (ne_of_none e nx), upd_ne (ne_of_none e ndx)]
        exact e
      exact ⟨x, dx, L0, refs, ps, rfl, upd_same, hL.up s1, hE.imp (fun c r q => s1 _ _ q), hm, hwt, hbad, fun H' kp σ => ⟨true, TX.e, fun _ a ha => kk _ (fun c o e => kp c o (s1 _ _ e) (ne_of_none e nx)), fun q => Bool.noConfusion q⟩⟩
    · refine ⟨_, rfl, _, rfl, ?_⟩
      rw [decide_eq_true rfl]
      refine iteF ⟨_, rfl, _, rfl, ?_⟩
      cases b with
      | true =>
        refine iteT ?_
        unfold tDrop tOp
        refine row_rd R.dd fun x H1 s1 i1 => ⟨_, rfl, ?_⟩
        obtain ⟨dx, fs, hx⟩ := i1
        cases hw with
        | int i => exact .inl ⟨x, i, dx, fs, rfl, rfl, hx, x, .int i, rfl, .int i, hb, fun H' s' σ => ⟨true, TX.e, fun _ a ha => kk _ (s1.trans s'), fun q => Bool.noConfusion q⟩⟩
        | bl b => exact .inr ⟨x, b, dx, fs, rfl, rfl, hx, x, .bl b, rfl, .bl b, hb, fun H' s' σ => ⟨true, TX.e, fun _ a ha => kk _ (s1.trans s'), fun q => Bool.noConfusion q⟩⟩
      | false =>
        refine iteF ⟨_, rfl, ?_⟩
        unfold tOp
        refine row_rd R.dd fun x H1 s1 i1 => ?_
        refine row_rd R.dd fun y H2 s2 i2 => ?_
        have i1' := i1.same s2
        obtain ⟨dx, fs, hx⟩ := id i1'
        obtain ⟨dy, gs, hy⟩ := id i2
        refine ⟨x, y, dx, dy, fs, gs, rfl, rfl, hx, hy, x, y, [(1, y)], rfl, i1', .inl ⟨i2, rfl⟩, by show 1 ≤ 900; decide, fun z H3 nz s3 mz => ?_⟩
        obtain ⟨dz, hz⟩ : ∃ dz, ∃ hs, H3 z = some (.ins D dz hs) := mz.ins
        obtain ⟨hs, hz⟩ := hz
        cases hw with
        | int i => exact .inl ⟨z, i, dz, hs, rfl, rfl, hz, z, dz, hs, .int i, rfl, hz, .int i, hb, fun σ => ⟨true, TX.e, fun _ a ha => kk _ ((s1.trans s2).trans s3), fun q => Bool.noConfusion q⟩⟩
        | bl b => exact .inr ⟨z, b, dz, hs, rfl, rfl, hz, z, dz, hs, .bl b, rfl, hz, .bl b, hb, fun σ => ⟨true, TX.e, fun _ a ha => kk _ ((s1.trans s2).trans s3), fun q => Bool.noConfusion q⟩⟩
end
end PA

set_option maxHeartbeats 4000000
namespace PA
open PySem L2 RZ
open C8 (pss_cut tCut)
/-! ### frames -/
def NL (H H' : Hp) : Prop := ∀ c o, H c = some o → (∀ xs, o ≠ .lst xs) → H' c = some o
def Fr3 (a l S : Addr) (H H' : Hp) : Prop := ∀ c o, c ≠ a → c ≠ l → c ≠ S → H c = some o → H' c = some o
def LL (a l S : Addr) (H : Hp) : Prop := ∃ x y z, H a = some (.lst x) ∧ H l = some (.lst y) ∧ H S = some (.lst z)
section
variable {K : PySem.W.Frag} {C D a l S : Addr} {H H' H2 : Hp}
theorem Fr3.refl : Fr3 a l S H H := fun _ _ _ _ _ h => h
theorem Fr3.trans (h : Fr3 a l S H H') (h' : Fr3 a l S H' H2) : Fr3 a l S H H2 := fun c o x y z e => h' c o x y z (h c o x y z e)
theorem Fr3.same (s : Same H H') : Fr3 a l S H H' := fun c o _ _ _ e => s c o e
theorem Fr3.keep (s : Keep a l H H') : Fr3 a l S H H' := fun c o x y _ e => s c o x y e
theorem Fr3.lst {x : List V} : Fr3 a l S H (upd H S (.lst x)) := fun c o _ _ z e => by rw [upd_ne z]; exact e
theorem Fr3.nl (f : Fr3 a l S H H') (L : LL a l S H) : NL H H' := by
  obtain ⟨x, y, z, h1, h2, h3⟩ := L
  exact fun c o e n => f c o (ne_of e h1 (n _)) (ne_of e h2 (n _)) (ne_of e h3 (n _)) e
theorem RuleAt.nl {p : Addr} {rows : List Rw} {starts : List Int} {k : Int} (r : RuleAt K C H p rows starts k) (nl : NL H H') : RuleAt K C H' p rows starts k := by
  obtain ⟨dx, R, S, refs, h1, h2, h3, h4⟩ := r
  refine ⟨dx, R, S, refs, nl _ _ h1 (by intro xs e; cases e), nl _ _ h2 (by intro xs e; cases e), h3.imp fun c r q => nl _ _ q (by intro xs e; cases e), ?_⟩
  exact h4.elim (fun h => .inl (h.elim (fun h => .inl (nl _ _ h (by intro xs e; cases e))) fun ⟨o, h⟩ => .inr ⟨o, nl _ _ h (by intro xs e; cases e)⟩)) fun h => .inr h
theorem TxAt.nl {r : Addr} {t : Str} (h : TxAt K C H r t) (nl : NL H H') : TxAt K C H' r t := by
  obtain ⟨rows, starts, k, h1, h2⟩ := h
  exact ⟨rows, starts, k, h1.nl nl, h2⟩
theorem TxAt.ins {r : Addr} {t : Str} (h : TxAt K C H r t) : InsOf C H r := by
  obtain ⟨rows, starts, k, h1, h2⟩ := h
  exact h1.ins
theorem InsOf.nl {q : Addr} (h : InsOf C H q) (nl : NL H H') : InsOf C H' q := let ⟨dx, fs, e⟩ := h; ⟨dx, fs, nl _ _ e (by intro xs e; cases e)⟩
theorem Part.nl {q : Addr} {qs : List Pt} (h : Part C D H q qs) (nl : NL H H') : Part C D H' q qs := h.imp (fun h => ⟨h.1.nl nl, h.2⟩) fun h => ⟨h.1.nl nl, h.2⟩
theorem isDue.nl {c : Addr} {z : Pd} (h : isDue H c z) (nl : NL H H') : isDue H' c z := nl _ _ h (by intro xs e; cases e)
/-! ### what the law keeps -/
structure En where
  o : Addr
  pl : Bool
  zs : List Pd
def tx0 : List Pd → Str
  | z :: _ => z.2.2
  | [] => Str.empty
def isEn (K : PySem.W.Frag) (C D a l S : Addr) (H : Hp) (e : Addr) (en : En) : Prop := ∃ d drefs, H e = some (.tup [.ref en.o, .ref d, .bl en.pl]) ∧ (d ≠ a ∧ d ≠ l ∧ d ≠ S) ∧ H d = some (.lst drefs) ∧ Ea H isDue drefs en.zs ∧
  (∀ z ∈ en.zs, TxAt K C H z.2.1 z.2.2 ∧ 0 < z.1 ∧ Sm 100 z.1) ∧ 1 ≤ en.zs.length ∧ en.zs.length ≤ 5 ∧ Part C D H en.o (en.zs.map Pd.pt) ∧ (en.pl = true → ∃ t, en.zs = [(1, en.o, t)]) ∧ (en.pl = false → MixAt D H en.o (en.zs.map Pd.pt))
theorem isEn.fr {e : Addr} {en : En} (h : isEn K C D a l S H e en) (L : LL a l S H) (f : Fr3 a l S H H') : isEn K C D a l S H' e en := by
  obtain ⟨d, drefs, h1, h2, h3, h4, h5, h6, h7, h8, h9, h10⟩ := h
  have nl := f.nl L
  exact ⟨d, drefs, nl _ _ h1 (by intro xs e; cases e), h2, f _ _ h2.1 h2.2.1 h2.2.2 h3, h4.imp fun c r q => q.nl nl, fun z hz => ⟨(h5 z hz).1.nl nl, (h5 z hz).2⟩, h6, h7, h8.nl nl, h9, fun q => (h10 q).nl nl⟩
theorem isEn.pl {e : Addr} {en : En} (h : isEn K C D a l S H e en) (p : en.pl = true) : isPl K C H e (en.o, tx0 en.zs) := by
  obtain ⟨d, drefs, h1, h2, h3, h4, h5, h6, h7, h8, h9, h10⟩ := h
  obtain ⟨t, ht⟩ := h9 p
  rw [ht] at h4 h5
  rw [p] at h1
  obtain ⟨c, hc, q⟩ := h4.get (i := 0) rfl
  have : drefs = [.ref c] := by
    have hl : drefs.length = 1 := h4.1
    match drefs, hl, hc with
    | [x], _, hc => cases hc; rfl
  subst this
  rw [ht]
  exact ⟨d, c, h1, h3, q, (h5 _ (List.mem_singleton.mpr rfl)).1⟩
def plOf (en : En) : Pl := (en.o, tx0 en.zs)
theorem ea_pl {refs : List V} {ens : List En} (h : Ea H (isEn K C D a l S) refs ens) (hp : ∀ i en, i < 3 → ens[i]? = some en → en.pl = true) : Ea H (isPl K C) (refs.take 3) ((ens.take 3).map plOf) := by
  refine ⟨by rw [List.length_take, List.length_map, List.length_take, h.1], fun i x p hx hy => ?_⟩
  rw [List.getElem?_map, Option.map_eq_some_iff] at hy
  obtain ⟨en, hy, rfl⟩ := hy
  rw [List.getElem?_take] at hx hy
  by_cases hi : i < 3
  · rw [if_pos hi] at hx hy
    obtain ⟨c, rfl, q⟩ := h.2 i x en hx hy
    exact ⟨c, rfl, q.pl (hp i en hi hy)⟩
  · rw [if_neg hi] at hx
    cases hx
/-- a new mix with its due parts -/
def isMd (K : PySem.W.Frag) (C D : Addr) (H : Hp) (x d : Addr) (zs : List Pd) : Prop := ∃ drefs, MixAt D H x (zs.map Pd.pt) ∧ H d = some (.lst drefs) ∧ Ea H isDue drefs zs ∧ (∀ z ∈ zs, TxAt K C H z.2.1 z.2.2 ∧ 0 < z.1 ∧ Sm 300 z.1) ∧ 1 ≤ zs.length ∧ zs.length ≤ 10
/-! ### reading + and * -/
def rXX (C D : Addr) (sp : Sp) : R2 := fun x y H Q => ∃ a b dx dy fs gs, x = .ref a ∧ y = .ref b ∧ H a = some (.ins C dx fs) ∧ H b = some (.ins D dy gs) ∧ sp [.ref a, .ref b] H Q E0
def rAdd (C D : Addr) : R2 := rOr (rOr (rSS C (spRAdd C D)) (rXX C D (spRAdd C D))) (rOr (rSS D (spMAdd C D)) (rXX D C (spMAdd C D)))
theorem add_rd {o q : Addr} {ps qs : List Pt} {R : VK} (h1 : Part C D H o ps) (h2 : Part C D H q qs) (l1 : ps.length ≤ 5) (l2 : qs.length ≤ 5) (k : ∀ x H', H x = none → Same H H' → MixAt D H' x (ps ++ qs) → R (.ref x) H') : rAdd C D (.ref o) (.ref q) H R := by
  rcases id h1 with ⟨i1, rfl⟩ | ⟨m1, a1, b1⟩
  · obtain ⟨dx, fs, e1⟩ := id i1
    have sp : spRAdd C D [.ref o, .ref q] H R E0 := ⟨o, q, qs, rfl, i1, h2, by omega, k⟩
    rcases id h2 with ⟨i2, rfl⟩ | ⟨m2, a2, b2⟩
    · obtain ⟨dy, gs, e2⟩ := i2
      exact .inl (.inl ⟨o, q, dx, dy, fs, gs, rfl, rfl, e1, e2, sp⟩)
    · obtain ⟨dy, gs, e2⟩ := m2.ins
      exact .inl (.inr ⟨o, q, dx, dy, fs, gs, rfl, rfl, e1, e2, sp⟩)
  · obtain ⟨dx, fs, e1⟩ := m1.ins
    have sp : spMAdd C D [.ref o, .ref q] H R E0 := ⟨o, q, ps, qs, rfl, m1, a1, b1, h2, by omega, k⟩
    rcases id h2 with ⟨i2, rfl⟩ | ⟨m2, a2, b2⟩
    · obtain ⟨dy, gs, e2⟩ := i2
      exact .inr (.inr ⟨o, q, dx, dy, fs, gs, rfl, rfl, e1, e2, sp⟩)
    · obtain ⟨dy, gs, e2⟩ := m2.ins
      exact .inr (.inl ⟨o, q, dx, dy, fs, gs, rfl, rfl, e1, e2, sp⟩)
def rMulR (C D : Addr) : R2 := rOr (rI0 C (spRMul C D) E0) (rI0 D (spMMul D) E0)
def rMulL (C D : Addr) : R2 := rOr (rLI C (spRMul C D) E0) (rLI D (spMMul D) E0)
theorem mul_sp {o : Addr} {ps : List Pt} {t : Int} {R : VK} (h1 : Part C D H o ps) (l1 : ps.length ≤ 5) (t0 : 0 < t) (ts : Sm 1000 t) (hw : ∀ z ∈ ps, Sm 1000 z.1) (k : ∀ x H', H x = none → Same H H' → MixAt D H' x (ps.map (times t)) → R (.ref x) H') :
    (∃ dx fs, H o = some (.ins C dx fs) ∧ spRMul C D [.ref o, .int t] H R E0) ∨ (∃ dx fs, H o = some (.ins D dx fs) ∧ spMMul D [.ref o, .int t] H R E0) := by
  rcases id h1 with ⟨i1, rfl⟩ | ⟨m1, a1, b1⟩
  · obtain ⟨dx, fs, e1⟩ := id i1
    exact .inl ⟨dx, fs, e1, o, t, rfl, i1, t0, ts, k⟩
  · obtain ⟨dx, fs, e1⟩ := m1.ins
    exact .inr ⟨dx, fs, e1, o, t, ps, rfl, t0, ts, m1, a1, by omega, fun z hz => ⟨b1 z hz, hw z hz⟩, k⟩
theorem mulR_rd {o : Addr} {ps : List Pt} {t : Int} {R : VK} (h1 : Part C D H o ps) (l1 : ps.length ≤ 5) (t0 : 0 < t) (ts : Sm 1000 t) (hw : ∀ z ∈ ps, Sm 1000 z.1) (k : ∀ x H', H x = none → Same H H' → MixAt D H' x (ps.map (times t)) → R (.ref x) H') : rMulR C D (.ref o) (.int t) H R := by
  rcases mul_sp h1 l1 t0 ts hw k with ⟨dx, fs, e, s⟩ | ⟨dx, fs, e, s⟩
  · exact .inl ⟨o, t, dx, fs, rfl, rfl, e, s⟩
  · exact .inr ⟨o, t, dx, fs, rfl, rfl, e, s⟩
theorem mulL_rd {o : Addr} {ps : List Pt} {t : Int} {R : VK} (h1 : Part C D H o ps) (l1 : ps.length ≤ 5) (t0 : 0 < t) (ts : Sm 1000 t) (hw : ∀ z ∈ ps, Sm 1000 z.1) (k : ∀ x H', H x = none → Same H H' → MixAt D H' x (ps.map (times t)) → R (.ref x) H') : rMulL C D (.int t) (.ref o) H R := by
  rcases mul_sp h1 l1 t0 ts hw k with ⟨dx, fs, e, s⟩ | ⟨dx, fs, e, s⟩
  · exact .inl ⟨o, t, dx, fs, rfl, rfl, e, s⟩
  · exact .inr ⟨o, t, dx, fs, rfl, rfl, e, s⟩
def tm (t : Int) (z : Pd) : Pd := (t * z.1, z.2.1, z.2.2)
theorem tm_pt (t : Int) (zs : List Pd) : (zs.map (tm t)).map Pd.pt = (zs.map Pd.pt).map (times t) := by
  rw [List.map_map, List.map_map]
  congr 1
  funext z
  show (t * z.1, z.2.1) = (z.1 * t, z.2.1)
  rw [Int.mul_comm]
end
end PA

namespace PA
open PySem L2 RZ
structure Adr where
  dd : Addr
  fCI : Addr
  dCI : FuncData
  fStr : Addr
  dStr : FuncData
  fCA : Addr
  dCA : FuncData
  fCM : Addr
  dCM : FuncData
  fCR : Addr
  dCR : FuncData
  fDI : Addr
  dDI : FuncData
  fLen : Addr
  dLen : FuncData
  fDA : Addr
  dDA : FuncData
  fDM : Addr
  dDM : FuncData
  fDR : Addr
  dDR : FuncData
  fisInt : Addr
  disInt : FuncData
  fbelow : Addr
  dbelow : FuncData
  fisPos : Addr
  disPos : FuncData
  fisRow : Addr
  disRow : FuncData
  fcheck : Addr
  dcheck : FuncData
  frowsTx : Addr
  drowsTx : FuncData
  frowTx : Addr
  drowTx : FuncData
  fstTx : Addr
  dstTx : FuncData
  fdraw : Addr
  ddraw : FuncData
  fstart : Addr
  dstart : FuncData
  fpick : Addr
  dpick : FuncData
  fsame : Addr
  dsame : FuncData
  ftable : Addr
  dtable : FuncData
  frefused : Addr
  drefused : FuncData
  fhas : Addr
  dhas : FuncData
  flisted : Addr
  dlisted : FuncData
structure Prog (K : PySem.W.Frag) (mg : Str → Option Value) (C D X : Addr) (A : Adr) : Prop where
  T : Txt K mg C
  TM : TxtM K mg D
  TI : TxtI K C D
  TS : TxtS K mg
  TX : TxtX K mg X
  hen : mg "enumerate" = none
  CI : FunI K A.fCI A.dCI A.dd
  CMk : Mk K C A.fCI
  Cb2 : Binds K A.dCI ["self", "rows", "starts"] []
  Cb1 : ∃ ds, Vals [V.ref A.dd] ds ∧ Binds K A.dCI ["self", "rows", "starts"] ds
  dd : ∀ H, SqT K H A.dd [V.int 0]
  FStr : Fun K "__str__" "Rule.__str__" sStr A.fStr A.dStr
  bStr : Binds K A.dStr ["self"] []
  mStr : Meth K C "__str__" A.fStr
  FCA : Fun K "__add__" "Rule.__add__" sRAdd A.fCA A.dCA
  bCA : Binds K A.dCA ["self", "other"] []
  FCM : Fun K "__mul__" "Rule.__mul__" sRMul A.fCM A.dCM
  bCM : Binds K A.dCM ["self", "other"] []
  FCR : Fun K "__rmul__" "Rule.__rmul__" sRRmul A.fCR A.dCR
  bCR : Binds K A.dCR ["self", "other"] []
  DI : Fun K "__init__" "Mix.__init__" sMInit A.fDI A.dDI
  DMk : Mk K D A.fDI
  Db : Binds K A.dDI ["self", "parts"] []
  FLen : Fun K "__len__" "Mix.__len__" sMLen A.fLen A.dLen
  bLen : Binds K A.dLen ["self"] []
  mLen : Meth K D "__len__" A.fLen
  FDA : Fun K "__add__" "Mix.__add__" sMAdd A.fDA A.dDA
  bDA : Binds K A.dDA ["self", "other"] []
  FDM : Fun K "__mul__" "Mix.__mul__" sMMul A.fDM A.dDM
  bDM : Binds K A.dDM ["self", "other"] []
  FDR : Fun K "__rmul__" "Mix.__rmul__" sMRmul A.fDR A.dDR
  bDR : Binds K A.dDR ["self", "other"] []
  oCA : OwnS K C A.fCA .Add
  oDA : OwnS K D A.fDA .Add
  oCD : OwnX K C D A.fCA A.fDA .Add
  oDC : OwnX K D C A.fDA A.fCA .Add
  oCM : OwnM K C A.fCM A.fCR .Mult
  oDM : OwnM K D A.fDM A.fDR .Mult
  bC : OwnB K C .Mult
  bD : OwnB K D .Mult
  isInt : Df K mg "is_integer" sIsInt A.fisInt A.disInt ["value"]
  below : Df K mg "is_below" sBelow A.fbelow A.dbelow ["value", "count"]
  isPos : Df K mg "is_positive" sIsPos A.fisPos A.disPos ["value"]
  isRow : Df K mg "_is_row" sIsRow A.fisRow A.disRow ["row", "count"]
  check : Df K mg "_check_table" sCheck A.fcheck A.dcheck ["rows", "starts"]
  rowsTx : Df K mg "_rows_text" sRowsTx A.frowsTx A.drowsTx ["rows"]
  rowTx : Df K mg "_row_text" sRowTx A.frowTx A.drowTx ["row"]
  stTx : Df K mg "_starts_text" sStartsTx A.fstTx A.dstTx ["starts"]
  draw : Df K mg "_law_draw" sDraw A.fdraw A.ddraw ["_law_stream", "_law_many"]
  start : Df K mg "_law_start" sStart A.fstart A.dstart ["_law_script"]
  pick : Df K mg "_law_pick" sPick A.fpick A.dpick ["_law_stream", "_law_some"]
  same : Df K mg "_law_same" sSame A.fsame A.dsame ["_law_found", "_law_due"]
  table : Df K mg "_law_p_table" sTable A.ftable A.dtable ["_law_stream", "_law_most"]
  refused : Df K mg "_law_p_refused" sRefused A.frefused A.drefused ["_law_parts", "_law_times", "_law_first"]
  has : Df K mg "_law_p_has" sHas A.fhas A.dhas ["_law_mix", "_law_due"]
  listed : Df K mg "_law_p_listed" sListed A.flisted A.dlisted ["_law_some", "_law_times"]
section
variable {K : PySem.W.Frag} {mg : Str → Option Value} {C D X : Addr} {A : Adr}
theorem Prog.libM (G : Prog K mg C D X A) : LibM K mg C D A.fDI A.fDA A.fDM A.fisInt A.fisPos A.dDI A.dDA A.dDM A.disInt A.disPos := ⟨G.T, G.TM, G.TI, G.DI, G.DMk, G.Db, G.FDA, G.bDA, G.FDM, G.bDM, G.isInt, G.isPos⟩
theorem Prog.libX (G : Prog K mg C D X A) : LibX K mg C D X A.fDI A.fDM A.fDR A.fCR A.fCM A.fDA A.fCA A.fisInt A.fisPos A.dDI A.dDM A.dDR A.dCR A.dCM A.dDA A.dCA A.disInt A.disPos := ⟨G.libM, G.TX, G.oDM, G.bD, G.FDR, G.bDR, G.oCM, G.bC, G.FCM, G.bCM⟩
theorem Prog.libR (G : Prog K mg C D X A) : LibR K mg C A.fCI A.dd A.fisInt A.fbelow A.fisRow A.fcheck A.dCI A.disInt A.dbelow A.disRow A.dcheck := ⟨G.CI, G.CMk, G.Cb2, G.Cb1, G.dd, G.isInt, G.below, G.isRow, G.check⟩
end
end PA

set_option maxHeartbeats 8000000
namespace PA
open PySem L2 RZ
open C8 (pss_cut tCut)
theorem StreamAt.LL {H : Hp} {a l S : Addr} {n : Nat} {refs : List V} (s : StreamAt H a l n) (h : H S = some (.lst refs)) : LL a l S H := by
  obtain ⟨ne, ns, x, z, h1, h2, _⟩ := s
  exact ⟨_, _, _, h1, h2, h⟩
structure LI (K : PySem.W.Frag) (C D sa sl S : Addr) (H : Hp) (n : Nat) (refs : List V) (ens : List En) : Prop where
  st : StreamAt H sa sl n
  hS : H S = some (.lst refs)
  Sa : S ≠ sa
  Sl : S ≠ sl
  hE : Ea H (isEn K C D sa sl S) refs ens
  pl : ∀ i en, i < 3 → ens[i]? = some en → en.pl = true
section
variable {K : PySem.W.Frag} {C D sa sl S : Addr} {H H' : Hp} {n m : Nat} {refs : List V} {ens : List En}
theorem LI.LL (L : LI K C D sa sl S H n refs ens) : LL sa sl S H := L.st.LL L.hS
theorem LI.keep (L : LI K C D sa sl S H n refs ens) (s : StreamAt H' sa sl m) (k : Keep sa sl H H') : LI K C D sa sl S H' m refs ens :=
  ⟨s, k _ _ L.Sa L.Sl L.hS, L.Sa, L.Sl, L.hE.imp fun c e q => q.fr L.LL (Fr3.keep k), L.pl⟩
theorem LI.same (L : LI K C D sa sl S H n refs ens) (s : Same H H') : LI K C D sa sl S H' n refs ens := L.keep (L.st.same s) (Keep.of s)
theorem LI.n_ (L : LI K C D sa sl S H n refs ens) (e : n = m) : LI K C D sa sl S H m refs ens := e ▸ L
/-- one more entry -/
theorem LI.push (L : LI K C D sa sl S H n refs ens) {e : Addr} {en : En} (h : isEn K C D sa sl S H e en) (hp : ens.length < 3 → en.pl = true) : LI K C D sa sl S (upd H S (.lst (refs ++ [.ref e]))) n (refs ++ [.ref e]) (ens ++ [en]) := by
  refine ⟨L.st.lst L.hS L.Sa L.Sl, upd_same, L.Sa, L.Sl, (Ea.push L.hE h).imp fun c e q => q.fr L.LL Fr3.lst, fun i x hi hx => ?_⟩
  rcases Nat.lt_trichotomy i ens.length with hlt | heq | hgt
  · rw [List.getElem?_append_left hlt] at hx
    exact L.pl i x hi hx
  · subst heq
    rw [List.getElem?_append_right (Nat.le_refl _), Nat.sub_self] at hx
    cases hx
    exact hp hi
  · rw [List.getElem?_eq_none (by rw [List.length_append]; show ens.length + 1 ≤ i; omega)] at hx
    cases hx
end
/-- what Mix refuses -/
def BadAt (K : PySem.W.Frag) (H : Hp) (a : Addr) : Prop := ∃ refs ps, Sq K H a refs ∧ Ea H isW refs ps ∧ ps.length ≤ 10 ∧ (∀ z ∈ ps, Wt z.1) ∧ (ps.length = 0 ∨ (ps.map fun z : Pw => good z.1).all id = false)
theorem BadAt.same {K : PySem.W.Frag} {H H' : Hp} {a : Addr} (b : BadAt K H a) (s : Same H H') : BadAt K H' a := by
  obtain ⟨refs, ps, h1, h2, h3⟩ := b
  exact ⟨refs, ps, h1.up s, h2.imp fun c r q => s _ _ q, h3⟩
theorem BadAt.nil {K : PySem.W.Frag} {H : Hp} {a : Addr} (h : Sq K H a []) : BadAt K H a := ⟨[], [], h, Ea.nil, Nat.zero_le _, (fun z hz => by cases hz), .inl rfl⟩
theorem BadAt.mk {K : PySem.W.Frag} {H : Hp} {a : Addr} {refs : List V} {ps : List Pw} (h : Sq K H a refs) (e : Ea H isW refs ps) (l : ps.length ≤ 10) (w : ∀ z ∈ ps, Wt z.1) (b : (ps.map fun z : Pw => good z.1).all id = false) : BadAt K H a := ⟨refs, ps, h, e, l, w, .inr b⟩
def spLaw (K : PySem.W.Frag) : Sp := fun vs H Q _ => ∃ (a : Addr) (ns : List Int), vs = [.ref a] ∧ SqL K H a (ns.map V.int) ∧ ns.length ≤ 63 ∧ ∀ H', Q (.bl true) H'
section
variable {P : Program} {w : World} {K : PySem.W.Frag} {mg : Str → Option Value} {base : Heap} {C D X : Addr} {A : Adr}
theorem scLaw : FnScope ["_law_script", "_law_stream", "_law_some", "_law_k", "_law_table", "_law_rule", "_law_turn", "_law_one", "_law_other", "_law_times", "_law_kind", "_law_mix", "_law_due", "_law_kept", "_law_found", "_law_parts", "_law_plain", "_law_bad", "_law_part"] ["_law_script"] (defScope sLaw) := ⟨rfl, rfl, rfl, by decide +kernel, rfl, by decide +kernel, by decide +kernel⟩
theorem ok_law {f : Addr} {fd : FuncData} (F : Fun K "law" "law" sLaw f fd) (GG : Prog K mg C D X A) : FnOk P w K mg base CX0 9 f fd ["_law_script"] (spLaw K) := by
  have T := GG.T
  have GI : FnOk P w K mg base CX0 5 A.fCI A.dCI ["self", "rows", "starts"] (spInit K C) := ok_init GG.CI T GG.isInt GG.below GG.isRow GG.check
  have GStr : FnOk P w K mg base CX0 3 A.fStr A.dStr ["self"] (spStr K C) := ok_str GG.FStr T GG.TS GG.rowsTx GG.rowTx GG.stTx
  have GDraw : FnOk P w K mg base CX0 1 A.fdraw A.ddraw ["_law_stream", "_law_many"] spDraw := ok_draw GG.draw.F T
  have GStart : FnOk P w K mg base CX0 1 A.fstart A.dstart ["_law_script"] (spStart K) := ok_start GG.start.F T
  have GPick : FnOk P w K mg base CX0 2 A.fpick A.dpick ["_law_stream", "_law_some"] spPick := ok_pick GG.pick.F T GG.draw
  have GTable : FnOk P w K mg base CX0 2 A.ftable A.dtable ["_law_stream", "_law_most"] spTable := ok_table GG.table.F T GG.draw
  have GRef : FnOk P w K mg base CX0 8 A.frefused A.drefused ["_law_parts", "_law_times", "_law_first"] (spRefused K) := ok_refused GG.refused.F GG.libX GG.libR GG.FCA GG.bCA GG.oDA GG.oDC GG.oCA
  have GHas : FnOk P w K mg base CX0 6 A.fhas A.dhas ["_law_mix", "_law_due"] (spHas K C D) := ok_has GG.has.F T GG.TM GG.TS ⟨GG.FLen, GG.bLen, GG.mLen, GG.FStr, GG.bStr, GG.mStr⟩ GG.same GG.rowsTx GG.rowTx GG.stTx
  have GListed : FnOk P w K mg base CX0 5 A.flisted A.dlisted ["_law_some", "_law_times"] (spListed K C D) := ok_listed GG.listed.F T GG.TM GG.hen GG.DI GG.DMk GG.Db GG.isInt GG.isPos
  have GCA : FnOk P w K mg base CX0 6 A.fCA A.dCA ["self", "other"] (spRAdd C D) := ok_radd (fs := A.fCA) GG.FCA GG.libM GG.oDA GG.oDC
  have GDA : FnOk P w K mg base CX0 5 A.fDA A.dDA ["self", "other"] (spMAdd C D) := ok_madd GG.FDA T GG.TM GG.TI GG.DI GG.DMk GG.Db GG.isInt GG.isPos
  have GCM : FnOk P w K mg base CX0 6 A.fCM A.dCM ["self", "other"] (spRMul C D) := ok_rmul GG.FCM GG.libM GG.oDM
  have GCR : FnOk P w K mg base CX0 7 A.fCR A.dCR ["self", "other"] (spRMul C D) := ok_rrmul GG.FCR GG.libM GG.oDM GG.FCM GG.bCM GG.oCM
  have GDM : FnOk P w K mg base CX0 5 A.fDM A.dDM ["self", "other"] (spMMul D) := ok_mmul GG.FDM T GG.TM GG.DI GG.DMk GG.Db GG.isInt GG.isPos
  have GDR : FnOk P w K mg base CX0 6 A.fDR A.dDR ["self", "other"] (spMMul D) := ok_mrmul GG.FDR GG.libM GG.oDM
  obtain ⟨foC, h1C⟩ := GG.oCM.h1
  obtain ⟨roC, h2C⟩ := GG.oCM.h2
  refine F.ok scLaw (fun vs H Q E h => ?_) (fun cdv A0 outer s H vs Q E hr h => ?_)
  · obtain ⟨a, ns, rfl, _⟩ := h
    rfl
  · obtain ⟨a, ns, rfl, hS, hlen, kk⟩ := h
    have hr7 : Room 7 _ := hr.mono (by decide)
    have hr6 : Room 6 _ := hr.mono (by decide)
    have hr5 : Room 5 _ := hr.mono (by decide)
    have hr2 : Room 2 _ := hr.mono (by decide)
    have hr1 : Room 1 _ := hr.mono (by decide)
    refine ⟨_, pss_cons (ps_set (i := 1) scLaw.nd rfl (Or.inl rfl) (pe_call GStart hr1 rfl GG.start.M GG.start.F.kp GG.start.B .nil pass0 (pa_cons (pv 0) pa_nil)))
      (pss_cons (ps_set (i := 2) scLaw.nd rfl (Or.inl rfl) (pe_lst pa_nil))
      (pss_cut (ps_for PassesOwn.never rfl (pi_range1 (by rfl) T.range_ (pa_cons pe_int pa_nil)) (pg_name (i := 3) scLaw.nd rfl (Or.inl rfl))
        (pss_cons (ps_set (i := 4) scLaw.nd rfl (Or.inl rfl) (pe_call GTable hr2 rfl GG.table.M GG.table.F.kp GG.table.B .nil pass0 (pa_cons (pv 1) (pa_cons pe_int pa_nil))))
        (pss_cons (ps_set (i := 5) scLaw.nd rfl (Or.inl rfl) (pe_make GG.CMk GI hr6 rfl T.mgC GG.Cb2 .nil pass0 (pa_cons (pe_ix ix_tup (pv 4) pe_int (fun _ _ => rfl)) (pa_cons (pe_ix ix_tup (pv 4) pe_int (fun _ _ => rfl)) pa_nil))))
        (pss_one (ps_expr (pe_bm PySem.F.plainAttrs_list PySem.F.slot_list_append PySem.F.type_list_append mt_append (pv 2) (pa_cons (pe_tup (pa_cons (pv 5) (pa_cons (pe_lst (pa_cons (pe_tup (pa_cons pe_int (pa_cons (pe_callTy (call_strOwn (E := E0) GG.mStr.at_ GG.mStr.fn GStr hr5 GG.bStr pass0) (by rfl) GG.TS.str_ boot_str' (pa_cons (pv 5) pa_nil)) pa_nil))) pa_nil)) (pa_cons pe_bl pa_nil)))) pa_nil)))))))
      (pss_cut (ps_for PassesOwn.never rfl (pi_range1 (by rfl) T.range_ (pa_cons pe_int pa_nil)) (pg_name (i := 6) scLaw.nd rfl (Or.inl rfl))
        (pss_cons (ps_par (i := 7) (j := 8) (by rfl) scLaw.nd rfl rfl (by decide) rfl rfl (pa_cons (pe_call GPick hr2 rfl GG.pick.M GG.pick.F.kp GG.pick.B .nil pass0 (pa_cons (pv 1) (pa_cons (pv 2) pa_nil))) (pa_cons (pe_call GPick hr2 rfl GG.pick.M GG.pick.F.kp GG.pick.B .nil pass0 (pa_cons (pv 1) (pa_cons (pv 2) pa_nil))) pa_nil)) (by rfl))
        (pss_cons (ps_asg (pe_tup (pa_cons (pe_op op_add pe_int (pe_op op_mulW (pe_call GDraw hr1 rfl GG.draw.M GG.draw.F.kp GG.draw.B .nil pass0 (pa_cons (pv 1) (pa_cons pe_int pa_nil)))
              (pe_call GPick hr2 rfl GG.pick.M GG.pick.F.kp GG.pick.B .nil pass0 (pa_cons (pv 1) (pa_cons (pe_lst (pa_cons pe_int (pa_cons pe_int (pa_cons pe_int (pa_cons (pe_op op_pow pe_int pe_int) pa_nil))))) pa_nil)))))
            (pa_cons (pe_call GDraw hr1 rfl GG.draw.M GG.draw.F.kp GG.draw.B .nil pass0 (pa_cons (pv 1) (pa_cons pe_int pa_nil))) pa_nil))) (pg_tup rfl (pgs_cons (pg_name (i := 9) scLaw.nd rfl (Or.inr rfl)) (pgs_cons (pg_name (i := 10) scLaw.nd rfl (Or.inl rfl)) pgs_nil))))
        (pss_cut (ps_if (pt_cmpR op_eq (pv 10) pe_int (nomark _))
            (pss_one (ps_par (i := 11) (j := 12) (by rfl) scLaw.nd rfl rfl (by decide) rfl rfl (pa_cons (pe_op (r := rAdd C D) (OpR.or (OpR.or (op_ownS (E := E0) GG.oCA GCA hr6 GG.bCA pass0) (op_ownX (E := E0) GG.oCD GCA hr6 GG.bCA pass0)) (OpR.or (op_ownS (E := E0) GG.oDA GDA hr5 GG.bDA pass0) (op_ownX (E := E0) GG.oDC GDA hr5 GG.bDA pass0))) (pe_ix ix_tup (pv 7) pe_int (fun _ _ => rfl)) (pe_ix ix_tup (pv 8) pe_int (fun _ _ => rfl)))
              (pa_cons (pe_op op_cat (pe_ix ix_tup (pv 7) pe_int (fun _ _ => rfl)) (pe_ix ix_tup (pv 8) pe_int (fun _ _ => rfl))) pa_nil)) (by rfl)))
            (pss_one (ps_if (pt_cmpR op_eq (pv 10) pe_int (nomark _))
              (pss_one (ps_par (i := 11) (j := 12) (by rfl) scLaw.nd rfl rfl (by decide) rfl rfl (pa_cons (pe_op (r := rMulL C D) (OpR.or (op_ownL (E := E0) GG.oCM.O PySem.F.fills_int_mul PySem.F.slot_int_mul PySem.F.entry_int_mul (fun _ _ _ => PySem.F.args_int_mul_2 _ _) (fun i t x ox s ho hd A E R z => PLow.mul_declines ho hd z) GCR hr7 GG.bCR pass0)
                  (op_ownL (E := E0) GG.oDM.O PySem.F.fills_int_mul PySem.F.slot_int_mul PySem.F.entry_int_mul (fun _ _ _ => PySem.F.args_int_mul_2 _ _) (fun i t x ox s ho hd A E R z => PLow.mul_declines ho hd z) GDR hr6 GG.bDR pass0)) (pv 9) (pe_ix ix_tup (pv 7) pe_int (fun _ _ => rfl)))
                (pa_cons (pe_lc (own := [("_law_part", 18)]) (g := gName 18) (tt := tYes) (by rfl) scLaw.nd (pi_list (pe_ix ix_tup (pv 7) pe_int (fun _ _ => rfl))) (blkOk_by (N := ["_law_script", "_law_stream", "_law_some", "_law_k", "_law_table", "_law_rule", "_law_turn", "_law_one", "_law_other", "_law_times", "_law_kind", "_law_mix", "_law_due", "_law_kept", "_law_found", "_law_parts", "_law_plain", "_law_bad", "_law_part"]) (sc := defScope sLaw) (by decide +kernel))
                  (fun _ _ _ _ _ => pg_name (i := 18) scLaw.nd rfl (Or.inl rfl)) (fun _ _ _ _ _ => pts_nil) (fun _ _ _ _ _ => pe_tup (pa_cons (pe_op op_mulW (pv 9) (pe_ix (ix_tupK (K := K) rfl) (pv 18) pe_int (fun _ _ => rfl))) (pa_cons (pe_ix (ix_tupK (K := K) rfl) (pv 18) pe_int (fun _ _ => rfl)) pa_nil)))) pa_nil)) (by rfl)))
              (pss_one (ps_if (pt_cmpR op_eq (pv 10) pe_int (nomark _))
                (pss_one (ps_par (i := 11) (j := 12) (by rfl) scLaw.nd rfl rfl (by decide) rfl rfl (pa_cons (pe_op (r := rMulR C D) (OpR.or (op_ownI (E := E0) GG.oCM.O h1C h2C GCM hr6 GG.bCM pass0) (op_ownI (E := E0) GG.oDM.O h1C h2C GDM hr5 GG.bDM pass0)) (pe_ix ix_tup (pv 7) pe_int (fun _ _ => rfl)) (pv 9))
                (pa_cons (pe_lc (own := [("_law_part", 18)]) (g := gName 18) (tt := tYes) (by rfl) scLaw.nd (pi_list (pe_ix ix_tup (pv 7) pe_int (fun _ _ => rfl))) (blkOk_by (N := ["_law_script", "_law_stream", "_law_some", "_law_k", "_law_table", "_law_rule", "_law_turn", "_law_one", "_law_other", "_law_times", "_law_kind", "_law_mix", "_law_due", "_law_kept", "_law_found", "_law_parts", "_law_plain", "_law_bad", "_law_part"]) (sc := defScope sLaw) (by decide +kernel))
                  (fun _ _ _ _ _ => pg_name (i := 18) scLaw.nd rfl (Or.inl rfl)) (fun _ _ _ _ _ => pts_nil) (fun _ _ _ _ _ => pe_tup (pa_cons (pe_op op_mulW (pv 9) (pe_ix (ix_tupK (K := K) rfl) (pv 18) pe_int (fun _ _ => rfl))) (pa_cons (pe_ix (ix_tupK (K := K) rfl) (pv 18) pe_int (fun _ _ => rfl)) pa_nil)))) pa_nil)) (by rfl)))
                (pss_cons (ps_asg (pe_call GListed hr5 rfl GG.listed.M GG.listed.F.kp GG.listed.B .nil pass0 (pa_cons (pv 2) (pa_cons (pv 9) pa_nil))) (pg_tup rfl (pgs_cons (pg_name (i := 11) scLaw.nd rfl (Or.inl rfl)) (pgs_cons (pg_name (i := 12) scLaw.nd rfl (Or.inl rfl)) (pgs_cons (pg_name (i := 13) scLaw.nd rfl (Or.inl rfl)) pgs_nil)))))
                (pss_one (ps_if (pt_not (pt_val (pv 13))) pss_never pss_nil))))))))
        (pss_cut (ps_if (PW.pt (pw_and (pt_cmpR op_lt (pe_callB call_len_seq (by rfl) T.len_ PySem.boot_len (pa_cons (pv 12) pa_nil)) pe_int (nomark _))
              (pw_and1 (pt_val (pe_callB (cr_all rfl) (by rfl) T.all_ boot_all' (pa_cons (pe_lc (own := [("_law_part", 18)]) (g := gName 18) (tt := tYes) (by rfl) scLaw.nd (pi_list (pv 12)) (blkOk_by (N := ["_law_script", "_law_stream", "_law_some", "_law_k", "_law_table", "_law_rule", "_law_turn", "_law_one", "_law_other", "_law_times", "_law_kind", "_law_mix", "_law_due", "_law_kept", "_law_found", "_law_parts", "_law_plain", "_law_bad", "_law_part"]) (sc := defScope sLaw) (by decide +kernel))
                  (fun _ _ _ _ _ => pg_name (i := 18) scLaw.nd rfl (Or.inl rfl)) (fun _ _ _ _ _ => pts_nil) (fun _ _ _ _ _ => pe_cmpR op_lt (pe_ix (ix_tupK (K := K) rfl) (pv 18) pe_int (fun _ _ => rfl)) (pe_op op_pow pe_int pe_int) (nomark _))) pa_nil))))))
            (pss_one (ps_expr (pe_bm PySem.F.plainAttrs_list PySem.F.slot_list_append PySem.F.type_list_append mt_append (pv 2) (pa_cons (pe_tup (pa_cons (pv 11) (pa_cons (pv 12) (pa_cons pe_bl pa_nil)))) pa_nil)))) pss_nil)
        (pss_one (ps_for PassesOwn.never rfl (pi_list (pv 2)) (pg_tup rfl (pgs_cons (pg_name (i := 14) scLaw.nd rfl (Or.inl rfl)) (pgs_cons (pg_name (i := 15) scLaw.nd rfl (Or.inl rfl)) (pgs_cons (pg_name (i := 16) scLaw.nd rfl (Or.inl rfl)) pgs_nil))))
          (pss_one (ps_if (PW.pt (pw_and (pt_not (pt_val (pv 16))) (pw_and1 (pt_not (pt_val (pe_call GHas hr6 rfl GG.has.M GG.has.F.kp GG.has.B .nil pass0 (pa_cons (pv 14) (pa_cons (pv 15) pa_nil)))))))) pss_never pss_nil)))))))))
      (pss_cons (ps_set (i := 5) scLaw.nd rfl (Or.inl rfl) (pe_ix ix_tup (pe_ix ix_list (pv 2) pe_int (fun _ _ => rfl)) pe_int (fun _ _ => rfl)))
      (pss_cons (ps_set (i := 17) scLaw.nd rfl (Or.inl rfl) (pe_lst (pa_cons (pe_lst pa_nil) (pa_cons (pe_lst (pa_cons (pe_tup (pa_cons pe_int (pa_cons (pv 5) pa_nil))) pa_nil))
          (pa_cons (pe_lst (pa_cons (pe_tup (pa_cons pe_int (pa_cons (pv 5) pa_nil))) (pa_cons (pe_tup (pa_cons (pe_un un_neg pe_int) (pa_cons (pv 5) pa_nil))) pa_nil)))
          (pa_cons (pe_lst (pa_cons (pe_tup (pa_cons pe_bl (pa_cons (pv 5) pa_nil))) pa_nil))
          (pa_cons (pe_tup (pa_cons (pe_tup (pa_cons pe_int (pa_cons (pv 5) pa_nil))) (pa_cons (pe_tup (pa_cons pe_int (pa_cons (pv 5) pa_nil))) pa_nil))) pa_nil)))))))
      (pss_cons (ps_if (pt_not (pt_val (pe_callB (cr_all rfl) (by rfl) T.all_ boot_all' (pa_cons (pe_lc (own := [("_law_parts", 15)]) (g := gName 15) (tt := tYes) (by rfl) scLaw.nd (pi_list (pv 17)) (blkOk_by (N := ["_law_script", "_law_stream", "_law_some", "_law_k", "_law_table", "_law_rule", "_law_turn", "_law_one", "_law_other", "_law_times", "_law_kind", "_law_mix", "_law_due", "_law_kept", "_law_found", "_law_parts", "_law_plain", "_law_bad", "_law_part"]) (sc := defScope sLaw) (by decide +kernel))
            (fun _ _ _ _ _ => pg_name (i := 15) scLaw.nd rfl (Or.inl rfl)) (fun _ _ _ _ _ => pts_nil) (fun _ _ _ _ _ => pe_call GRef hr rfl GG.refused.M GG.refused.F.kp GG.refused.B .nil pass0 (pa_cons (pv 15) (pa_cons pe_int (pa_cons pe_bl pa_nil))))) pa_nil)))) pss_never pss_nil)
      (pss_cons (ps_for PassesOwn.never rfl (pi_list (pe_lst (pa_cons pe_int (pa_cons (pe_un un_neg pe_int) (pa_cons (pe_un un_neg (pe_op op_pow pe_int pe_int)) (pa_cons pe_bl pa_nil)))))) (pg_name (i := 9) scLaw.nd rfl (Or.inr rfl))
        (pss_one (ps_if (PW.pt (pw_or (pt_not (pt_val (pe_call GRef hr rfl GG.refused.M GG.refused.F.kp GG.refused.B .nil pass0 (pa_cons pe_non (pa_cons (pv 9) (pa_cons pe_bl pa_nil))))))
            (pw_or1 (pt_not (pt_val (pe_call GRef hr rfl GG.refused.M GG.refused.F.kp GG.refused.B .nil pass0 (pa_cons pe_non (pa_cons (pv 9) (pa_cons pe_bl pa_nil))))))))) pss_never pss_nil)))
      (pss_one (ps_ret pe_bl))))))))), ?_⟩
    refine ⟨_, rfl, a, ns, rfl, hS, hlen, fun sa sl H1 S1 _ _ s1 => ?_⟩
    refine ⟨by show 0 ≤ sizeLine; decide, fun S hS0 => ?_⟩
    obtain ⟨Sa, Sl⟩ := S1.ne hS0
    have e2 := Same.new (o := .lst []) hS0
    have L0 : LI K C D sa sl S (upd H1 S (.lst [])) 0 [] [] := ⟨S1.same e2, upd_same, Sa, Sl, Ea.nil, fun i en _ h => by simp at h⟩
    refine ⟨fun σ' H' => ∃ x3 x4 x5 refs ens n', σ' = [some (.ref a), some (.ref sa), some (.ref S), x3, x4, x5, none, none, none, none, none, none, none, none, none, none, none, none, none] ∧ n' ≤ 1000 ∧ (ens : List En).length = 3 ∧ LI K C D sa sl S H' n' refs ens, ?_, ?_⟩
    · refine ⟨3, rfl, by decide, by decide, ?_⟩
      refine for_range (n := 3) (fun i σ' H' => ∃ x3 x4 x5 refs ens n', σ' = [some (.ref a), some (.ref sa), some (.ref S), x3, x4, x5, none, none, none, none, none, none, none, none, none, none, none, none, none] ∧ n' ≤ 310 * i ∧ (ens : List En).length = i ∧ LI K C D sa sl S H' n' refs ens) ⟨_, _, _, [], [], 0, rfl, by omega, rfl, L0⟩ ?_ ?_
      · rintro i _ H2 hi ⟨x3, x4, x5, refs, ens, n', rfl, hn, hl, L⟩
        refine ⟨_, rfl, sa, sl, n', 3, rfl, L.st, by omega, by decide, by decide, fun t R Q' rrefs rows n2 H3 ht hR hE hS2 gd S3 hn3 k3 Ra Rl Qa Ql hR0 hQ0 => ?_⟩
        have L3 := L.keep S3 k3
        refine ⟨_, rfl, t, _, 0, _, rfl, rfl, SqT.of ht, rfl, _, rfl, t, _, 1, _, rfl, rfl, SqT.of ht, rfl, ?_⟩
        refine fun x dx nx ndx nex => mk_rule (G := R) (S := Q') (refs := rrefs) (rows := rows) (starts := [0]) (k := 1) (.inl (SqL.of hR)) (hE.imp fun c r q => .inl q) (.inl (SqL.of hS2)) gd nx ndx nex fun H4 s4 r4 => ⟨rfl, ?_⟩
        have L4 := L3.same s4
        have hok : ∀ r ∈ rows, RwOk 48 r := fun r hr => by
          have := gd.ok r hr
          have := gd.most
          unfold RwOk at *
          omega
        have tx4 : TxAt K C H4 x (ruleTx rows [0]) := ⟨rows, [0], 1, r4, gd.most, hok, by decide, by decide, rfl⟩
        obtain ⟨dx4, fs4, hx4⟩ := r4.ins
        refine ⟨_, rfl, .inl ⟨rfl, _, SqL.of L4.hS⟩, ?_⟩
        refine ⟨_, rfl, _, rfl, x, dx4, fs4, rfl, hx4, x, rows, [0], 1, rfl, r4, gd.most, hok, by decide, by decide, fun H5 s5 => ⟨_, rfl, ?_⟩⟩
        refine ⟨by show 2 ≤ sizeLine; decide, fun c hc => ⟨by show 1 ≤ sizeLine; decide, fun d hd => ⟨by show 3 ≤ sizeLine; decide, fun e he => ?_⟩⟩⟩
        have sc := Same.new (o := .tup [.int 1, .str (ruleTx rows [0])]) hc
        have sd := Same.new (o := .lst [.ref c]) hd
        have se := Same.new (o := .tup [.ref x, .ref d, .bl true]) he
        have L5 := ((L4.same s5).same sc)
        obtain ⟨da, dl⟩ := L5.st.ne hd
        have dS : d ≠ S := (ne_of_none L5.hS hd).symm
        have L6 := (L5.same sd).same se
        have tx6 := ((tx4.same s5).same sc).same (sd.trans se)
        refine ⟨S, refs, _, rfl, rfl, L6.hS, ?_, ?_⟩
        · rw [L6.hE.1, hl]
          exact Nat.lt_of_lt_of_le hi (by decide)
        refine ⟨_, _, _, refs ++ [.ref e], ens ++ [⟨x, true, [(1, x, ruleTx rows [0])]⟩], n2, rfl, by omega, by rw [List.length_append, hl]; rfl, LI.push L6 ?_ (fun _ => rfl)⟩
        refine ⟨d, [.ref c], upd_same, ⟨da, dl, dS⟩, se _ _ upd_same, Ea.one (se _ _ (sd _ _ upd_same)), ?_, Nat.le_refl _, by show 1 ≤ 5; decide, .inl ⟨tx6.ins, rfl⟩, fun _ => ⟨_, rfl⟩, fun q => Bool.noConfusion q⟩
        intro z hz
        cases List.mem_singleton.mp hz
        exact ⟨tx6, by show (0 : Int) < 1; decide, Sm.one (by decide)⟩
      · rintro _ H2 ⟨x3, x4, x5, refs, ens, n', rfl, hn, hl, L⟩
        exact ⟨x3, x4, x5, refs, ens, n', rfl, by omega, hl, L⟩
    rintro _ H2 ⟨x3, x4, x5, refs, ens, n', rfl, hn, hl, L⟩
    have h3 : 3 ≤ ens.length := by omega
    refine ⟨fun σ' H' => ∃ x3 x4 x5 x6 x7 x8 x9 x10 x11 x12 x13 x14 x15 x16 x17 x18 refs ens n', σ' = [some (.ref a), some (.ref sa), some (.ref S), x3, x4, x5, x6, x7, x8, x9, x10, x11, x12, x13, x14, x15, x16, x17, x18] ∧ 3 ≤ (ens : List En).length ∧ LI K C D sa sl S H' n' refs ens, ?_, ?_⟩
    · refine ⟨8, rfl, by decide, by decide, ?_⟩
      refine for_range (n := 8) (fun i σ' H' => ∃ x3 x4 x5 x6 x7 x8 x9 x10 x11 x12 x13 x14 x15 x16 x17 x18 refs ens n', σ' = [some (.ref a), some (.ref sa), some (.ref S), x3, x4, x5, x6, x7, x8, x9, x10, x11, x12, x13, x14, x15, x16, x17, x18] ∧ n' ≤ 1000 + 10 * i ∧ 3 ≤ (ens : List En).length ∧ ens.length ≤ 3 + i ∧ LI K C D sa sl S H' n' refs ens) ?_ ?_ ?_
      · exact ⟨_, _, _, _, _, _, _, _, _, _, _, _, _, _, _, _, refs, ens, n', rfl, by omega, h3, by omega, L⟩
      · rintro i _ H3 hi ⟨x3, x4, x5, x6, x7, x8, x9, x10, x11, x12, x13, x14, x15, x16, x17, x18, refs, ens, n', rfl, hn, h3, hl, L⟩
        have hrl : refs.length = ens.length := L.hE.1
        -- one and other
        refine ⟨_, rfl, _, rfl, sa, sl, S, n', refs, rfl, L.st, by omega, L.hS, L.Sa, L.Sl, by omega, by omega, fun i1 y1 H4 hy1 S4 k4 => ?_⟩
        have L4 := L.keep S4 k4
        refine ⟨_, rfl, _, rfl, sa, sl, S, n' + 1, refs, rfl, L4.st, by omega, L4.hS, L4.Sa, L4.Sl, by omega, by omega, fun i2 y2 H5 hy2 S5 k5 => ?_⟩
        have L5 := L4.keep S5 k5
        have hi1 : i1 < ens.length := by rw [← hrl]; exact (List.getElem?_eq_some_iff.mp hy1).1
        have hi2 : i2 < ens.length := by rw [← hrl]; exact (List.getElem?_eq_some_iff.mp hy2).1
        obtain ⟨e1, rfl, q1⟩ := L5.hE.2 i1 y1 _ hy1 (List.getElem?_eq_getElem hi1)
        obtain ⟨e2, rfl, q2⟩ := L5.hE.2 i2 y2 _ hy2 (List.getElem?_eq_getElem hi2)
        generalize ens[i1] = en1 at q1
        generalize ens[i2] = en2 at q2
        refine ⟨_, _, rfl, ?_⟩
        -- times and kind
        refine ⟨_, rfl, sa, sl, n' + 2, 9, rfl, L5.st, by omega, by decide, by decide, fun r H6 r0 r1 S6 k6 => ?_⟩
        have L6 := L5.keep S6 k6
        refine ⟨_, rfl, _, _, rfl, rfl, ⟨by decide, by decide, by decide⟩, by show 4 ≤ sizeLine; decide, fun ls hls => ?_⟩
        have sls := Same.new (o := .lst [.int 1, .int 1, .int 1000, .int ((10 : Int) ^ (18 : Int).toNat)]) hls
        have L7 := L6.same sls
        obtain ⟨lsa, lsl⟩ := L6.st.ne hls
        refine ⟨sa, sl, ls, n' + 3, _, rfl, L7.st, by omega, upd_same, lsa, lsl, by show 1 ≤ 4; decide, by show 4 ≤ 48; decide, fun i3 y3 H8 hy3 S8 k8 => ?_⟩
        have L8 := L7.keep S8 k8
        obtain ⟨p, rfl, p1, p2⟩ : ∃ p : Int, y3 = .int p ∧ 1 ≤ p ∧ p ≤ 1000000000000000000 := by
          rcases i3 with _ | _ | _ | _ | i3
          · cases hy3; exact ⟨_, rfl, by decide, by decide⟩
          · cases hy3; exact ⟨_, rfl, by decide, by decide⟩
          · cases hy3; exact ⟨_, rfl, by decide, by decide⟩
          · cases hy3; exact ⟨_, rfl, by decide, by decide⟩
          · cases hy3
        have hsr : Sm 10 r := by
          have e : (2 : Nat) ^ 10 = 1024 := by decide
          show r.natAbs < 2 ^ 10
          rw [e]
          omega
        have hsp : Sm 70 p := by
          have e : (2 : Nat) ^ 70 = 1180591620717411303424 := by decide
          show p.natAbs < 2 ^ 70
          rw [e]
          omega
        refine ⟨_, _, rfl, rfl, mulw hsr hsp (by decide) (by decide) (by decide), _, _, rfl, rfl, ?_⟩
        have t0 : 0 < 1 + r * p := by
          have := Int.mul_nonneg r0 (Int.le_trans (by decide) p1)
          omega
        have ts : Sm 90 (1 + r * p) := Sm.add (n := 80) (Sm.one (by decide)) (hsr.mul hsp (by decide)) (by decide)
        dsimp only
        generalize 1 + r * p = t at t0 ts
        refine ⟨_, rfl, sa, sl, n' + 4, 4, rfl, L8.st, by omega, by decide, by decide, fun kd H9 d0 d1 S9 k9 => ?_⟩
        have L9 := L8.keep S9 k9
        have f9 : Fr3 sa sl S H5 H9 := (((Fr3.keep k6).trans (Fr3.same sls)).trans (Fr3.keep k8)).trans (Fr3.keep k9)
        have q1' := q1.fr L5.LL f9
        have q2' := q2.fr L5.LL f9
        refine ⟨by show 2 ≤ sizeLine; decide, fun u hu => ?_⟩
        have su := Same.new (o := .tup [.int t, .int kd]) hu
        have L10 := L9.same su
        have q1 := q1'.fr L9.LL (Fr3.same su)
        have q2 := q2'.fr L9.LL (Fr3.same su)
        clear q1' q2' f9
        refine ⟨u, _, rfl, SqT.of upd_same, rfl, _, _, rfl, _, _, rfl, rfl, ?_⟩
        generalize upd H9 u (.tup [.int t, .int kd]) = H10 at L10 q1 q2
        -- the mix
        refine ⟨fun σ' H' => ∃ x13' mx d zs, σ' = [some (.ref a), some (.ref sa), some (.ref S), x3, x4, x5, some (.int (0 + (i : Int))), some (.ref e1), some (.ref e2), some (.int t), some (.int kd), some (.ref mx), some (.ref d), x13', x14, x15, x16, x17, x18] ∧ LI K C D sa sl S H' (n' + 5) refs ens ∧ isMd K C D H' mx d zs ∧ d ≠ sa ∧ d ≠ sl ∧ d ≠ S, ?_, ?_⟩
        · obtain ⟨b1, dr1, he1, bn1, hb1, hD1, hz1, l11, l15, P1, pl1, mx1⟩ := id q1
          obtain ⟨b2, dr2, he2, bn2, hb2, hD2, hz2, l21, l25, P2, pl2, mx2⟩ := id q2
          have pl1' : (en1.zs.map Pd.pt).length ≤ 5 := by rw [List.length_map]; exact l15
          have pl2' : (en2.zs.map Pd.pt).length ≤ 5 := by rw [List.length_map]; exact l25
          have hw1 : ∀ z ∈ en1.zs.map Pd.pt, Sm 1000 z.1 := fun z hz => by
            obtain ⟨y, hy, rfl⟩ := List.mem_map.mp hz
            exact (hz1 y hy).2.2.mono (by decide)
          -- what a new list is apart from
          have apart : ∀ {Hx : Hp} {d : Addr}, Same H10 Hx → Hx d = none → d ≠ sa ∧ d ≠ sl ∧ d ≠ S := fun s' hd => by
            have L' := L10.same s'
            obtain ⟨da, dl⟩ := L'.st.ne hd
            exact ⟨da, dl, (ne_of_none L'.hS hd).symm⟩
          have mdt : ∀ {Hx : Hp} {x d : Addr} {drefs : List V}, Same H10 Hx → MixAt D Hx x ((en1.zs.map Pd.pt).map (times t)) → Hx d = some (.lst drefs) → Ea Hx isDue drefs (en1.zs.map (tm t)) → isMd K C D Hx x d (en1.zs.map (tm t)) := fun s' hm hd he => by
            refine ⟨_, by rw [tm_pt]; exact hm, hd, he, fun z hz => ?_, by rw [List.length_map]; exact l11, by rw [List.length_map]; omega⟩
            obtain ⟨y, hy, rfl⟩ := List.mem_map.mp hz
            obtain ⟨g1, g2, g3⟩ := hz1 y hy
            exact ⟨g1.same s', Int.mul_pos t0 g2, ts.mul g3 (by decide)⟩
          refine ⟨_, rfl, rfl, _, rfl, ifD_2 (fun _ => ?_) (fun _ => ?_)⟩
          · refine ⟨_, rfl, e1, _, 0, _, rfl, rfl, SqT.of he1, rfl, _, rfl, e2, _, 0, _, rfl, rfl, SqT.of he2, rfl, ?_⟩
            refine add_rd P1 P2 pl1' pl2' fun x Hx nx sx mx => ?_
            refine ⟨_, rfl, e1, _, 1, _, rfl, rfl, SqT.of (sx _ _ he1), rfl, _, rfl, e2, _, 1, _, rfl, rfl, SqT.of (sx _ _ he2), rfl, b1, b2, dr1, dr2, rfl, rfl, sx _ _ hb1, sx _ _ hb2, ?_, fun d hd => ⟨_, _, rfl, ?_⟩⟩
            · rw [hD1.1, hD2.1]
              exact Nat.le_trans (Nat.add_le_add l15 l25) (by decide)
            have sd := Same.new (o := .lst (dr1 ++ dr2)) hd
            have sxd := sx.trans sd
            refine ⟨_, x, d, en1.zs ++ en2.zs, rfl, L10.same sxd, ⟨dr1 ++ dr2, ?_, upd_same, (hD1.imp fun c r q => sxd _ _ q).append (hD2.imp fun c r q => sxd _ _ q), fun z hz => ?_, ?_, ?_⟩, apart sx hd⟩
            · rw [List.map_append]
              exact mx.same sd
            · rcases List.mem_append.mp hz with hz | hz
              · exact ⟨(hz1 z hz).1.same sxd, (hz1 z hz).2.1, (hz1 z hz).2.2.mono (by decide)⟩
              · exact ⟨(hz2 z hz).1.same sxd, (hz2 z hz).2.1, (hz2 z hz).2.2.mono (by decide)⟩
            · rw [List.length_append]; omega
            · rw [List.length_append]; omega
          refine ⟨_, rfl, rfl, _, rfl, ifD_2 (fun _ => ?_) (fun _ => ?_)⟩
          · refine ⟨_, rfl, _, rfl, e1, _, 0, _, rfl, rfl, SqT.of he1, rfl, ?_⟩
            refine mulL_rd P1 pl1' t0 (ts.mono (by decide)) hw1 fun x Hx nx sx mx => ?_
            refine ⟨_, rfl, e1, _, 1, _, rfl, rfl, SqT.of (sx _ _ he1), rfl, b1, rfl, ⟨_, SqL.of (sx _ _ hb1)⟩, fun Dd hDd => ?_⟩
            refine lc_acc (xs := dr1) (walk_l (K := K) (a := b1) (xs := dr1)) (by rw [hD1.1]; exact Nat.le_trans l15 (by decide)) hDd (fun H' s' => SqL.of (s' _ _ (sx _ _ hb1))) (fun j acc H' => Ea H' isDue acc ((en1.zs.map (tm t)).take j)) (fun j acc H' e => by rw [e.1, List.length_take]; omega) (by rw [List.take_zero]; exact Ea.nil) (fun j x' H' acc Φ Ψ hj hx' sm hd he kf => ?_) fun Hy acc sy hd he => ?_
            · have hjz : j < en1.zs.length := by rw [← hD1.1]; exact hj
              have hz : en1.zs[j]? = some en1.zs[j] := List.getElem?_eq_getElem hjz
              obtain ⟨c, rfl, hc⟩ := hD1.2 j x' _ hx' hz
              have hc' := sm _ _ (sx _ _ hc)
              refine ⟨rfl, ?_⟩
              dsimp only [tYes]
              rw [if_pos rfl]
              refine ⟨_, rfl, _, rfl, c, _, 0, _, rfl, rfl, SqT.of hc', rfl, _, _, rfl, rfl, mulw ts (hz1 _ (List.getElem_mem hjz)).2.2 (by decide) (by decide) (by decide), _, rfl, c, _, 1, _, rfl, rfl, SqT.of hc', rfl, by show 2 ≤ sizeLine; decide, fun q hq => ?_⟩
              have sq := Same.new (o := .tup (dv (tm t en1.zs[j]))) hq
              refine kf _ _ sq (sq _ _ hd) fun H5 h5 b1 b2 => ?_
              rw [take_succ' (x := tm t en1.zs[j]) (by rw [List.getElem?_map, hz]; rfl)]
              exact Ea.push (he.imp fun c' r' z => TupOf.but (f := dv) (sq _ _ z) (sq _ _ hd) b1) (TupOf.but (f := dv) upd_same (sq _ _ hd) b1)
            · have hlz : dr1.length = (en1.zs.map (tm t)).length := by rw [List.length_map]; exact hD1.1
              rw [hlz, List.take_length] at he
              exact ⟨_, _, rfl, _, x, Dd, en1.zs.map (tm t), rfl, L10.same (sx.trans sy), mdt (sx.trans sy) (mx.same sy) hd he, apart sx hDd⟩
          refine ⟨_, rfl, rfl, _, rfl, ifD_2 (fun _ => ?_) (fun _ => ?_)⟩
          · refine ⟨_, rfl, e1, _, 0, _, rfl, rfl, SqT.of he1, rfl, _, rfl, ?_⟩
            refine mulR_rd P1 pl1' t0 (ts.mono (by decide)) hw1 fun x Hx nx sx mx => ?_
            refine ⟨_, rfl, e1, _, 1, _, rfl, rfl, SqT.of (sx _ _ he1), rfl, b1, rfl, ⟨_, SqL.of (sx _ _ hb1)⟩, fun Dd hDd => ?_⟩
            refine lc_acc (xs := dr1) (walk_l (K := K) (a := b1) (xs := dr1)) (by rw [hD1.1]; exact Nat.le_trans l15 (by decide)) hDd (fun H' s' => SqL.of (s' _ _ (sx _ _ hb1))) (fun j acc H' => Ea H' isDue acc ((en1.zs.map (tm t)).take j)) (fun j acc H' e => by rw [e.1, List.length_take]; omega) (by rw [List.take_zero]; exact Ea.nil) (fun j x' H' acc Φ Ψ hj hx' sm hd he kf => ?_) fun Hy acc sy hd he => ?_
            · have hjz : j < en1.zs.length := by rw [← hD1.1]; exact hj
              have hz : en1.zs[j]? = some en1.zs[j] := List.getElem?_eq_getElem hjz
              obtain ⟨c, rfl, hc⟩ := hD1.2 j x' _ hx' hz
              have hc' := sm _ _ (sx _ _ hc)
              refine ⟨rfl, ?_⟩
              dsimp only [tYes]
              rw [if_pos rfl]
              refine ⟨_, rfl, _, rfl, c, _, 0, _, rfl, rfl, SqT.of hc', rfl, _, _, rfl, rfl, mulw ts (hz1 _ (List.getElem_mem hjz)).2.2 (by decide) (by decide) (by decide), _, rfl, c, _, 1, _, rfl, rfl, SqT.of hc', rfl, by show 2 ≤ sizeLine; decide, fun q hq => ?_⟩
              have sq := Same.new (o := .tup (dv (tm t en1.zs[j]))) hq
              refine kf _ _ sq (sq _ _ hd) fun H5 h5 b1 b2 => ?_
              rw [take_succ' (x := tm t en1.zs[j]) (by rw [List.getElem?_map, hz]; rfl)]
              exact Ea.push (he.imp fun c' r' z => TupOf.but (f := dv) (sq _ _ z) (sq _ _ hd) b1) (TupOf.but (f := dv) upd_same (sq _ _ hd) b1)
            · have hlz : dr1.length = (en1.zs.map (tm t)).length := by rw [List.length_map]; exact hD1.1
              rw [hlz, List.take_length] at he
              exact ⟨_, _, rfl, _, x, Dd, en1.zs.map (tm t), rfl, L10.same (sx.trans sy), mdt (sx.trans sy) (mx.same sy) hd he, apart sx hDd⟩
          · have hpl : ((ens.take 3).map plOf).length = 3 := by
              rw [List.length_map, List.length_take]
              omega
            have hpe := ea_pl L10.hE L10.pl
            refine ⟨_, rfl, _, rfl, S, t, refs, (ens.take 3).map plOf, rfl, L10.hS, hpe, by omega, t0, fun q m d drefs Hx sx nd nm hq hm hd he => ?_⟩
            refine ⟨q, _, rfl, SqT.of hq, rfl, _, _, rfl, _, _, rfl, _, _, rfl, rfl, ?_⟩
            refine ⟨_, rfl, true, rfl, iteF ?_⟩
            refine ⟨_, m, d, lst3 t ((ens.take 3).map plOf), rfl, L10.same sx, ⟨drefs, hm, hd, he, fun z hz => ?_, by rw [lst3_len]; omega, by rw [lst3_len]; omega⟩, apart (fun _ _ e => e) nd⟩
            obtain ⟨j, hj⟩ := List.mem_iff_getElem?.mp hz
            unfold lst3 at hj
            rw [List.getElem?_mapIdx, Option.map_eq_some_iff] at hj
            obtain ⟨pq, hpq, rfl⟩ := hj
            obtain ⟨e', he', d', c', g1, g2, g3, g4⟩ := hpe.get hpq
            have hj3 : j < 3 := by rw [← hpl]; exact (List.getElem?_eq_some_iff.mp hpq).1
            refine ⟨g4.same sx, by show 0 < t + (j : Int); omega, Sm.add (n := 90) ts ?_ (by decide)⟩
            refine Sm.mono (n := 3) ?_ (by decide)
            show ((j : Int)).natAbs < 2 ^ 3
            omega
        rintro _ H11 ⟨x13', mx, d, zs, rfl, L11, ⟨dr, hm, hd, hD, hz, lz1, lz10⟩, da, dl, dS⟩
        have hdl : dr.length = zs.length := hD.1
        -- kept among some
        refine ⟨fun σ' H' => ∃ refs' ens', σ' = [some (.ref a), some (.ref sa), some (.ref S), x3, x4, x5, some (.int (0 + (i : Int))), some (.ref e1), some (.ref e2), some (.int t), some (.int kd), some (.ref mx), some (.ref d), x13', x14, x15, x16, x17, x18] ∧ 3 ≤ (ens' : List En).length ∧ ens'.length ≤ 3 + (i + 1) ∧ LI K C D sa sl S H' (n' + 5) refs' ens', ?_, ?_⟩
        · refine ⟨_, rfl, d, _, rfl, .inl (SqL.of hd), _, _, rfl, rfl, _, rfl, ifD_2 (fun hlt => ?_) (fun _ => ⟨refs, ens, rfl, h3, by omega, L11⟩)⟩
          have hz5 : zs.length ≤ 5 := by rw [hdl] at hlt; omega
          refine ⟨_, rfl, d, rfl, ⟨_, SqL.of hd⟩, fun Dd hDd => ?_⟩
          refine lc_same (xs := dr) (walk_l (K := K) (a := d) (xs := dr)) (by rw [hdl]; exact Nat.le_trans lz10 (by decide)) hDd (fun H' s' => SqL.of (s' _ _ hd)) ((zs.map fun z => decide (z.1 < (10 : Int) ^ (20 : Int).toNat)).map V.bl) (by rw [List.length_map, List.length_map, hdl]) (fun j x y H' Φ Ψ hx hy sm k => ?_) fun H12 s12 hd12 => ?_
          · rw [List.getElem?_map, Option.map_eq_some_iff] at hy
            obtain ⟨y, hy, rfl⟩ := hy
            rw [List.getElem?_map, Option.map_eq_some_iff] at hy
            obtain ⟨z, hz', rfl⟩ := hy
            obtain ⟨c, rfl, hc⟩ := hD.2 j x z hx hz'
            refine ⟨rfl, ?_⟩
            dsimp only [tYes]
            rw [if_pos rfl]
            exact ⟨_, rfl, c, _, 0, _, rfl, rfl, SqT.of (sm _ _ hc), rfl, _, _, rfl, rfl, ⟨by decide, by decide, by decide⟩, _, _, rfl, rfl, k H' fun _ _ e => e⟩
          refine ⟨Dd, _, rfl, SqL.of hd12, _, rfl, ifB_2 (fun hall => ?_) (fun _ => ⟨refs, ens, rfl, h3, by omega, L11.same s12⟩)⟩
          have hsm : ∀ z ∈ zs, Sm 100 z.1 := fun z hz' => by
            have h1 := List.all_eq_true.mp hall _ (List.mem_map.mpr ⟨z, hz', rfl⟩)
            have h2 : z.1 < (10 : Int) ^ (20 : Int).toNat := of_decide_eq_true h1
            have e0 : (10 : Int) ^ (20 : Int).toNat = 100000000000000000000 := by decide
            rw [e0] at h2
            have h0 := (hz z hz').2.1
            have e : (2 : Nat) ^ 100 = 1267650600228229401496703205376 := by decide
            show z.1.natAbs < 2 ^ 100
            rw [e]
            omega
          have L12 := L11.same s12
          refine ⟨_, rfl, .inl ⟨rfl, _, SqL.of L12.hS⟩, _, rfl, _, rfl, by show 3 ≤ sizeLine; decide, fun e he => ?_⟩
          have se := Same.new (o := .tup [.ref mx, .ref d, .bl false]) he
          have L13 := L12.same se
          refine ⟨S, refs, _, rfl, rfl, L13.hS, ?_, ?_⟩
          · rw [L13.hE.1]
            exact Nat.lt_of_le_of_lt (Nat.le_trans hl (Nat.le_trans (Nat.add_le_add_left (Nat.le_of_lt hi) 3) (by decide))) (show 11 < sizeLine by decide)
          refine ⟨refs ++ [.ref e], ens ++ [⟨mx, false, zs⟩], rfl, by rw [List.length_append]; omega, by rw [List.length_append]; show ens.length + 1 ≤ _; omega, LI.push L13 ?_ (fun h => absurd h (Nat.not_lt.mpr h3))⟩
          have s13 := s12.trans se
          have hm13 := hm.same s13
          exact ⟨d, dr, upd_same, ⟨da, dl, dS⟩, s13 _ _ hd, hD.imp (fun c r q => s13 _ _ q), fun z hz' => ⟨(hz z hz').1.same s13, (hz z hz').2.1, hsm z hz'⟩, lz1, hz5, .inr ⟨hm13, by rw [List.length_map]; exact lz1, fun z hz' => by
            obtain ⟨y, hy, rfl⟩ := List.mem_map.mp hz'
            exact (hz y hy).2.1⟩, fun q => Bool.noConfusion q, fun _ => hm13⟩
        rintro _ H12 ⟨refs', ens', rfl, h3', hl', L12⟩
        -- all that are there
        refine ⟨_, rfl, S, rfl, ⟨_, SqL.of L12.hS⟩, ?_⟩
        refine for_it (walk_l (K := K) (a := S) (xs := refs')) (fun j σ' H' => ∃ y14 y15 y16, σ' = [some (.ref a), some (.ref sa), some (.ref S), x3, x4, x5, some (.int (0 + (i : Int))), some (.ref e1), some (.ref e2), some (.int t), some (.int kd), some (.ref mx), some (.ref d), x13', y14, y15, y16, x17, x18] ∧ Same H12 H') ⟨_, _, _, rfl, fun _ _ e => e⟩ (fun j σ' H' _ q => by
          obtain ⟨_, _, _, _, s'⟩ := q
          exact SqL.of (s' _ _ L12.hS)) ?_ ?_
        · rintro j xv _ H13 _ hj ⟨y14, y15, y16, rfl, s13⟩ ⟨rfl, hx⟩
          have hje : j < ens'.length := by rw [← L12.hE.1]; exact hj
          obtain ⟨e, rfl, q⟩ := (L12.same s13).hE.2 j xv _ hx (List.getElem?_eq_getElem hje)
          generalize ens'[j] = en at q
          obtain ⟨b, drf, he, bn, hb, hDe, hze, l1, l5, P, hpl, hmx⟩ := q
          refine ⟨e, _, rfl, SqT.of he, rfl, _, _, rfl, _, _, rfl, _, _, rfl, rfl, ?_⟩
          refine ⟨_, rfl, en.pl, rfl, ?_⟩
          cases hp : en.pl with
          | true => exact iteF ⟨_, _, _, rfl, s13⟩
          | false =>
            refine iteT ⟨_, rfl, _, rfl, en.o, b, drf, en.zs, rfl, hmx hp, hb, hDe, fun z hz' => (hze z hz').1, by omega, fun H14 s14 => ⟨true, rfl, iteF ⟨_, _, _, rfl, s13.trans s14⟩⟩⟩
        · rintro _ H13 ⟨y14, y15, y16, rfl, s13⟩
          exact ⟨_, _, _, _, _, _, _, _, _, _, _, _, _, _, _, _, refs', ens', n' + 5, rfl, by omega, h3', hl', L12.same s13⟩
      · rintro _ H3 ⟨x3, x4, x5, x6, x7, x8, x9, x10, x11, x12, x13, x14, x15, x16, x17, x18, refs, ens, n', rfl, hn, h3, hl, L⟩
        exact ⟨x3, x4, x5, x6, x7, x8, x9, x10, x11, x12, x13, x14, x15, x16, x17, x18, refs, ens, n', rfl, h3, L⟩
    rintro _ H3 ⟨x3, x4, x5, x6, x7, x8, x9, x10, x11, x12, x13, x14, x15, x16, x17, x18, refs, ens, n', rfl, h3, L⟩
    have hrl : refs.length = ens.length := L.hE.1
    have h0e : 0 < ens.length := by omega
    obtain ⟨e0, hr0, q0⟩ := L.hE.get (i := 0) (List.getElem?_eq_getElem h0e)
    obtain ⟨b0, dr0, he0, _⟩ := id q0
    generalize ens[0].o = ro at he0
    refine ⟨_, rfl, S, _, _, _, rfl, rfl, SqL.of L.hS, atI_nat (i := 0) hr0, e0, _, 0, _, rfl, rfl, SqT.of he0, rfl, ?_⟩
    -- what is bad
    refine ⟨by show 0 ≤ sizeLine; decide, fun a1 ha1 => ⟨_, rfl, by show 2 ≤ sizeLine; decide, fun a2 ha2 => ⟨by show 1 ≤ sizeLine; decide, fun a3 ha3 => ⟨_, rfl, by show 2 ≤ sizeLine; decide, fun a4 ha4 => ⟨_, rfl, _, rfl, by show 2 ≤ sizeLine; decide, fun a5 ha5 => ⟨by show 2 ≤ sizeLine; decide, fun a6 ha6 => ⟨_, rfl, by show 2 ≤ sizeLine; decide, fun a7 ha7 => ⟨by show 1 ≤ sizeLine; decide, fun a8 ha8 => ⟨_, rfl, by show 2 ≤ sizeLine; decide, fun a9 ha9 => ⟨_, rfl, by show 2 ≤ sizeLine; decide, fun a10 ha10 => ⟨by show 2 ≤ sizeLine; decide, fun a11 ha11 => ⟨by show 5 ≤ sizeLine; decide, fun a12 ha12 => ?_⟩⟩⟩⟩⟩⟩⟩⟩⟩⟩⟩⟩
    have s1' := Same.new (o := .lst []) ha1
    have s2' := Same.new (o := .tup [.int 0, .ref ro]) ha2
    have s3' := Same.new (o := .lst [.ref a2]) ha3
    have s4' := Same.new (o := .tup [.int 1, .ref ro]) ha4
    have s5' := Same.new (o := .tup [.int (-2), .ref ro]) ha5
    have s6' := Same.new (o := .lst [.ref a4, .ref a5]) ha6
    have s7' := Same.new (o := .tup [.bl true, .ref ro]) ha7
    have s8' := Same.new (o := .lst [.ref a7]) ha8
    have s9' := Same.new (o := .tup [.int 1, .ref ro]) ha9
    have s10' := Same.new (o := .tup [.int 0, .ref ro]) ha10
    have s11' := Same.new (o := .tup [.ref a9, .ref a10]) ha11
    have s12' := Same.new (o := .lst [.ref a1, .ref a3, .ref a6, .ref a8, .ref a11]) ha12
    have b1 := (BadAt.nil (K := K) (H := upd H3 a1 (.lst [])) (a := a1) (.inl (SqL.of upd_same))).same (s2'.trans (s3'.trans (s4'.trans (s5'.trans (s6'.trans (s7'.trans (s8'.trans (s9'.trans (s10'.trans (s11'.trans s12'))))))))))
    have b3 := (BadAt.mk (K := K) (ps := [(.int 0, ro)]) (.inl (SqL.of upd_same)) (Ea.one (s3' _ _ upd_same)) (by first | show 1 ≤ 10; decide | show 2 ≤ 10; decide) (fun z hz => by cases List.mem_singleton.mp hz; exact .int 0) rfl).same (s4'.trans (s5'.trans (s6'.trans (s7'.trans (s8'.trans (s9'.trans (s10'.trans (s11'.trans s12'))))))))
    have b6 := (BadAt.mk (K := K) (ps := [(.int 1, ro), (.int (-2), ro)]) (.inl (SqL.of upd_same)) ((Ea.one (c := a4) (s6' _ _ (s5' _ _ upd_same))).push (s6' _ _ upd_same)) (by first | show 1 ≤ 10; decide | show 2 ≤ 10; decide) (fun z hz => by
      rcases List.mem_cons.mp hz with rfl | hz
      · exact .int 1
      · cases List.mem_singleton.mp hz
        exact .int (-2)) rfl).same (s7'.trans (s8'.trans (s9'.trans (s10'.trans (s11'.trans s12')))))
    have b8 := (BadAt.mk (K := K) (ps := [(.bl true, ro)]) (.inl (SqL.of upd_same)) (Ea.one (s8' _ _ upd_same)) (by first | show 1 ≤ 10; decide | show 2 ≤ 10; decide) (fun z hz => by cases List.mem_singleton.mp hz; exact .bl true) rfl).same (s9'.trans (s10'.trans (s11'.trans s12')))
    have b11 := (BadAt.mk (K := K) (ps := [(.int 1, ro), (.int 0, ro)]) (.inr (SqT.of upd_same)) ((Ea.one (c := a9) (s11' _ _ (s10' _ _ upd_same))).push (s11' _ _ upd_same)) (by first | show 1 ≤ 10; decide | show 2 ≤ 10; decide) (fun z hz => by
      rcases List.mem_cons.mp hz with rfl | hz
      · exact .int 1
      · cases List.mem_singleton.mp hz
        exact .int 0) rfl).same s12'
    refine ⟨_, rfl, a12, rfl, ⟨_, SqL.of upd_same⟩, fun Dd hDd => ?_⟩
    refine lc_same (xs := [.ref a1, .ref a3, .ref a6, .ref a8, .ref a11]) (walk_l (K := K) (a := a12) (xs := [.ref a1, .ref a3, .ref a6, .ref a8, .ref a11])) (by show 5 ≤ sizeLine; decide) hDd (fun H' s' => SqL.of (s' _ _ upd_same)) ((List.replicate 5 true).map V.bl) rfl (fun j x y H' Φ Ψ hx hy sm k => ?_) fun H5 s5 hd5 => ?_
    · have hy' : y = .bl true := by
        rcases j with _ | _ | _ | _ | _ | j <;> first | (cases hy; rfl) | (cases hy)
      subst hy'
      obtain ⟨c, rfl, refs', ps', g1, g2, g3, g4, g5⟩ : ∃ c, x = .ref c ∧ BadAt K _ c := by
        rcases j with _ | _ | _ | _ | _ | j
        · cases hx; exact ⟨_, rfl, b1⟩
        · cases hx; exact ⟨_, rfl, b3⟩
        · cases hx; exact ⟨_, rfl, b6⟩
        · cases hx; exact ⟨_, rfl, b8⟩
        · cases hx; exact ⟨_, rfl, b11⟩
        · cases hx
      refine ⟨rfl, ?_⟩
      dsimp only [tYes]
      rw [if_pos rfl]
      exact ⟨_, rfl, .ref c, .int 0, .bl false, rfl, .inl ⟨c, refs', ps', rfl, g1.up sm, g2.imp (fun c r q => sm _ _ q), g3, g4, g5⟩, fun H4 s4 => k H4 s4⟩
    refine ⟨Dd, _, rfl, SqL.of hd5, true, rfl, iteF ?_⟩
    refine ⟨_, rfl, _, _, rfl, rfl, ⟨by decide, by decide, by decide⟩, _, rfl, by show 4 ≤ sizeLine; decide, fun c1 hc1 => ⟨c1, rfl, ⟨_, SqL.of upd_same⟩, ?_⟩⟩
    refine for_it (walk_l (K := K) (a := c1) (xs := [.int 0, .int (-1), .int (-((10 : Int) ^ (20 : Int).toNat)), .bl true])) (fun j σ' H' => ∃ y9, σ' = [some (.ref a), some (.ref sa), some (.ref S), x3, x4, some (.ref ro), x6, x7, x8, y9, x10, x11, x12, x13, x14, x15, x16, some (.ref a12), x18] ∧ Same (upd H5 c1 (.lst [.int 0, .int (-1), .int (-((10 : Int) ^ (20 : Int).toNat)), .bl true])) H') ⟨_, rfl, fun _ _ e => e⟩ (fun j σ' H' _ q => by
      obtain ⟨_, _, s'⟩ := q
      exact SqL.of (s' _ _ upd_same)) ?_ ?_
    · rintro j xv _ H6 _ hj ⟨y9, rfl, s6⟩ ⟨rfl, hx⟩
      obtain ⟨hw, hg⟩ : Wt xv ∧ good xv = false := by
        rcases j with _ | _ | _ | _ | j
        · cases hx; exact ⟨.int _, by decide⟩
        · cases hx; exact ⟨.int _, by decide⟩
        · cases hx; exact ⟨.int _, by decide⟩
        · cases hx; exact ⟨.bl _, rfl⟩
        · cases hx
      refine ⟨_, rfl, .non, xv, .bl true, rfl, .inr ⟨rfl, ⟨_, rfl⟩, hw, hg⟩, fun H7 s7 => ⟨true, rfl, iteF ?_⟩⟩
      exact ⟨_, rfl, .non, xv, .bl false, rfl, .inr ⟨rfl, ⟨_, rfl⟩, hw, hg⟩, fun H8 s8 => ⟨true, rfl, iteF ⟨_, rfl, (s6.trans s7).trans s8⟩⟩⟩
    · rintro _ H6 ⟨y9, rfl, s6⟩
      exact kk _
end
end PA

set_option maxHeartbeats 8000000
namespace PA
open PySem L2 RZ
theorem kit_self {K : PySem.W.Frag} {C : Addr} : PySem.W.kitOne K (.ref C) (.ref C) = some true := by
  unfold PySem.W.kitOne
  rw [if_pos (by simp)]
theorem kit_2 {K : PySem.W.Frag} {C D : Addr} (h1 : (Value.ref D == Value.ref C) = false) (h2 : PySem.W.isClsIn K C = true) (h3 : PySem.W.typeIn K (.ref C) = some (.type "type")) (h4 : PySem.W.subIn K (.ref D) (.ref C) = some false) : PySem.W.kitOne K (.ref D) (.ref C) = some false := by
  have e2 : ((PySem.W.clsIn K C).isSome && PySem.W.typeIn K (.ref C) == some (.type "type")) = true := by
    have h2' : (PySem.W.clsIn K C).isSome = true := h2
    rw [h2', h3] <;> rfl
  unfold PySem.W.kitOne
  rw [h1, if_neg (by simp)]
  show (if ((PySem.W.clsIn K C).isSome && PySem.W.typeIn K (.ref C) == some (.type "type")) = true then PySem.W.subIn K (.ref D) (.ref C) else none) = some false
  rw [if_pos e2]
  exact h4
theorem exm_1 {K : PySem.W.Frag} {S : Addr} (h1 : PySem.W.subIn K (.ref S) (.type "BaseException") = some true) (h2 : PySem.W.isClsIn K S = true) (h3 : PySem.W.typeIn K (.ref S) = some (.type "type")) (h4 : PySem.W.subIn K (.ref S) (.ref S) = some true) :
    PySem.W.exmOne K (.ref S) (.ref S) = some true := by
  have e2 : ((PySem.W.clsIn K S).isSome && PySem.W.typeIn K (.ref S) == some (.type "type")) = true := by
    have h2' : (PySem.W.clsIn K S).isSome = true := h2
    rw [h2', h3] <;> rfl
  unfold PySem.W.exmOne
  rw [h1, if_pos (by simp)]
  show (if ((PySem.W.clsIn K S).isSome && PySem.W.typeIn K (.ref S) == some (.type "type")) = true then PySem.W.subIn K (.ref S) (.ref S) else none) = some true
  rw [if_pos e2]
  exact h4
theorem dn_add : ("__add__" : Str) = PySem.dunder Operator.Add.info.2 := by decide +kernel
theorem dr_add : ("__radd__" : Str) = dunderR Operator.Add.info.2 := by decide +kernel
theorem dn_mul : ("__mul__" : Str) = PySem.dunder Operator.Mult.info.2 := by decide +kernel
theorem dr_mul : ("__rmul__" : Str) = dunderR Operator.Mult.info.2 := by decide +kernel
theorem bI2_of {K : PySem.W.Frag} {f dd : Addr} {fd : FuncData} (F : FunI K f fd dd) : Binds K fd ["self", "rows", "starts"] [] := by
  obtain ⟨ds, hv, hb⟩ := F.binds1 (ps := ["self", "rows", "starts"]) 3 1 (by simp) rfl (fun T kV doc pm an cdv ct us its h1 h2 => match us, h1, its, h2 with | [_, _, _], _, [_], _ => ⟨_, rfl, rfl⟩)
  cases hv
  exact hb
theorem all_mk {l : PySem.W.OpenLaw} {w : World} {K : PySem.W.Frag} {h : Heap} {mg : Str → Option Value} {fa C D X TT DD DM DP gCI gStr gCA gCM gCR gDI gLen gDA gDM_ gDR gisInt gbelow gisPos gisRow gcheck growsTx growTx gstTx gdraw gstart gpick gsame gtable grefused ghas glisted gLaw : Addr} (X_ : K.In h) (G : h.Ns mainGlobals mg) (hfa : mg "law" = some (.ref fa))
    {ocCI kVCI dcCI pmCI cdCI ctCI : Value} {odCI anCI : Option Addr} {slCI : Array (Option Value)} {oT : Value} {odT : Option Addr} {mT : Nat} {slT : Array (Option Value)} {odD : Option Addr} {tkD : Tok} {mD : Nat} {slD : Array (Option Value)} {x1 x2 x3 x4 y1 y2 y3 y4 : Tok} {nM_ : Nat} {tkM : Tok} {odP : Option Addr} {tkP : Tok} {mP : Nat} {slP : Array (Option Value)} {ocStr kVStr dcStr pmStr cdStr ctStr : Value} {odStr anStr : Option Addr} {slStr : Array (Option Value)} {ocCA kVCA dcCA pmCA cdCA ctCA : Value} {odCA anCA : Option Addr} {slCA : Array (Option Value)} {ocCM kVCM dcCM pmCM cdCM ctCM : Value} {odCM anCM : Option Addr} {slCM : Array (Option Value)} {ocCR kVCR dcCR pmCR cdCR ctCR : Value} {odCR anCR : Option Addr} {slCR : Array (Option Value)} {ocDI kVDI dcDI pmDI cdDI ctDI : Value} {odDI anDI : Option Addr} {slDI : Array (Option Value)} {ocLen kVLen dcLen pmLen cdLen ctLen : Value} {odLen anLen : Option Addr} {slLen : Array (Option Value)} {ocDA kVDA dcDA pmDA cdDA ctDA : Value} {odDA anDA : Option Addr} {slDA : Array (Option Value)} {ocDM_ kVDM_ dcDM_ pmDM_ cdDM_ ctDM_ : Value} {odDM_ anDM_ : Option Addr} {slDM_ : Array (Option Value)} {ocDR kVDR dcDR pmDR cdDR ctDR : Value} {odDR anDR : Option Addr} {slDR : Array (Option Value)} {ocisInt kVisInt dcisInt pmisInt cdisInt ctisInt : Value} {odisInt anisInt : Option Addr} {slisInt : Array (Option Value)} {ocbelow kVbelow dcbelow pmbelow cdbelow ctbelow : Value} {odbelow anbelow : Option Addr} {slbelow : Array (Option Value)} {ocisPos kVisPos dcisPos pmisPos cdisPos ctisPos : Value} {odisPos anisPos : Option Addr} {slisPos : Array (Option Value)} {ocisRow kVisRow dcisRow pmisRow cdisRow ctisRow : Value} {odisRow anisRow : Option Addr} {slisRow : Array (Option Value)} {occheck kVcheck dccheck pmcheck cdcheck ctcheck : Value} {odcheck ancheck : Option Addr} {slcheck : Array (Option Value)} {ocrowsTx kVrowsTx dcrowsTx pmrowsTx cdrowsTx ctrowsTx : Value} {odrowsTx anrowsTx : Option Addr} {slrowsTx : Array (Option Value)} {ocrowTx kVrowTx dcrowTx pmrowTx cdrowTx ctrowTx : Value} {odrowTx anrowTx : Option Addr} {slrowTx : Array (Option Value)} {ocstTx kVstTx dcstTx pmstTx cdstTx ctstTx : Value} {odstTx anstTx : Option Addr} {slstTx : Array (Option Value)} {ocdraw kVdraw dcdraw pmdraw cddraw ctdraw : Value} {oddraw andraw : Option Addr} {sldraw : Array (Option Value)} {ocstart kVstart dcstart pmstart cdstart ctstart : Value} {odstart anstart : Option Addr} {slstart : Array (Option Value)} {ocpick kVpick dcpick pmpick cdpick ctpick : Value} {odpick anpick : Option Addr} {slpick : Array (Option Value)} {ocsame kVsame dcsame pmsame cdsame ctsame : Value} {odsame ansame : Option Addr} {slsame : Array (Option Value)} {octable kVtable dctable pmtable cdtable cttable : Value} {odtable antable : Option Addr} {sltable : Array (Option Value)} {ocrefused kVrefused dcrefused pmrefused cdrefused ctrefused : Value} {odrefused anrefused : Option Addr} {slrefused : Array (Option Value)} {ochas kVhas dchas pmhas cdhas cthas : Value} {odhas anhas : Option Addr} {slhas : Array (Option Value)} {oclisted kVlisted dclisted pmlisted cdlisted ctlisted : Value} {odlisted anlisted : Option Addr} {sllisted : Array (Option Value)} {ocLaw kVLaw dcLaw pmLaw cdLaw ctLaw : Value} {odLaw anLaw : Option Addr} {slLaw : Array (Option Value)} {foint roint : Option Value} {fobool robool : Option Value}
    (aC : PySem.W.nsIn K mainGlobals "Rule" = some (some (.ref C)))
    (pgC : PySem.W.plainGet K C Str.empty = true)
    (hdC : PySem.W.hasDictIn K C = true)
    (poC : PySem.W.plainOver K C = true)
    (saC : PySem.W.findIn K (.ref C) "__setattr__" = some (some (.builtin "object.__setattr__")))
    (kcC : PySem.W.keepIn K (.ref C) = true)
    (mkC : PySem.W.makesIn K C = true)
    (nCrows : PySem.W.findIn K (.ref C) "rows" = some none)
    (nCstarts : PySem.W.findIn K (.ref C) "starts" = some none)
    (nCmarks : PySem.W.findIn K (.ref C) "marks" = some none)
    (aCI : PySem.W.findIn K (.ref C) "__init__" = some (some (.ref gCI)))
    (lCI : K.lookup gCI = some ⟨ocCI, odCI, .func (PySem.W.fnOf "__init__" "Rule.__init__" (defArgs sInit) (defBody sInit) (defScope sInit) (.ref TT) kVCI dcCI pmCI anCI cdCI ctCI), slCI⟩)
    (cCI : PySem.W.codeIn K cdCI "Rule.__init__" = true)
    (kCI : PySem.W.keepIn K (.ref gCI) = true)
    (iCI : PySem.W.isFn K (.ref gCI) = true)
    (lT : K.lookup TT = some ⟨oT, odT, .seq #[.ref DD] mT, slT⟩)
    (lD : K.lookup DD = some ⟨.type "tuple", odD, .seq #[.int 0 tkD] mD, slD⟩)
    (aM : PySem.W.nsIn K mainGlobals "MARKS_OF_STARTS" = some (some (.ref DM)))
    (lM : K.lookup DM = some ⟨.type "dict", none, .dict #[⟨1, .int 1 x1, .int 1 y1⟩, ⟨4, .int 4 x2, .int 2 y2⟩, ⟨9, .int 9 x3, .int 3 y3⟩, ⟨16, .int 16 x4, .int 4 y4⟩] nM_, #[]⟩)
    (lw : (DM == sysModules) = false)
    (aMost : PySem.W.nsIn K mainGlobals "MOST_ROWS" = some (some (.int 48 tkM)))
    (aP : PySem.W.nsIn K mainGlobals "PLAIN_STARTS" = some (some (.ref DP)))
    (lP : K.lookup DP = some ⟨.type "tuple", odP, .seq #[.int 0 tkP] mP, slP⟩)
    (aStr : PySem.W.findIn K (.ref C) "__str__" = some (some (.ref gStr)))
    (lStr : K.lookup gStr = some ⟨ocStr, odStr, .func (PySem.W.fnOf "__str__" "Rule.__str__" (defArgs sStr) (defBody sStr) (defScope sStr) .none kVStr dcStr pmStr anStr cdStr ctStr), slStr⟩)
    (cStr : PySem.W.codeIn K cdStr "Rule.__str__" = true)
    (kStr : PySem.W.keepIn K (.ref gStr) = true)
    (iStr : PySem.W.isFn K (.ref gStr) = true)
    (aCA : PySem.W.findIn K (.ref C) "__add__" = some (some (.ref gCA)))
    (lCA : K.lookup gCA = some ⟨ocCA, odCA, .func (PySem.W.fnOf "__add__" "Rule.__add__" (defArgs sRAdd) (defBody sRAdd) (defScope sRAdd) .none kVCA dcCA pmCA anCA cdCA ctCA), slCA⟩)
    (cCA : PySem.W.codeIn K cdCA "Rule.__add__" = true)
    (kCA : PySem.W.keepIn K (.ref gCA) = true)
    (iCA : PySem.W.isFn K (.ref gCA) = true)
    (aCM : PySem.W.findIn K (.ref C) "__mul__" = some (some (.ref gCM)))
    (lCM : K.lookup gCM = some ⟨ocCM, odCM, .func (PySem.W.fnOf "__mul__" "Rule.__mul__" (defArgs sRMul) (defBody sRMul) (defScope sRMul) .none kVCM dcCM pmCM anCM cdCM ctCM), slCM⟩)
    (cCM : PySem.W.codeIn K cdCM "Rule.__mul__" = true)
    (kCM : PySem.W.keepIn K (.ref gCM) = true)
    (iCM : PySem.W.isFn K (.ref gCM) = true)
    (aCR : PySem.W.findIn K (.ref C) "__rmul__" = some (some (.ref gCR)))
    (lCR : K.lookup gCR = some ⟨ocCR, odCR, .func (PySem.W.fnOf "__rmul__" "Rule.__rmul__" (defArgs sRRmul) (defBody sRRmul) (defScope sRRmul) .none kVCR dcCR pmCR anCR cdCR ctCR), slCR⟩)
    (cCR : PySem.W.codeIn K cdCR "Rule.__rmul__" = true)
    (kCR : PySem.W.keepIn K (.ref gCR) = true)
    (iCR : PySem.W.isFn K (.ref gCR) = true)
    (aD : PySem.W.nsIn K mainGlobals "Mix" = some (some (.ref D)))
    (pgD : PySem.W.plainGet K D Str.empty = true)
    (hdD : PySem.W.hasDictIn K D = true)
    (poD : PySem.W.plainOver K D = true)
    (saD : PySem.W.findIn K (.ref D) "__setattr__" = some (some (.builtin "object.__setattr__")))
    (kcD : PySem.W.keepIn K (.ref D) = true)
    (mkD : PySem.W.makesIn K D = true)
    (nDparts : PySem.W.findIn K (.ref D) "parts" = some none)
    (aDI : PySem.W.findIn K (.ref D) "__init__" = some (some (.ref gDI)))
    (lDI : K.lookup gDI = some ⟨ocDI, odDI, .func (PySem.W.fnOf "__init__" "Mix.__init__" (defArgs sMInit) (defBody sMInit) (defScope sMInit) .none kVDI dcDI pmDI anDI cdDI ctDI), slDI⟩)
    (cDI : PySem.W.codeIn K cdDI "Mix.__init__" = true)
    (kDI : PySem.W.keepIn K (.ref gDI) = true)
    (iDI : PySem.W.isFn K (.ref gDI) = true)
    (aLen : PySem.W.findIn K (.ref D) "__len__" = some (some (.ref gLen)))
    (lLen : K.lookup gLen = some ⟨ocLen, odLen, .func (PySem.W.fnOf "__len__" "Mix.__len__" (defArgs sMLen) (defBody sMLen) (defScope sMLen) .none kVLen dcLen pmLen anLen cdLen ctLen), slLen⟩)
    (cLen : PySem.W.codeIn K cdLen "Mix.__len__" = true)
    (kLen : PySem.W.keepIn K (.ref gLen) = true)
    (iLen : PySem.W.isFn K (.ref gLen) = true)
    (aDA : PySem.W.findIn K (.ref D) "__add__" = some (some (.ref gDA)))
    (lDA : K.lookup gDA = some ⟨ocDA, odDA, .func (PySem.W.fnOf "__add__" "Mix.__add__" (defArgs sMAdd) (defBody sMAdd) (defScope sMAdd) .none kVDA dcDA pmDA anDA cdDA ctDA), slDA⟩)
    (cDA : PySem.W.codeIn K cdDA "Mix.__add__" = true)
    (kDA : PySem.W.keepIn K (.ref gDA) = true)
    (iDA : PySem.W.isFn K (.ref gDA) = true)
    (aDM_ : PySem.W.findIn K (.ref D) "__mul__" = some (some (.ref gDM_)))
    (lDM_ : K.lookup gDM_ = some ⟨ocDM_, odDM_, .func (PySem.W.fnOf "__mul__" "Mix.__mul__" (defArgs sMMul) (defBody sMMul) (defScope sMMul) .none kVDM_ dcDM_ pmDM_ anDM_ cdDM_ ctDM_), slDM_⟩)
    (cDM_ : PySem.W.codeIn K cdDM_ "Mix.__mul__" = true)
    (kDM_ : PySem.W.keepIn K (.ref gDM_) = true)
    (iDM_ : PySem.W.isFn K (.ref gDM_) = true)
    (aDR : PySem.W.findIn K (.ref D) "__rmul__" = some (some (.ref gDR)))
    (lDR : K.lookup gDR = some ⟨ocDR, odDR, .func (PySem.W.fnOf "__rmul__" "Mix.__rmul__" (defArgs sMRmul) (defBody sMRmul) (defScope sMRmul) .none kVDR dcDR pmDR anDR cdDR ctDR), slDR⟩)
    (cDR : PySem.W.codeIn K cdDR "Mix.__rmul__" = true)
    (kDR : PySem.W.keepIn K (.ref gDR) = true)
    (iDR : PySem.W.isFn K (.ref gDR) = true)
    (aisInt : PySem.W.nsIn K mainGlobals "is_integer" = some (some (.ref gisInt)))
    (lisInt : K.lookup gisInt = some ⟨ocisInt, odisInt, .func (PySem.W.fnOf "is_integer" "is_integer" (defArgs sIsInt) (defBody sIsInt) (defScope sIsInt) .none kVisInt dcisInt pmisInt anisInt cdisInt ctisInt), slisInt⟩)
    (cisInt : PySem.W.codeIn K cdisInt "is_integer" = true)
    (kisInt : PySem.W.keepIn K (.ref gisInt) = true)
    (abelow : PySem.W.nsIn K mainGlobals "is_below" = some (some (.ref gbelow)))
    (lbelow : K.lookup gbelow = some ⟨ocbelow, odbelow, .func (PySem.W.fnOf "is_below" "is_below" (defArgs sBelow) (defBody sBelow) (defScope sBelow) .none kVbelow dcbelow pmbelow anbelow cdbelow ctbelow), slbelow⟩)
    (cbelow : PySem.W.codeIn K cdbelow "is_below" = true)
    (kbelow : PySem.W.keepIn K (.ref gbelow) = true)
    (aisPos : PySem.W.nsIn K mainGlobals "is_positive" = some (some (.ref gisPos)))
    (lisPos : K.lookup gisPos = some ⟨ocisPos, odisPos, .func (PySem.W.fnOf "is_positive" "is_positive" (defArgs sIsPos) (defBody sIsPos) (defScope sIsPos) .none kVisPos dcisPos pmisPos anisPos cdisPos ctisPos), slisPos⟩)
    (cisPos : PySem.W.codeIn K cdisPos "is_positive" = true)
    (kisPos : PySem.W.keepIn K (.ref gisPos) = true)
    (aisRow : PySem.W.nsIn K mainGlobals "_is_row" = some (some (.ref gisRow)))
    (lisRow : K.lookup gisRow = some ⟨ocisRow, odisRow, .func (PySem.W.fnOf "_is_row" "_is_row" (defArgs sIsRow) (defBody sIsRow) (defScope sIsRow) .none kVisRow dcisRow pmisRow anisRow cdisRow ctisRow), slisRow⟩)
    (cisRow : PySem.W.codeIn K cdisRow "_is_row" = true)
    (kisRow : PySem.W.keepIn K (.ref gisRow) = true)
    (acheck : PySem.W.nsIn K mainGlobals "_check_table" = some (some (.ref gcheck)))
    (lcheck : K.lookup gcheck = some ⟨occheck, odcheck, .func (PySem.W.fnOf "_check_table" "_check_table" (defArgs sCheck) (defBody sCheck) (defScope sCheck) .none kVcheck dccheck pmcheck ancheck cdcheck ctcheck), slcheck⟩)
    (ccheck : PySem.W.codeIn K cdcheck "_check_table" = true)
    (kcheck : PySem.W.keepIn K (.ref gcheck) = true)
    (arowsTx : PySem.W.nsIn K mainGlobals "_rows_text" = some (some (.ref growsTx)))
    (lrowsTx : K.lookup growsTx = some ⟨ocrowsTx, odrowsTx, .func (PySem.W.fnOf "_rows_text" "_rows_text" (defArgs sRowsTx) (defBody sRowsTx) (defScope sRowsTx) .none kVrowsTx dcrowsTx pmrowsTx anrowsTx cdrowsTx ctrowsTx), slrowsTx⟩)
    (crowsTx : PySem.W.codeIn K cdrowsTx "_rows_text" = true)
    (krowsTx : PySem.W.keepIn K (.ref growsTx) = true)
    (arowTx : PySem.W.nsIn K mainGlobals "_row_text" = some (some (.ref growTx)))
    (lrowTx : K.lookup growTx = some ⟨ocrowTx, odrowTx, .func (PySem.W.fnOf "_row_text" "_row_text" (defArgs sRowTx) (defBody sRowTx) (defScope sRowTx) .none kVrowTx dcrowTx pmrowTx anrowTx cdrowTx ctrowTx), slrowTx⟩)
    (crowTx : PySem.W.codeIn K cdrowTx "_row_text" = true)
    (krowTx : PySem.W.keepIn K (.ref growTx) = true)
    (astTx : PySem.W.nsIn K mainGlobals "_starts_text" = some (some (.ref gstTx)))
    (lstTx : K.lookup gstTx = some ⟨ocstTx, odstTx, .func (PySem.W.fnOf "_starts_text" "_starts_text" (defArgs sStartsTx) (defBody sStartsTx) (defScope sStartsTx) .none kVstTx dcstTx pmstTx anstTx cdstTx ctstTx), slstTx⟩)
    (cstTx : PySem.W.codeIn K cdstTx "_starts_text" = true)
    (kstTx : PySem.W.keepIn K (.ref gstTx) = true)
    (adraw : PySem.W.nsIn K mainGlobals "_law_draw" = some (some (.ref gdraw)))
    (ldraw : K.lookup gdraw = some ⟨ocdraw, oddraw, .func (PySem.W.fnOf "_law_draw" "_law_draw" (defArgs sDraw) (defBody sDraw) (defScope sDraw) .none kVdraw dcdraw pmdraw andraw cddraw ctdraw), sldraw⟩)
    (cdraw : PySem.W.codeIn K cddraw "_law_draw" = true)
    (kdraw : PySem.W.keepIn K (.ref gdraw) = true)
    (astart : PySem.W.nsIn K mainGlobals "_law_start" = some (some (.ref gstart)))
    (lstart : K.lookup gstart = some ⟨ocstart, odstart, .func (PySem.W.fnOf "_law_start" "_law_start" (defArgs sStart) (defBody sStart) (defScope sStart) .none kVstart dcstart pmstart anstart cdstart ctstart), slstart⟩)
    (cstart : PySem.W.codeIn K cdstart "_law_start" = true)
    (kstart : PySem.W.keepIn K (.ref gstart) = true)
    (apick : PySem.W.nsIn K mainGlobals "_law_pick" = some (some (.ref gpick)))
    (lpick : K.lookup gpick = some ⟨ocpick, odpick, .func (PySem.W.fnOf "_law_pick" "_law_pick" (defArgs sPick) (defBody sPick) (defScope sPick) .none kVpick dcpick pmpick anpick cdpick ctpick), slpick⟩)
    (cpick : PySem.W.codeIn K cdpick "_law_pick" = true)
    (kpick : PySem.W.keepIn K (.ref gpick) = true)
    (asame : PySem.W.nsIn K mainGlobals "_law_same" = some (some (.ref gsame)))
    (lsame : K.lookup gsame = some ⟨ocsame, odsame, .func (PySem.W.fnOf "_law_same" "_law_same" (defArgs sSame) (defBody sSame) (defScope sSame) .none kVsame dcsame pmsame ansame cdsame ctsame), slsame⟩)
    (csame : PySem.W.codeIn K cdsame "_law_same" = true)
    (ksame : PySem.W.keepIn K (.ref gsame) = true)
    (atable : PySem.W.nsIn K mainGlobals "_law_p_table" = some (some (.ref gtable)))
    (ltable : K.lookup gtable = some ⟨octable, odtable, .func (PySem.W.fnOf "_law_p_table" "_law_p_table" (defArgs sTable) (defBody sTable) (defScope sTable) .none kVtable dctable pmtable antable cdtable cttable), sltable⟩)
    (ctable : PySem.W.codeIn K cdtable "_law_p_table" = true)
    (ktable : PySem.W.keepIn K (.ref gtable) = true)
    (arefused : PySem.W.nsIn K mainGlobals "_law_p_refused" = some (some (.ref grefused)))
    (lrefused : K.lookup grefused = some ⟨ocrefused, odrefused, .func (PySem.W.fnOf "_law_p_refused" "_law_p_refused" (defArgs sRefused) (defBody sRefused) (defScope sRefused) .none kVrefused dcrefused pmrefused anrefused cdrefused ctrefused), slrefused⟩)
    (crefused : PySem.W.codeIn K cdrefused "_law_p_refused" = true)
    (krefused : PySem.W.keepIn K (.ref grefused) = true)
    (ahas : PySem.W.nsIn K mainGlobals "_law_p_has" = some (some (.ref ghas)))
    (lhas : K.lookup ghas = some ⟨ochas, odhas, .func (PySem.W.fnOf "_law_p_has" "_law_p_has" (defArgs sHas) (defBody sHas) (defScope sHas) .none kVhas dchas pmhas anhas cdhas cthas), slhas⟩)
    (chas : PySem.W.codeIn K cdhas "_law_p_has" = true)
    (khas : PySem.W.keepIn K (.ref ghas) = true)
    (alisted : PySem.W.nsIn K mainGlobals "_law_p_listed" = some (some (.ref glisted)))
    (llisted : K.lookup glisted = some ⟨oclisted, odlisted, .func (PySem.W.fnOf "_law_p_listed" "_law_p_listed" (defArgs sListed) (defBody sListed) (defScope sListed) .none kVlisted dclisted pmlisted anlisted cdlisted ctlisted), sllisted⟩)
    (clisted : PySem.W.codeIn K cdlisted "_law_p_listed" = true)
    (klisted : PySem.W.keepIn K (.ref glisted) = true)
    (aLaw : PySem.W.nsIn K mainGlobals "law" = some (some (.ref gLaw)))
    (lLaw : K.lookup gLaw = some ⟨ocLaw, odLaw, .func (PySem.W.fnOf "law" "law" (defArgs sLaw) (defBody sLaw) (defScope sLaw) .none kVLaw dcLaw pmLaw anLaw cdLaw ctLaw), slLaw⟩)
    (cLaw : PySem.W.codeIn K cdLaw "law" = true)
    (kLaw : PySem.W.keepIn K (.ref gLaw) = true)
    (zisinstance : PySem.W.nsIn K mainGlobals "isinstance" = some none)
    (zint : PySem.W.nsIn K mainGlobals "int" = some none)
    (zbool : PySem.W.nsIn K mainGlobals "bool" = some none)
    (zlist : PySem.W.nsIn K mainGlobals "list" = some none)
    (ztuple : PySem.W.nsIn K mainGlobals "tuple" = some none)
    (zlen : PySem.W.nsIn K mainGlobals "len" = some none)
    (zall : PySem.W.nsIn K mainGlobals "all" = some none)
    (zzip : PySem.W.nsIn K mainGlobals "zip" = some none)
    (zrange : PySem.W.nsIn K mainGlobals "range" = some none)
    (zstr : PySem.W.nsIn K mainGlobals "str" = some none)
    (zenumerate : PySem.W.nsIn K mainGlobals "enumerate" = some none)
    (aX : PySem.W.nsIn K mainGlobals "InvalidMix" = some (some (.ref X)))
    (xX : PySem.W.excIn K X [.type "ValueError", .type "Exception", .type "BaseException", .type "object"] "ValueError.__new__" = true)
    (kX : PySem.W.keepIn K (.ref X) = true)
    (bX : PySem.W.subIn K (.ref X) (.type "BaseException") = some true)
    (tX : PySem.W.typeIn K (.ref X) = some (.type "type"))
    (isX : PySem.W.isClsIn K X = true)
    (sX : PySem.W.subIn K (.ref X) (.ref X) = some true)
    (q1 : PySem.W.findIn K (.ref C) "__class__" = some (some (.builtin "object.__class__")))
    (q1' : PySem.W.findIn K (.ref D) "__class__" = some (some (.builtin "object.__class__")))
    (q2 : PySem.W.specialIn K (.builtin "object.__class__") "__get__" = some (some (.builtin "getset_descriptor.__get__")))
    (q3 : PySem.W.takesIn K (.builtin "object.__class__") = some true)
    (q4 : PySem.W.mroIn K C (.type "object") = some true)
    (q4' : PySem.W.mroIn K D (.type "object") = some true)
    (isC : PySem.W.isClsIn K C = true)
    (tC : PySem.W.typeIn K (.ref C) = some (.type "type"))
    (neCD : (Value.ref C == Value.ref D) = false)
    (sCD : PySem.W.subIn K (.ref C) (.ref D) = some false)
    (neDC : (Value.ref D == Value.ref C) = false)
    (sDC : PySem.W.subIn K (.ref D) (.ref C) = some false)
    (sfC : PySem.W.selfFirst K C = true)
    (nrC : PySem.W.findIn K (.ref C) "__radd__" = some none)
    (sintC : PySem.W.subIn K (.type "int") (.ref C) = some false)
    (sCint : PySem.W.subIn K (.ref C) (.type "int") = some false)
    (sboolC : PySem.W.subIn K (.type "bool") (.ref C) = some false)
    (sCbool : PySem.W.subIn K (.ref C) (.type "bool") = some false)
    (sfD : PySem.W.selfFirst K D = true)
    (nrD : PySem.W.findIn K (.ref D) "__radd__" = some none)
    (sintD : PySem.W.subIn K (.type "int") (.ref D) = some false)
    (sDint : PySem.W.subIn K (.ref D) (.type "int") = some false)
    (sboolD : PySem.W.subIn K (.type "bool") (.ref D) = some false)
    (sDbool : PySem.W.subIn K (.ref D) (.type "bool") = some false)
    (hint : PySem.W.findIn K (.type "int") "__mul__" = some foint)
    (rint : PySem.W.findIn K (.type "int") "__rmul__" = some roint)
    (hbool : PySem.W.findIn K (.type "bool") "__mul__" = some fobool)
    (rbool : PySem.W.findIn K (.type "bool") "__rmul__" = some robool) :
    ∃ fd : FuncData, (∀ (s : Shared) (v : Value), BindsTo s fd ⟨[v], []⟩ [("_law_script", v)]) ∧ ∀ base : Heap, K.In base → base.Ns mainGlobals mg → FnOk l.prog w K mg base CX0 9 fa fd ["_law_script"] (spLaw K) := by
  have e := hfa.symm.trans (PySem.W.mg_of X_ G aLaw)
  cases e
  have T : Txt K mg C := ⟨⟨pgC, hdC, poC, saC⟩, nCrows, nCstarts, nCmarks, PySem.W.mg_of X_ G aC, PySem.W.mg_none_of X_ G zisinstance, PySem.W.mg_none_of X_ G zint, PySem.W.mg_none_of X_ G zbool, PySem.W.mg_none_of X_ G zlist, PySem.W.mg_none_of X_ G ztuple, PySem.W.mg_none_of X_ G zlen, PySem.W.mg_none_of X_ G zall, PySem.W.mg_none_of X_ G zzip, PySem.W.mg_none_of X_ G zrange, ⟨tkM, PySem.W.mg_of X_ G aMost⟩, ⟨DM, PySem.W.mg_of X_ G aM, ⟨⟨x1, x2, x3, x4, y1, y2, y3, y4, nM_, lM⟩, lw⟩⟩⟩
  have FCI : FunI K gCI (PySem.W.fnOf "__init__" "Rule.__init__" (defArgs sInit) (defBody sInit) (defScope sInit) (.ref TT) kVCI dcCI pmCI anCI cdCI ctCI) DD := ⟨⟨_, _, _, _, _, _, _, _, _, _, rfl, lCI, cCI, .inr ⟨by simp, TT, _, [.ref DD], mT, rfl, lT, rfl, .cons rfl .nil⟩, .inl rfl⟩, kCI⟩
  have bI1 := FCI.binds1 (ps := ["self", "rows", "starts"]) 2 0 (by simp) rfl (fun T kV doc pm an cdv ct us its h1 h2 => match us, h1, its, h2 with | [_, _], _, [_], _ => ⟨_, rfl, rfl⟩)
  have hdd : ∀ H, SqT K H DD [V.int 0] := fun H => .inr ⟨_, #[.int 0 tkD], mD, lD, rfl, rfl, (by show 1 ≤ sizeLine; decide), .cons ⟨tkD, rfl⟩ .nil⟩
  have hdp : ∀ H, SqT K H DP [V.int 0] := fun H => .inr ⟨_, #[.int 0 tkP], mP, lP, rfl, rfl, (by show 1 ≤ sizeLine; decide), .cons ⟨tkP, rfl⟩ .nil⟩
  have FStr := fun_mk (st := sStr) lStr cStr kStr
  have bStr := FStr.binds (ps := ["self"]) fun _ _ _ _ _ _ us hl => match us, hl with | [_], _ => rfl
  have FCA := fun_mk (st := sRAdd) lCA cCA kCA
  have bCA := FCA.binds (ps := ["self", "other"]) fun _ _ _ _ _ _ us hl => match us, hl with | [_, _], _ => rfl
  have FCM := fun_mk (st := sRMul) lCM cCM kCM
  have bCM := FCM.binds (ps := ["self", "other"]) fun _ _ _ _ _ _ us hl => match us, hl with | [_, _], _ => rfl
  have FCR := fun_mk (st := sRRmul) lCR cCR kCR
  have bCR := FCR.binds (ps := ["self", "other"]) fun _ _ _ _ _ _ us hl => match us, hl with | [_, _], _ => rfl
  have FDI := fun_mk (st := sMInit) lDI cDI kDI
  have bDI := FDI.binds (ps := ["self", "parts"]) fun _ _ _ _ _ _ us hl => match us, hl with | [_, _], _ => rfl
  have FLen := fun_mk (st := sMLen) lLen cLen kLen
  have bLen := FLen.binds (ps := ["self"]) fun _ _ _ _ _ _ us hl => match us, hl with | [_], _ => rfl
  have FDA := fun_mk (st := sMAdd) lDA cDA kDA
  have bDA := FDA.binds (ps := ["self", "other"]) fun _ _ _ _ _ _ us hl => match us, hl with | [_, _], _ => rfl
  have FDM_ := fun_mk (st := sMMul) lDM_ cDM_ kDM_
  have bDM_ := FDM_.binds (ps := ["self", "other"]) fun _ _ _ _ _ _ us hl => match us, hl with | [_, _], _ => rfl
  have FDR := fun_mk (st := sMRmul) lDR cDR kDR
  have bDR := FDR.binds (ps := ["self", "other"]) fun _ _ _ _ _ _ us hl => match us, hl with | [_, _], _ => rfl
  have FisInt := fun_mk (st := sIsInt) lisInt cisInt kisInt
  have bisInt := FisInt.binds (ps := ["value"]) fun _ _ _ _ _ _ us hl => match us, hl with | [_], _ => rfl
  have Fbelow := fun_mk (st := sBelow) lbelow cbelow kbelow
  have bbelow := Fbelow.binds (ps := ["value", "count"]) fun _ _ _ _ _ _ us hl => match us, hl with | [_, _], _ => rfl
  have FisPos := fun_mk (st := sIsPos) lisPos cisPos kisPos
  have bisPos := FisPos.binds (ps := ["value"]) fun _ _ _ _ _ _ us hl => match us, hl with | [_], _ => rfl
  have FisRow := fun_mk (st := sIsRow) lisRow cisRow kisRow
  have bisRow := FisRow.binds (ps := ["row", "count"]) fun _ _ _ _ _ _ us hl => match us, hl with | [_, _], _ => rfl
  have Fcheck := fun_mk (st := sCheck) lcheck ccheck kcheck
  have bcheck := Fcheck.binds (ps := ["rows", "starts"]) fun _ _ _ _ _ _ us hl => match us, hl with | [_, _], _ => rfl
  have FrowsTx := fun_mk (st := sRowsTx) lrowsTx crowsTx krowsTx
  have browsTx := FrowsTx.binds (ps := ["rows"]) fun _ _ _ _ _ _ us hl => match us, hl with | [_], _ => rfl
  have FrowTx := fun_mk (st := sRowTx) lrowTx crowTx krowTx
  have browTx := FrowTx.binds (ps := ["row"]) fun _ _ _ _ _ _ us hl => match us, hl with | [_], _ => rfl
  have FstTx := fun_mk (st := sStartsTx) lstTx cstTx kstTx
  have bstTx := FstTx.binds (ps := ["starts"]) fun _ _ _ _ _ _ us hl => match us, hl with | [_], _ => rfl
  have Fdraw := fun_mk (st := sDraw) ldraw cdraw kdraw
  have bdraw := Fdraw.binds (ps := ["_law_stream", "_law_many"]) fun _ _ _ _ _ _ us hl => match us, hl with | [_, _], _ => rfl
  have Fstart := fun_mk (st := sStart) lstart cstart kstart
  have bstart := Fstart.binds (ps := ["_law_script"]) fun _ _ _ _ _ _ us hl => match us, hl with | [_], _ => rfl
  have Fpick := fun_mk (st := sPick) lpick cpick kpick
  have bpick := Fpick.binds (ps := ["_law_stream", "_law_some"]) fun _ _ _ _ _ _ us hl => match us, hl with | [_, _], _ => rfl
  have Fsame := fun_mk (st := sSame) lsame csame ksame
  have bsame := Fsame.binds (ps := ["_law_found", "_law_due"]) fun _ _ _ _ _ _ us hl => match us, hl with | [_, _], _ => rfl
  have Ftable := fun_mk (st := sTable) ltable ctable ktable
  have btable := Ftable.binds (ps := ["_law_stream", "_law_most"]) fun _ _ _ _ _ _ us hl => match us, hl with | [_, _], _ => rfl
  have Frefused := fun_mk (st := sRefused) lrefused crefused krefused
  have brefused := Frefused.binds (ps := ["_law_parts", "_law_times", "_law_first"]) fun _ _ _ _ _ _ us hl => match us, hl with | [_, _, _], _ => rfl
  have Fhas := fun_mk (st := sHas) lhas chas khas
  have bhas := Fhas.binds (ps := ["_law_mix", "_law_due"]) fun _ _ _ _ _ _ us hl => match us, hl with | [_, _], _ => rfl
  have Flisted := fun_mk (st := sListed) llisted clisted klisted
  have blisted := Flisted.binds (ps := ["_law_some", "_law_times"]) fun _ _ _ _ _ _ us hl => match us, hl with | [_, _], _ => rfl
  have PR : Prog K mg C D X ⟨DD, gCI, PySem.W.fnOf "__init__" "Rule.__init__" (defArgs sInit) (defBody sInit) (defScope sInit) (.ref TT) kVCI dcCI pmCI anCI cdCI ctCI, gStr, PySem.W.fnOf "__str__" "Rule.__str__" (defArgs sStr) (defBody sStr) (defScope sStr) .none kVStr dcStr pmStr anStr cdStr ctStr, gCA, PySem.W.fnOf "__add__" "Rule.__add__" (defArgs sRAdd) (defBody sRAdd) (defScope sRAdd) .none kVCA dcCA pmCA anCA cdCA ctCA, gCM, PySem.W.fnOf "__mul__" "Rule.__mul__" (defArgs sRMul) (defBody sRMul) (defScope sRMul) .none kVCM dcCM pmCM anCM cdCM ctCM, gCR, PySem.W.fnOf "__rmul__" "Rule.__rmul__" (defArgs sRRmul) (defBody sRRmul) (defScope sRRmul) .none kVCR dcCR pmCR anCR cdCR ctCR, gDI, PySem.W.fnOf "__init__" "Mix.__init__" (defArgs sMInit) (defBody sMInit) (defScope sMInit) .none kVDI dcDI pmDI anDI cdDI ctDI, gLen, PySem.W.fnOf "__len__" "Mix.__len__" (defArgs sMLen) (defBody sMLen) (defScope sMLen) .none kVLen dcLen pmLen anLen cdLen ctLen, gDA, PySem.W.fnOf "__add__" "Mix.__add__" (defArgs sMAdd) (defBody sMAdd) (defScope sMAdd) .none kVDA dcDA pmDA anDA cdDA ctDA, gDM_, PySem.W.fnOf "__mul__" "Mix.__mul__" (defArgs sMMul) (defBody sMMul) (defScope sMMul) .none kVDM_ dcDM_ pmDM_ anDM_ cdDM_ ctDM_, gDR, PySem.W.fnOf "__rmul__" "Mix.__rmul__" (defArgs sMRmul) (defBody sMRmul) (defScope sMRmul) .none kVDR dcDR pmDR anDR cdDR ctDR, gisInt, PySem.W.fnOf "is_integer" "is_integer" (defArgs sIsInt) (defBody sIsInt) (defScope sIsInt) .none kVisInt dcisInt pmisInt anisInt cdisInt ctisInt, gbelow, PySem.W.fnOf "is_below" "is_below" (defArgs sBelow) (defBody sBelow) (defScope sBelow) .none kVbelow dcbelow pmbelow anbelow cdbelow ctbelow, gisPos, PySem.W.fnOf "is_positive" "is_positive" (defArgs sIsPos) (defBody sIsPos) (defScope sIsPos) .none kVisPos dcisPos pmisPos anisPos cdisPos ctisPos, gisRow, PySem.W.fnOf "_is_row" "_is_row" (defArgs sIsRow) (defBody sIsRow) (defScope sIsRow) .none kVisRow dcisRow pmisRow anisRow cdisRow ctisRow, gcheck, PySem.W.fnOf "_check_table" "_check_table" (defArgs sCheck) (defBody sCheck) (defScope sCheck) .none kVcheck dccheck pmcheck ancheck cdcheck ctcheck, growsTx, PySem.W.fnOf "_rows_text" "_rows_text" (defArgs sRowsTx) (defBody sRowsTx) (defScope sRowsTx) .none kVrowsTx dcrowsTx pmrowsTx anrowsTx cdrowsTx ctrowsTx, growTx, PySem.W.fnOf "_row_text" "_row_text" (defArgs sRowTx) (defBody sRowTx) (defScope sRowTx) .none kVrowTx dcrowTx pmrowTx anrowTx cdrowTx ctrowTx, gstTx, PySem.W.fnOf "_starts_text" "_starts_text" (defArgs sStartsTx) (defBody sStartsTx) (defScope sStartsTx) .none kVstTx dcstTx pmstTx anstTx cdstTx ctstTx, gdraw, PySem.W.fnOf "_law_draw" "_law_draw" (defArgs sDraw) (defBody sDraw) (defScope sDraw) .none kVdraw dcdraw pmdraw andraw cddraw ctdraw, gstart, PySem.W.fnOf "_law_start" "_law_start" (defArgs sStart) (defBody sStart) (defScope sStart) .none kVstart dcstart pmstart anstart cdstart ctstart, gpick, PySem.W.fnOf "_law_pick" "_law_pick" (defArgs sPick) (defBody sPick) (defScope sPick) .none kVpick dcpick pmpick anpick cdpick ctpick, gsame, PySem.W.fnOf "_law_same" "_law_same" (defArgs sSame) (defBody sSame) (defScope sSame) .none kVsame dcsame pmsame ansame cdsame ctsame, gtable, PySem.W.fnOf "_law_p_table" "_law_p_table" (defArgs sTable) (defBody sTable) (defScope sTable) .none kVtable dctable pmtable antable cdtable cttable, grefused, PySem.W.fnOf "_law_p_refused" "_law_p_refused" (defArgs sRefused) (defBody sRefused) (defScope sRefused) .none kVrefused dcrefused pmrefused anrefused cdrefused ctrefused, ghas, PySem.W.fnOf "_law_p_has" "_law_p_has" (defArgs sHas) (defBody sHas) (defScope sHas) .none kVhas dchas pmhas anhas cdhas cthas, glisted, PySem.W.fnOf "_law_p_listed" "_law_p_listed" (defArgs sListed) (defBody sListed) (defScope sListed) .none kVlisted dclisted pmlisted anlisted cdlisted ctlisted⟩ := ⟨T, ⟨⟨pgD, hdD, poD, saD⟩, nDparts, PySem.W.mg_of X_ G aD⟩, ⟨q1, q1', q2, q3, q4, q4', kit_self, kit_2 neDC isC tC sDC, kit_self⟩, ⟨PySem.W.mg_none_of X_ G zstr, ⟨DP, PySem.W.mg_of X_ G aP, hdp⟩⟩, ⟨xX, PySem.W.mg_of X_ G aX, kX, bX, tX, exm_1 bX isX tX sX⟩, PySem.W.mg_none_of X_ G zenumerate, FCI, ⟨mkC, aCI, iCI, kcC⟩, bI2_of FCI, bI1, hdd, FStr, bStr, ⟨aStr, iStr, kStr⟩, FCA, bCA, FCM, bCM, FCR, bCR, FDI, ⟨mkD, aDI, iDI, kcD⟩, bDI, FLen, bLen, ⟨aLen, iLen, kLen⟩, FDA, bDA, FDM_, bDM_, FDR, bDR, ⟨sfC, by rw [← dn_add]; exact aCA, iCA⟩, ⟨sfD, by rw [← dn_add]; exact aDA, iDA⟩, ⟨⟨sfC, by rw [← dn_add]; exact aCA, iCA⟩, ⟨sfD, by rw [← dn_add]; exact aDA, iDA⟩, ⟨none, by rw [← dr_add]; exact nrC, .inl rfl⟩, ⟨none, by rw [← dr_add]; exact nrD, .inl rfl⟩, neCD, sDC⟩, ⟨⟨sfD, by rw [← dn_add]; exact aDA, iDA⟩, ⟨sfC, by rw [← dn_add]; exact aCA, iCA⟩, ⟨none, by rw [← dr_add]; exact nrD, .inl rfl⟩, ⟨none, by rw [← dr_add]; exact nrC, .inl rfl⟩, neDC, sCD⟩, ⟨⟨sfC, by rw [← dn_mul]; exact aCM, iCM, by rw [← dr_mul]; exact aCR, iCR, sintC, sCint⟩, ⟨foint, by rw [← dn_mul]; exact hint⟩, ⟨roint, by rw [← dr_mul]; exact rint⟩⟩, ⟨⟨sfD, by rw [← dn_mul]; exact aDM_, iDM_, by rw [← dr_mul]; exact aDR, iDR, sintD, sDint⟩, ⟨foint, by rw [← dn_mul]; exact hint⟩, ⟨roint, by rw [← dr_mul]; exact rint⟩⟩, ⟨⟨fobool, by rw [← dn_mul]; exact hbool⟩, ⟨robool, by rw [← dr_mul]; exact rbool⟩, sboolC, sCbool⟩, ⟨⟨fobool, by rw [← dn_mul]; exact hbool⟩, ⟨robool, by rw [← dr_mul]; exact rbool⟩, sboolD, sDbool⟩, ⟨FisInt, bisInt, PySem.W.mg_of X_ G aisInt⟩, ⟨Fbelow, bbelow, PySem.W.mg_of X_ G abelow⟩, ⟨FisPos, bisPos, PySem.W.mg_of X_ G aisPos⟩, ⟨FisRow, bisRow, PySem.W.mg_of X_ G aisRow⟩, ⟨Fcheck, bcheck, PySem.W.mg_of X_ G acheck⟩, ⟨FrowsTx, browsTx, PySem.W.mg_of X_ G arowsTx⟩, ⟨FrowTx, browTx, PySem.W.mg_of X_ G arowTx⟩, ⟨FstTx, bstTx, PySem.W.mg_of X_ G astTx⟩, ⟨Fdraw, bdraw, PySem.W.mg_of X_ G adraw⟩, ⟨Fstart, bstart, PySem.W.mg_of X_ G astart⟩, ⟨Fpick, bpick, PySem.W.mg_of X_ G apick⟩, ⟨Fsame, bsame, PySem.W.mg_of X_ G asame⟩, ⟨Ftable, btable, PySem.W.mg_of X_ G atable⟩, ⟨Frefused, brefused, PySem.W.mg_of X_ G arefused⟩, ⟨Fhas, bhas, PySem.W.mg_of X_ G ahas⟩, ⟨Flisted, blisted, PySem.W.mg_of X_ G alisted⟩⟩
  exact ⟨PySem.W.fnOf "law" "law" (defArgs sLaw) (defBody sLaw) (defScope sLaw) .none kVLaw dcLaw pmLaw anLaw cdLaw ctLaw, fun s v => .of_eq rfl, fun base _ _ => ok_law (fun_mk (st := sLaw) lLaw cLaw kLaw) PR⟩
theorem walk_ {l : PySem.W.OpenLaw} {q : Program} {loose : List Str} {XP : (Str → Option Value) → Heap → Prop} {YP : World → Heap → Prop} {d : DefRec} {K : Params → PySem.W.Frag} (hn : l.most = some 63) (hdf : d.params.defaults = [])
    (hY : ∀ (w : World) (h : Heap), YP w h → (K w.params).In h)
    (F : ∀ (w : World) (mg : Str → Option Value) (fa : Addr) (h : Heap), (K w.params).In h → h.Ns mainGlobals mg → mg d.name = some (.ref fa) →
      ∃ fd : FuncData, (∀ (s : Shared) (u : Value), BindsTo s fd ⟨[u], []⟩ [("_law_script", u)]) ∧ ∀ base : Heap, (K w.params).In base → base.Ns mainGlobals mg → FnOk l.prog w (K w.params) mg base CX0 9 fa fd ["_law_script"] (spLaw (K w.params))) :
    PySem.W.WalkO q loose XP YP l.row.toRowW d [] (fun f vs => PySem.call f vs) :=
  L2.walk_of (n := 63) (k := 9) (x := "_law_script") (CX := fun _ => CX0) (sp := fun w => spLaw (K w.params)) hn (by decide) hdf ⟨rfl, by decide, by decide⟩ hY F (fun _ _ a ns hl _ hS => ⟨a, ns, rfl, hS, hl, fun _ => rfl⟩) fun _ _ _ _ _ z => z
end PA

open PySem PySem.W PyProof.Rows
set_option maxRecDepth 100000 in
set_option maxHeartbeats 0 in
theorem PySem.Challenge.cw_pairahead_k66_mixes_made_holds : PySem.Challenge.rw_pairahead_k66_mixes_made.Holds := by
  w_on; o_law; k_head; (case hw => w_witness2)
  k_fill
  refine PA.walk_ (l := PySem.Challenge.rw_pairahead_k66_mixes_made) rfl rfl (fun w h Y => PySem.W.kIn_of Y) ?F
  case F =>
    intro w mg fa h KX G hmg
    refine' PA.all_mk KX G hmg ?aC ?pgC ?hdC ?poC ?saC ?kcC ?mkC ?nCrows ?nCstarts ?nCmarks ?aCI ?lCI ?cCI ?kCI ?iCI ?lT ?lD ?aM ?lM ?lw ?aMost ?aP ?lP ?aStr ?lStr ?cStr ?kStr ?iStr ?aCA ?lCA ?cCA ?kCA ?iCA ?aCM ?lCM ?cCM ?kCM ?iCM ?aCR ?lCR ?cCR ?kCR ?iCR ?aD ?pgD ?hdD ?poD ?saD ?kcD ?mkD ?nDparts ?aDI ?lDI ?cDI ?kDI ?iDI ?aLen ?lLen ?cLen ?kLen ?iLen ?aDA ?lDA ?cDA ?kDA ?iDA ?aDM_ ?lDM_ ?cDM_ ?kDM_ ?iDM_ ?aDR ?lDR ?cDR ?kDR ?iDR ?aisInt ?lisInt ?cisInt ?kisInt ?abelow ?lbelow ?cbelow ?kbelow ?aisPos ?lisPos ?cisPos ?kisPos ?aisRow ?lisRow ?cisRow ?kisRow ?acheck ?lcheck ?ccheck ?kcheck ?arowsTx ?lrowsTx ?crowsTx ?krowsTx ?arowTx ?lrowTx ?crowTx ?krowTx ?astTx ?lstTx ?cstTx ?kstTx ?adraw ?ldraw ?cdraw ?kdraw ?astart ?lstart ?cstart ?kstart ?apick ?lpick ?cpick ?kpick ?asame ?lsame ?csame ?ksame ?atable ?ltable ?ctable ?ktable ?arefused ?lrefused ?crefused ?krefused ?ahas ?lhas ?chas ?khas ?alisted ?llisted ?clisted ?klisted ?aLaw ?lLaw ?cLaw ?kLaw ?zisinstance ?zint ?zbool ?zlist ?ztuple ?zlen ?zall ?zzip ?zrange ?zstr ?zenumerate ?aX ?xX ?kX ?bX ?tX ?isX ?sX ?q1 ?q1' ?q2 ?q3 ?q4 ?q4' ?isC ?tC ?neCD ?sCD ?neDC ?sDC ?sfC ?nrC ?sintC ?sCint ?sboolC ?sCbool ?sfD ?nrD ?sintD ?sDint ?sboolD ?sDbool ?hint ?rint ?hbool ?rbool
    (case aC => k_is)
    (case pgC => k_is)
    (case hdC => k_is)
    (case poC => k_is)
    (case saC => k_is)
    (case kcC => k_is)
    (case mkC => k_is)
    (case nCrows => k_is)
    (case nCstarts => k_is)
    (case nCmarks => k_is)
    (case aCI => k_is)
    (case lCI => k_is)
    (case cCI => k_is)
    (case kCI => k_is)
    (case iCI => k_is)
    (case lT => k_is)
    (case lD => k_is)
    (case aM => k_is)
    (case lM => k_is)
    (case lw => first | rfl | decide | k_is)
    (case aMost => k_is)
    (case aP => k_is)
    (case lP => k_is)
    (case aStr => k_is)
    (case lStr => k_is)
    (case cStr => k_is)
    (case kStr => k_is)
    (case iStr => k_is)
    (case aCA => k_is)
    (case lCA => k_is)
    (case cCA => k_is)
    (case kCA => k_is)
    (case iCA => k_is)
    (case aCM => k_is)
    (case lCM => k_is)
    (case cCM => k_is)
    (case kCM => k_is)
    (case iCM => k_is)
    (case aCR => k_is)
    (case lCR => k_is)
    (case cCR => k_is)
    (case kCR => k_is)
    (case iCR => k_is)
    (case aD => k_is)
    (case pgD => k_is)
    (case hdD => k_is)
    (case poD => k_is)
    (case saD => k_is)
    (case kcD => k_is)
    (case mkD => k_is)
    (case nDparts => k_is)
    (case aDI => k_is)
    (case lDI => k_is)
    (case cDI => k_is)
    (case kDI => k_is)
    (case iDI => k_is)
    (case aLen => k_is)
    (case lLen => k_is)
    (case cLen => k_is)
    (case kLen => k_is)
    (case iLen => k_is)
    (case aDA => k_is)
    (case lDA => k_is)
    (case cDA => k_is)
    (case kDA => k_is)
    (case iDA => k_is)
    (case aDM_ => k_is)
    (case lDM_ => k_is)
    (case cDM_ => k_is)
    (case kDM_ => k_is)
    (case iDM_ => k_is)
    (case aDR => k_is)
    (case lDR => k_is)
    (case cDR => k_is)
    (case kDR => k_is)
    (case iDR => k_is)
    (case aisInt => k_is)
    (case lisInt => k_is)
    (case cisInt => k_is)
    (case kisInt => k_is)
    (case abelow => k_is)
    (case lbelow => k_is)
    (case cbelow => k_is)
    (case kbelow => k_is)
    (case aisPos => k_is)
    (case lisPos => k_is)
    (case cisPos => k_is)
    (case kisPos => k_is)
    (case aisRow => k_is)
    (case lisRow => k_is)
    (case cisRow => k_is)
    (case kisRow => k_is)
    (case acheck => k_is)
    (case lcheck => k_is)
    (case ccheck => k_is)
    (case kcheck => k_is)
    (case arowsTx => k_is)
    (case lrowsTx => k_is)
    (case crowsTx => k_is)
    (case krowsTx => k_is)
    (case arowTx => k_is)
    (case lrowTx => k_is)
    (case crowTx => k_is)
    (case krowTx => k_is)
    (case astTx => k_is)
    (case lstTx => k_is)
    (case cstTx => k_is)
    (case kstTx => k_is)
    (case adraw => k_is)
    (case ldraw => k_is)
    (case cdraw => k_is)
    (case kdraw => k_is)
    (case astart => k_is)
    (case lstart => k_is)
    (case cstart => k_is)
    (case kstart => k_is)
    (case apick => k_is)
    (case lpick => k_is)
    (case cpick => k_is)
    (case kpick => k_is)
    (case asame => k_is)
    (case lsame => k_is)
    (case csame => k_is)
    (case ksame => k_is)
    (case atable => k_is)
    (case ltable => k_is)
    (case ctable => k_is)
    (case ktable => k_is)
    (case arefused => k_is)
    (case lrefused => k_is)
    (case crefused => k_is)
    (case krefused => k_is)
    (case ahas => k_is)
    (case lhas => k_is)
    (case chas => k_is)
    (case khas => k_is)
    (case alisted => k_is)
    (case llisted => k_is)
    (case clisted => k_is)
    (case klisted => k_is)
    (case aLaw => k_is)
    (case lLaw => k_is)
    (case cLaw => k_is)
    (case kLaw => k_is)
    (case zisinstance => k_is)
    (case zint => k_is)
    (case zbool => k_is)
    (case zlist => k_is)
    (case ztuple => k_is)
    (case zlen => k_is)
    (case zall => k_is)
    (case zzip => k_is)
    (case zrange => k_is)
    (case zstr => k_is)
    (case zenumerate => k_is)
    (case aX => k_is)
    (case xX => k_exc)
    (case kX => k_is)
    (case bX => k_is)
    (case tX => k_is)
    (case isX => k_is)
    (case sX => first | rfl | k_is)
    (case q1 => k_is)
    (case q1' => k_is)
    (case q2 => k_is)
    (case q3 => k_is)
    (case q4 => k_is)
    (case q4' => k_is)
    (case isC => k_is)
    (case tC => k_is)
    (case neCD => first | rfl | decide | k_is)
    (case sCD => k_is)
    (case neDC => first | rfl | decide | k_is)
    (case sDC => k_is)
    (case sfC => k_is)
    (case nrC => k_is)
    (case sintC => k_is)
    (case sCint => k_is)
    (case sboolC => k_is)
    (case sCbool => k_is)
    (case sfD => k_is)
    (case nrD => k_is)
    (case sintD => k_is)
    (case sDint => k_is)
    (case sboolD => k_is)
    (case sDbool => k_is)
    (case hint => k_is)
    (case rint => k_is)
    (case hbool => k_is)
    (case rbool => k_is)
#print axioms PySem.Challenge.cw_pairahead_k66_mixes_made_holds
