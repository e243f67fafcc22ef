import PyProof.Rows.All
import Wide.All
import OpenK.AllK
import Wide.FinOn
import HandS.ForMost
import HandS.OwnEq
import HandS.Wide
import HandS.Gcd
import HandS.IsInst
import HandS.Defaults
import HandS.MakeKw
import HandS.ExcBuiltin
import HandS.TryOnly
import HandS.ForExc
import HandS.FStr
import HandS.Zip
import KE.KCallOwn
import PyProof.Conv_bool
import PySem.Challenge.RW_pairahead_k03_ratio_comparisons
import HandS.Codes
import HandS.Evl
set_option Elab.async false
set_option linter.all false
set_option maxRecDepth 100000
set_option maxHeartbeats 2000000
namespace PLow
open PySem PySem.W PySem.Calls PyProof.Rows
section
variable {prog : Program} {w : World} {M : Model} {A : Around} {E : Value → Shared → Prop} {s : Shared} {K : Frag} {x C L f : Addr} {h₀ : Heap} {m : Str → Option Value} {ox : Obj} {od : Option Obj} {nm : String}

/-- an int's own slot declines an instance -/
theorem add_declines {a : Int} {t : Tok} {R : PySem.Fin → Shared → Prop} (ho : s.heap.get? x = some ox) (hd : ∀ v, ox.data ≠ .prim v) (h : R (.done (.ret .notImplemented)) s) :
    wpAny (model prog w) A (Builtin.«int.__add__» ⟨[Value.int a t, Value.ref x], []⟩) R E s := by
  obtain ⟨hp, g, d, tk, os⟩ := s
  wp_walk
  split
  · rename_i e
    exact absurd e (hd _)
  · wp_walk
    exact h
theorem sub_declines {a : Int} {t : Tok} {R : PySem.Fin → Shared → Prop} (ho : s.heap.get? x = some ox) (hd : ∀ v, ox.data ≠ .prim v) (h : R (.done (.ret .notImplemented)) s) :
    wpAny (model prog w) A (Builtin.«int.__sub__» ⟨[Value.int a t, Value.ref x], []⟩) R E s := by
  obtain ⟨hp, g, d, tk, os⟩ := s
  wp_walk
  split
  · rename_i e
    exact absurd e (hd _)
  · wp_walk
    exact h
theorem mul_declines {a : Int} {t : Tok} {R : PySem.Fin → Shared → Prop} (ho : s.heap.get? x = some ox) (hd : ∀ v, ox.data ≠ .prim v) (h : R (.done (.ret .notImplemented)) s) :
    wpAny (model prog w) A (Builtin.«int.__mul__» ⟨[Value.int a t, Value.ref x], []⟩) R E s := by
  obtain ⟨hp, g, d, tk, os⟩ := s
  wp_walk
  split
  · rename_i e
    exact absurd e (hd _)
  · wp_walk
    exact h

/-- the left operand's own slot, the right one declines: an int and an instance with the reflected method -/
theorem rbin {op : Operator} {id : String} {a : Int} {t : Tok} {B : Builtin} {Q : Value → Shared → Prop} {g : Addr} (F : Fr h₀ L s.heap m) (X₀ : K.In h₀) (I : InstAt s.heap x ox C od) (hc : selfFirst K C = true)
    (hs : findIn K (.ref C) (PySem.dunder op.info.2) = some (some (.ref g))) (hr : findIn K (.ref C) (dunderR op.info.2) = some (some (.ref f))) (hf : isFn K (.ref f) = true)
    (hfT : fillsNumberSlot (.type "int") op.info.2 = pure true) (hsub : subIn K (.ref C) (.type "int") = some false)
    (slot : Slot "int" (PySem.dunder op.info.2) id) (entry : entryFor table id = some B) (args : argsOk id ⟨[Value.int a t, .ref x], []⟩)
    (dec : ∀ (A : Around) (E : Value → Shared → Prop) (R : PySem.Fin → Shared → Prop), R (.done (.ret .notImplemented)) s → wpAny (model prog w) A (B ⟨[Value.int a t, .ref x], []⟩) R E s)
    (h : wpAny (model prog w) A (call (.ref f) [.ref x, .int a t]) (PySem.W.CmpBack Q) E s) : wpAny (model prog w) A (binaryOp op (.int a t) (.ref x)) Q E s := by
  have X := X₀.keeps F.keep
  obtain ⟨cd, rest, hcd, hm⟩ := ksp_first hc
  rcases hi : op.info with ⟨sym, nm'⟩
  rw [hi] at hs hr hfT slot
  dsimp only at hs hr hfT slot
  have one := ksp_try X I hr hf h
  have L0 : Looks (model prog w) s.heap (typeOf (.int a t)) (.type "int") := Looks.of_pure rfl
  have L1 : Looks (model prog w) s.heap (typeOf (.ref x)) (.ref C) := I.type
  have L3 : Looks (model prog w) s.heap (fillsNumberSlot (.ref C) nm') true := fills_K X hcd hm hs
  have L5 : Looks (model prog w) s.heap (isSubtype (.ref C) (.type "int")) false := looks_subIn X hsub
  have hne : (Value.type "int" == Value.ref C) = false := Bool.eq_false_iff.mpr fun q => by cases beq_iff_eq.mp q
  have hpy : numberSlotInPython (.type "int") nm' = pure false := rfl
  simp only [binaryOp, hi]
  refine wpAny_holding (wpAny_bind ?_)
  unfold binaryOp1
  refine wpAny_bind (L0.here (wpAny_bind (L1.here (wpAny_bind (wpAny_of_eq hfT ?_)))))
  simp only [hne, Bool.false_eq_true, if_false]
  refine wpAny_bind (L3.here ?_)
  simp only [Bool.and_self, if_true]
  refine wpAny_bind (L5.here ?_)
  simp only [Bool.false_eq_true, if_false, pure_bind, Bool.not_false, Bool.and_self, if_true, hpy]
  refine wpAny_bind (wpAny_tryMethod_declines (id := id) (typeIs_int s a t) slot ?_)
  refine GQ.call_here slot (typeIs_int s a t) entry args (dec _ _ _ ?_)
  refine ⟨rfl, ?_⟩
  refine wpAny_bind (wpAny_mono one (fun r s' hr' => ?_) fun _ _ e => e)
  obtain ⟨v, rfl, hq⟩ := hr'
  dsimp only
  exact wpAny_bind (wpAny_rule (wpAny_pure (wpAny_pure hq)))

/-- abs(x) by the own method -/
theorem abs_own {Q : Value → Shared → Prop} (F : Fr h₀ L s.heap m) (X₀ : K.In h₀) (I : InstAt s.heap x ox C od) (hs : findIn K (.ref C) "__abs__" = some (some (.ref f))) (hf : isFn K (.ref f) = true)
    (h : wpAny (model prog w) A.in1 (call (.ref f) [.ref x]) Q E s) : wpAny (model prog w) A (call (.builtin "abs") [.ref x]) Q E s := by
  refine call_function_entry kind_abs plain_abs entry_abs (args_abs _) ?_
  unfold Builtin.«abs»
  refine wpAny_bind (m := oneArg "abs" _) (wpAny_pure ?_)
  refine wpAny_bind (special_fn (X₀.keeps F.keep) I hs (beq_iff_eq.mp hf) ?_)
  exact wpAny_mono h (fun v s' q => wpAny_pure ⟨v, rfl, q⟩) fun _ _ z => z
end
end PLow

namespace L2
open PySem PySem.Spec PyProof.Rows
section
variable {X : Cx} {CX : CXT} {k : Nat} {C f g : Addr} {fd : FuncData} {ps : List Str} {sp : Sp} {E : XK} {op : Operator}
theorem cmpBack_of {pins : List (Addr × Obj)} {σ : St} {Q : VK} {u : Value} {s' : Shared} (h : EP X pins σ Q u s') : PySem.W.CmpBack (EP X pins σ Q) u s' := by
  obtain ⟨v, H', I, r, q⟩ := id h
  cases v with
  | non => cases (show u = Value.none from r); exact h
  | bl b => cases (show u = Value.bool b from r); exact h
  | int i => obtain ⟨t, e⟩ := (show ∃ t, u = Value.int i t from r); cases e; exact h
  | str x => obtain ⟨t, e⟩ := (show ∃ t, u = Value.str x t from r); cases e; exact h
  | byt b => obtain ⟨t, e⟩ := (show ∃ t, u = Value.bytes b t from r); cases e; exact h
  | flt b => obtain ⟨t, e⟩ := (show ∃ t, u = Value.float b t from r); cases e; exact h
  | ref a => cases (show u = Value.ref a from r); exact h
  | ty n => cases (show u = Value.type n from r); exact h
/-- what of the class an own operator asks: f the method, g the reflected one -/
structure OwnOp (K : PySem.W.Frag) (C f g : Addr) (op : Operator) : Prop where
  first : PySem.W.selfFirst K C = true
  at_ : PySem.W.findIn K (.ref C) (PySem.dunder op.info.2) = some (some (.ref f))
  fn : PySem.W.isFn K (.ref f) = true
  ar : PySem.W.findIn K (.ref C) (dunderR op.info.2) = some (some (.ref g))
  fr : PySem.W.isFn K (.ref g) = true
  sub : PySem.W.subIn K (.type "int") (.ref C) = some false
  sub' : PySem.W.subIn K (.ref C) (.type "int") = some false
/-- x op y, x an instance with the own method, y an instance of the same class -/
theorem op_ownR (O : OwnOp X.K C f g op) (F : FnOk X.prog X.w X.K X.mg X.base CX k f fd ps sp) (hr : Room k X.A) (hb : Binds X.K fd ps []) (hx : Passes CX X E) :
    OpR X (binaryOp op) (fun x y H Q => ∃ a b dx dy fs gs, x = .ref a ∧ y = .ref b ∧ H a = some (.ins C dx fs) ∧ H b = some (.ins C dy gs) ∧ sp [.ref a, .ref b] H Q E) := by
  intro pins s σ H x y v u Q I rx ry h
  obtain ⟨a, b, dx, dy, fs, gs, rfl, rfl, ha, hb', q⟩ := h
  cases rx
  cases ry
  obtain ⟨mA, J, _⟩ := ins_get I.hok ha
  obtain ⟨mB, J', _⟩ := ins_get I.hok hb'
  obtain ⟨od, J, _⟩ := J.look
  obtain ⟨od', J', _⟩ := J'.look
  obtain ⟨m, hF⟩ := I.fr
  refine PySem.W.binop_K hF I.ok.mod.kin J J'.type O.first O.at_ O.fn ?_
  exact wpAny_mono (run_fn (us := [.ref a, .ref b]) (vs := [.ref a, .ref b]) F hr hb .nil hx I (.cons rfl (.cons rfl .nil)) q) (fun _ _ z => cmpBack_of z) fun _ _ z => z
/-- x op i, i an int -/
theorem op_ownI {fo ro : Option Value} (O : OwnOp X.K C f g op) (h1 : PySem.W.findIn X.K (.type "int") (PySem.dunder op.info.2) = some fo) (h2 : PySem.W.findIn X.K (.type "int") (dunderR op.info.2) = some ro)
    (F : FnOk X.prog X.w X.K X.mg X.base CX k f fd ps sp) (hr : Room k X.A) (hb : Binds X.K fd ps []) (hx : Passes CX X E) :
    OpR X (binaryOp op) (fun x y H Q => ∃ a i dx fs, x = .ref a ∧ y = .int i ∧ H a = some (.ins C dx fs) ∧ sp [.ref a, .int i] H Q E) := by
  intro pins s σ H x y v u Q I rx ry h
  obtain ⟨a, i, dx, fs, rfl, rfl, ha, q⟩ := h
  cases rx
  obtain ⟨t, rfl⟩ := ry
  obtain ⟨mA, J, _⟩ := ins_get I.hok ha
  obtain ⟨od, J, _⟩ := J.look
  obtain ⟨m, hF⟩ := I.fr
  refine PySem.W.ksp_binT hF I.ok.mod.kin J rfl O.first O.at_ O.fn O.ar (.inr ⟨_, rfl⟩) h1 h2 O.sub ?_
  exact wpAny_mono (run_fn (us := [.ref a, .int i t]) (vs := [.ref a, .int i]) F hr hb .nil hx I (.cons rfl (.cons ⟨t, rfl⟩ .nil)) q) (fun _ _ z => cmpBack_of z) fun _ _ z => z
/-- i op x, i an int: the reflected method, F of g -/
theorem op_ownL {id : String} {B : Builtin} (O : OwnOp X.K C f g op) (hfT : fillsNumberSlot (.type "int") op.info.2 = pure true)
    (slot : PySem.Slot "int" (PySem.dunder op.info.2) id) (entry : entryFor table id = some B) (args : ∀ i t x, argsOk id ⟨[Value.int i t, .ref x], []⟩)
    (dec : ∀ (i : Int) (t : Tok) (x : Addr) (ox : Obj) (s : Shared), s.heap.get? x = some ox → (∀ v, ox.data ≠ .prim v) → ∀ (A : Around) (E : Value → Shared → Prop) (R : PySem.Fin → Shared → Prop), R (.done (.ret .notImplemented)) s →
      wpAny (model X.prog X.w) A (B ⟨[Value.int i t, .ref x], []⟩) R E s)
    (F : FnOk X.prog X.w X.K X.mg X.base CX k g fd ps sp) (hr : Room k X.A) (hb : Binds X.K fd ps []) (hx : Passes CX X E) :
    OpR X (binaryOp op) (fun x y H Q => ∃ a i dx fs, x = .int i ∧ y = .ref a ∧ H a = some (.ins C dx fs) ∧ sp [.ref a, .int i] H Q E) := by
  intro pins s σ H x y v u Q I rx ry h
  obtain ⟨a, i, dx, fs, rfl, rfl, ha, q⟩ := h
  obtain ⟨t, rfl⟩ := rx
  cases ry
  obtain ⟨mA, J, _⟩ := ins_get I.hok ha
  have ho := J.obj
  obtain ⟨od, J, _⟩ := J.look
  obtain ⟨m, hF⟩ := I.fr
  refine PLow.rbin hF I.ok.mod.kin J O.first O.at_ O.ar O.fr hfT O.sub' slot entry (args _ _ _) (dec i t a _ s ho (fun v z => by simp [PySem.W.instObj] at z)) ?_
  exact wpAny_mono (run_fn (us := [.ref a, .int i t]) (vs := [.ref a, .int i]) F hr hb .nil hx I (.cons rfl (.cons ⟨t, rfl⟩ .nil)) q) (fun _ _ z => cmpBack_of z) fun _ _ z => z
/-- -x -/
theorem un_own (hs : PySem.W.findIn X.K (.ref C) "__neg__" = some (some (.ref f))) (hf : PySem.W.isFn X.K (.ref f) = true) (F : FnOk X.prog X.w X.K X.mg X.base CX k f fd ps sp) (hr : Room k X.A) (hb : Binds X.K fd ps []) (hx : Passes CX X E) :
    UnR X (unaryOp .USub) (fun x H Q => ∃ a dx fs, x = .ref a ∧ H a = some (.ins C dx fs) ∧ sp [.ref a] H Q E) := by
  intro pins s σ H x v Q I rx h
  obtain ⟨a, dx, fs, rfl, ha, q⟩ := h
  cases rx
  obtain ⟨mA, J, _⟩ := ins_get I.hok ha
  obtain ⟨od, J, _⟩ := J.look
  obtain ⟨m, hF⟩ := I.fr
  refine PySem.W.ksp_neg hF I.ok.mod.kin J hs hf ?_
  exact run_fn (us := [.ref a]) (vs := [.ref a]) F hr hb .nil hx I (.cons rfl .nil) q
/-- abs(x) -/
theorem call_absOwn (hs : PySem.W.findIn X.K (.ref C) "__abs__" = some (some (.ref f))) (hf : PySem.W.isFn X.K (.ref f) = true) (F : FnOk X.prog X.w X.K X.mg X.base CX k f fd ps sp) (hr : Room (k + 1) X.A) (hb : Binds X.K fd ps []) (hx : Passes CX X E) :
    CallR X (.builtin "abs") (fun xs H Q => ∃ a dx fs, xs = [.ref a] ∧ H a = some (.ins C dx fs) ∧ sp [.ref a] H Q E) := by
  intro pins s σ H xs us Q I r h
  obtain ⟨a, dx, fs, rfl, ha, q⟩ := h
  cases r with
  | cons r1 r2 =>
    cases r2
    cases r1
    obtain ⟨mA, J, _⟩ := ins_get I.hok ha
    obtain ⟨od, J, _⟩ := J.look
    obtain ⟨m, hF⟩ := I.fr
    refine PLow.abs_own hF I.ok.mod.kin J hs hf ?_
    have hl := F.len _ _ _ _ q
    have r2 : Vals [V.ref a] [Value.ref a] := .cons rfl .nil
    refine wpAny_call (codeAny_mono (F.run X.A.in1 X.stack s H ⟨[.ref a], []⟩ [.ref a] [.ref a] Q E hr.in1 I.env0.in1 (by
      have := hb s [.ref a] I.kIn (by simpa using hl)
      simpa using this) r2 q) fun r s' hq => ?_)
    cases r with
    | error e => exact hx pins σ H s e s' I hq
    | ok fl =>
      cases fl with
      | ret w => exact I.after hq
      | next => exact False.elim hq
      | brk => exact False.elim hq
      | cont => exact False.elim hq
/-- // by any divisor but 0 below 2 ^ 9000 in size -/
def CDivS (_ j : Int) : Prop := j ≠ 0 ∧ j.natAbs.log2 < 9000
theorem op_fdivS : OpR X (binaryOp .FloorDiv) (rI CDivS fun i j => .int (i.fdiv j)) := opI fun i j _ _ _ _ _ hc q =>
  floordiv_int hc.1 q (.inl (PyProof.noPylong_of_log2 hc.2))
end
end L2

set_option maxHeartbeats 2000000
namespace PA
/-- below 2 ^ n in size -/
abbrev Sm (n : Nat) (x : Int) : Prop := x.natAbs < 2 ^ n
theorem Sm.mono {n m : Nat} {x : Int} (h : Sm n x) (hn : n ≤ m) : Sm m x := Nat.lt_of_lt_of_le h (Nat.pow_le_pow_right (by decide) hn)
theorem Sm.mul {n m k : Nat} {x y : Int} (hx : Sm n x) (hy : Sm m y) (h : n + m ≤ k) : Sm k (x * y) := by
  refine Sm.mono (n := n + m) ?_ h
  unfold Sm
  rw [Int.natAbs_mul, Nat.pow_add]
  exact Nat.mul_lt_mul'' hx hy
theorem Sm.add {n k : Nat} {x y : Int} (hx : Sm n x) (hy : Sm n y) (h : n + 1 ≤ k) : Sm k (x + y) := by
  refine Sm.mono (n := n + 1) ?_ h
  unfold Sm at *
  rw [Nat.pow_succ]
  omega
theorem Sm.sub {n k : Nat} {x y : Int} (hx : Sm n x) (hy : Sm n y) (h : n + 1 ≤ k) : Sm k (x - y) := by
  refine Sm.mono (n := n + 1) ?_ h
  unfold Sm at *
  rw [Nat.pow_succ]
  omega
theorem Sm.neg {n : Nat} {x : Int} (hx : Sm n x) : Sm n (-x) := by
  unfold Sm at *
  rw [Int.natAbs_neg]
  exact hx
theorem Sm.le {n : Nat} {x y : Int} (hx : Sm n x) (h : y.natAbs ≤ x.natAbs) : Sm n y := Nat.lt_of_le_of_lt h hx
theorem Sm.one {n : Nat} (h : 0 < n) : Sm n 1 := by
  show (1 : Int).natAbs < 2 ^ n
  exact Nat.one_lt_two_pow (by omega)

/-- the divisor that a Ratio shortens by -/
def shr (t b : Int) : Int := if b < 0 then -((Nat.gcd t.natAbs b.natAbs : Nat) : Int) else ((Nat.gcd t.natAbs b.natAbs : Nat) : Int)
/-- lowest terms -/
structure Low (T B : Int) : Prop where
  pos : 0 < B
  cop : Nat.gcd T.natAbs B.natAbs = 1
theorem low_one (i : Int) : Low i 1 := ⟨by decide, Nat.gcd_one_right _⟩
theorem gcd_key {a b c d g : Nat} (h1 : a = c * g) (h2 : b = d * g) : Nat.gcd a b = Nat.gcd c d * g := by
  rw [h1, h2]
  exact Nat.gcd_mul_right _ _ _
theorem rat_mk {t b : Int} (hb : b ≠ 0) : shr t b ≠ 0 ∧ (shr t b).natAbs ≤ b.natAbs ∧ Low (t.fdiv (shr t b)) (b.fdiv (shr t b)) ∧ (t.fdiv (shr t b)) * b = t * (b.fdiv (shr t b)) ∧
    (t.fdiv (shr t b)).natAbs ≤ t.natAbs ∧ (b.fdiv (shr t b)).natAbs ≤ b.natAbs := by
  have hg : 0 < Nat.gcd t.natAbs b.natAbs := Nat.gcd_pos_of_pos_right _ (Int.natAbs_pos.mpr hb)
  have hgb : Nat.gcd t.natAbs b.natAbs ≤ b.natAbs := Nat.gcd_le_right _ (Int.natAbs_pos.mpr hb)
  have hsn : (shr t b).natAbs = Nat.gcd t.natAbs b.natAbs := by
    unfold shr
    split
    · rw [Int.natAbs_neg, Int.natAbs_natCast]
    · rw [Int.natAbs_natCast]
  have hs0 : shr t b ≠ 0 := by
    intro z
    rw [z] at hsn
    simp at hsn
    omega
  have dv : ∀ y : Int, (Nat.gcd t.natAbs b.natAbs) ∣ y.natAbs → ∃ q : Int, y = q * shr t b := by
    intro y hy
    have h1 : ((Nat.gcd t.natAbs b.natAbs : Nat) : Int) ∣ y := Int.ofNat_dvd_left.mpr hy
    obtain ⟨q, hq⟩ := h1
    unfold shr
    split
    · exact ⟨-q, by rw [Int.neg_mul_neg, Int.mul_comm]; exact hq⟩
    · exact ⟨q, by rw [Int.mul_comm]; exact hq⟩
  obtain ⟨T, hT⟩ := dv t (Nat.gcd_dvd_left _ _)
  obtain ⟨B, hB⟩ := dv b (Nat.gcd_dvd_right _ _)
  have eT : t.fdiv (shr t b) = T := by
    conv => lhs; lhs; rw [hT]
    exact Int.mul_fdiv_cancel _ hs0
  have eB : b.fdiv (shr t b) = B := by
    conv => lhs; lhs; rw [hB]
    exact Int.mul_fdiv_cancel _ hs0
  rw [eT, eB]
  have nT : t.natAbs = T.natAbs * Nat.gcd t.natAbs b.natAbs := by
    conv => lhs; rw [hT, Int.natAbs_mul, hsn]
  have nB : b.natAbs = B.natAbs * Nat.gcd t.natAbs b.natAbs := by
    conv => lhs; rw [hB, Int.natAbs_mul, hsn]
  refine ⟨hs0, by rw [hsn]; exact hgb, ⟨?_, ?_⟩, ?_, ?_, ?_⟩
  · have hB0 : B ≠ 0 := by
      intro z
      rw [z, Int.zero_mul] at hB
      exact hb hB
    rcases Int.lt_or_gt_of_ne hB0 with h | h
    · exfalso
      unfold shr at hB
      split at hB
      · rename_i hneg
        have : 0 < B * -((Nat.gcd t.natAbs b.natAbs : Nat) : Int) := Int.mul_pos_of_neg_of_neg h (by omega)
        omega
      · rename_i hneg
        have : B * ((Nat.gcd t.natAbs b.natAbs : Nat) : Int) < 0 := Int.mul_neg_of_neg_of_pos h (by omega)
        omega
    · exact h
  · have e : Nat.gcd t.natAbs b.natAbs = Nat.gcd T.natAbs B.natAbs * Nat.gcd t.natAbs b.natAbs := by
      exact gcd_key nT nB
    have e2 : 1 * Nat.gcd t.natAbs b.natAbs = Nat.gcd T.natAbs B.natAbs * Nat.gcd t.natAbs b.natAbs := by rw [Nat.one_mul]; exact e
    exact (Nat.eq_of_mul_eq_mul_right hg e2).symm
  · calc T * b = T * (B * shr t b) := by rw [← hB]
      _ = (T * shr t b) * B := by rw [Int.mul_comm B, ← Int.mul_assoc]
      _ = t * B := by rw [← hT]
  · rw [nT]; exact Nat.le_mul_of_pos_right _ hg
  · rw [nB]; exact Nat.le_mul_of_pos_right _ hg
/-- a fraction has one lowest form -/
theorem Low.uniq {T B T' B' : Int} (h : Low T B) (h' : Low T' B') (e : T * B' = T' * B) : T = T' ∧ B = B' := by
  have n : T.natAbs * B'.natAbs = T'.natAbs * B.natAbs := by rw [← Int.natAbs_mul, ← Int.natAbs_mul, e]
  have d1 : B.natAbs ∣ B'.natAbs := by
    have : B.natAbs ∣ T.natAbs * B'.natAbs := ⟨T'.natAbs, by rw [n, Nat.mul_comm]⟩
    exact (Nat.Coprime.symm h.cop).dvd_of_dvd_mul_left this
  have d2 : B'.natAbs ∣ B.natAbs := by
    have : B'.natAbs ∣ T'.natAbs * B.natAbs := ⟨T.natAbs, by rw [← n, Nat.mul_comm]⟩
    exact (Nat.Coprime.symm h'.cop).dvd_of_dvd_mul_left this
  have eB : B = B' := by
    have := Nat.dvd_antisymm d1 d2
    have p1 := h.pos
    have p2 := h'.pos
    omega
  subst eB
  have hB : B ≠ 0 := by have := h.pos; omega
  exact ⟨Int.eq_of_mul_eq_mul_right hB e, rfl⟩
theorem Low.neg {T B : Int} (h : Low T B) : Low (-T) B := ⟨h.pos, by rw [Int.natAbs_neg]; exact h.cop⟩
/-- a = n / d and b = n / d -/
theorem cross {a b n d x y : Int} (hb : b ≠ 0) (h1 : a * d = n * b) (h2 : n * y = x * d) (hd : d ≠ 0) : a * y = x * b := by
  have : (a * y) * d = (x * b) * d := by
    calc (a * y) * d = (a * d) * y := by rw [Int.mul_assoc, Int.mul_comm y, ← Int.mul_assoc]
      _ = (n * b) * y := by rw [h1]
      _ = (n * y) * b := by rw [Int.mul_assoc, Int.mul_comm b, ← Int.mul_assoc]
      _ = (x * d) * b := by rw [h2]
      _ = (x * b) * d := by rw [Int.mul_assoc, Int.mul_comm d, ← Int.mul_assoc]
  exact Int.eq_of_mul_eq_mul_right hd this
end PA

set_option maxHeartbeats 2000000
namespace PLow
open PySem PySem.W PySem.Calls PyProof.Rows
section
variable {prog : Program} {w : World} {A : Around} {E : Value → Shared → Prop} {s : Shared} {K : Frag} {x C L f : Addr} {h₀ : Heap} {m : Str → Option Value} {ox : Obj} {od : Option Obj}
/-- bool(x) by the own method -/
theorem bool_own {Q : Value → Shared → Prop} (F : Fr h₀ L s.heap m) (X₀ : K.In h₀) (I : InstAt s.heap x ox C od) (hs : findIn K (.ref C) "__bool__" = some (some (.ref f))) (hf : isFn K (.ref f) = true)
    (h : wpAny (model prog w) A.in1.in1 (call (.ref f) [.ref x]) (PySem.W.BoolBack fun b s' => Q (.bool b) s') E s) : wpAny (model prog w) A (call (.type "bool") [.ref x]) Q E s := by
  refine callType_newIn (S := fun A R s' => s' = s ∧ wpAny (model prog w) A.in1 (call (.ref f) [.ref x]) (PySem.W.BoolBack fun b s' => R (.ok (.ret (.bool b))) s') (fun e s' => R (.error e) s') s) PySem.F.called_bool PySem.F.newNe_bool (PySem.F.typeCall_bool_1 _) (PySem.F.newCall_bool_1 _)
    (fun obj => PySem.F.args_object_init_2 obj _) PySem.F.entry_bool_new ?_ ⟨rfl, ?_⟩
  · rintro A R s' ⟨rfl, hc⟩
    have tr : ∀ {Q' : Bool → Shared → Prop}, wpAny (model prog w) A.in1 (call (.ref f) [.ref x]) (PySem.W.BoolBack Q') (fun e s' => R (.error e) s') s' → wpAny (model prog w) A.in1 (truthy (.ref x)) Q' (fun e s' => R (.error e) s') s' := fun z => truthy_K F X₀ I hs hf z
    have f1 := PySem.F.conv_sub_bool
    refine wpAny_bind (m := isType _) (wpAny_pure ?_)
    dsimp only
    simp only [Bool.not_true, Bool.false_eq_true, if_false]
    refine wpAny_bind (wpAny_of_eq f1 ?_)
    simp only [Bool.not_true, Bool.false_eq_true, if_false]
    refine wpAny_bind (m := someArgs _ _ _ _) (wpAny_pure ?_)
    dsimp only
    refine wpAny_bind (tr (wpAny_mono hc (fun v s' hv => ?_) fun _ _ z => z))
    cases v <;> first | exact hv.elim | skip
    exact wpAny_pure hv
  · refine wpAny_mono h (fun v s' hv => ?_) fun _ _ z => z
    cases v <;> first | exact hv.elim | skip
    exact ⟨rfl, hv⟩
end
end PLow
namespace L2
open PySem PySem.Spec PyProof.Rows
section
variable {X : Cx} {CX : CXT} {k : Nat} {C f : Addr} {fd : FuncData} {ps : List Str} {sp : Sp} {E : XK} {op : CmpOp}
/-- an own comparison -/
structure OwnC (K : PySem.W.Frag) (C f : Addr) (op : CmpOp) : Prop where
  at_ : PySem.W.findIn K (.ref C) (cmpInfo op).2.1 = some (some (.ref f))
  fn : PySem.W.isFn K (.ref f) = true
  sub : PySem.W.subIn K (.type "int") (.ref C) = some false
theorem rich_own (O : OwnC X.K C f op) (F : FnOk X.prog X.w X.K X.mg X.base CX k f fd ps sp) (hr : Room k X.A) (hb : Binds X.K fd ps []) (hx : Passes CX X E) {pins : List (Addr × Obj)} {s : Shared} {σ : St} {H : Hp} {y : V} {u : Value} {Q : VK} {a dx : Addr} {fs : List (Str × V)}
    (I : Inv X pins σ H s) (ha : H a = some (.ins C dx fs)) (ry : RelV y u) (hy : (∃ i, y = .int i) ∨ ∃ b dy gs, y = .ref b ∧ H b = some (.ins C dy gs)) (q : sp [.ref a, y] H Q E) :
    wpAny (model X.prog X.w) X.A (richCompare op (.ref a) u) (EP X pins σ Q) X.xe s := by
  obtain ⟨mA, J, _⟩ := ins_get I.hok ha
  obtain ⟨od, J, _⟩ := J.look
  obtain ⟨m, hF⟩ := I.fr
  have fin : wpAny (model X.prog X.w) X.A (call (.ref f) [.ref a, u]) (PySem.W.CmpBack (EP X pins σ Q)) X.xe s :=
    wpAny_mono (run_fn (us := [.ref a, u]) (vs := [.ref a, y]) F hr hb .nil hx I (.cons rfl (.cons ry .nil)) q) (fun _ _ z => cmpBack_of z) fun _ _ z => z
  rcases hy with ⟨i, rfl⟩ | ⟨b, dy, gs, rfl, hb'⟩
  · obtain ⟨t, rfl⟩ := ry
    refine PySem.W.cmp_K (op := op) (tb := .type "int") hr.units0 hF I.ok.mod.kin J (PySem.W.Looks.of_pure rfl) ?_ O.at_ O.fn fin
    unfold PySem.W.notFirst
    rw [O.sub]
    simp
  · cases ry
    obtain ⟨mB, J', _⟩ := ins_get I.hok hb'
    obtain ⟨od', J', _⟩ := J'.look
    exact PySem.W.cmp_K (op := op) (tb := .ref C) hr.units0 hF I.ok.mod.kin J J'.type (by simp [PySem.W.notFirst]) O.at_ O.fn fin
def rOwnC (C : Addr) (sp : Sp) (E : XK) : R2 := fun x y H Q => ∃ a dx fs, x = .ref a ∧ H a = some (.ins C dx fs) ∧ ((∃ i, y = .int i) ∨ ∃ b dy gs, y = .ref b ∧ H b = some (.ins C dy gs)) ∧ sp [x, y] H Q E
theorem op_ownC (O : OwnC X.K C f op) (F : FnOk X.prog X.w X.K X.mg X.base CX k f fd ps sp) (hr : Room k X.A) (hb : Binds X.K fd ps []) (hx : Passes CX X E) (hc : ∀ v u, compareOp op v u = richCompare op v u := by intro _ _; rfl) : OpR X (compareOp op) (rOwnC C sp E) := by
  intro pins s σ H x y v u Q I rx ry h
  obtain ⟨a, dx, fs, rfl, ha, hy, q⟩ := h
  cases rx
  rw [hc]
  exact rich_own O F hr hb hx I ha ry hy q
/-- a call of a built-in class whose own method answers, two levels in -/
theorem run_in2 {pins : List (Addr × Obj)} {σ : St} {H : Hp} {s : Shared} {Q : VK} {a : Addr} (F : FnOk X.prog X.w X.K X.mg X.base CX k f fd ps sp) (hr : Room (k + 2) X.A) (hb : Binds X.K fd ps []) (hx : Passes CX X E) (I : Inv X pins σ H s) (q : sp [.ref a] H Q E) :
    wpAny (model X.prog X.w) X.A.in1.in1 (call (.ref f) [.ref a]) (EP X pins σ Q) X.xe s := by
  have hl := F.len _ _ _ _ q
  have r2 : Vals [V.ref a] [Value.ref a] := .cons rfl .nil
  refine wpAny_call (codeAny_mono (F.run X.A.in1.in1 X.stack s H ⟨[.ref a], []⟩ [.ref a] [.ref a] Q E hr.in1.in1 I.env0.in1.in1 (by
    have := hb s [.ref a] I.kIn (by simpa using hl)
    simpa using this) r2 q) fun r s' hq => ?_)
  cases r with
  | error e => exact hx pins σ H s e s' I hq
  | ok fl =>
    cases fl with
    | ret w => exact I.after hq
    | next => exact False.elim hq
    | brk => exact False.elim hq
    | cont => exact False.elim hq
/-- bool(x) -/
theorem call_boolOwn (hs : PySem.W.findIn X.K (.ref C) "__bool__" = some (some (.ref f))) (hf : PySem.W.isFn X.K (.ref f) = true) (F : FnOk X.prog X.w X.K X.mg X.base CX k f fd ps sp) (hr : Room (k + 2) X.A) (hb : Binds X.K fd ps []) (hx : Passes CX X E) :
    CallR X (.type "bool") (fun xs H Q => ∃ a dx fs, xs = [.ref a] ∧ H a = some (.ins C dx fs) ∧ sp [.ref a] H (fun v H' => ∃ b, v = .bl b ∧ Q (.bl b) H') E) := by
  intro pins s σ H xs us Q I r h
  obtain ⟨a, dx, fs, rfl, ha, q⟩ := h
  obtain ⟨u, rfl, ru⟩ := vals1 r
  cases ru
  obtain ⟨mA, J, _⟩ := ins_get I.hok ha
  obtain ⟨od, J, _⟩ := J.look
  obtain ⟨m, hF⟩ := I.fr
  refine PLow.bool_own hF I.ok.mod.kin J hs hf (wpAny_mono (run_in2 F hr hb hx I q) (fun u s' z => ?_) fun _ _ z => z)
  obtain ⟨v, H', I', rv, b, rfl, q'⟩ := z
  cases rv
  exact ⟨.bl b, H', I', rfl, q'⟩
/-- str(x) -/
theorem call_strOwn (hs : PySem.W.findIn X.K (.ref C) "__str__" = some (some (.ref f))) (hf : PySem.W.isFn X.K (.ref f) = true) (F : FnOk X.prog X.w X.K X.mg X.base CX k f fd ps sp) (hr : Room (k + 2) X.A) (hb : Binds X.K fd ps []) (hx : Passes CX X E) :
    CallR X (.type "str") (fun xs H Q => ∃ a dx fs, xs = [.ref a] ∧ H a = some (.ins C dx fs) ∧ sp [.ref a] H (fun v H' => ∃ b, v = .str b ∧ Q (.str b) H') E) := by
  intro pins s σ H xs us Q I r h
  obtain ⟨a, dx, fs, rfl, ha, q⟩ := h
  obtain ⟨u, rfl, ru⟩ := vals1 r
  cases ru
  obtain ⟨mA, J, _⟩ := ins_get I.hok ha
  obtain ⟨od, J, _⟩ := J.look
  have hu := hr.units
  refine PySem.W.kso_call (by show X.A.units + 1 + 1 < cLine; omega) I.kIn J hs hf (wpAny_mono (run_in2 F hr hb hx I q) (fun u s' z => ?_) fun _ _ z => z)
  obtain ⟨v, H', I', rv, b, rfl, q'⟩ := z
  obtain ⟨t, rfl⟩ := rv
  exact ⟨.str b, H', I', ⟨t, rfl⟩, q'⟩
end
end L2

set_option maxHeartbeats 2000000
namespace PA
open PySem L2
/-! ### 1. the text by places -/
def top (i : Nat) : Stmt := PySem.Challenge.pw_pairahead_k03_ratio_comparisons.main.body.getD i (.Pass ⟨0, 0, 0, 0⟩)
abbrev sIsInt : Stmt := top 2
abbrev sInit : Stmt := inClass (top 4) 0
abbrev sAdd : Stmt := inClass (top 4) 1
abbrev sRadd : Stmt := inClass (top 4) 2
abbrev sSub : Stmt := inClass (top 4) 3
abbrev sRsub : Stmt := inClass (top 4) 4
abbrev sMul : Stmt := inClass (top 4) 5
abbrev sRmul : Stmt := inClass (top 4) 6
abbrev sNeg : Stmt := inClass (top 4) 10
abbrev sAbs : Stmt := inClass (top 4) 11
abbrev sIsNum : Stmt := top 5
abbrev sTop : Stmt := top 6
abbrev sBot : Stmt := top 7
abbrev sGap : Stmt := top 8
/-! ### 2. the data -/
theorem tb_ : ¬ (("top" : Str) = "bottom") := by decide +kernel
def flds (t b : Int) : List (Str × V) := putF "bottom" (.int b) (putF "top" (.int t) [])
theorem flds_top (t b : Int) : (flds t b).lookup ("top" : Str) = some (.int t) := by
  unfold flds
  rw [lookup_putF, if_neg tb_, lookup_putF, if_pos rfl]
theorem flds_bot (t b : Int) : (flds t b).lookup ("bottom" : Str) = some (.int b) := by
  unfold flds
  rw [lookup_putF, if_pos rfl]
theorem flds_no (t b : Int) {m : Str} (h1 : ¬ m = "bottom") (h2 : ¬ m = "top") : (flds t b).lookup m = none := by
  unfold flds
  rw [lookup_putF, if_neg h1, lookup_putF, if_neg h2]
  all_goals rfl
/-- a Ratio T / B in lowest terms stands at p -/
structure RatAt (C : Addr) (H : Hp) (p : Addr) (T B : Int) : Prop where
  low : Low T B
  ob : ∃ dx, H p = some (.ins C dx (flds T B))
theorem RatAt.same {C : Addr} {H H' : Hp} {p : Addr} {T B : Int} (h : RatAt C H p T B) (s : Same H H') : RatAt C H' p T B := ⟨h.low, let ⟨dx, e⟩ := h.ob; ⟨dx, s _ _ e⟩⟩
/-- the number T / B: an int or a Ratio -/
def Num (C : Addr) (H : Hp) (v : V) (T B : Int) : Prop := (v = .int T ∧ B = 1) ∨ (∃ p, v = .ref p ∧ RatAt C H p T B)
theorem Num.low {C : Addr} {H : Hp} {v : V} {T B : Int} (h : Num C H v T B) : Low T B := by
  rcases h with ⟨_, rfl⟩ | ⟨_, _, r⟩
  · exact low_one _
  · exact r.low
theorem Num.same {C : Addr} {H H' : Hp} {v : V} {T B : Int} (h : Num C H v T B) (s : Same H H') : Num C H' v T B := by
  rcases h with h | ⟨p, e, r⟩
  · exact .inl h
  · exact .inr ⟨p, e, r.same s⟩
/-! ### 3. promises -/
def spIsInt : Sp := fun vs H Q _ => ∃ i, vs = [.int i] ∧ Q (.bl true) H
def spIsNum (C : Addr) : Sp := fun vs H Q _ => ∃ v T B, vs = [v] ∧ Num C H v T B ∧ Q (.bl true) H
def spTop (C : Addr) : Sp := fun vs H Q _ => ∃ v T B, vs = [v] ∧ Num C H v T B ∧ Q (.int T) H
def spBot (C : Addr) : Sp := fun vs H Q _ => ∃ v T B, vs = [v] ∧ Num C H v T B ∧ Q (.int B) H
def spGap (C : Addr) : Sp := fun vs H Q _ => ∃ p v T B T' B', vs = [.ref p, v] ∧ RatAt C H p T B ∧ Num C H v T' B' ∧ Sm 2000 T ∧ Sm 2000 B ∧ Sm 2000 T' ∧ Sm 2000 B' ∧ Q (.int (T * B' - T' * B)) H
/-- Ratio.__init__ with a denominator that is not 0 -/
def spInit (C : Addr) : Sp := fun vs H Q _ => ∃ p dx t b, vs = [.ref p, .int t, .int b] ∧ b ≠ 0 ∧ Sm 9000 b ∧ H p = some (.ins C dx []) ∧
  ∀ T B H', Low T B → T * b = t * B → T.natAbs ≤ t.natAbs → B.natAbs ≤ b.natAbs → H' p = some (.ins C dx (flds T B)) → (∀ c o, H c = some o → c ≠ p → H' c = some o) → Q .non H'
/-- what the top has left -/
structure Txt (K : PySem.W.Frag) (mg : Str → Option Value) (C : Addr) : Prop where
  cl : Cls K C
  nT : NoAttr K C "top"
  nB : NoAttr K C "bottom"
  mgC : mg "Ratio" = some (.ref C)
  isi : mg "isinstance" = none
  int_ : mg "int" = none
  bool_ : mg "bool" = none
  abs_ : mg "abs" = none
  list_ : mg "list" = none
  all_ : mg "all" = none
  zip_ : mg "zip" = none
  len_ : mg "len" = none
  tup_ : mg "tuple" = none
  str_ : mg "str" = none
  zde : mg "ZeroDivisionError" = none
  gcd : mg "gcd" = some (.builtin "math.gcd")
  q1 : PySem.W.findIn K (.ref C) "__class__" = some (some (.builtin "object.__class__"))
  q2 : PySem.W.specialIn K (.builtin "object.__class__") "__get__" = some (some (.builtin "getset_descriptor.__get__"))
  q3 : PySem.W.takesIn K (.builtin "object.__class__") = some true
  q4 : PySem.W.mroIn K C (.type "object") = some true
  kC : PySem.W.kitOne K (.ref C) (.ref C) = some true
  kI : PySem.W.kitOne K (.type "int") (.ref C) = some false
theorem boot_isi : bootBuiltins "isinstance" = some (.builtin "isinstance") := by decide +kernel
theorem boot_int' : bootBuiltins "int" = some (.type "int") := by decide +kernel
theorem boot_bool' : bootBuiltins "bool" = some (.type "bool") := by decide +kernel
/-- a def of the module -/
structure Df (K : PySem.W.Frag) (mg : Str → Option Value) (x : Str) (st : Stmt) (f : Addr) (fd : FuncData) (ps : List Str) : Prop where
  F : Fun K x x st f fd
  B : Binds K fd ps []
  M : mg x = some (.ref f)
section
variable {P : Program} {w : World} {K : PySem.W.Frag} {mg : Str → Option Value} {base : Heap} {C : Addr}
theorem Txt.ty (T : Txt K mg C) {H : Hp} {p : Addr} {t b : Int} (r : RatAt C H p t b) : TyX K H (.ref p) (.ref C) := by
  obtain ⟨dx, e⟩ := r.ob
  exact .base (.ins e T.cl T.q1 T.q2 T.q3 T.q4)
theorem scIsInt : FnScope ["value"] ["value"] (defScope sIsInt) := ⟨rfl, rfl, rfl, by decide +kernel, rfl, by decide +kernel, by decide +kernel⟩
theorem ok_isInt {f : Addr} {fd : FuncData} (F : Fun K "is_integer" "is_integer" sIsInt f fd) (T : Txt K mg C) : FnOk P w K mg base CX0 1 f fd ["value"] spIsInt := by
  refine F.ok scIsInt (fun vs H Q E h => ?_) (fun cdv A outer s H vs Q E hr h => ?_)
  · obtain ⟨i, rfl, _⟩ := h
    rfl
  · obtain ⟨i, rfl, k⟩ := h
    refine ⟨_, pss_one (ps_ret (pe_and (pe_callB call_isi (by rfl) T.isi boot_isi (pa_cons (pv 0) (pa_cons (pe_bltn (v := .ty "int") (by rfl) T.int_ boot_int' rfl) pa_nil)))
      (pe_one (pe_not (pe_callB call_isi (by rfl) T.isi boot_isi (pa_cons (pv 0) (pa_cons (pe_bltn (v := .ty "bool") (by rfl) T.bool_ boot_bool' rfl) pa_nil))))))), ?_⟩
    refine ⟨_, rfl, _, _, _, _, _, rfl, .ty _, .base (.int i), kit_ty (b := "int") (r := true) (by decide +kernel), _, rfl, iteT ?_⟩
    exact ⟨_, rfl, _, _, _, _, _, rfl, .ty _, .base (.int i), kit_ty (b := "bool") (r := false) (by decide +kernel), _, rfl, k⟩
theorem scIsNum : FnScope ["value"] ["value"] (defScope sIsNum) := ⟨rfl, rfl, rfl, by decide +kernel, rfl, by decide +kernel, by decide +kernel⟩
theorem ok_isNum {f f1 : Addr} {fd fd1 : FuncData} (F : Fun K "_is_number" "_is_number" sIsNum f fd) (T : Txt K mg C) (D1 : Df K mg "is_integer" sIsInt f1 fd1 ["value"]) : FnOk P w K mg base CX0 2 f fd ["value"] (spIsNum C) := by
  have G1 : FnOk P w K mg base CX0 1 f1 fd1 ["value"] spIsInt := ok_isInt D1.F T
  refine F.ok scIsNum (fun vs H Q E h => ?_) (fun cdv A outer s H vs Q E hr h => ?_)
  · obtain ⟨v, _, _, rfl, _⟩ := h
    rfl
  · obtain ⟨v, t, b, rfl, n, k⟩ := h
    refine ⟨_, pss_one (ps_ret (pe_or (pe_callB call_isi (by rfl) T.isi boot_isi (pa_cons (pv 0) (pa_cons (pe_glob (v := .ref C) rfl T.mgC rfl) pa_nil)))
      (pe_one (pe_call G1 hr rfl D1.M D1.F.kp D1.B .nil pass0 (pa_cons (pv 0) pa_nil))))), ?_⟩
    rcases n with ⟨rfl, rfl⟩ | ⟨p, rfl, r⟩
    · exact ⟨_, rfl, _, _, _, _, _, rfl, .own C, .base (.int t), T.kI, _, rfl, iteF ⟨_, rfl, t, rfl, k⟩⟩
    · exact ⟨_, rfl, _, _, _, _, _, rfl, .own C, T.ty r, T.kC, _, rfl, iteT k⟩
theorem scTop : FnScope ["value"] ["value"] (defScope sTop) := ⟨rfl, rfl, rfl, by decide +kernel, rfl, by decide +kernel, by decide +kernel⟩
theorem ok_top {f : Addr} {fd : FuncData} (F : Fun K "_top" "_top" sTop f fd) (T : Txt K mg C) : FnOk P w K mg base CX0 1 f fd ["value"] (spTop C) := by
  refine F.ok scTop (fun vs H Q E h => ?_) (fun cdv A outer s H vs Q E hr h => ?_)
  · obtain ⟨v, _, _, rfl, _⟩ := h
    rfl
  · obtain ⟨v, t, b, rfl, n, k⟩ := h
    refine ⟨_, pss_one (ps_ret (pe_ifExp (pt_val (pe_callB call_isi (by rfl) T.isi boot_isi (pa_cons (pv 0) (pa_cons (pe_glob (v := .ref C) rfl T.mgC rfl) pa_nil)))) (pe_fld (pv 0) rfl) (pv 0))), ?_⟩
    rcases n with ⟨rfl, rfl⟩ | ⟨p, rfl, r⟩
    · exact ⟨_, rfl, _, _, _, _, _, rfl, .own C, .base (.int t), T.kI, _, rfl, iteF ⟨_, rfl, k⟩⟩
    · obtain ⟨dx, e⟩ := r.ob
      exact ⟨_, rfl, _, _, _, _, _, rfl, .own C, T.ty r, T.kC, _, rfl, iteT ⟨_, rfl, p, C, dx, _, _, rfl, e, T.cl, T.nT, flds_top _ _, k⟩⟩
theorem scBot : FnScope ["value"] ["value"] (defScope sBot) := ⟨rfl, rfl, rfl, by decide +kernel, rfl, by decide +kernel, by decide +kernel⟩
theorem ok_bot {f : Addr} {fd : FuncData} (F : Fun K "_bottom" "_bottom" sBot f fd) (T : Txt K mg C) : FnOk P w K mg base CX0 1 f fd ["value"] (spBot C) := by
  refine F.ok scBot (fun vs H Q E h => ?_) (fun cdv A outer s H vs Q E hr h => ?_)
  · obtain ⟨v, _, _, rfl, _⟩ := h
    rfl
  · obtain ⟨v, t, b, rfl, n, k⟩ := h
    refine ⟨_, pss_one (ps_ret (pe_ifExp (pt_val (pe_callB call_isi (by rfl) T.isi boot_isi (pa_cons (pv 0) (pa_cons (pe_glob (v := .ref C) rfl T.mgC rfl) pa_nil)))) (pe_fld (pv 0) rfl) pe_int)), ?_⟩
    rcases n with ⟨rfl, rfl⟩ | ⟨p, rfl, r⟩
    · exact ⟨_, rfl, _, _, _, _, _, rfl, .own C, .base (.int t), T.kI, _, rfl, iteF k⟩
    · obtain ⟨dx, e⟩ := r.ob
      exact ⟨_, rfl, _, _, _, _, _, rfl, .own C, T.ty r, T.kC, _, rfl, iteT ⟨_, rfl, p, C, dx, _, _, rfl, e, T.cl, T.nB, flds_bot _ _, k⟩⟩
theorem mulw {n m : Nat} {x y : Int} (hx : Sm n x) (hy : Sm m y) (hn : 0 < n) (hm : 0 < m) (h : n + m ≤ 1000000) : CMulW x y := wide_mul hx hy hn hm h
theorem scGap : FnScope ["first", "second"] ["first", "second"] (defScope sGap) := ⟨rfl, rfl, rfl, by decide +kernel, rfl, by decide +kernel, by decide +kernel⟩
theorem ok_gap {f f1 f2 : Addr} {fd fd1 fd2 : FuncData} (F : Fun K "_gap" "_gap" sGap f fd) (T : Txt K mg C) (D1 : Df K mg "_top" sTop f1 fd1 ["value"]) (D2 : Df K mg "_bottom" sBot f2 fd2 ["value"]) : FnOk P w K mg base CX0 2 f fd ["first", "second"] (spGap C) := by
  have G1 : FnOk P w K mg base CX0 1 f1 fd1 ["value"] (spTop C) := ok_top D1.F T
  have G2 : FnOk P w K mg base CX0 1 f2 fd2 ["value"] (spBot C) := ok_bot D2.F T
  refine F.ok scGap (fun vs H Q E h => ?_) (fun cdv A outer s H vs Q E hr h => ?_)
  · obtain ⟨p, v, _, _, _, _, rfl, _⟩ := h
    rfl
  · obtain ⟨p, v, t, b, t', b', rfl, r, n, s1, s2, s3, s4, k⟩ := h
    obtain ⟨dx, e⟩ := r.ob
    refine ⟨_, pss_one (ps_ret (pe_op op_sub (pe_op op_mulW (pe_fld (pv 0) rfl) (pe_call G2 hr rfl D2.M D2.F.kp D2.B .nil pass0 (pa_cons (pv 1) pa_nil)))
      (pe_op op_mulW (pe_call G1 hr rfl D1.M D1.F.kp D1.B .nil pass0 (pa_cons (pv 1) pa_nil)) (pe_fld (pv 0) rfl)))), ?_⟩
    refine ⟨_, rfl, p, C, dx, _, _, rfl, e, T.cl, T.nT, flds_top _ _, _, rfl, v, t', b', rfl, n, _, _, rfl, rfl, mulw s1 s4 (by decide) (by decide) (by decide), ?_⟩
    refine ⟨_, rfl, v, t', b', rfl, n, _, rfl, p, C, dx, _, _, rfl, e, T.cl, T.nB, flds_bot _ _, _, _, rfl, rfl, mulw s3 s2 (by decide) (by decide) (by decide), ?_⟩
    exact ⟨_, _, rfl, rfl, k⟩
theorem ifD_no {p A B : Prop} [Decidable p] (h : ¬ p) (q : B) : if decide p = true then A else B := by
  rw [decide_eq_false h]
  exact iteF q
theorem ifD_yes {p A B : Prop} [Decidable p] (h : p) (q : A) : if decide p = true then A else B := by
  rw [decide_eq_true h]
  exact iteT q
theorem ifD_2 {p A B : Prop} [Decidable p] (h1 : p → A) (h2 : ¬ p → B) : if decide p = true then A else B := by
  by_cases h : p
  · exact ifD_yes h (h1 h)
  · exact ifD_no h (h2 h)
/-! ### Ratio.__init__ -/
abbrev FunI (K : PySem.W.Frag) (f : Addr) (fd : FuncData) : Prop := FunD K "__init__" "Ratio.__init__" (defArgs sInit) (defBody sInit) (defScope sInit) [V.int 1] [] f fd
theorem scInit : FnScope ["self", "top", "bottom", "shared"] ["self", "top", "bottom"] (defScope sInit) := ⟨rfl, rfl, rfl, by decide +kernel, rfl, by decide +kernel, by decide +kernel⟩
theorem ok_init {f : Addr} {fd : FuncData} (F : FunI K f fd) (T : Txt K mg C) : FnOk P w K mg base CX0 1 f fd ["self", "top", "bottom"] (spInit C) := by
  refine F.ok scInit (fun vs H Q E h => ?_) (fun cdv A outer s H vs Q E hr h => ?_)
  · obtain ⟨p, dx, t, b, rfl, _⟩ := h
    rfl
  · obtain ⟨p, dx, t, b, rfl, hb, hs, hp, k⟩ := h
    obtain ⟨m1, m2, m3, m4, m5, m6⟩ := rat_mk (t := t) hb
    have hdiv : CDivS t (shr t b) := ⟨m1, Nat.lt_of_lt_of_le (PySem.Flt.log2_lt_of (by decide) (hs.le m2)) (Nat.le_refl _)⟩
    have hdiv2 : CDivS b (shr t b) := hdiv
    refine ⟨_, pss_cons (ps_if (pt_cmpR op_eq (pv 2) pe_int (nomark _)) pss_never pss_nil)
      (pss_cons (ps_set (i := 3) scInit.nd rfl (Or.inl rfl) (pe_callBfun cr_gcd (by rfl) T.gcd (pa_cons (pv 1) (pa_cons (pv 2) pa_nil))))
      (pss_cons (ps_if (pt_cmpR op_lt (pv 2) pe_int (nomark _)) (pss_one (ps_set (i := 3) scInit.nd rfl (Or.inl rfl) (pe_un un_neg (pv 3)))) pss_nil)
      (pss_cons (ps_fld (pv 0) (pe_op op_fdivS (pv 1) (pv 3)) rfl)
      (pss_one (ps_fld (pv 0) (pe_op op_fdivS (pv 2) (pv 3)) rfl))))), ?_⟩
    refine ⟨_, rfl, rfl, _, rfl, ifD_no (fun z => hb (by injection z)) ?_⟩
    refine ⟨_, rfl, _, rfl, t, b, rfl, ?_⟩
    refine ⟨_, rfl, b, 0, rfl, rfl, _, rfl, ifD_2 (fun hneg => ?_) (fun hneg => ?_)⟩
    · have e1 : shr t b = -((Nat.gcd t.natAbs b.natAbs : Nat) : Int) := by
        unfold shr
        rw [if_pos hneg]
      rw [e1] at hdiv hdiv2 m3 m4 m5 m6
      refine ⟨_, rfl, _, rfl, ?_⟩
      refine ⟨_, rfl, _, rfl, _, _, rfl, rfl, hdiv, _, rfl, p, C, dx, _, rfl, hp, T.cl, T.nT, (by show 0 < 1000; decide), ?_⟩
      refine ⟨_, rfl, _, rfl, _, _, rfl, rfl, hdiv2, _, rfl, p, C, dx, _, rfl, upd_same, T.cl, T.nB, (by show 1 < 1000; decide), ?_⟩
      exact k _ _ _ m3 m4 m5 m6 upd_same fun c o e hc => by rw [upd_ne hc, upd_ne hc]; exact e
    · have e1 : shr t b = ((Nat.gcd t.natAbs b.natAbs : Nat) : Int) := by
        unfold shr
        rw [if_neg hneg]
      rw [e1] at hdiv hdiv2 m3 m4 m5 m6
      refine ⟨_, rfl, _, rfl, _, _, rfl, rfl, hdiv, _, rfl, p, C, dx, _, rfl, hp, T.cl, T.nT, (by show 0 < 1000; decide), ?_⟩
      refine ⟨_, rfl, _, rfl, _, _, rfl, rfl, hdiv2, _, rfl, p, C, dx, _, rfl, upd_same, T.cl, T.nB, (by show 1 < 1000; decide), ?_⟩
      exact k _ _ _ m3 m4 m5 m6 upd_same fun c o e hc => by rw [upd_ne hc, upd_ne hc]; exact e
end
end PA

set_option maxHeartbeats 2000000
namespace PA
open PySem L2
/-- a new Ratio of value n / d -/
def News (C : Addr) (H : Hp) (Q : VK) (n d : Int) : Prop := ∀ x H' T B, H x = none → Same H H' → RatAt C H' x T B → T * d = n * B → T.natAbs ≤ n.natAbs → B.natAbs ≤ d.natAbs → Q (.ref x) H'
/-- self op other, a new Ratio of value num / (B * B') -/
def spBin (num : Int → Int → Int → Int → Int) (C : Addr) : Sp := fun vs H Q _ => ∃ p v T B T' B', vs = [.ref p, v] ∧ RatAt C H p T B ∧ Num C H v T' B' ∧ Sm 2000 T ∧ Sm 2000 B ∧ Sm 2000 T' ∧ Sm 2000 B' ∧ News C H Q (num T B T' B') (B * B')
def nAdd (T B T' B' : Int) : Int := T * B' + T' * B
def nSub (T B T' B' : Int) : Int := T * B' - T' * B
def nRsub (T B T' B' : Int) : Int := T' * B - T * B'
def nMul (T _ T' _ : Int) : Int := T * T'
def spNeg (C : Addr) : Sp := fun vs H Q _ => ∃ p T B, vs = [.ref p] ∧ RatAt C H p T B ∧ Sm 4000 B ∧ News C H Q (-T) B
def spAbs (C : Addr) : Sp := fun vs H Q _ => ∃ p T B, vs = [.ref p] ∧ RatAt C H p T B ∧ Sm 4000 B ∧ News C H Q (if T < 0 then -T else T) B
theorem mk_rat {C : Addr} {H : Hp} {Q : VK} {E : XK} {t b : Int} (hb : b ≠ 0) (hs : Sm 9000 b) (k : News C H Q t b) :
    ∀ x dx, H x = none → H dx = none → dx ≠ x → spInit C (V.ref x :: ([V.int t, V.int b] ++ [])) (upd (upd H dx (.own x)) x (.ins C dx [])) (fun v H2 => v = .non ∧ Q (.ref x) H2) E := by
  intro x dx nx ndx nex
  refine ⟨x, dx, t, b, rfl, hb, hs, upd_same, fun T B H' l e1 e2 e3 ho kp => ⟨rfl, k x H' T B nx (fun c o e => ?_) ⟨l, dx, ho⟩ e1 e2 e3⟩⟩
  exact kp c o (by rw [upd_ne (ne_of_none e nx), upd_ne (ne_of_none e ndx)]; exact e) (ne_of_none e nx)
theorem Low.ne {T B : Int} (h : Low T B) : B ≠ 0 := fun z => by have := h.pos; omega
section
variable {P : Program} {w : World} {K : PySem.W.Frag} {mg : Str → Option Value} {base : Heap} {C : Addr}
/-- the module's small defs and the class's maker -/
structure Lib (K : PySem.W.Frag) (mg : Str → Option Value) (C fi f1 f2 f3 f4 f5 : Addr) (di d1 d2 d3 d4 d5 : FuncData) : Prop where
  T : Txt K mg C
  I : FunI K fi di
  M : Mk K C fi
  b2 : Binds K di ["self", "top", "bottom"] []
  isInt : Df K mg "is_integer" sIsInt f1 d1 ["value"]
  isNum : Df K mg "_is_number" sIsNum f2 d2 ["value"]
  top_ : Df K mg "_top" sTop f3 d3 ["value"]
  bot_ : Df K mg "_bottom" sBot f4 d4 ["value"]
  gap_ : Df K mg "_gap" sGap f5 d5 ["first", "second"]
variable {fi f1 f2 f3 f4 f5 : Addr} {di d1 d2 d3 d4 d5 : FuncData}
theorem scAdd : FnScope ["self", "other", "top"] ["self", "other"] (defScope sAdd) := ⟨rfl, rfl, rfl, by decide +kernel, rfl, by decide +kernel, by decide +kernel⟩
theorem ok_add {f : Addr} {fd : FuncData} (F : Fun K "__add__" "Ratio.__add__" sAdd f fd) (L : Lib K mg C fi f1 f2 f3 f4 f5 di d1 d2 d3 d4 d5) : FnOk P w K mg base CX0 3 f fd ["self", "other"] (spBin nAdd C) := by
  have GI : FnOk P w K mg base CX0 1 fi di ["self", "top", "bottom"] (spInit C) := ok_init L.I L.T
  have G2 : FnOk P w K mg base CX0 2 f2 d2 ["value"] (spIsNum C) := ok_isNum L.isNum.F L.T L.isInt
  have G3 : FnOk P w K mg base CX0 1 f3 d3 ["value"] (spTop C) := ok_top L.top_.F L.T
  have G4 : FnOk P w K mg base CX0 1 f4 d4 ["value"] (spBot C) := ok_bot L.bot_.F L.T
  have T := L.T
  refine F.ok scAdd (fun vs H Q E h => ?_) (fun cdv A outer s H vs Q E hr h => ?_)
  · obtain ⟨p, v, _, _, _, _, rfl, _⟩ := h
    rfl
  · obtain ⟨p, v, t, b, t', b', rfl, r, n, s1, s2, s3, s4, k⟩ := h
    obtain ⟨dx, e⟩ := r.ob
    have hr1 : Room 1 _ := hr.mono (by decide)
    refine ⟨_, pss_cons (ps_if (pt_not (pt_val (pe_call G2 hr rfl L.isNum.M L.isNum.F.kp L.isNum.B .nil pass0 (pa_cons (pv 1) pa_nil)))) pss_never pss_nil)
      (pss_cons (ps_set (i := 2) scAdd.nd rfl (Or.inl rfl) (pe_op op_add (pe_op op_mulW (pe_fld (pv 0) rfl) (pe_call G4 hr1 rfl L.bot_.M L.bot_.F.kp L.bot_.B .nil pass0 (pa_cons (pv 1) pa_nil)))
        (pe_op op_mulW (pe_call G3 hr1 rfl L.top_.M L.top_.F.kp L.top_.B .nil pass0 (pa_cons (pv 1) pa_nil)) (pe_fld (pv 0) rfl))))
      (pss_one (ps_ret (pe_make L.M GI hr rfl T.mgC L.b2 .nil pass0 (pa_cons (pv 2) (pa_cons (pe_op op_mulW (pe_fld (pv 0) rfl) (pe_call G4 hr1 rfl L.bot_.M L.bot_.F.kp L.bot_.B .nil pass0 (pa_cons (pv 1) pa_nil))) pa_nil)))))), ?_⟩
    refine ⟨_, rfl, v, t', b', rfl, n, _, rfl, iteF ?_⟩
    refine ⟨_, rfl, p, C, dx, _, _, rfl, e, T.cl, T.nT, flds_top _ _, _, rfl, v, t', b', rfl, n, _, _, rfl, rfl, mulw s1 s4 (by decide) (by decide) (by decide), ?_⟩
    refine ⟨_, rfl, v, t', b', rfl, n, _, rfl, p, C, dx, _, _, rfl, e, T.cl, T.nB, flds_bot _ _, _, _, rfl, rfl, mulw s3 s2 (by decide) (by decide) (by decide), ?_⟩
    refine ⟨_, _, rfl, rfl, ?_⟩
    refine ⟨_, rfl, _, rfl, p, C, dx, _, _, rfl, e, T.cl, T.nB, flds_bot _ _, _, rfl, v, t', b', rfl, n, _, _, rfl, rfl, mulw s2 s4 (by decide) (by decide) (by decide), ?_⟩
    exact mk_rat (Int.mul_ne_zero r.low.ne n.low.ne) (s2.mul s4 (by decide)) k
theorem scSub : FnScope ["self", "other"] ["self", "other"] (defScope sSub) := ⟨rfl, rfl, rfl, by decide +kernel, rfl, by decide +kernel, by decide +kernel⟩
theorem ok_sub {f : Addr} {fd : FuncData} (F : Fun K "__sub__" "Ratio.__sub__" sSub f fd) (L : Lib K mg C fi f1 f2 f3 f4 f5 di d1 d2 d3 d4 d5) : FnOk P w K mg base CX0 3 f fd ["self", "other"] (spBin nSub C) := by
  have GI : FnOk P w K mg base CX0 1 fi di ["self", "top", "bottom"] (spInit C) := ok_init L.I L.T
  have G2 : FnOk P w K mg base CX0 2 f2 d2 ["value"] (spIsNum C) := ok_isNum L.isNum.F L.T L.isInt
  have G4 : FnOk P w K mg base CX0 1 f4 d4 ["value"] (spBot C) := ok_bot L.bot_.F L.T
  have G5 : FnOk P w K mg base CX0 2 f5 d5 ["first", "second"] (spGap C) := ok_gap L.gap_.F L.T L.top_ L.bot_
  have T := L.T
  refine F.ok scSub (fun vs H Q E h => ?_) (fun cdv A outer s H vs Q E hr h => ?_)
  · obtain ⟨p, v, _, _, _, _, rfl, _⟩ := h
    rfl
  · obtain ⟨p, v, t, b, t', b', rfl, r, n, s1, s2, s3, s4, k⟩ := h
    obtain ⟨dx, e⟩ := r.ob
    have hr1 : Room 1 _ := hr.mono (by decide)
    refine ⟨_, pss_cons (ps_if (pt_not (pt_val (pe_call G2 hr rfl L.isNum.M L.isNum.F.kp L.isNum.B .nil pass0 (pa_cons (pv 1) pa_nil)))) pss_never pss_nil)
      (pss_one (ps_ret (pe_make L.M GI hr rfl T.mgC L.b2 .nil pass0 (pa_cons (pe_call G5 hr rfl L.gap_.M L.gap_.F.kp L.gap_.B .nil pass0 (pa_cons (pv 0) (pa_cons (pv 1) pa_nil)))
        (pa_cons (pe_op op_mulW (pe_fld (pv 0) rfl) (pe_call G4 hr1 rfl L.bot_.M L.bot_.F.kp L.bot_.B .nil pass0 (pa_cons (pv 1) pa_nil))) pa_nil))))), ?_⟩
    refine ⟨_, rfl, v, t', b', rfl, n, _, rfl, iteF ?_⟩
    refine ⟨_, rfl, _, rfl, p, v, t, b, t', b', rfl, r, n, s1.mono (by decide), s2.mono (by decide), s3.mono (by decide), s4.mono (by decide), ?_⟩
    refine ⟨_, rfl, p, C, dx, _, _, rfl, e, T.cl, T.nB, flds_bot _ _, _, rfl, v, t', b', rfl, n, _, _, rfl, rfl, mulw s2 s4 (by decide) (by decide) (by decide), ?_⟩
    exact mk_rat (Int.mul_ne_zero r.low.ne n.low.ne) (s2.mul s4 (by decide)) k
theorem scMul : FnScope ["self", "other"] ["self", "other"] (defScope sMul) := ⟨rfl, rfl, rfl, by decide +kernel, rfl, by decide +kernel, by decide +kernel⟩
theorem ok_mul {f : Addr} {fd : FuncData} (F : Fun K "__mul__" "Ratio.__mul__" sMul f fd) (L : Lib K mg C fi f1 f2 f3 f4 f5 di d1 d2 d3 d4 d5) : FnOk P w K mg base CX0 3 f fd ["self", "other"] (spBin nMul C) := by
  have GI : FnOk P w K mg base CX0 1 fi di ["self", "top", "bottom"] (spInit C) := ok_init L.I L.T
  have G2 : FnOk P w K mg base CX0 2 f2 d2 ["value"] (spIsNum C) := ok_isNum L.isNum.F L.T L.isInt
  have G3 : FnOk P w K mg base CX0 1 f3 d3 ["value"] (spTop C) := ok_top L.top_.F L.T
  have G4 : FnOk P w K mg base CX0 1 f4 d4 ["value"] (spBot C) := ok_bot L.bot_.F L.T
  have T := L.T
  refine F.ok scMul (fun vs H Q E h => ?_) (fun cdv A outer s H vs Q E hr h => ?_)
  · obtain ⟨p, v, _, _, _, _, rfl, _⟩ := h
    rfl
  · obtain ⟨p, v, t, b, t', b', rfl, r, n, s1, s2, s3, s4, k⟩ := h
    obtain ⟨dx, e⟩ := r.ob
    have hr1 : Room 1 _ := hr.mono (by decide)
    refine ⟨_, pss_cons (ps_if (pt_not (pt_val (pe_call G2 hr rfl L.isNum.M L.isNum.F.kp L.isNum.B .nil pass0 (pa_cons (pv 1) pa_nil)))) pss_never pss_nil)
      (pss_one (ps_ret (pe_make L.M GI hr rfl T.mgC L.b2 .nil pass0 (pa_cons (pe_op op_mulW (pe_fld (pv 0) rfl) (pe_call G3 hr1 rfl L.top_.M L.top_.F.kp L.top_.B .nil pass0 (pa_cons (pv 1) pa_nil)))
        (pa_cons (pe_op op_mulW (pe_fld (pv 0) rfl) (pe_call G4 hr1 rfl L.bot_.M L.bot_.F.kp L.bot_.B .nil pass0 (pa_cons (pv 1) pa_nil))) pa_nil))))), ?_⟩
    refine ⟨_, rfl, v, t', b', rfl, n, _, rfl, iteF ?_⟩
    refine ⟨_, rfl, p, C, dx, _, _, rfl, e, T.cl, T.nT, flds_top _ _, _, rfl, v, t', b', rfl, n, _, _, rfl, rfl, mulw s1 s3 (by decide) (by decide) (by decide), ?_⟩
    refine ⟨_, rfl, p, C, dx, _, _, rfl, e, T.cl, T.nB, flds_bot _ _, _, rfl, v, t', b', rfl, n, _, _, rfl, rfl, mulw s2 s4 (by decide) (by decide) (by decide), ?_⟩
    exact mk_rat (Int.mul_ne_zero r.low.ne n.low.ne) (s2.mul s4 (by decide)) k
theorem scNeg : FnScope ["self"] ["self"] (defScope sNeg) := ⟨rfl, rfl, rfl, by decide +kernel, rfl, by decide +kernel, by decide +kernel⟩
theorem ok_neg {f : Addr} {fd : FuncData} (F : Fun K "__neg__" "Ratio.__neg__" sNeg f fd) (L : Lib K mg C fi f1 f2 f3 f4 f5 di d1 d2 d3 d4 d5) : FnOk P w K mg base CX0 3 f fd ["self"] (spNeg C) := by
  have GI : FnOk P w K mg base CX0 1 fi di ["self", "top", "bottom"] (spInit C) := ok_init L.I L.T
  have T := L.T
  refine F.ok scNeg (fun vs H Q E h => ?_) (fun cdv A outer s H vs Q E hr h => ?_)
  · obtain ⟨p, _, _, rfl, _⟩ := h
    rfl
  · obtain ⟨p, t, b, rfl, r, s2, k⟩ := h
    obtain ⟨dx, e⟩ := r.ob
    refine ⟨_, pss_one (ps_ret (pe_make L.M GI hr rfl T.mgC L.b2 .nil pass0 (pa_cons (pe_un un_neg (pe_fld (pv 0) rfl)) (pa_cons (pe_fld (pv 0) rfl) pa_nil)))), ?_⟩
    refine ⟨_, rfl, p, C, dx, _, _, rfl, e, T.cl, T.nT, flds_top _ _, _, rfl, _, rfl, p, C, dx, _, _, rfl, e, T.cl, T.nB, flds_bot _ _, ?_⟩
    exact mk_rat r.low.ne (s2.mono (by decide)) k
theorem scAbs : FnScope ["self"] ["self"] (defScope sAbs) := ⟨rfl, rfl, rfl, by decide +kernel, rfl, by decide +kernel, by decide +kernel⟩
theorem ok_abs {f : Addr} {fd : FuncData} (F : Fun K "__abs__" "Ratio.__abs__" sAbs f fd) (L : Lib K mg C fi f1 f2 f3 f4 f5 di d1 d2 d3 d4 d5) : FnOk P w K mg base CX0 3 f fd ["self"] (spAbs C) := by
  have GI : FnOk P w K mg base CX0 1 fi di ["self", "top", "bottom"] (spInit C) := ok_init L.I L.T
  have T := L.T
  refine F.ok scAbs (fun vs H Q E h => ?_) (fun cdv A outer s H vs Q E hr h => ?_)
  · obtain ⟨p, _, _, rfl, _⟩ := h
    rfl
  · obtain ⟨p, t, b, rfl, r, s2, k⟩ := h
    obtain ⟨dx, e⟩ := r.ob
    refine ⟨_, pss_one (ps_ret (pe_make L.M GI hr rfl T.mgC L.b2 .nil pass0 (pa_cons (pe_callB call_abs (by rfl) T.abs_ (by decide +kernel) (pa_cons (pe_fld (pv 0) rfl) pa_nil)) (pa_cons (pe_fld (pv 0) rfl) pa_nil)))), ?_⟩
    refine ⟨_, rfl, p, C, dx, _, _, rfl, e, T.cl, T.nT, flds_top _ _, _, rfl, _, rfl, p, C, dx, _, _, rfl, e, T.cl, T.nB, flds_bot _ _, ?_⟩
    exact mk_rat r.low.ne (s2.mono (by decide)) k
/-- an own operator with what the ints' side asks -/
structure OpTxt (K : PySem.W.Frag) (C f g : Addr) (op : Operator) : Prop where
  O : OwnOp K C f g op
  h1 : ∃ fo, PySem.W.findIn K (.type "int") (PySem.dunder op.info.2) = some fo
  h2 : ∃ ro, PySem.W.findIn K (.type "int") (dunderR op.info.2) = some ro
/-- self op other in the reflected method's own body: other an int or a Ratio -/
def rOwn (C : Addr) (sp : Sp) : R2 := fun x y H Q => ∃ p T B T' B', x = .ref p ∧ RatAt C H p T B ∧ Num C H y T' B' ∧ sp [x, y] H Q E0
theorem op_own {X : Cx} {k : Nat} {f g : Addr} {fd : FuncData} {ps : List Str} {sp : Sp} {op : Operator} (O : OpTxt X.K C f g op) (F : FnOk X.prog X.w X.K X.mg X.base CX0 k f fd ps sp) (hr : Room k X.A) (hb : Binds X.K fd ps []) : OpR X (binaryOp op) (rOwn C sp) := by
  intro pins s σ H x y v u Q I rx ry h
  obtain ⟨p, t, b, t', b', rfl, ⟨_, dx, e⟩, n, q⟩ := h
  rcases n with ⟨rfl, rfl⟩ | ⟨p', rfl, ⟨_, dx', e'⟩⟩
  · obtain ⟨fo, h1⟩ := O.h1
    obtain ⟨ro, h2⟩ := O.h2
    exact op_ownI O.O h1 h2 F hr hb pass0 pins s σ H _ _ v u Q I rx ry ⟨p, t', dx, _, rfl, rfl, e, q⟩
  · exact op_ownR O.O F hr hb pass0 pins s σ H _ _ v u Q I rx ry ⟨p, p', dx, dx', _, _, rfl, rfl, e, e', q⟩
theorem scRadd : FnScope ["self", "other"] ["self", "other"] (defScope sRadd) := ⟨rfl, rfl, rfl, by decide +kernel, rfl, by decide +kernel, by decide +kernel⟩
theorem ok_radd {f g : Addr} {fd gd : FuncData} (F : Fun K "__radd__" "Ratio.__radd__" sRadd g gd) (O : OpTxt K C f g .Add) (G : FnOk P w K mg base CX0 3 f fd ["self", "other"] (spBin nAdd C)) (bG : Binds K fd ["self", "other"] []) :
    FnOk P w K mg base CX0 4 g gd ["self", "other"] (spBin nAdd C) := by
  refine F.ok scRadd (fun vs H Q E h => ?_) (fun cdv A outer s H vs Q E hr h => ?_)
  · obtain ⟨p, v, _, _, _, _, rfl, _⟩ := h
    rfl
  · obtain ⟨p, v, t, b, t', b', rfl, r, n, s1, s2, s3, s4, k⟩ := h
    refine ⟨_, pss_one (ps_ret (pe_op (op_own O G hr bG) (pv 0) (pv 1))), ?_⟩
    exact ⟨_, rfl, _, rfl, p, t, b, t', b', rfl, r, n, p, v, t, b, t', b', rfl, r, n, s1, s2, s3, s4, k⟩
theorem scRmul : FnScope ["self", "other"] ["self", "other"] (defScope sRmul) := ⟨rfl, rfl, rfl, by decide +kernel, rfl, by decide +kernel, by decide +kernel⟩
theorem ok_rmul {f g : Addr} {fd gd : FuncData} (F : Fun K "__rmul__" "Ratio.__rmul__" sRmul g gd) (O : OpTxt K C f g .Mult) (G : FnOk P w K mg base CX0 3 f fd ["self", "other"] (spBin nMul C)) (bG : Binds K fd ["self", "other"] []) :
    FnOk P w K mg base CX0 4 g gd ["self", "other"] (spBin nMul C) := by
  refine F.ok scRmul (fun vs H Q E h => ?_) (fun cdv A outer s H vs Q E hr h => ?_)
  · obtain ⟨p, v, _, _, _, _, rfl, _⟩ := h
    rfl
  · obtain ⟨p, v, t, b, t', b', rfl, r, n, s1, s2, s3, s4, k⟩ := h
    refine ⟨_, pss_one (ps_ret (pe_op (op_own O G hr bG) (pv 0) (pv 1))), ?_⟩
    exact ⟨_, rfl, _, rfl, p, t, b, t', b', rfl, r, n, p, v, t, b, t', b', rfl, r, n, s1, s2, s3, s4, k⟩
theorem scRsub : FnScope ["self", "other"] ["self", "other"] (defScope sRsub) := ⟨rfl, rfl, rfl, by decide +kernel, rfl, by decide +kernel, by decide +kernel⟩
theorem ok_rsub {f g fa fn h : Addr} {fd gd fnd hd : FuncData} (F : Fun K "__rsub__" "Ratio.__rsub__" sRsub h hd) (O : OpTxt K C f g .Add) (G : FnOk P w K mg base CX0 3 f fd ["self", "other"] (spBin nAdd C)) (bG : Binds K fd ["self", "other"] [])
    (mN : Meth K C "__neg__" fn) (GN : FnOk P w K mg base CX0 3 fn fnd ["self"] (spNeg C)) (bN : Binds K fnd ["self"] []) :
    FnOk P w K mg base CX0 4 h hd ["self", "other"] (spBin nRsub C) := by
  refine F.ok scRsub (fun vs H Q E h => ?_) (fun cdv A outer s H vs Q E hr h => ?_)
  · obtain ⟨p, v, _, _, _, _, rfl, _⟩ := h
    rfl
  · obtain ⟨p, v, t, b, t', b', rfl, r, n, s1, s2, s3, s4, k⟩ := h
    obtain ⟨dx, e⟩ := r.ob
    refine ⟨_, pss_one (ps_ret (pe_op (op_own O G hr bG) (pe_un (un_own mN.at_ mN.fn GN hr bN pass0) (pv 0)) (pv 1))), ?_⟩
    refine ⟨_, rfl, p, dx, _, rfl, e, p, t, b, rfl, r, s2.mono (by decide), fun x H1 T1 B1 nx sm r1 e1 l1 l2 => ?_⟩
    obtain ⟨rfl, rfl⟩ := r1.low.uniq r.low.neg e1
    have n1 := n.same sm
    refine ⟨_, rfl, x, _, _, t', b', rfl, r1, n1, x, v, _, _, t', b', rfl, r1, n1, s1.neg, s2, s3, s4, fun x2 H2 T2 B2 nx2 sm2 r2 e2 l3 l4 => ?_⟩
    have en : nAdd (-t) B1 t' b' = nRsub t B1 t' b' := by
      unfold nAdd nRsub
      rw [Int.neg_mul]
      omega
    rw [en] at e2 l3
    exact k x2 H2 T2 B2 (sm.free nx2) (sm.trans sm2) r2 e2 l3 l4
end
end PA

set_option maxHeartbeats 2000000
namespace PA
open PySem L2
open C8 (pss_cut tCut)
abbrev sDraw : Stmt := top 10
abbrev sStart : Stmt := top 11
abbrev sSame : Stmt := top 12
abbrev sNumber : Stmt := top 13
abbrev sDivisor : Stmt := top 14
abbrev sCompared : Stmt := top 15
abbrev sDue : Stmt := top 16
abbrev sText : Stmt := top 17
abbrev sLaw : Stmt := top 18
/-! ### data of ints -/
theorem ints_lay : ∀ ns : List Int, PyData.canLayAll0 (ns.map PyData.int) = true
  | [] => by simp [PyData.canLayAll0]
  | z :: zs => by simp [PyData.canLayAll0, PyData.canLay0, ints_lay zs]
theorem ints_depth : ∀ ns : List Int, PyData.depthAll (ns.map PyData.int) ≤ 2
  | [] => by simp [PyData.depthAll]
  | z :: zs => by
    have h1 := ints_depth zs
    simp only [List.map_cons, PyData.depthAll, PyData.depth]
    omega
theorem ints_shaped (ns : List Int) : SeqAt.shaped (.list (ns.map PyData.int)) = true := by
  have h1 := ints_depth ns
  have h2 : PyData.depth (.list (ns.map PyData.int)) ≤ 64 := by
    simp only [PyData.depth]
    omega
  show (PyData.canLay0 (.list (ns.map PyData.int)) && decide (PyData.depth (.list (ns.map PyData.int)) ≤ 64)) = true
  rw [Bool.and_eq_true]
  exact ⟨by simp only [PyData.canLay0]; exact ints_lay ns, decide_eq_true h2⟩
theorem dp_ints {K : PySem.W.Frag} {H : Hp} : ∀ ns : List Int, DpAll K H (ns.map V.int) (ns.map PyData.int)
  | [] => .nil
  | z :: zs => .cons (.int z) (dp_ints zs)
theorem ints_nil (ns : List Int) : PyData.eqv (.list (ns.map PyData.int)) (.list []) = ns.isEmpty := by
  cases ns with
  | nil => simp [PyData.eqv, PyData.eqvAll]
  | cons z zs => simp [PyData.eqv, PyData.eqvAll]
/-! ### the stream of draws: the list at a, the numbers left at l, n draws made -/
def StreamAt (H : Hp) (a l : Addr) (n : Nat) : Prop := a ≠ l ∧ ∃ (ns : List Int) (x z : Int), H a = some (.lst [.ref l, .int x, .int (n : Int), .int z]) ∧ H l = some (.lst (ns.map V.int)) ∧ ns.length ≤ 63 ∧ 0 ≤ x ∧ 0 ≤ z ∧ z < 2147483647
/-- all but the stream is kept -/
def Keep (a l : Addr) (H H' : Hp) : Prop := ∀ c o, c ≠ a → c ≠ l → H c = some o → H' c = some o
theorem Keep.refl (a l : Addr) (H : Hp) : Keep a l H H := fun _ _ _ _ h => h
theorem Keep.trans {a l : Addr} {H H1 H2 : Hp} (h : Keep a l H H1) (h' : Keep a l H1 H2) : Keep a l H H2 := fun c o x y e => h' c o x y (h c o x y e)
theorem Keep.of {a l : Addr} {H H' : Hp} (h : Same H H') : Keep a l H H' := fun c o _ _ e => h c o e
theorem StreamAt.same {H H' : Hp} {a l : Addr} {n : Nat} (h : StreamAt H a l n) (s : Same H H') : StreamAt H' a l n := by
  obtain ⟨ne, ns, x, z, h1, h2, h3⟩ := h
  exact ⟨ne, ns, x, z, s _ _ h1, s _ _ h2, h3⟩
theorem Same.new {H : Hp} {p : Addr} {o : HO} (hp : H p = none) : Same H (upd H p o) := fun b u e => by
  rw [upd_ne (ne_of_none e hp)]
  exact e
def spDraw : Sp := fun vs H Q _ => ∃ (a l : Addr) (n : Nat) (many : Int), vs = [.ref a, .int many] ∧ StreamAt H a l n ∧ n ≤ 100000 ∧ 0 < many ∧ Sm 9000 many ∧
  ∀ (r : Int) (H' : Hp), 0 ≤ r → r < many → StreamAt H' a l (n + 1) → Keep a l H H' → Q (.int r) H'
section
variable {P : Program} {w : World} {K : PySem.W.Frag} {mg : Str → Option Value} {base : Heap} {C : Addr}
theorem scDraw : FnScope ["_law_stream", "_law_many", "_law_digit", "_law_mixed"] ["_law_stream", "_law_many"] (defScope sDraw) := ⟨rfl, rfl, rfl, by decide +kernel, rfl, by decide +kernel, by decide +kernel⟩
theorem ok_draw {f : Addr} {fd : FuncData} (F : Fun K "_law_draw" "_law_draw" sDraw f fd) (T : Txt K mg C) : FnOk P w K mg base CX0 1 f fd ["_law_stream", "_law_many"] spDraw := by
  refine F.ok scDraw (fun vs H Q E h => ?_) (fun cdv A outer s H vs Q E hr h => ?_)
  · obtain ⟨a, l, n, many, rfl, _⟩ := h
    rfl
  · obtain ⟨a, l, n, many, rfl, ⟨ne, ns, x, z, h1, h2, hl, hx, hz0, hz1⟩, hn, hm, hms, k⟩ := h
    have hW : ∀ j : Int, CDivW j many := fun j => ⟨hm, Nat.lt_of_lt_of_le (PySem.Flt.log2_lt_of (by decide) hms) (Nat.le_refl _)⟩
    refine ⟨_, pss_cut (ps_asg (pe_op op_add (pe_ix ix_list (pv 0) pe_int (fun _ _ => rfl)) pe_int) (pg_sub (pv 0) pe_int set_list))
      (pss_cut (ps_if (PW.pt (pw_and (pt_cmpR op_eq (pe_ix ix_list (pv 0) pe_int (fun _ _ => rfl)) pe_int (nomark _)) (pw_and1 (pt_cmpR (op_neD hr.units) (pe_ix ix_list (pv 0) pe_int (fun _ _ => rfl)) (pe_lst pa_nil) (nomark _)))))
        (pss_cons (ps_asg (pe_bm PySem.F.plainAttrs_list PySem.F.slot_list_pop PySem.F.type_list_pop mt_popAt (pe_ix ix_list (pv 0) pe_int (fun _ _ => rfl)) (pa_cons pe_int pa_nil)) (pg_sub (pv 0) pe_int set_list))
          (pss_one (ps_if (pt_cmpR op_lt (pe_ix ix_list (pv 0) pe_int (fun _ _ => rfl)) (pe_op op_pow pe_int pe_int) (nomark _))
            (pss_cons (ps_asg (pe_op op_mod (pe_callTy call_int1 (by rfl) T.int_ boot_int' (pa_cons (pe_op op_add (pe_op op_add (pe_op op_mul (pe_ix ix_list (pv 0) pe_int (fun _ _ => rfl)) pe_int) (pe_ix ix_list (pv 0) pe_int (fun _ _ => rfl))) pe_int) pa_nil)) pe_int) (pg_sub (pv 0) pe_int set_list))
              (pss_one (ps_asg pe_int (pg_sub (pv 0) pe_int set_list)))) pss_nil))) pss_nil)
      (pss_cons (ps_if (pt_cmpR op_gt (pe_ix ix_list (pv 0) pe_int (fun _ _ => rfl)) pe_int (nomark _))
        (pss_cons (ps_set (i := 2) scDraw.nd rfl (Or.inl rfl) (pe_op op_mod (pe_callTy call_int1 (by rfl) T.int_ boot_int' (pa_cons (pe_ix ix_list (pv 0) pe_int (fun _ _ => rfl)) pa_nil)) (pv 1)))
          (pss_cons (ps_asg (pe_op op_fdivW (pe_ix ix_list (pv 0) pe_int (fun _ _ => rfl)) (pv 1)) (pg_sub (pv 0) pe_int set_list))
            (pss_one (ps_ret (pv 2))))) pss_nil)
      (pss_cons (ps_set (i := 3) scDraw.nd rfl (Or.inl rfl) (pe_op op_mod (pe_op op_pow (pe_op op_add (pe_op op_add (pe_ix ix_list (pv 0) pe_int (fun _ _ => rfl)) (pe_op op_mul pe_int (pe_ix ix_list (pv 0) pe_int (fun _ _ => rfl)))) pe_int) pe_int) pe_int))
      (pss_one (ps_ret (pe_op op_mod (pe_op op_mod (pe_op op_pow (pe_op op_add (pe_op op_add (pe_op op_mul (pv 3) pe_int) (pe_op op_mul (pe_op op_mul pe_int (pe_ix ix_list (pv 0) pe_int (fun _ _ => rfl))) (pe_ix ix_list (pv 0) pe_int (fun _ _ => rfl)))) pe_int) pe_int) pe_int) (pv 1))))))), ?_⟩
    refine ⟨fun σ' H' => σ' = [some (V.ref a), some (V.int many), none, none] ∧ H' = upd H a (.lst [.ref l, .int x, .int ((n : Int) + 1), .int z]), ?_, ?_⟩
    · exact ⟨_, rfl, a, _, 2, _, rfl, rfl, SqL.of h1, rfl, _, _, rfl, rfl, _, rfl, a, _, 2, 2, rfl, rfl, h1, rfl, rfl, rfl⟩
    rintro _ _ ⟨rfl, rfl⟩
    refine ⟨fun σ' H' => σ' = [some (V.ref a), some (V.int many), none, none] ∧ ∃ (ns' : List Int) (x' z' : Int), H' a = some (.lst [.ref l, .int x', .int ((n : Int) + 1), .int z']) ∧ H' l = some (.lst (ns'.map V.int)) ∧ ns'.length ≤ 63 ∧ 0 ≤ x' ∧ 0 ≤ z' ∧ z' < 2147483647 ∧ Keep a l H H', ?_, ?_⟩
    · have kp1 : Keep a l H (upd H a (.lst [.ref l, .int x, .int ((n : Int) + 1), .int z])) := fun c o ca _ e => by rw [upd_ne ca]; exact e
      have hl1 : (upd H a (.lst [.ref l, .int x, .int ((n : Int) + 1), .int z])) l = some (.lst (ns.map V.int)) := by rw [upd_ne ne.symm]; exact h2
      refine ⟨_, rfl, a, _, 1, _, rfl, rfl, SqL.of upd_same, rfl, rfl, _, rfl, ifD_2 (fun hx0 => ?_) (fun _ => iteF ?_)⟩
      · refine ⟨_, rfl, a, _, 0, _, rfl, rfl, SqL.of upd_same, rfl, Nat.zero_le _, fun p hp => ?_⟩
        have npa : a ≠ p := fun e => by rw [← e, upd_same] at hp; cases hp
        have npl : l ≠ p := ne_of_none hl1 hp
        have kp2 : Keep a l H (upd (upd H a (.lst [.ref l, .int x, .int ((n : Int) + 1), .int z])) p (.lst [])) := fun c o ca cl e => by
          rw [upd_ne (ne_of_none (kp1 c o ca cl e) hp)]; exact kp1 c o ca cl e
        refine ⟨.list (ns.map PyData.int), .list [], .lst (SqL.of (by rw [upd_ne npl]; exact hl1)) (dp_ints ns), .lst (SqL.of upd_same) .nil, ints_shaped ns, ints_shaped [], _, rfl, ?_⟩
        rw [ints_nil]
        cases ns with
        | nil => exact iteF ⟨rfl, [], x, z, by rw [upd_ne npa, upd_same], by rw [upd_ne npl]; exact hl1, Nat.zero_le _, hx, hz0, hz1, kp2⟩
        | cons y ys =>
          refine iteT ?_
          have ga : (upd (upd H a (.lst [.ref l, .int x, .int ((n : Int) + 1), .int z])) p (.lst [])) a = some (.lst [.ref l, .int x, .int ((n : Int) + 1), .int z]) := by rw [upd_ne npa, upd_same]
          have gl : (upd (upd H a (.lst [.ref l, .int x, .int ((n : Int) + 1), .int z])) p (.lst [])) l = some (.lst ((y :: ys).map V.int)) := by rw [upd_ne npl]; exact hl1
          generalize (upd (upd H a (.lst [.ref l, .int x, .int ((n : Int) + 1), .int z])) p (.lst [])) = Hb at ga gl kp2
          refine ⟨_, rfl, a, _, 0, _, rfl, rfl, SqL.of ga, rfl, .inl ⟨rfl, _, SqL.of gl⟩, l, _, 0, 0, .int y, rfl, rfl, gl, by decide, by decide, (ixN_seq (Evl.ixN_nat (j := 0) (by simp))).1, rfl, ?_⟩
          have ga2 : (upd Hb l (.lst (((y :: ys).map V.int).eraseIdx 0))) a = some (.lst [.ref l, .int x, .int ((n : Int) + 1), .int z]) := by rw [upd_ne ne]; exact ga
          refine ⟨_, rfl, a, _, 1, 1, rfl, rfl, ga2, rfl, ?_⟩
          have kp3 : ∀ o, Keep a l H (upd (upd Hb l (.lst (((y :: ys).map V.int).eraseIdx 0))) a o) := fun o c u ca cl e => by rw [upd_ne ca, upd_ne cl]; exact kp2 c u ca cl e
          have gl3 : ∀ o, (upd (upd Hb l (.lst (((y :: ys).map V.int).eraseIdx 0))) a o) l = some (.lst (ys.map V.int)) := fun o => by rw [upd_ne ne.symm, upd_same]; rfl
          have hys : ys.length ≤ 63 := Nat.le_trans (Nat.le_succ _) hl
          refine ⟨_, rfl, a, _, 1, _, rfl, rfl, SqL.of upd_same, rfl, 10, 18, rfl, rfl, (by show CPow 10 18; unfold CPow; decide), _, _, rfl, rfl, _, rfl, ifD_2 (fun hy => ?_) (fun hy => ?_)⟩
          · refine ⟨_, rfl, a, _, 3, _, rfl, rfl, SqL.of upd_same, rfl, _, _, rfl, rfl, .inr (by decide), _, rfl, a, _, 1, _, rfl, rfl, SqL.of upd_same, rfl, _, _, rfl, rfl, _, _, rfl, rfl, .inl ⟨_, rfl, _, _, rfl, rfl, (by show (0 : Int) < 2147483647; decide), _, rfl, a, _, 3, 3, rfl, rfl, upd_same, rfl, ?_⟩⟩
            refine ⟨_, rfl, a, _, 1, 1, rfl, rfl, upd_same, rfl, ?_⟩
            rw [upd_upd, upd_upd]
            exact ⟨rfl, ys, 0, (z * 31 + y + 7) % 2147483647, upd_same, gl3 _, hys, by decide, Int.emod_nonneg _ (by decide), Int.emod_lt_of_pos _ (by decide), kp3 _⟩
          · exact ⟨rfl, ys, y, z, upd_same, gl3 _, hys, by
              have h18 : (0 : Int) ≤ 10 ^ (18 : Int).toNat := by decide
              omega, hz0, hz1, kp3 _⟩
      · exact ⟨rfl, ns, x, z, upd_same, hl1, hl, hx, hz0, hz1, kp1⟩
    rintro _ H1 ⟨rfl, ns', x', z', g1, g2, gl, gx, gz0, gz1, kp⟩
    refine ⟨_, rfl, a, _, 1, _, rfl, rfl, SqL.of g1, rfl, _, _, rfl, rfl, _, rfl, ifD_2 (fun hp => ?_) (fun _ => ?_)⟩
    · refine ⟨_, rfl, a, _, 1, _, rfl, rfl, SqL.of g1, rfl, .inl ⟨_, rfl, _, rfl, _, _, rfl, rfl, hm, ?_⟩⟩
      refine ⟨_, rfl, a, _, 1, _, rfl, rfl, SqL.of g1, rfl, _, rfl, _, _, rfl, rfl, hW _, _, rfl, a, _, 1, 1, rfl, rfl, g1, rfl, _, rfl, ?_⟩
      refine k (x' % many) _ (Int.emod_nonneg _ (by omega)) (Int.emod_lt_of_pos _ hm) ⟨ne, ns', x' / many, z', upd_same, by rw [upd_ne ne.symm]; exact g2, gl, Int.ediv_nonneg gx (by omega), gz0, gz1⟩ fun c o ca cl e => by
        rw [upd_ne ca]; exact kp c o ca cl e
    · have hn' : (n : Int) ≤ 100000 := by omega
      have hn0 : (0 : Int) ≤ n := by omega
      refine ⟨_, rfl, a, _, 3, _, rfl, rfl, SqL.of g1, rfl, _, rfl, a, _, 2, _, rfl, rfl, SqL.of g1, rfl, _, _, rfl, rfl, .inl (by decide), _, _, rfl, rfl, _, _, rfl, rfl, _, _, rfl, rfl, ?_, _, _, rfl, rfl, (by show (0 : Int) < 2147483629; decide), ?_⟩
      · show CPow _ 5
        refine ⟨by decide, by decide, ?_⟩
        have e64 : (2 : Nat) ^ 64 = 18446744073709551616 := by decide
        rw [e64]
        omega
      · generalize hmx : ((z' + 104729 * ((n : Int) + 1) + 17) ^ (5 : Int).toNat) % 2147483629 = mx
        have m0 : 0 ≤ mx := by rw [← hmx]; exact Int.emod_nonneg _ (by decide)
        have m1 : mx < 2147483629 := by rw [← hmx]; exact Int.emod_lt_of_pos _ (by decide)
        refine ⟨_, rfl, _, _, rfl, rfl, .inr (by decide), _, rfl, a, _, 2, _, rfl, rfl, SqL.of g1, rfl, _, _, rfl, rfl, .inl (by decide), _, rfl, a, _, 2, _, rfl, rfl, SqL.of g1, rfl, _, _, rfl, rfl, .inr ?_, _, _, rfl, rfl, _, _, rfl, rfl, _, _, rfl, rfl, ?_, _, _, rfl, rfl, (by show (0 : Int) < 1000000007; decide), _, rfl, _, _, rfl, rfl, hm, ?_⟩
        · have e64 : (2 : Int) ^ 64 = 18446744073709551616 := by decide
          rw [e64]
          omega
        · show CPow _ 3
          refine ⟨by decide, by decide, ?_⟩
          have e64 : (2 : Nat) ^ 64 = 18446744073709551616 := by decide
          rw [e64]
          have q0 : 0 ≤ 40503 * ((n : Int) + 1) * ((n : Int) + 1) := Int.mul_nonneg (by omega) (by omega)
          have q1 : 40503 * ((n : Int) + 1) * ((n : Int) + 1) ≤ 40503 * 100001 * 100001 := Int.mul_le_mul (by omega) (by omega) (by omega) (by decide)
          omega
        · exact k _ _ (Int.emod_nonneg _ (by omega)) (Int.emod_lt_of_pos _ hm) ⟨ne, ns', x', z', g1, g2, gl, gx, gz0, gz1⟩ kp
end
end PA

set_option maxHeartbeats 2000000
namespace PA
open PySem L2
open C8 (pss_cut tCut)
def spStart (K : PySem.W.Frag) : Sp := fun vs H Q _ => ∃ (p : Addr) (ns : List Int), vs = [.ref p] ∧ SqL K H p (ns.map V.int) ∧ ns.length ≤ 63 ∧ ∀ (a l : Addr) (H' : Hp), StreamAt H' a l 0 → H a = none → H l = none → Same H H' → Q (.ref a) H'
/-- a drawn number of up to 40 digits -/
def spNumber : Sp := fun vs H Q _ => ∃ (a l : Addr) (n : Nat), vs = [.ref a] ∧ StreamAt H a l n ∧ n ≤ 90000 ∧ ∀ (r : Int) (H' : Hp), Sm 135 r → StreamAt H' a l (n + 2) → Keep a l H H' → Q (.int r) H'
def spDivisor : Sp := fun vs H Q _ => ∃ (x y : Int), vs = [.int x, .int y] ∧ Q (.int ((Nat.gcd x.natAbs y.natAbs : Nat) : Int)) H
/-- the found Ratio is u / d -/
def spRatio (C : Addr) : Sp := fun vs H Q _ => ∃ p T B u d, vs = [.ref p, .int u, .int d] ∧ RatAt C H p T B ∧ T * d = u * B ∧ Sm 4000 T ∧ Sm 4000 B ∧ Sm 4000 u ∧ Sm 4000 d ∧ Q (.bl true) H
theorem num_pos {z : Int} (h : 0 < z) : 0 < 2 * z + 1 := by omega
theorem sm9000 {x : Int} {n : Nat} (h : Sm n x) (hn : n ≤ 9000) : Sm 9000 x := h.mono hn
theorem e133 : (2 : Int) ^ 133 = 10889035741470030830827987437816582766592 := by decide
theorem e135 : (2 : Nat) ^ 135 = 43556142965880123323311949751266331066368 := by decide
theorem num_sm {z : Int} (h : 0 < z) (h1 : z ≤ 2 ^ 133) : Sm 9000 (2 * z + 1) := by
  refine sm9000 (n := 135) ?_ (by decide)
  show (2 * z + 1).natAbs < 2 ^ 135
  have h2 := e133
  rw [h2] at h1
  rw [e135]
  omega
theorem num_in {z r : Int} (h : 0 < z) (h1 : z ≤ 2 ^ 133) (q0 : 0 ≤ r) (q1 : r < 2 * z + 1) : Sm 135 (r - z) := by
  show (r - z).natAbs < 2 ^ 135
  have h2 := e133
  rw [h2] at h1
  rw [e135]
  omega
theorem sm_small {x : Int} (h : x.natAbs < 8) : Sm 9000 x := sm9000 (n := 3) h (by decide)
section
variable {P : Program} {w : World} {K : PySem.W.Frag} {mg : Str → Option Value} {base : Heap} {C : Addr}
theorem scStart : FnScope ["_law_script"] ["_law_script"] (defScope sStart) := ⟨rfl, rfl, rfl, by decide +kernel, rfl, by decide +kernel, by decide +kernel⟩
theorem boot_list' : bootBuiltins "list" = some (.type "list") := by decide +kernel
theorem ok_start {f : Addr} {fd : FuncData} (F : Fun K "_law_start" "_law_start" sStart f fd) (T : Txt K mg C) : FnOk P w K mg base CX0 1 f fd ["_law_script"] (spStart K) := by
  refine F.ok scStart (fun vs H Q E h => ?_) (fun cdv A outer s H vs Q E hr h => ?_)
  · obtain ⟨p, ns, rfl, _⟩ := h
    rfl
  · obtain ⟨p, ns, rfl, hS, hl, k⟩ := h
    refine ⟨_, pss_one (ps_ret (pe_lst (pa_cons (pe_callTy call_list_of (by rfl) T.list_ boot_list' (pa_cons (pv 0) pa_nil)) (pa_cons pe_int (pa_cons pe_int (pa_cons pe_int pa_nil)))))), ?_⟩
    refine ⟨_, rfl, p, _, rfl, .inl hS, fun l hl' => ⟨by show 4 ≤ sizeLine; decide, fun a ha => ?_⟩⟩
    have nal : a ≠ l := fun e => by rw [e, upd_same] at ha; cases ha
    have ha0 : H a = Option.none := by rw [upd_ne nal] at ha; exact ha
    exact k a l _ ⟨nal, ns, 0, 0, upd_same, by rw [upd_ne nal.symm, upd_same], hl, by decide, by decide, by decide⟩ ha0 hl' ((Same.new hl').trans (Same.new ha))
theorem scNumber : FnScope ["_law_stream", "_law_kind", "_law_size"] ["_law_stream"] (defScope sNumber) := ⟨rfl, rfl, rfl, by decide +kernel, rfl, by decide +kernel, by decide +kernel⟩
theorem ok_number {f g : Addr} {fd gd : FuncData} (F : Fun K "_law_m_number" "_law_m_number" sNumber f fd) (T : Txt K mg C) (D : Df K mg "_law_draw" sDraw g gd ["_law_stream", "_law_many"]) : FnOk P w K mg base CX0 2 f fd ["_law_stream"] spNumber := by
  have G : FnOk P w K mg base CX0 1 g gd ["_law_stream", "_law_many"] spDraw := ok_draw D.F T
  refine F.ok scNumber (fun vs H Q E h => ?_) (fun cdv A outer s H vs Q E hr h => ?_)
  · obtain ⟨a, l, n, rfl, _⟩ := h
    rfl
  · obtain ⟨a, l, n, rfl, S, hn, k⟩ := h
    refine ⟨_, pss_cons (ps_set (i := 1) scNumber.nd rfl (Or.inl rfl) (pe_call G hr rfl D.M D.F.kp D.B .nil pass0 (pa_cons (pv 0) (pa_cons pe_int pa_nil))))
      (pss_cons (ps_if (pt_cmpR op_eq (pv 1) pe_int (nomark _)) (pss_one (ps_ret (pe_op op_sub (pe_call G hr rfl D.M D.F.kp D.B .nil pass0 (pa_cons (pv 0) (pa_cons pe_int pa_nil))) pe_int))) pss_nil)
      (pss_cons (ps_set (i := 2) scNumber.nd rfl (Or.inl rfl) (pe_ix ix_list (pe_lst (pa_cons pe_int (pa_cons (pe_op op_pow pe_int pe_int) (pa_cons (pe_op op_pow pe_int pe_int) pa_nil)))) (pe_op op_sub (pv 1) pe_int) (fun _ _ => rfl)))
      (pss_one (ps_ret (pe_op op_sub (pe_call G hr rfl D.M D.F.kp D.B .nil pass0 (pa_cons (pv 0) (pa_cons (pe_op op_add (pe_op op_mul pe_int (pv 2)) pe_int) pa_nil))) (pv 2)))))), ?_⟩
    refine ⟨_, rfl, a, l, n, 4, rfl, S, by omega, by decide, sm_small (by decide), fun r H1 r0 r1 S1 k1 => ?_⟩
    refine ⟨_, rfl, rfl, _, rfl, ifD_2 (fun e => ?_) (fun e => ?_)⟩
    · refine ⟨_, rfl, a, l, n + 1, 5, rfl, S1, by omega, by decide, sm_small (by decide), fun r' H2 r0' r1' S2 k2 => ?_⟩
      refine ⟨_, _, rfl, rfl, k (r' - 2) H2 ?_ S2 (k1.trans k2)⟩
      show (r' - 2).natAbs < 2 ^ 135
      have : (2 : Nat) ^ 3 ≤ 2 ^ 135 := Nat.pow_le_pow_right (by decide) (by decide)
      omega
    · have rn : r ≠ 0 := fun z => e (by rw [z])
      refine ⟨10, 9, rfl, rfl, (by show CPow 10 9; unfold CPow; decide), 10, 40, rfl, rfl, (by show CPow 10 40; unfold CPow; decide), by show 3 ≤ sizeLine; decide, fun p hp => ?_⟩
      have S1' : StreamAt (upd H1 p (.lst [.int 1000, .int (10 ^ (9 : Int).toNat), .int (10 ^ (40 : Int).toNat)])) a l (n + 1) := S1.same (Same.new hp)
      have kp2 : Keep a l H (upd H1 p (.lst [.int 1000, .int (10 ^ (9 : Int).toNat), .int (10 ^ (40 : Int).toNat)])) := k1.trans (Keep.of (Same.new hp))
      have h123 : r = 1 ∨ r = 2 ∨ r = 3 := by omega
      rcases h123 with rfl | rfl | rfl
      · refine ⟨_, rfl, _, _, rfl, rfl, p, _, _, _, rfl, rfl, SqL.of upd_same, rfl, ?_⟩
        refine ⟨_, rfl, _, rfl, _, _, rfl, rfl, .inl (by decide), _, _, rfl, rfl, a, l, n + 1, _, rfl, S1', by omega, num_pos (z := 1000) (by decide), num_sm (z := 1000) (by decide) (by decide), fun r' H2 q0 q1 S2 k2 => ?_⟩
        exact ⟨_, rfl, _, _, rfl, rfl, k _ H2 (num_in (z := 1000) (by decide) (by decide) q0 q1) S2 (kp2.trans k2)⟩
      · refine ⟨_, rfl, _, _, rfl, rfl, p, _, _, _, rfl, rfl, SqL.of upd_same, rfl, ?_⟩
        refine ⟨_, rfl, _, rfl, _, _, rfl, rfl, .inl (by decide), _, _, rfl, rfl, a, l, n + 1, _, rfl, S1', by omega, num_pos (z := (10 ^ 9)) (by decide), num_sm (z := (10 ^ 9)) (by decide) (by decide), fun r' H2 q0 q1 S2 k2 => ?_⟩
        exact ⟨_, rfl, _, _, rfl, rfl, k _ H2 (num_in (z := (10 ^ 9)) (by decide) (by decide) q0 q1) S2 (kp2.trans k2)⟩
      · refine ⟨_, rfl, _, _, rfl, rfl, p, _, _, _, rfl, rfl, SqL.of upd_same, rfl, ?_⟩
        refine ⟨_, rfl, _, rfl, _, _, rfl, rfl, .inl (by decide), _, _, rfl, rfl, a, l, n + 1, _, rfl, S1', by omega, num_pos (z := (10 ^ 40)) (by decide), num_sm (z := (10 ^ 40)) (by decide) (by decide), fun r' H2 q0 q1 S2 k2 => ?_⟩
        exact ⟨_, rfl, _, _, rfl, rfl, k _ H2 (num_in (z := (10 ^ 40)) (by decide) (by decide) q0 q1) S2 (kp2.trans k2)⟩
theorem scDivisor : FnScope ["_law_one", "_law_other"] ["_law_one", "_law_other"] (defScope sDivisor) := ⟨rfl, rfl, rfl, by decide +kernel, rfl, by decide +kernel, by decide +kernel⟩
theorem boot_abs' : bootBuiltins "abs" = some (.builtin "abs") := by decide +kernel
theorem ok_divisor {f : Addr} {fd : FuncData} (F : Fun K "_law_m_divisor" "_law_m_divisor" sDivisor f fd) (T : Txt K mg C) : FnOk P w K mg base CX0 1 f fd ["_law_one", "_law_other"] spDivisor := by
  refine F.ok scDivisor (fun vs H Q E h => ?_) (fun cdv A outer s H vs Q E hr h => ?_)
  · obtain ⟨x, y, rfl, _⟩ := h
    rfl
  · obtain ⟨x, y, rfl, k⟩ := h
    refine ⟨_, pss_cons (ps_par (i := 0) (j := 1) (by rfl) scDivisor.nd rfl rfl (by decide) rfl rfl (pa_cons (pe_callB call_abs (by rfl) T.abs_ boot_abs' (pa_cons (pv 0) pa_nil)) (pa_cons (pe_callB call_abs (by rfl) T.abs_ boot_abs' (pa_cons (pv 1) pa_nil)) pa_nil)) (by rfl))
      (pss_cons (ps_while PassesOwn.never (pt_cmpR op_gt (pv 1) pe_int (nomark _)) (pss_one (ps_par (i := 0) (j := 1) (by rfl) scDivisor.nd rfl rfl (by decide) rfl rfl (pa_cons (pv 1) (pa_cons (pe_op op_mod (pe_callTy call_int1 (by rfl) T.int_ boot_int' (pa_cons (pv 0) pa_nil)) (pv 1)) pa_nil)) (by rfl))))
      (pss_one (ps_ret (pv 0)))), ?_⟩
    refine ⟨_, rfl, _, rfl, _, rfl, _, rfl, _, _, rfl, ?_⟩
    refine while_by (fun σ H' => H' = H ∧ ∃ a b : Nat, σ = [some (V.int a), some (V.int b)] ∧ Nat.gcd a b = Nat.gcd x.natAbs y.natAbs) (fun σ _ => match σ with | [_, some (V.int b)] => b.toNat | _ => 0) ?_ ?_ ?_
    · refine ⟨rfl, x.natAbs, y.natAbs, ?_, rfl⟩
      have e : ∀ z : Int, (if z < 0 then -z else z) = ((z.natAbs : Nat) : Int) := fun z => by split <;> omega
      show [some (V.int (if x < 0 then -x else x)), some (V.int (if y < 0 then -y else y))] = _
      rw [e, e]
    · rintro σ H' ⟨rfl, a, b, rfl, hg⟩
      refine ⟨_, rfl, _, _, rfl, rfl, _, rfl, ?_⟩
      by_cases hb : (0 : Int) < (b : Int)
      · refine ifD_yes hb ?_
        refine ⟨_, rfl, _, rfl, .inl ⟨_, rfl, _, rfl, _, _, rfl, rfl, hb, _, _, rfl, ⟨rfl, b, a % b, ?_, ?_⟩, ?_⟩⟩
        · show [some (V.int (b : Int)), some (V.int ((a : Int) % (b : Int)))] = _
          rw [← Int.natCast_emod]
        · rw [← hg, Nat.gcd_comm a b, Nat.gcd_rec b a, Nat.gcd_comm]
        · show ((a : Int) % (b : Int)).toNat < (b : Int).toNat
          have := Int.emod_lt_of_pos (a : Int) hb
          omega
      · refine ifD_no hb ?_
        have hb0 : b = 0 := by omega
        subst hb0
        rw [Nat.gcd_zero_right] at hg
        refine ⟨_, rfl, ?_⟩
        rw [hg]
        exact k
    · rintro σ H' Q1 Q2 hq ⟨v, e, i, j, e1, e2, c, e3, q⟩
      exact ⟨v, e, i, j, e1, e2, c, e3, hq _ _ q⟩
end
end PA

set_option maxHeartbeats 4000000
namespace PA
open PySem L2 RZ
/-! ### a comprehension over zip -/
section
variable {K : PySem.W.Frag} {a b : Addr} {xs ys : List V} {g : TG} {tt : TT} {te : TE} {vs : List Nat} {σ : L2.St} {H1 : Hp} {D : Addr} {Qd : Hp → Prop}
theorem lc_zipL (hl : xs.length = ys.length) (Pv : Nat → Hp → Prop) (h0 : Pv 0 (upd H1 D (.lst []))) (hq : ∀ i H, Pv i H → SqL K H a xs ∧ SqL K H b ys)
    (hs : ∀ (i : Nat) (x y : V) (T : Addr) (H : Hp), xs[i]? = some x → ys[i]? = some y → Pv i H → H T = none → g (.ref T) (wipe σ vs) (upd H T (.tup [x, y])) fun σ2 H2 => wipe σ2 vs = wipe σ vs ∧ tt σ2 H2 fun c H3 =>
      if c = true then te σ2 H3 fun z H4 => ∃ acc, H4 D = some (.lst acc) ∧ acc.length < sizeLine ∧ Pv (i + 1) (upd H4 D (.lst (acc ++ [z]))) else Pv (i + 1) H3) (hd : ∀ H, Pv xs.length H → Qd H) :
    ∃ W : Nat → Nat → Hp → Prop, (∃ m, W 0 m (upd H1 D (.lst []))) ∧ ∀ i m H, W i m H →
      ((Itz K a b).stop i H ∧ Qd H) ∨ ((Itz K a b).go i H ∧ ∃ Nx : Hp → Prop, (∀ H', Nx H' → ∃ m', m' < m ∧ W (i + 1) m' H') ∧ ∀ x H', (Itz K a b).yld i H x H' → g x (wipe σ vs) H' fun σ2 H2 => wipe σ2 vs = wipe σ vs ∧ tt σ2 H2 fun c H3 =>
        if c = true then te σ2 H3 fun z H4 => ∃ acc, H4 D = some (.lst acc) ∧ acc.length < sizeLine ∧ Nx (upd H4 D (.lst (acc ++ [z]))) else Nx H3) := by
  refine ⟨fun i m H => m = xs.length - i ∧ i ≤ xs.length ∧ Pv i H, ⟨xs.length, rfl, Nat.zero_le _, h0⟩, ?_⟩
  rintro i m H ⟨rfl, hi, p⟩
  obtain ⟨qx, qy⟩ := hq i H p
  by_cases hlt : i < xs.length
  · have hx : xs[i]? = some xs[i] := List.getElem?_eq_getElem hlt
    have hlt2 : i < ys.length := by omega
    have hy : ys[i]? = some ys[i] := List.getElem?_eq_getElem hlt2
    refine .inr ⟨⟨xs, ys, _, _, qx, qy, hx, hy⟩, Pv (i + 1), fun H' p' => ⟨xs.length - (i + 1), by omega, rfl, hlt, p'⟩, fun v H' y => ?_⟩
    obtain ⟨T, x', y', rfl, hT, rfl, f1, f2⟩ := y
    exact hs i x' y' T H (f1 xs qx) (f2 ys qy) p hT
  · have e : i = xs.length := by omega
    subst e
    exact .inl ⟨⟨xs, ys, qx, qy, Or.inl (Nat.le_refl _)⟩, hd H p⟩
theorem lc_zipT (hl : xs.length = ys.length) (Pv : Nat → Hp → Prop) (h0 : Pv 0 (upd H1 D (.lst []))) (hq : ∀ i H, Pv i H → SqT K H a xs ∧ SqT K H b ys)
    (hs : ∀ (i : Nat) (x y : V) (T : Addr) (H : Hp), xs[i]? = some x → ys[i]? = some y → Pv i H → H T = none → g (.ref T) (wipe σ vs) (upd H T (.tup [x, y])) fun σ2 H2 => wipe σ2 vs = wipe σ vs ∧ tt σ2 H2 fun c H3 =>
      if c = true then te σ2 H3 fun z H4 => ∃ acc, H4 D = some (.lst acc) ∧ acc.length < sizeLine ∧ Pv (i + 1) (upd H4 D (.lst (acc ++ [z]))) else Pv (i + 1) H3) (hd : ∀ H, Pv xs.length H → Qd H) :
    ∃ W : Nat → Nat → Hp → Prop, (∃ m, W 0 m (upd H1 D (.lst []))) ∧ ∀ i m H, W i m H →
      ((ItzT K a b).stop i H ∧ Qd H) ∨ ((ItzT K a b).go i H ∧ ∃ Nx : Hp → Prop, (∀ H', Nx H' → ∃ m', m' < m ∧ W (i + 1) m' H') ∧ ∀ x H', (ItzT K a b).yld i H x H' → g x (wipe σ vs) H' fun σ2 H2 => wipe σ2 vs = wipe σ vs ∧ tt σ2 H2 fun c H3 =>
        if c = true then te σ2 H3 fun z H4 => ∃ acc, H4 D = some (.lst acc) ∧ acc.length < sizeLine ∧ Nx (upd H4 D (.lst (acc ++ [z]))) else Nx H3) := by
  refine ⟨fun i m H => m = xs.length - i ∧ i ≤ xs.length ∧ Pv i H, ⟨xs.length, rfl, Nat.zero_le _, h0⟩, ?_⟩
  rintro i m H ⟨rfl, hi, p⟩
  obtain ⟨qx, qy⟩ := hq i H p
  by_cases hlt : i < xs.length
  · have hx : xs[i]? = some xs[i] := List.getElem?_eq_getElem hlt
    have hlt2 : i < ys.length := by omega
    have hy : ys[i]? = some ys[i] := List.getElem?_eq_getElem hlt2
    refine .inr ⟨⟨xs, ys, _, _, qx, qy, hx, hy⟩, Pv (i + 1), fun H' p' => ⟨xs.length - (i + 1), by omega, rfl, hlt, p'⟩, fun v H' y => ?_⟩
    obtain ⟨T, x', y', rfl, hT, rfl, f1, f2⟩ := y
    exact hs i x' y' T H (f1 xs qx) (f2 ys qy) p hT
  · have e : i = xs.length := by omega
    subst e
    exact .inl ⟨⟨xs, ys, qx, qy, Or.inl (Nat.le_refl _)⟩, hd H p⟩
end
/-! ### two values that are the same, to the depth n: ints, bools, lists and tuples of such -/
inductive Two (H : Hp) : Nat → V → V → Prop where
  | bl (n : Nat) (b : Bool) : Two H n (.bl b) (.bl b)
  | int (n : Nat) (i : Int) : Two H n (.int i) (.int i)
  | lst {n : Nat} {a b : Addr} {xs ys : List V} (ha : H a = some (.lst xs)) (hb : H b = some (.lst ys)) (hl : xs.length = ys.length) (hsz : xs.length ≤ sizeLine) (hi : ∀ (i : Nat) (x y : V), xs[i]? = some x → ys[i]? = some y → Two H n x y) : Two H (n + 1) (.ref a) (.ref b)
  | tup {n : Nat} {a b : Addr} {xs ys : List V} (ha : H a = some (.tup xs)) (hb : H b = some (.tup ys)) (hl : xs.length = ys.length) (hsz : xs.length ≤ sizeLine) (hi : ∀ (i : Nat) (x y : V), xs[i]? = some x → ys[i]? = some y → Two H n x y) : Two H (n + 1) (.ref a) (.ref b)
theorem Two.same {H H' : Hp} {n : Nat} {x y : V} (t : Two H n x y) (s : Same H H') : Two H' n x y := by
  induction t with
  | bl n b => exact .bl n b
  | int n i => exact .int n i
  | lst ha hb hl hz _ ih => exact .lst (s _ _ ha) (s _ _ hb) hl hz ih
  | tup ha hb hl hz _ ih => exact .tup (s _ _ ha) (s _ _ hb) hl hz ih
def spSame (n : Nat) : Sp := fun vs H Q _ => ∃ x y, vs = [x, y] ∧ Two H n x y ∧ ∀ H', Same H H' → Q (.bl true) H'
section
variable {P : Program} {w : World} {K : PySem.W.Frag} {mg : Str → Option Value} {base : Heap} {C : Addr}
theorem scSame : FnScope ["_law_found", "_law_due_here", "_law_one", "_law_other"] ["_law_found", "_law_due_here"] (defScope sSame) := ⟨rfl, rfl, rfl, by decide +kernel, rfl, by decide +kernel, by decide +kernel⟩
theorem boot_tuple' : bootBuiltins "tuple" = some (.type "tuple") := by decide +kernel
theorem boot_all' : bootBuiltins "all" = some (.builtin "all") := by decide +kernel
theorem kit2 {t : String} {b1 b2 r : Bool} (h1 : kitB t "list" = some b1) (h2 : kitB t "tuple" = some b2) (hr : (b1 || b2) = r) : PySem.W.kitAny K (.type t) [.type "list", .type "tuple"] = some r := by
  subst hr
  refine kitAny_cons (b := b1) (kit_ty h1) (fun e => ?_) (fun e => by rw [e]; rfl)
  subst e
  refine kitAny_cons (b := b2) (kit_ty h2) (fun e => ?_) (fun e => by rw [e]; rfl)
  subst e
  exact kitAny_nil
theorem ok_same {f : Addr} {fd : FuncData} (D : Df K mg "_law_same" sSame f fd ["_law_found", "_law_due_here"]) (T : Txt K mg C) : ∀ n : Nat, FnOk P w K mg base CX0 (n + 1) f fd ["_law_found", "_law_due_here"] (spSame n) := by
  have hlen : ∀ n, ∀ vs H Q E, spSame n vs H Q E → vs.length = (["_law_found", "_law_due_here"] : List Str).length := fun n vs H Q E h => by
    obtain ⟨x, y, rfl, _⟩ := h
    rfl
  intro n
  induction n with
  | zero =>
    refine D.F.ok scSame (hlen 0) (fun cdv A outer s H vs Q E hr h => ?_)
    obtain ⟨x, y, rfl, t, k⟩ := h
    refine ⟨_, pss_cons (ps_if (pt_val (pe_callB call_isiT (by rfl) T.isi boot_isi (pa_cons (pv 1) (pa_cons (pe_tup (pa_cons (pe_bltn (v := .ty "list") (by rfl) T.list_ boot_list' rfl) (pa_cons (pe_bltn (v := .ty "tuple") (by rfl) T.tup_ boot_tuple' rfl) pa_nil))) pa_nil)))) pss_never pss_nil)
      (pss_cons (ps_if (pt_val (pe_callB call_isi (by rfl) T.isi boot_isi (pa_cons (pv 1) (pa_cons (pe_bltn (v := .ty "int") (by rfl) T.int_ boot_int' rfl) pa_nil))))
        (pss_one (ps_ret (pe_and (pe_callB call_isi (by rfl) T.isi boot_isi (pa_cons (pv 0) (pa_cons (pe_bltn (v := .ty "int") (by rfl) T.int_ boot_int' rfl) pa_nil)))
          (pe_and (pe_cmpR op_eq (pe_callB call_isi (by rfl) T.isi boot_isi (pa_cons (pv 0) (pa_cons (pe_bltn (v := .ty "bool") (by rfl) T.bool_ boot_bool' rfl) pa_nil))) (pe_callB call_isi (by rfl) T.isi boot_isi (pa_cons (pv 1) (pa_cons (pe_bltn (v := .ty "bool") (by rfl) T.bool_ boot_bool' rfl) pa_nil))) (nomark _))
            (pe_one (pe_cmpR op_eq (pv 0) (pv 1) (nomark _))))))) pss_nil) pss_never), ?_⟩
    cases t with
    | int _ i =>
      refine ⟨_, rfl, by show 2 ≤ sizeLine; decide, fun tp htp => ⟨_, tp, _, _, [.type "list", .type "tuple"], _, rfl, upd_same, .cons (.ty _) (.cons (.ty _) .nil), .base (.int i), kit2 (b1 := false) (b2 := false) (by decide +kernel) (by decide +kernel) rfl, _, rfl, iteF ?_⟩⟩
      refine ⟨_, rfl, _, _, _, _, _, rfl, .ty _, .base (.int i), kit_ty (b := "int") (r := true) (by decide +kernel), _, rfl, iteT ?_⟩
      refine ⟨_, rfl, _, _, _, _, _, rfl, .ty _, .base (.int i), kit_ty (b := "int") (r := true) (by decide +kernel), _, rfl, iteT ?_⟩
      refine ⟨_, rfl, _, _, _, _, _, rfl, .ty _, .base (.int i), kit_ty (b := "bool") (r := false) (by decide +kernel), _, rfl, _, _, _, _, _, rfl, .ty _, .base (.int i), kit_ty (b := "bool") (r := false) (by decide +kernel), rfl, _, rfl, ifD_yes rfl ?_⟩
      refine ⟨_, rfl, _, rfl, rfl, ?_⟩
      show Q (V.bl (decide (V.int i = V.int i))) _
      rw [decide_eq_true rfl]
      exact k _ (Same.new htp)
    | bl _ b =>
      refine ⟨_, rfl, by show 2 ≤ sizeLine; decide, fun tp htp => ⟨_, tp, _, _, [.type "list", .type "tuple"], _, rfl, upd_same, .cons (.ty _) (.cons (.ty _) .nil), .base (.bl b), kit2 (b1 := false) (b2 := false) (by decide +kernel) (by decide +kernel) rfl, _, rfl, iteF ?_⟩⟩
      refine ⟨_, rfl, _, _, _, _, _, rfl, .ty _, .base (.bl b), kit_ty (b := "int") (r := true) (by decide +kernel), _, rfl, iteT ?_⟩
      refine ⟨_, rfl, _, _, _, _, _, rfl, .ty _, .base (.bl b), kit_ty (b := "int") (r := true) (by decide +kernel), _, rfl, iteT ?_⟩
      refine ⟨_, rfl, _, _, _, _, _, rfl, .ty _, .base (.bl b), kit_ty (b := "bool") (r := true) (by decide +kernel), _, rfl, _, _, _, _, _, rfl, .ty _, .base (.bl b), kit_ty (b := "bool") (r := true) (by decide +kernel), rfl, _, rfl, ifD_yes rfl ?_⟩
      refine ⟨_, rfl, _, rfl, rfl, ?_⟩
      show Q (V.bl (decide (V.bl b = V.bl b))) _
      rw [decide_eq_true rfl]
      exact k _ (Same.new htp)
  | succ n ih =>
    refine D.F.ok scSame (hlen (n + 1)) (fun cdv A outer s H vs Q E hr h => ?_)
    obtain ⟨x, y, rfl, t, k⟩ := h
    cases t with
    | int _ i =>
      refine ⟨_, pss_cons (ps_if (pt_val (pe_callB call_isiT (by rfl) T.isi boot_isi (pa_cons (pv 1) (pa_cons (pe_tup (pa_cons (pe_bltn (v := .ty "list") (by rfl) T.list_ boot_list' rfl) (pa_cons (pe_bltn (v := .ty "tuple") (by rfl) T.tup_ boot_tuple' rfl) pa_nil))) pa_nil)))) pss_never pss_nil)
      (pss_cons (ps_if (pt_val (pe_callB call_isi (by rfl) T.isi boot_isi (pa_cons (pv 1) (pa_cons (pe_bltn (v := .ty "int") (by rfl) T.int_ boot_int' rfl) pa_nil))))
        (pss_one (ps_ret (pe_and (pe_callB call_isi (by rfl) T.isi boot_isi (pa_cons (pv 0) (pa_cons (pe_bltn (v := .ty "int") (by rfl) T.int_ boot_int' rfl) pa_nil)))
          (pe_and (pe_cmpR op_eq (pe_callB call_isi (by rfl) T.isi boot_isi (pa_cons (pv 0) (pa_cons (pe_bltn (v := .ty "bool") (by rfl) T.bool_ boot_bool' rfl) pa_nil))) (pe_callB call_isi (by rfl) T.isi boot_isi (pa_cons (pv 1) (pa_cons (pe_bltn (v := .ty "bool") (by rfl) T.bool_ boot_bool' rfl) pa_nil))) (nomark _))
            (pe_one (pe_cmpR op_eq (pv 0) (pv 1) (nomark _))))))) pss_nil) pss_never), ?_⟩
      refine ⟨_, rfl, by show 2 ≤ sizeLine; decide, fun tp htp => ⟨_, tp, _, _, [.type "list", .type "tuple"], _, rfl, upd_same, .cons (.ty _) (.cons (.ty _) .nil), .base (.int i), kit2 (b1 := false) (b2 := false) (by decide +kernel) (by decide +kernel) rfl, _, rfl, iteF ?_⟩⟩
      refine ⟨_, rfl, _, _, _, _, _, rfl, .ty _, .base (.int i), kit_ty (b := "int") (r := true) (by decide +kernel), _, rfl, iteT ?_⟩
      refine ⟨_, rfl, _, _, _, _, _, rfl, .ty _, .base (.int i), kit_ty (b := "int") (r := true) (by decide +kernel), _, rfl, iteT ?_⟩
      refine ⟨_, rfl, _, _, _, _, _, rfl, .ty _, .base (.int i), kit_ty (b := "bool") (r := false) (by decide +kernel), _, rfl, _, _, _, _, _, rfl, .ty _, .base (.int i), kit_ty (b := "bool") (r := false) (by decide +kernel), rfl, _, rfl, ifD_yes rfl ?_⟩
      refine ⟨_, rfl, _, rfl, rfl, ?_⟩
      show Q (V.bl (decide (V.int i = V.int i))) _
      rw [decide_eq_true rfl]
      exact k _ (Same.new htp)
    | bl _ b =>
      refine ⟨_, pss_cons (ps_if (pt_val (pe_callB call_isiT (by rfl) T.isi boot_isi (pa_cons (pv 1) (pa_cons (pe_tup (pa_cons (pe_bltn (v := .ty "list") (by rfl) T.list_ boot_list' rfl) (pa_cons (pe_bltn (v := .ty "tuple") (by rfl) T.tup_ boot_tuple' rfl) pa_nil))) pa_nil)))) pss_never pss_nil)
      (pss_cons (ps_if (pt_val (pe_callB call_isi (by rfl) T.isi boot_isi (pa_cons (pv 1) (pa_cons (pe_bltn (v := .ty "int") (by rfl) T.int_ boot_int' rfl) pa_nil))))
        (pss_one (ps_ret (pe_and (pe_callB call_isi (by rfl) T.isi boot_isi (pa_cons (pv 0) (pa_cons (pe_bltn (v := .ty "int") (by rfl) T.int_ boot_int' rfl) pa_nil)))
          (pe_and (pe_cmpR op_eq (pe_callB call_isi (by rfl) T.isi boot_isi (pa_cons (pv 0) (pa_cons (pe_bltn (v := .ty "bool") (by rfl) T.bool_ boot_bool' rfl) pa_nil))) (pe_callB call_isi (by rfl) T.isi boot_isi (pa_cons (pv 1) (pa_cons (pe_bltn (v := .ty "bool") (by rfl) T.bool_ boot_bool' rfl) pa_nil))) (nomark _))
            (pe_one (pe_cmpR op_eq (pv 0) (pv 1) (nomark _))))))) pss_nil) pss_never), ?_⟩
      refine ⟨_, rfl, by show 2 ≤ sizeLine; decide, fun tp htp => ⟨_, tp, _, _, [.type "list", .type "tuple"], _, rfl, upd_same, .cons (.ty _) (.cons (.ty _) .nil), .base (.bl b), kit2 (b1 := false) (b2 := false) (by decide +kernel) (by decide +kernel) rfl, _, rfl, iteF ?_⟩⟩
      refine ⟨_, rfl, _, _, _, _, _, rfl, .ty _, .base (.bl b), kit_ty (b := "int") (r := true) (by decide +kernel), _, rfl, iteT ?_⟩
      refine ⟨_, rfl, _, _, _, _, _, rfl, .ty _, .base (.bl b), kit_ty (b := "int") (r := true) (by decide +kernel), _, rfl, iteT ?_⟩
      refine ⟨_, rfl, _, _, _, _, _, rfl, .ty _, .base (.bl b), kit_ty (b := "bool") (r := true) (by decide +kernel), _, rfl, _, _, _, _, _, rfl, .ty _, .base (.bl b), kit_ty (b := "bool") (r := true) (by decide +kernel), rfl, _, rfl, ifD_yes rfl ?_⟩
      refine ⟨_, rfl, _, rfl, rfl, ?_⟩
      show Q (V.bl (decide (V.bl b = V.bl b))) _
      rw [decide_eq_true rfl]
      exact k _ (Same.new htp)
    | @lst _ a b xs ys ha hb hl hsz hi =>
      refine ⟨_, pss_cons (ps_if (pt_val (pe_callB call_isiT (by rfl) T.isi boot_isi (pa_cons (pv 1) (pa_cons (pe_tup (pa_cons (pe_bltn (v := .ty "list") (by rfl) T.list_ boot_list' rfl) (pa_cons (pe_bltn (v := .ty "tuple") (by rfl) T.tup_ boot_tuple' rfl) pa_nil))) pa_nil))))
      (pss_cons (ps_if (PW.pt (pw_or (pt_cmpR op_ne (pe_callB call_isi (by rfl) T.isi boot_isi (pa_cons (pv 0) (pa_cons (pe_bltn (v := .ty "list") (by rfl) T.list_ boot_list' rfl) pa_nil))) (pe_callB call_isi (by rfl) T.isi boot_isi (pa_cons (pv 1) (pa_cons (pe_bltn (v := .ty "list") (by rfl) T.list_ boot_list' rfl) pa_nil))) (nomark _)) (pw_or1 (pt_cmpR op_ne (pe_callB call_isi (by rfl) T.isi boot_isi (pa_cons (pv 0) (pa_cons (pe_bltn (v := .ty "tuple") (by rfl) T.tup_ boot_tuple' rfl) pa_nil))) (pe_callB call_isi (by rfl) T.isi boot_isi (pa_cons (pv 1) (pa_cons (pe_bltn (v := .ty "tuple") (by rfl) T.tup_ boot_tuple' rfl) pa_nil))) (nomark _))))) pss_never pss_nil)
        (pss_one (ps_ret (pe_and (pe_cmpR op_eq (pe_callB call_len_seq (by rfl) T.len_ PySem.boot_len (pa_cons (pv 0) pa_nil)) (pe_callB call_len_seq (by rfl) T.len_ PySem.boot_len (pa_cons (pv 1) pa_nil)) (nomark _))
          (pe_one (pe_callB (cr_all rfl) (by rfl) T.all_ boot_all' (pa_cons (pe_lc (own := [("_law_one", 2), ("_law_other", 3)]) (g := gTup K 2 (gCons (gName 2) (gCons (gName 3) gNil))) (tt := tYes) (by rfl) scSame.nd (pi_zipA (by rfl) T.zip_ (pa_cons (pv 0) (pa_cons (pv 1) pa_nil))) (blkOk_by (N := ["_law_found", "_law_due_here", "_law_one", "_law_other"]) (sc := defScope sSame) (by decide +kernel))
            (fun _ _ _ _ _ => by exact pg_tup rfl (pgs_cons (pg_name (i := 2) scSame.nd rfl (Or.inl rfl)) (pgs_cons (pg_name (i := 3) scSame.nd rfl (Or.inl rfl)) pgs_nil))) (fun _ _ _ _ _ => pts_nil)
            (fun _ _ _ _ _ => pe_call ih hr rfl D.M D.F.kp D.B .nil pass0 (pa_cons (pv 2) (pa_cons (pv 3) pa_nil)))) pa_nil))))))) pss_nil) pss_never, ?_⟩
      refine ⟨_, rfl, by show 2 ≤ sizeLine; decide, fun tp htp => ?_⟩
      have s1 : Same H (upd H tp (.tup [.ty "list", .ty "tuple"])) := Same.new htp
      have hA := s1 _ _ ha
      have hB := s1 _ _ hb
      refine ⟨_, tp, _, _, [.type "list", .type "tuple"], _, rfl, upd_same, .cons (.ty _) (.cons (.ty _) .nil), .base (.lst hB), kit2 (b1 := true) (b2 := false) (by decide +kernel) (by decide +kernel) rfl, _, rfl, iteT ?_⟩
      refine ⟨_, rfl, _, _, _, _, _, rfl, .ty _, .base (.lst hA), kit_ty (b := "list") (r := true) (by decide +kernel), _, rfl, _, _, _, _, _, rfl, .ty _, .base (.lst hB), kit_ty (b := "list") (r := true) (by decide +kernel), rfl, _, rfl, iteNS rfl ?_⟩
      refine ⟨_, rfl, _, _, _, _, _, rfl, .ty _, .base (.lst hA), kit_ty (b := "tuple") (r := false) (by decide +kernel), _, rfl, _, _, _, _, _, rfl, .ty _, .base (.lst hB), kit_ty (b := "tuple") (r := false) (by decide +kernel), rfl, _, rfl, iteNS rfl ?_⟩
      refine ⟨_, rfl, _, _, rfl, .inl (SqL.of hA), _, rfl, _, _, rfl, .inl (SqL.of hB), rfl, _, rfl, ifD_yes (by rw [hl]) ?_⟩
      refine ⟨_, rfl, _, rfl, _, _, xs, ys, rfl, .inl ⟨SqL.of hA, SqL.of hB, fun Dd hD => ?_⟩⟩
      refine lc_zipL hl (fun i H' => Same (upd H tp (.tup [.ty "list", .ty "tuple"])) H' ∧ H' Dd = some (.lst ((List.replicate i true).map V.bl))) ⟨Same.new hD, upd_same⟩ (fun i H' q => ⟨SqL.of (q.1 _ _ hA), SqL.of (q.1 _ _ hB)⟩) ?_ ?_
      · rintro i x y tt H' hx hy ⟨sm, hd⟩ ht
        refine ⟨tt, _, rfl, SqT.of upd_same, rfl, _, _, rfl, _, _, rfl, rfl, rfl, ?_⟩
        dsimp only [tYes]
        rw [if_pos rfl]
        have s2 : Same H' (upd H' tt (.tup [x, y])) := Same.new ht
        refine ⟨_, rfl, _, rfl, x, y, rfl, ((hi i x y hx hy).same s1).same (sm.trans s2), fun H2 s3 => ⟨_, s3 _ _ (s2 _ _ hd), ?_, ?_, ?_⟩⟩
        · rw [List.length_map, List.length_replicate]
          exact Nat.lt_of_lt_of_le (List.getElem?_eq_some_iff.mp hx).1 hsz
        · intro c o e
          rw [upd_ne (ne_of_none e hD)]
          exact s3 _ _ (s2 _ _ (sm _ _ e))
        · rw [upd_same, List.replicate_succ', List.map_append]
          rfl
      · rintro H' ⟨sm, hd⟩
        refine ⟨Dd, _, rfl, SqL.of hd, ?_⟩
        have ea : (List.replicate xs.length true).all id = true := by
          rw [List.all_eq_true]
          intro x hx
          rw [(List.mem_replicate.mp hx).2]
          rfl
        rw [ea]
        exact k _ (s1.trans sm)
    | @tup _ a b xs ys ha hb hl hsz hi =>
      refine ⟨_, pss_cons (ps_if (pt_val (pe_callB call_isiT (by rfl) T.isi boot_isi (pa_cons (pv 1) (pa_cons (pe_tup (pa_cons (pe_bltn (v := .ty "list") (by rfl) T.list_ boot_list' rfl) (pa_cons (pe_bltn (v := .ty "tuple") (by rfl) T.tup_ boot_tuple' rfl) pa_nil))) pa_nil))))
      (pss_cons (ps_if (PW.pt (pw_or (pt_cmpR op_ne (pe_callB call_isi (by rfl) T.isi boot_isi (pa_cons (pv 0) (pa_cons (pe_bltn (v := .ty "list") (by rfl) T.list_ boot_list' rfl) pa_nil))) (pe_callB call_isi (by rfl) T.isi boot_isi (pa_cons (pv 1) (pa_cons (pe_bltn (v := .ty "list") (by rfl) T.list_ boot_list' rfl) pa_nil))) (nomark _)) (pw_or1 (pt_cmpR op_ne (pe_callB call_isi (by rfl) T.isi boot_isi (pa_cons (pv 0) (pa_cons (pe_bltn (v := .ty "tuple") (by rfl) T.tup_ boot_tuple' rfl) pa_nil))) (pe_callB call_isi (by rfl) T.isi boot_isi (pa_cons (pv 1) (pa_cons (pe_bltn (v := .ty "tuple") (by rfl) T.tup_ boot_tuple' rfl) pa_nil))) (nomark _))))) pss_never pss_nil)
        (pss_one (ps_ret (pe_and (pe_cmpR op_eq (pe_callB call_len_seq (by rfl) T.len_ PySem.boot_len (pa_cons (pv 0) pa_nil)) (pe_callB call_len_seq (by rfl) T.len_ PySem.boot_len (pa_cons (pv 1) pa_nil)) (nomark _))
          (pe_one (pe_callB (cr_all rfl) (by rfl) T.all_ boot_all' (pa_cons (pe_lc (own := [("_law_one", 2), ("_law_other", 3)]) (g := gTup K 2 (gCons (gName 2) (gCons (gName 3) gNil))) (tt := tYes) (by rfl) scSame.nd (pi_zipA (by rfl) T.zip_ (pa_cons (pv 0) (pa_cons (pv 1) pa_nil))) (blkOk_by (N := ["_law_found", "_law_due_here", "_law_one", "_law_other"]) (sc := defScope sSame) (by decide +kernel))
            (fun _ _ _ _ _ => by exact pg_tup rfl (pgs_cons (pg_name (i := 2) scSame.nd rfl (Or.inl rfl)) (pgs_cons (pg_name (i := 3) scSame.nd rfl (Or.inl rfl)) pgs_nil))) (fun _ _ _ _ _ => pts_nil)
            (fun _ _ _ _ _ => pe_call ih hr rfl D.M D.F.kp D.B .nil pass0 (pa_cons (pv 2) (pa_cons (pv 3) pa_nil)))) pa_nil))))))) pss_nil) pss_never, ?_⟩
      refine ⟨_, rfl, by show 2 ≤ sizeLine; decide, fun tp htp => ?_⟩
      have s1 : Same H (upd H tp (.tup [.ty "list", .ty "tuple"])) := Same.new htp
      have hA := s1 _ _ ha
      have hB := s1 _ _ hb
      refine ⟨_, tp, _, _, [.type "list", .type "tuple"], _, rfl, upd_same, .cons (.ty _) (.cons (.ty _) .nil), .base (.tup hB), kit2 (b1 := false) (b2 := true) (by decide +kernel) (by decide +kernel) rfl, _, rfl, iteT ?_⟩
      refine ⟨_, rfl, _, _, _, _, _, rfl, .ty _, .base (.tup hA), kit_ty (b := "list") (r := false) (by decide +kernel), _, rfl, _, _, _, _, _, rfl, .ty _, .base (.tup hB), kit_ty (b := "list") (r := false) (by decide +kernel), rfl, _, rfl, iteNS rfl ?_⟩
      refine ⟨_, rfl, _, _, _, _, _, rfl, .ty _, .base (.tup hA), kit_ty (b := "tuple") (r := true) (by decide +kernel), _, rfl, _, _, _, _, _, rfl, .ty _, .base (.tup hB), kit_ty (b := "tuple") (r := true) (by decide +kernel), rfl, _, rfl, iteNS rfl ?_⟩
      refine ⟨_, rfl, _, _, rfl, .inr (SqT.of hA), _, rfl, _, _, rfl, .inr (SqT.of hB), rfl, _, rfl, ifD_yes (by rw [hl]) ?_⟩
      refine ⟨_, rfl, _, rfl, _, _, xs, ys, rfl, .inr ⟨SqT.of hA, SqT.of hB, fun Dd hD => ?_⟩⟩
      refine lc_zipT hl (fun i H' => Same (upd H tp (.tup [.ty "list", .ty "tuple"])) H' ∧ H' Dd = some (.lst ((List.replicate i true).map V.bl))) ⟨Same.new hD, upd_same⟩ (fun i H' q => ⟨SqT.of (q.1 _ _ hA), SqT.of (q.1 _ _ hB)⟩) ?_ ?_
      · rintro i x y tt H' hx hy ⟨sm, hd⟩ ht
        refine ⟨tt, _, rfl, SqT.of upd_same, rfl, _, _, rfl, _, _, rfl, rfl, rfl, ?_⟩
        dsimp only [tYes]
        rw [if_pos rfl]
        have s2 : Same H' (upd H' tt (.tup [x, y])) := Same.new ht
        refine ⟨_, rfl, _, rfl, x, y, rfl, ((hi i x y hx hy).same s1).same (sm.trans s2), fun H2 s3 => ⟨_, s3 _ _ (s2 _ _ hd), ?_, ?_, ?_⟩⟩
        · rw [List.length_map, List.length_replicate]
          exact Nat.lt_of_lt_of_le (List.getElem?_eq_some_iff.mp hx).1 hsz
        · intro c o e
          rw [upd_ne (ne_of_none e hD)]
          exact s3 _ _ (s2 _ _ (sm _ _ e))
        · rw [upd_same, List.replicate_succ', List.map_append]
          rfl
      · rintro H' ⟨sm, hd⟩
        refine ⟨Dd, _, rfl, SqL.of hd, ?_⟩
        have ea : (List.replicate xs.length true).all id = true := by
          rw [List.all_eq_true]
          intro x hx
          rw [(List.mem_replicate.mp hx).2]
          rfl
        rw [ea]
        exact k _ (s1.trans sm)
end
end PA

set_option maxHeartbeats 4000000
namespace PA
open PySem L2 RZ
open C8 (pss_cut tCut)
abbrev sEq : Stmt := inClass (top 4) 12
def rEq (g : Int) : Bool := decide (V.int g = V.int 0)
abbrev sNe : Stmt := inClass (top 4) 13
def rNe (g : Int) : Bool := !decide (V.int g = V.int 0)
abbrev sLt : Stmt := inClass (top 4) 14
def rLt (g : Int) : Bool := decide (g < 0)
abbrev sLe : Stmt := inClass (top 4) 15
def rLe (g : Int) : Bool := decide (g ≤ 0)
abbrev sGt : Stmt := inClass (top 4) 16
def rGt (g : Int) : Bool := decide (0 < g)
abbrev sGe : Stmt := inClass (top 4) 17
def rGe (g : Int) : Bool := decide (0 ≤ g)
abbrev sBool : Stmt := inClass (top 4) 18
abbrev sStr : Stmt := inClass (top 4) 19
def six (g : Int) : List V := [.bl (rEq g), .bl (rNe g), .bl (rLt g), .bl (rLe g), .bl (rGt g), .bl (rGe g)]
theorem six_eq {g g' : Int} (h0 : g = 0 ↔ g' = 0) (h1 : g < 0 ↔ g' < 0) : six g = six g' := by
  have e1 : rEq g = rEq g' := by
    unfold rEq
    rw [dec_int, dec_int]
    by_cases z : g = 0
    · rw [z, h0.mp z]
    · rw [beq_eq_false_iff_ne.mpr z, beq_eq_false_iff_ne.mpr (fun q => z (h0.mpr q))]
  have e2 : rNe g = rNe g' := congrArg (fun b => !b) e1
  have e3 : rLt g = rLt g' := decide_eq_decide.mpr h1
  have e4 : rLe g = rLe g' := decide_eq_decide.mpr (by omega)
  have e5 : rGt g = rGt g' := decide_eq_decide.mpr (by omega)
  have e6 : rGe g = rGe g' := decide_eq_decide.mpr (by omega)
  unfold six
  rw [e1, e2, e3, e4, e5, e6]
/-- one sign, from two positive factors -/
theorem six_of {g g' a b : Int} (ha : 0 < a) (hb : 0 < b) (e : g * a = g' * b) : six g = six g' := by
  refine six_eq ⟨fun z => ?_, fun z => ?_⟩ ⟨fun z => ?_, fun z => ?_⟩
  · rw [z, Int.zero_mul] at e
    exact (Int.mul_eq_zero.mp e.symm).resolve_right (by omega)
  · rw [z, Int.zero_mul] at e
    exact (Int.mul_eq_zero.mp e).resolve_right (by omega)
  · have := Int.mul_neg_of_neg_of_pos z ha
    rw [e] at this
    rcases Int.lt_or_le g' 0 with q | q
    · exact q
    · have := Int.mul_nonneg q (Int.le_of_lt hb)
      omega
  · have := Int.mul_neg_of_neg_of_pos z hb
    rw [← e] at this
    rcases Int.lt_or_le g 0 with q | q
    · exact q
    · have := Int.mul_nonneg q (Int.le_of_lt ha)
      omega
def spCmp (r : Int → Bool) (C : Addr) : Sp := fun vs H Q _ => ∃ p v T B T' B', vs = [.ref p, v] ∧ RatAt C H p T B ∧ Num C H v T' B' ∧ Sm 2000 T ∧ Sm 2000 B ∧ Sm 2000 T' ∧ Sm 2000 B' ∧ Q (.bl (r (T * B' - T' * B))) H
def spBool (C : Addr) : Sp := fun vs H Q _ => ∃ p T B, vs = [.ref p] ∧ RatAt C H p T B ∧ Q (.bl (T != 0)) H
/-- the text of T / B -/
def txt (T B : Int) : Str := if B = 1 then Str.ofString (toString T) else (Str.ofString (toString T) ++ ("/" : Str)) ++ Str.ofString (toString B)
def spStr (C : Addr) : Sp := fun vs H Q _ => ∃ p T B, vs = [.ref p] ∧ RatAt C H p T B ∧ Sm 300 T ∧ Sm 300 B ∧ Q (.str (txt T B)) H
def spText : Sp := fun vs H Q _ => ∃ h l : Int, vs = [.int h, .int l] ∧ l ≠ 0 ∧ Sm 300 h ∧ Sm 300 l ∧ Q (.str (txt (h.fdiv (shr h l)) (l.fdiv (shr h l)))) H
def spCompared (C : Addr) : Sp := fun vs H Q _ => ∃ p v T B T' B', vs = [.ref p, v] ∧ RatAt C H p T B ∧ Num C H v T' B' ∧ Sm 2000 T ∧ Sm 2000 B ∧ Sm 2000 T' ∧ Sm 2000 B' ∧ ∀ q, H q = none → Q (.ref q) (upd H q (.lst (six (T * B' - T' * B))))
def spDue : Sp := fun vs H Q _ => ∃ g : Int, vs = [.int g] ∧ ∀ q, H q = none → Q (.ref q) (upd H q (.lst (six g)))
theorem log1920 {i : Int} (h : Sm 300 i) : i.natAbs.log2 < 1920 := Nat.lt_of_lt_of_le (PySem.Flt.log2_lt_of (by decide) h) (by decide)
theorem txt_len {i : Int} (h : Sm 300 i) : (Str.ofString (toString i)).length ≤ 1921 := by
  have e := int_text_length_le (k := 1920) (by decide) (log1920 h)
  rw [ofString_length]
  exact e
theorem txt_fit {a b : Int} (ha : Sm 300 a) (hb : Sm 300 b) : ((Str.ofString (toString a) ++ ("/" : Str)) ++ Str.ofString (toString b)).length ≤ sizeLine := by
  have e1 := txt_len ha
  have e2 := txt_len hb
  have e3 : ("/" : Str).length = 1 := by decide +kernel
  rw [Str.length_append, Str.length_append, sizeLine_eq]
  omega
section
variable {P : Program} {w : World} {K : PySem.W.Frag} {mg : Str → Option Value} {base : Heap} {C : Addr}
variable {fi f1 f2 f3 f4 f5 : Addr} {di d1 d2 d3 d4 d5 : FuncData}
theorem scEq : FnScope ["self", "other"] ["self", "other"] (defScope sEq) := ⟨rfl, rfl, rfl, by decide +kernel, rfl, by decide +kernel, by decide +kernel⟩
theorem ok_Eq {f : Addr} {fd : FuncData} (F : Fun K "__eq__" "Ratio.__eq__" sEq f fd) (L : Lib K mg C fi f1 f2 f3 f4 f5 di d1 d2 d3 d4 d5) : FnOk P w K mg base CX0 3 f fd ["self", "other"] (spCmp rEq C) := by
  have G2 : FnOk P w K mg base CX0 2 f2 d2 ["value"] (spIsNum C) := ok_isNum L.isNum.F L.T L.isInt
  have G5 : FnOk P w K mg base CX0 2 f5 d5 ["first", "second"] (spGap C) := ok_gap L.gap_.F L.T L.top_ L.bot_
  refine F.ok scEq (fun vs H Q E h => ?_) (fun cdv A outer s H vs Q E hr h => ?_)
  · obtain ⟨p, v, _, _, _, _, rfl, _⟩ := h
    rfl
  · obtain ⟨p, v, t, b, t', b', rfl, r, n, s1, s2, s3, s4, k⟩ := h
    refine ⟨_, pss_cons (ps_if (pt_not (pt_val (pe_call G2 hr rfl L.isNum.M L.isNum.F.kp L.isNum.B .nil pass0 (pa_cons (pv 1) pa_nil)))) pss_never pss_nil)
      (pss_one (ps_ret (pe_cmpR op_eq (pe_call G5 hr rfl L.gap_.M L.gap_.F.kp L.gap_.B .nil pass0 (pa_cons (pv 0) (pa_cons (pv 1) pa_nil))) pe_int (nomark _)))), ?_⟩
    refine ⟨_, rfl, v, t', b', rfl, n, _, rfl, iteF ?_⟩
    exact ⟨_, rfl, _, rfl, p, v, t, b, t', b', rfl, r, n, s1, s2, s3, s4, rfl, k⟩
theorem scNe : FnScope ["self", "other"] ["self", "other"] (defScope sNe) := ⟨rfl, rfl, rfl, by decide +kernel, rfl, by decide +kernel, by decide +kernel⟩
theorem ok_Ne {f : Addr} {fd : FuncData} (F : Fun K "__ne__" "Ratio.__ne__" sNe f fd) (L : Lib K mg C fi f1 f2 f3 f4 f5 di d1 d2 d3 d4 d5) : FnOk P w K mg base CX0 3 f fd ["self", "other"] (spCmp rNe C) := by
  have G2 : FnOk P w K mg base CX0 2 f2 d2 ["value"] (spIsNum C) := ok_isNum L.isNum.F L.T L.isInt
  have G5 : FnOk P w K mg base CX0 2 f5 d5 ["first", "second"] (spGap C) := ok_gap L.gap_.F L.T L.top_ L.bot_
  refine F.ok scNe (fun vs H Q E h => ?_) (fun cdv A outer s H vs Q E hr h => ?_)
  · obtain ⟨p, v, _, _, _, _, rfl, _⟩ := h
    rfl
  · obtain ⟨p, v, t, b, t', b', rfl, r, n, s1, s2, s3, s4, k⟩ := h
    refine ⟨_, pss_cons (ps_if (pt_not (pt_val (pe_call G2 hr rfl L.isNum.M L.isNum.F.kp L.isNum.B .nil pass0 (pa_cons (pv 1) pa_nil)))) pss_never pss_nil)
      (pss_one (ps_ret (pe_cmpR op_ne (pe_call G5 hr rfl L.gap_.M L.gap_.F.kp L.gap_.B .nil pass0 (pa_cons (pv 0) (pa_cons (pv 1) pa_nil))) pe_int (nomark _)))), ?_⟩
    refine ⟨_, rfl, v, t', b', rfl, n, _, rfl, iteF ?_⟩
    exact ⟨_, rfl, _, rfl, p, v, t, b, t', b', rfl, r, n, s1, s2, s3, s4, rfl, k⟩
theorem scLt : FnScope ["self", "other"] ["self", "other"] (defScope sLt) := ⟨rfl, rfl, rfl, by decide +kernel, rfl, by decide +kernel, by decide +kernel⟩
theorem ok_Lt {f : Addr} {fd : FuncData} (F : Fun K "__lt__" "Ratio.__lt__" sLt f fd) (L : Lib K mg C fi f1 f2 f3 f4 f5 di d1 d2 d3 d4 d5) : FnOk P w K mg base CX0 3 f fd ["self", "other"] (spCmp rLt C) := by
  have G2 : FnOk P w K mg base CX0 2 f2 d2 ["value"] (spIsNum C) := ok_isNum L.isNum.F L.T L.isInt
  have G5 : FnOk P w K mg base CX0 2 f5 d5 ["first", "second"] (spGap C) := ok_gap L.gap_.F L.T L.top_ L.bot_
  refine F.ok scLt (fun vs H Q E h => ?_) (fun cdv A outer s H vs Q E hr h => ?_)
  · obtain ⟨p, v, _, _, _, _, rfl, _⟩ := h
    rfl
  · obtain ⟨p, v, t, b, t', b', rfl, r, n, s1, s2, s3, s4, k⟩ := h
    refine ⟨_, pss_cons (ps_if (pt_not (pt_val (pe_call G2 hr rfl L.isNum.M L.isNum.F.kp L.isNum.B .nil pass0 (pa_cons (pv 1) pa_nil)))) pss_never pss_nil)
      (pss_one (ps_ret (pe_cmpR op_lt (pe_call G5 hr rfl L.gap_.M L.gap_.F.kp L.gap_.B .nil pass0 (pa_cons (pv 0) (pa_cons (pv 1) pa_nil))) pe_int (nomark _)))), ?_⟩
    refine ⟨_, rfl, v, t', b', rfl, n, _, rfl, iteF ?_⟩
    exact ⟨_, rfl, _, rfl, p, v, t, b, t', b', rfl, r, n, s1, s2, s3, s4, _, _, rfl, rfl, k⟩
theorem scLe : FnScope ["self", "other"] ["self", "other"] (defScope sLe) := ⟨rfl, rfl, rfl, by decide +kernel, rfl, by decide +kernel, by decide +kernel⟩
theorem ok_Le {f : Addr} {fd : FuncData} (F : Fun K "__le__" "Ratio.__le__" sLe f fd) (L : Lib K mg C fi f1 f2 f3 f4 f5 di d1 d2 d3 d4 d5) : FnOk P w K mg base CX0 3 f fd ["self", "other"] (spCmp rLe C) := by
  have G2 : FnOk P w K mg base CX0 2 f2 d2 ["value"] (spIsNum C) := ok_isNum L.isNum.F L.T L.isInt
  have G5 : FnOk P w K mg base CX0 2 f5 d5 ["first", "second"] (spGap C) := ok_gap L.gap_.F L.T L.top_ L.bot_
  refine F.ok scLe (fun vs H Q E h => ?_) (fun cdv A outer s H vs Q E hr h => ?_)
  · obtain ⟨p, v, _, _, _, _, rfl, _⟩ := h
    rfl
  · obtain ⟨p, v, t, b, t', b', rfl, r, n, s1, s2, s3, s4, k⟩ := h
    refine ⟨_, pss_cons (ps_if (pt_not (pt_val (pe_call G2 hr rfl L.isNum.M L.isNum.F.kp L.isNum.B .nil pass0 (pa_cons (pv 1) pa_nil)))) pss_never pss_nil)
      (pss_one (ps_ret (pe_cmpR op_le (pe_call G5 hr rfl L.gap_.M L.gap_.F.kp L.gap_.B .nil pass0 (pa_cons (pv 0) (pa_cons (pv 1) pa_nil))) pe_int (nomark _)))), ?_⟩
    refine ⟨_, rfl, v, t', b', rfl, n, _, rfl, iteF ?_⟩
    exact ⟨_, rfl, _, rfl, p, v, t, b, t', b', rfl, r, n, s1, s2, s3, s4, _, _, rfl, rfl, k⟩
theorem scGt : FnScope ["self", "other"] ["self", "other"] (defScope sGt) := ⟨rfl, rfl, rfl, by decide +kernel, rfl, by decide +kernel, by decide +kernel⟩
theorem ok_Gt {f : Addr} {fd : FuncData} (F : Fun K "__gt__" "Ratio.__gt__" sGt f fd) (L : Lib K mg C fi f1 f2 f3 f4 f5 di d1 d2 d3 d4 d5) : FnOk P w K mg base CX0 3 f fd ["self", "other"] (spCmp rGt C) := by
  have G2 : FnOk P w K mg base CX0 2 f2 d2 ["value"] (spIsNum C) := ok_isNum L.isNum.F L.T L.isInt
  have G5 : FnOk P w K mg base CX0 2 f5 d5 ["first", "second"] (spGap C) := ok_gap L.gap_.F L.T L.top_ L.bot_
  refine F.ok scGt (fun vs H Q E h => ?_) (fun cdv A outer s H vs Q E hr h => ?_)
  · obtain ⟨p, v, _, _, _, _, rfl, _⟩ := h
    rfl
  · obtain ⟨p, v, t, b, t', b', rfl, r, n, s1, s2, s3, s4, k⟩ := h
    refine ⟨_, pss_cons (ps_if (pt_not (pt_val (pe_call G2 hr rfl L.isNum.M L.isNum.F.kp L.isNum.B .nil pass0 (pa_cons (pv 1) pa_nil)))) pss_never pss_nil)
      (pss_one (ps_ret (pe_cmpR op_gt (pe_call G5 hr rfl L.gap_.M L.gap_.F.kp L.gap_.B .nil pass0 (pa_cons (pv 0) (pa_cons (pv 1) pa_nil))) pe_int (nomark _)))), ?_⟩
    refine ⟨_, rfl, v, t', b', rfl, n, _, rfl, iteF ?_⟩
    exact ⟨_, rfl, _, rfl, p, v, t, b, t', b', rfl, r, n, s1, s2, s3, s4, _, _, rfl, rfl, k⟩
theorem scGe : FnScope ["self", "other"] ["self", "other"] (defScope sGe) := ⟨rfl, rfl, rfl, by decide +kernel, rfl, by decide +kernel, by decide +kernel⟩
theorem ok_Ge {f : Addr} {fd : FuncData} (F : Fun K "__ge__" "Ratio.__ge__" sGe f fd) (L : Lib K mg C fi f1 f2 f3 f4 f5 di d1 d2 d3 d4 d5) : FnOk P w K mg base CX0 3 f fd ["self", "other"] (spCmp rGe C) := by
  have G2 : FnOk P w K mg base CX0 2 f2 d2 ["value"] (spIsNum C) := ok_isNum L.isNum.F L.T L.isInt
  have G5 : FnOk P w K mg base CX0 2 f5 d5 ["first", "second"] (spGap C) := ok_gap L.gap_.F L.T L.top_ L.bot_
  refine F.ok scGe (fun vs H Q E h => ?_) (fun cdv A outer s H vs Q E hr h => ?_)
  · obtain ⟨p, v, _, _, _, _, rfl, _⟩ := h
    rfl
  · obtain ⟨p, v, t, b, t', b', rfl, r, n, s1, s2, s3, s4, k⟩ := h
    refine ⟨_, pss_cons (ps_if (pt_not (pt_val (pe_call G2 hr rfl L.isNum.M L.isNum.F.kp L.isNum.B .nil pass0 (pa_cons (pv 1) pa_nil)))) pss_never pss_nil)
      (pss_one (ps_ret (pe_cmpR op_ge (pe_call G5 hr rfl L.gap_.M L.gap_.F.kp L.gap_.B .nil pass0 (pa_cons (pv 0) (pa_cons (pv 1) pa_nil))) pe_int (nomark _)))), ?_⟩
    refine ⟨_, rfl, v, t', b', rfl, n, _, rfl, iteF ?_⟩
    exact ⟨_, rfl, _, rfl, p, v, t, b, t', b', rfl, r, n, s1, s2, s3, s4, _, _, rfl, rfl, k⟩
theorem scBool : FnScope ["self"] ["self"] (defScope sBool) := ⟨rfl, rfl, rfl, by decide +kernel, rfl, by decide +kernel, by decide +kernel⟩
theorem ok_bool {f : Addr} {fd : FuncData} (F : Fun K "__bool__" "Ratio.__bool__" sBool f fd) (T : Txt K mg C) : FnOk P w K mg base CX0 1 f fd ["self"] (spBool C) := by
  refine F.ok scBool (fun vs H Q E h => ?_) (fun cdv A outer s H vs Q E hr h => ?_)
  · obtain ⟨p, _, _, rfl, _⟩ := h
    rfl
  · obtain ⟨p, t, b, rfl, r, k⟩ := h
    obtain ⟨dx, e⟩ := r.ob
    refine ⟨_, pss_one (ps_ret (pe_callTy call_bool1 (by rfl) T.bool_ boot_bool' (pa_cons (pe_fld (pv 0) rfl) pa_nil))), ?_⟩
    exact ⟨_, rfl, p, C, dx, _, _, rfl, e, T.cl, T.nT, flds_top _ _, .inl ⟨_, rfl, k⟩⟩
theorem boot_str' : bootBuiltins "str" = some (.type "str") := by decide +kernel
theorem scStr : FnScope ["self"] ["self"] (defScope sStr) := ⟨rfl, rfl, rfl, by decide +kernel, rfl, by decide +kernel, by decide +kernel⟩
theorem ok_str {f : Addr} {fd : FuncData} (F : Fun K "__str__" "Ratio.__str__" sStr f fd) (T : Txt K mg C) : FnOk P w K mg base CX0 1 f fd ["self"] (spStr C) := by
  refine F.ok scStr (fun vs H Q E h => ?_) (fun cdv A outer s H vs Q E hr h => ?_)
  · obtain ⟨p, _, _, rfl, _⟩ := h
    rfl
  · obtain ⟨p, t, b, rfl, r, s1, s2, k⟩ := h
    obtain ⟨dx, e⟩ := r.ob
    refine ⟨_, pss_cons (ps_if (pt_cmpR op_eq (pe_fld (pv 0) rfl) pe_int (nomark _)) (pss_one (ps_ret (pe_callTy call_str_int (by rfl) T.str_ boot_str' (pa_cons (pe_fld (pv 0) rfl) pa_nil)))) pss_nil)
      (pss_one (ps_ret (pe_joined (.cons (pe_fmt (pe_fld (pv 0) rfl)) (.cons pe_str (.cons (pe_fmt (pe_fld (pv 0) rfl)) .nil)))))), ?_⟩
    unfold txt at k
    refine ⟨_, rfl, p, C, dx, _, _, rfl, e, T.cl, T.nB, flds_bot _ _, rfl, _, rfl, ifD_2 (fun hb => ?_) (fun hb => ?_)⟩
    · rw [if_pos (by injection hb)] at k
      exact ⟨_, rfl, p, C, dx, _, _, rfl, e, T.cl, T.nT, flds_top _ _, _, rfl, log1920 s1, k⟩
    · rw [if_neg (fun z => hb (by rw [z]))] at k
      have f1 := txt_len s1
      have f2 := txt_fit s1 s2
      have e3 : ("/" : Str).length = 1 := by decide +kernel
      refine ⟨_, rfl, p, C, dx, _, _, rfl, e, T.cl, T.nT, flds_top _ _, .inr ⟨_, rfl, log1920 s1, _, rfl, ?_, ?_⟩⟩
      · rw [Str.empty_append, sizeLine_eq]
        exact Nat.le_trans f1 (by decide)
      rw [Str.empty_append]
      refine ⟨_, rfl, ?_, ?_⟩
      · rw [Str.length_append, sizeLine_eq]
        have := f1
        omega
      refine ⟨_, rfl, p, C, dx, _, _, rfl, e, T.cl, T.nB, flds_bot _ _, .inr ⟨_, rfl, log1920 s2, _, rfl, f2, k⟩⟩
theorem scText : FnScope ["_law_high", "_law_low", "_law_common"] ["_law_high", "_law_low"] (defScope sText) := ⟨rfl, rfl, rfl, by decide +kernel, rfl, by decide +kernel, by decide +kernel⟩
theorem ok_text {f g : Addr} {fd gd : FuncData} (F : Fun K "_law_text" "_law_text" sText f fd) (T : Txt K mg C) (D : Df K mg "_law_m_divisor" sDivisor g gd ["_law_one", "_law_other"]) : FnOk P w K mg base CX0 2 f fd ["_law_high", "_law_low"] spText := by
  have G : FnOk P w K mg base CX0 1 g gd ["_law_one", "_law_other"] spDivisor := ok_divisor D.F T
  refine F.ok scText (fun vs H Q E h => ?_) (fun cdv A outer s H vs Q E hr h => ?_)
  · obtain ⟨h, l, rfl, _⟩ := h
    rfl
  · obtain ⟨h, l, rfl, hl, sh, sl, k⟩ := h
    refine ⟨_, pss_cons (ps_set (i := 2) scText.nd rfl (Or.inl rfl) (pe_call G hr rfl D.M D.F.kp D.B .nil pass0 (pa_cons (pv 0) (pa_cons (pv 1) pa_nil))))
      (pss_cut (ps_set (i := 2) scText.nd rfl (Or.inl rfl) (pe_ifExp (pt_cmpR op_lt (pv 1) pe_int (nomark _)) (pe_un un_neg (pv 2)) (pv 2)))
      (pss_cons (ps_if (pt_cmpR op_eq (pe_op op_fdivS (pv 1) (pv 2)) pe_int (nomark _)) (pss_one (ps_ret (pe_callTy call_str_int (by rfl) T.str_ boot_str' (pa_cons (pe_op op_fdivS (pv 0) (pv 2)) pa_nil)))) pss_nil)
      (pss_one (ps_ret (pe_op op_add_str (pe_op op_add_str (pe_callTy call_str_int (by rfl) T.str_ boot_str' (pa_cons (pe_op op_fdivS (pv 0) (pv 2)) pa_nil)) pe_str) (pe_callTy call_str_int (by rfl) T.str_ boot_str' (pa_cons (pe_op op_fdivS (pv 1) (pv 2)) pa_nil))))))), ?_⟩
    refine ⟨_, rfl, _, rfl, h, l, rfl, ?_⟩
    refine ⟨fun σ' H' => σ' = [some (V.int h), some (V.int l), some (V.int (shr h l))] ∧ H' = H, ?_, ?_⟩
    · refine ⟨_, rfl, _, _, rfl, rfl, _, rfl, ifD_2 (fun hn => ?_) (fun hn => ?_)⟩
      · refine ⟨_, rfl, _, rfl, ?_, rfl⟩
        unfold shr
        rw [if_pos hn]
        rfl
      · refine ⟨_, rfl, ?_, rfl⟩
        unfold shr
        rw [if_neg hn]
        rfl
    rintro _ _ ⟨rfl, rfl⟩
    obtain ⟨m1, m2, m3, m4, m5, m6⟩ := rat_mk (t := h) hl
    have sd : ∀ j : Int, CDivS j (shr h l) := fun j => ⟨m1, Nat.lt_of_lt_of_le (PySem.Flt.log2_lt_of (by decide) (sl.le m2)) (by decide)⟩
    have sT := sh.le m5
    have sB := sl.le m6
    unfold txt at k
    refine ⟨_, rfl, _, rfl, _, _, rfl, rfl, sd _, rfl, _, rfl, ifD_2 (fun hb => ?_) (fun hb => ?_)⟩
    · rw [if_pos (by injection hb)] at k
      exact ⟨_, rfl, _, rfl, _, _, rfl, rfl, sd _, _, rfl, log1920 sT, k⟩
    · rw [if_neg (fun z => hb (congrArg V.int z))] at k
      have f2 := txt_fit sT sB
      refine ⟨_, rfl, _, rfl, _, _, rfl, rfl, sd _, _, rfl, log1920 sT, _, _, rfl, rfl, ?_, ?_⟩
      · rw [Str.length_append, Str.length_append] at f2
        exact Nat.le_trans (Nat.le_add_right _ _) f2
      refine ⟨_, rfl, _, rfl, _, _, rfl, rfl, sd _, _, rfl, log1920 sB, _, _, rfl, rfl, ?_, k⟩
      rw [← Str.length_append]
      exact f2
theorem scDue : FnScope ["_law_gap"] ["_law_gap"] (defScope sDue) := ⟨rfl, rfl, rfl, by decide +kernel, rfl, by decide +kernel, by decide +kernel⟩
theorem ok_due {f : Addr} {fd : FuncData} (F : Fun K "_law_due" "_law_due" sDue f fd) : FnOk P w K mg base CX0 1 f fd ["_law_gap"] spDue := by
  refine F.ok scDue (fun vs H Q E h => ?_) (fun cdv A outer s H vs Q E hr h => ?_)
  · obtain ⟨g, rfl, _⟩ := h
    rfl
  · obtain ⟨g, rfl, k⟩ := h
    refine ⟨_, pss_one (ps_ret (pe_lst (pa_cons (pe_cmpR op_eq (pv 0) pe_int (nomark _)) (pa_cons (pe_cmpR op_ne (pv 0) pe_int (nomark _)) (pa_cons (pe_cmpR op_lt (pv 0) pe_int (nomark _)) (pa_cons (pe_cmpR op_le (pv 0) pe_int (nomark _)) (pa_cons (pe_cmpR op_gt (pv 0) pe_int (nomark _)) (pa_cons (pe_cmpR op_ge (pv 0) pe_int (nomark _)) pa_nil)))))))), ?_⟩
    exact ⟨_, rfl, rfl, _, rfl, rfl, _, rfl, _, _, rfl, rfl, _, rfl, _, _, rfl, rfl, _, rfl, _, _, rfl, rfl, _, rfl, _, _, rfl, rfl, by show 6 ≤ sizeLine; decide, fun q hq => k q hq⟩
theorem scCompared : FnScope ["_law_one", "_law_other"] ["_law_one", "_law_other"] (defScope sCompared) := ⟨rfl, rfl, rfl, by decide +kernel, rfl, by decide +kernel, by decide +kernel⟩
theorem ok_compared {f : Addr} {fd : FuncData} (F : Fun K "_law_compared" "_law_compared" sCompared f fd) (L : Lib K mg C fi f1 f2 f3 f4 f5 di d1 d2 d3 d4 d5) {cEq : Addr} {eEq : FuncData} (OEq : OwnC K C cEq .Eq) (FEq : Fun K "__eq__" "Ratio.__eq__" sEq cEq eEq) (bEq : Binds K eEq ["self", "other"] []) {cNe : Addr} {eNe : FuncData} (ONe : OwnC K C cNe .NotEq) (FNe : Fun K "__ne__" "Ratio.__ne__" sNe cNe eNe) (bNe : Binds K eNe ["self", "other"] []) {cLt : Addr} {eLt : FuncData} (OLt : OwnC K C cLt .Lt) (FLt : Fun K "__lt__" "Ratio.__lt__" sLt cLt eLt) (bLt : Binds K eLt ["self", "other"] []) {cLe : Addr} {eLe : FuncData} (OLe : OwnC K C cLe .LtE) (FLe : Fun K "__le__" "Ratio.__le__" sLe cLe eLe) (bLe : Binds K eLe ["self", "other"] []) {cGt : Addr} {eGt : FuncData} (OGt : OwnC K C cGt .Gt) (FGt : Fun K "__gt__" "Ratio.__gt__" sGt cGt eGt) (bGt : Binds K eGt ["self", "other"] []) {cGe : Addr} {eGe : FuncData} (OGe : OwnC K C cGe .GtE) (FGe : Fun K "__ge__" "Ratio.__ge__" sGe cGe eGe) (bGe : Binds K eGe ["self", "other"] []) : FnOk P w K mg base CX0 4 f fd ["_law_one", "_law_other"] (spCompared C) := by
  have GEq : FnOk P w K mg base CX0 3 cEq eEq ["self", "other"] (spCmp rEq C) := ok_Eq FEq L
  have GNe : FnOk P w K mg base CX0 3 cNe eNe ["self", "other"] (spCmp rNe C) := ok_Ne FNe L
  have GLt : FnOk P w K mg base CX0 3 cLt eLt ["self", "other"] (spCmp rLt C) := ok_Lt FLt L
  have GLe : FnOk P w K mg base CX0 3 cLe eLe ["self", "other"] (spCmp rLe C) := ok_Le FLe L
  have GGt : FnOk P w K mg base CX0 3 cGt eGt ["self", "other"] (spCmp rGt C) := ok_Gt FGt L
  have GGe : FnOk P w K mg base CX0 3 cGe eGe ["self", "other"] (spCmp rGe C) := ok_Ge FGe L
  refine F.ok scCompared (fun vs H Q E h => ?_) (fun cdv A outer s H vs Q E hr h => ?_)
  · obtain ⟨p, v, _, _, _, _, rfl, _⟩ := h
    rfl
  · obtain ⟨p, v, t, b, t', b', rfl, r, n, s1, s2, s3, s4, k⟩ := h
    obtain ⟨dx, e⟩ := r.ob
    have hy : (∃ i, v = .int i) ∨ ∃ b dy gs, v = .ref b ∧ H b = some (.ins C dy gs) := by
      rcases n with ⟨rfl, _⟩ | ⟨p', rfl, ⟨_, dx', e'⟩⟩
      · exact .inl ⟨_, rfl⟩
      · exact .inr ⟨p', dx', _, rfl, e'⟩
    refine ⟨_, pss_one (ps_ret (pe_lst (pa_cons (pe_cmpR (op_ownC (E := E0) OEq GEq hr bEq pass0) (pv 0) (pv 1) (nomark _)) (pa_cons (pe_cmpR (op_ownC (E := E0) ONe GNe hr bNe pass0) (pv 0) (pv 1) (nomark _)) (pa_cons (pe_cmpR (op_ownC (E := E0) OLt GLt hr bLt pass0) (pv 0) (pv 1) (nomark _)) (pa_cons (pe_cmpR (op_ownC (E := E0) OLe GLe hr bLe pass0) (pv 0) (pv 1) (nomark _)) (pa_cons (pe_cmpR (op_ownC (E := E0) OGt GGt hr bGt pass0) (pv 0) (pv 1) (nomark _)) (pa_cons (pe_cmpR (op_ownC (E := E0) OGe GGe hr bGe pass0) (pv 0) (pv 1) (nomark _)) pa_nil)))))))), ?_⟩
    exact ⟨_, rfl, _, rfl, p, dx, _, rfl, e, hy, p, v, t, b, t', b', rfl, r, n, s1, s2, s3, s4, _, rfl, _, rfl, p, dx, _, rfl, e, hy, p, v, t, b, t', b', rfl, r, n, s1, s2, s3, s4, _, rfl, _, rfl, p, dx, _, rfl, e, hy, p, v, t, b, t', b', rfl, r, n, s1, s2, s3, s4, _, rfl, _, rfl, p, dx, _, rfl, e, hy, p, v, t, b, t', b', rfl, r, n, s1, s2, s3, s4, _, rfl, _, rfl, p, dx, _, rfl, e, hy, p, v, t, b, t', b', rfl, r, n, s1, s2, s3, s4, _, rfl, _, rfl, p, dx, _, rfl, e, hy, p, v, t, b, t', b', rfl, r, n, s1, s2, s3, s4, by show 6 ≤ sizeLine; decide, fun q hq => k q hq⟩
end
end PA

set_option maxHeartbeats 8000000
namespace PA
open PySem L2 RZ
open C8 (pss_cut tCut)
theorem six_two {H : Hp} {g g' : Int} (e : six g = six g') : ∀ (i : Nat) (x y : V), (six g)[i]? = some x → (six g')[i]? = some y → Two H 0 x y := by
  intro i x y h1 h2
  rw [← e, h1] at h2
  cases h2
  have hm := List.mem_of_getElem? h1
  unfold six at hm
  rcases List.mem_cons.mp hm with rfl | hm
  · exact .bl 0 _
  rcases List.mem_cons.mp hm with rfl | hm
  · exact .bl 0 _
  rcases List.mem_cons.mp hm with rfl | hm
  · exact .bl 0 _
  rcases List.mem_cons.mp hm with rfl | hm
  · exact .bl 0 _
  rcases List.mem_cons.mp hm with rfl | hm
  · exact .bl 0 _
  rcases List.mem_cons.mp hm with rfl | hm
  · exact .bl 0 _
  cases hm
theorem sg_pos {x sg : Int} (hx : x ≠ 0) (e : (0 < x ∧ sg = 1) ∨ (¬ 0 < x ∧ sg = -1)) : 0 < x * sg := by
  rcases e with ⟨h, rfl⟩ | ⟨h, rfl⟩ <;> omega
theorem g_two {T1 B1 T2 B2 h l o u sg : Int} (e1 : T1 * l = h * B1) (e2 : T2 * u = o * B2) : (T1 * B2 - T2 * B1) * (l * u * sg) = ((h * u - o * l) * sg) * (B1 * B2) := by grind
theorem g_two' {T1 B1 T2 B2 h l o u sg : Int} (e1 : T1 * l = h * B1) (e2 : T2 * u = o * B2) : (T2 * B1 - T1 * B2) * (l * u * sg) = (-((h * u - o * l) * sg)) * (B2 * B1) := by grind
theorem g_one {T1 B1 h l w sg : Int} (e1 : T1 * l = h * B1) : (T1 * 1 - w * B1) * (l * sg) = ((h - w * l) * sg) * B1 := by grind
/-- the text of a number in lowest terms is the text of how it was written -/
theorem txt_of {T B h l : Int} (hl : l ≠ 0) (lw : Low T B) (e : T * l = h * B) : txt (h.fdiv (shr h l)) (l.fdiv (shr h l)) = txt T B := by
  obtain ⟨m1, m2, m3, m4, m5, m6⟩ := rat_mk (t := h) hl
  obtain ⟨q1, q2⟩ := m3.uniq lw (cross (n := h) (d := l) m3.ne m4 (by rw [e]) hl)
  rw [q1, q2]
structure Adr where
  fI : Addr
  dI : FuncData
  f1 : Addr
  d1 : FuncData
  f2 : Addr
  d2 : FuncData
  f3 : Addr
  d3 : FuncData
  f4 : Addr
  d4 : FuncData
  f5 : Addr
  d5 : FuncData
  fEq : Addr
  dEq : FuncData
  fNe : Addr
  dNe : FuncData
  fLt : Addr
  dLt : FuncData
  fLe : Addr
  dLe : FuncData
  fGt : Addr
  dGt : FuncData
  fGe : Addr
  dGe : FuncData
  fBool : Addr
  dBool : FuncData
  fStr : Addr
  dStr : FuncData
  fDraw : Addr
  dDraw : FuncData
  fStart : Addr
  dStart : FuncData
  fSame : Addr
  dSame : FuncData
  fNumber : Addr
  dNumber : FuncData
  fDivisor : Addr
  dDivisor : FuncData
  fCompared : Addr
  dCompared : FuncData
  fDue : Addr
  dDue : FuncData
  fText : Addr
  dText : FuncData
structure Prog (K : PySem.W.Frag) (mg : Str → Option Value) (C : Addr) (A : Adr) : Prop where
  L : Lib K mg C A.fI A.f1 A.f2 A.f3 A.f4 A.f5 A.dI A.d1 A.d2 A.d3 A.d4 A.d5
  b1 : ∃ ds, Vals [V.int 1] ds ∧ Binds K A.dI ["self", "top", "bottom"] ds
  eq_ : Fun K "__eq__" "Ratio.__eq__" sEq A.fEq A.dEq
  bEq : Binds K A.dEq ["self", "other"] []
  ne_ : Fun K "__ne__" "Ratio.__ne__" sNe A.fNe A.dNe
  bNe : Binds K A.dNe ["self", "other"] []
  lt_ : Fun K "__lt__" "Ratio.__lt__" sLt A.fLt A.dLt
  bLt : Binds K A.dLt ["self", "other"] []
  le_ : Fun K "__le__" "Ratio.__le__" sLe A.fLe A.dLe
  bLe : Binds K A.dLe ["self", "other"] []
  gt_ : Fun K "__gt__" "Ratio.__gt__" sGt A.fGt A.dGt
  bGt : Binds K A.dGt ["self", "other"] []
  ge_ : Fun K "__ge__" "Ratio.__ge__" sGe A.fGe A.dGe
  bGe : Binds K A.dGe ["self", "other"] []
  bool_ : Fun K "__bool__" "Ratio.__bool__" sBool A.fBool A.dBool
  bBool : Binds K A.dBool ["self"] []
  str_ : Fun K "__str__" "Ratio.__str__" sStr A.fStr A.dStr
  bStr : Binds K A.dStr ["self"] []
  oEq : OwnC K C A.fEq .Eq
  oNe : OwnC K C A.fNe .NotEq
  oLt : OwnC K C A.fLt .Lt
  oLe : OwnC K C A.fLe .LtE
  oGt : OwnC K C A.fGt .Gt
  oGe : OwnC K C A.fGe .GtE
  mBool : Meth K C "__bool__" A.fBool
  mStr : Meth K C "__str__" A.fStr
  draw : Df K mg "_law_draw" sDraw A.fDraw A.dDraw ["_law_stream", "_law_many"]
  start : Df K mg "_law_start" sStart A.fStart A.dStart ["_law_script"]
  same : Df K mg "_law_same" sSame A.fSame A.dSame ["_law_found", "_law_due_here"]
  number : Df K mg "_law_m_number" sNumber A.fNumber A.dNumber ["_law_stream"]
  divisor : Df K mg "_law_m_divisor" sDivisor A.fDivisor A.dDivisor ["_law_one", "_law_other"]
  compared : Df K mg "_law_compared" sCompared A.fCompared A.dCompared ["_law_one", "_law_other"]
  due : Df K mg "_law_due" sDue A.fDue A.dDue ["_law_gap"]
  text : Df K mg "_law_text" sText A.fText A.dText ["_law_high", "_law_low"]
def spLaw (K : PySem.W.Frag) : Sp := fun vs H Q _ => ∃ (a : Addr) (ns : List Int), vs = [.ref a] ∧ SqL K H a (ns.map V.int) ∧ ns.length ≤ 63 ∧ ∀ H', Q (.bl true) H'
theorem ifN {A B : Prop} {x : Int} (h1 : x ≠ 0 → A) (h2 : x = 0 → B) : if (!decide (V.int x = V.int 0)) = true then A else B := by
  by_cases h : x = 0
  · rw [decide_eq_true (by rw [h])]
    exact iteF (h2 h)
  · rw [decide_eq_false (fun z => h (by injection z))]
    exact iteT (h1 h)
section
variable {P : Program} {w : World} {K : PySem.W.Frag} {mg : Str → Option Value} {base : Heap} {C : Addr} {A : Adr}
theorem scLaw : FnScope ["_law_script", "_law_stream", "_law_high", "_law_other", "_law_whole", "_law_low", "_law_under", "_law_near", "_law_by", "_law_one", "_law_two", "_law_sign", "_law_gap", "_law_rest"] ["_law_script"] (defScope sLaw) := ⟨rfl, rfl, rfl, by decide +kernel, rfl, by decide +kernel, by decide +kernel⟩
theorem ok_law {f : Addr} {fd : FuncData} (F : Fun K "law" "law" sLaw f fd) (G : Prog K mg C A) : FnOk P w K mg base CX0 5 f fd ["_law_script"] (spLaw K) := by
  have L := G.L
  have T := L.T
  obtain ⟨ds, vd, bd⟩ := G.b1
  have GI : FnOk P w K mg base CX0 1 A.fI A.dI ["self", "top", "bottom"] (spInit C) := ok_init L.I T
  have GBool : FnOk P w K mg base CX0 1 A.fBool A.dBool ["self"] (spBool C) := ok_bool G.bool_ T
  have GStr : FnOk P w K mg base CX0 1 A.fStr A.dStr ["self"] (spStr C) := ok_str G.str_ T
  have GDraw : FnOk P w K mg base CX0 1 A.fDraw A.dDraw ["_law_stream", "_law_many"] spDraw := ok_draw G.draw.F T
  have GStart : FnOk P w K mg base CX0 1 A.fStart A.dStart ["_law_script"] (spStart K) := ok_start G.start.F T
  have GNumber : FnOk P w K mg base CX0 2 A.fNumber A.dNumber ["_law_stream"] spNumber := ok_number G.number.F T G.draw
  have GSame : FnOk P w K mg base CX0 2 A.fSame A.dSame ["_law_found", "_law_due_here"] (spSame 1) := ok_same G.same T 1
  have GDue : FnOk P w K mg base CX0 1 A.fDue A.dDue ["_law_gap"] spDue := ok_due G.due.F
  have GText : FnOk P w K mg base CX0 2 A.fText A.dText ["_law_high", "_law_low"] spText := ok_text G.text.F T G.divisor
  have GCompared : FnOk P w K mg base CX0 4 A.fCompared A.dCompared ["_law_one", "_law_other"] (spCompared C) := ok_compared G.compared.F L G.oEq G.eq_ G.bEq G.oNe G.ne_ G.bNe G.oLt G.lt_ G.bLt G.oLe G.le_ G.bLe G.oGt G.gt_ G.bGt G.oGe G.ge_ G.bGe
  refine F.ok scLaw (fun vs H Q E h => ?_) (fun cdv A0 outer s H vs Q E hr h => ?_)
  · obtain ⟨a, ns, rfl, _⟩ := h
    rfl
  · obtain ⟨a, ns, rfl, hS, hlen, k⟩ := h
    have hr4 : Room 4 _ := hr
    have hr3 : Room 3 _ := hr.mono (by decide)
    have hr2 : Room 2 _ := hr.mono (by decide)
    have hr1 : Room 1 _ := hr.mono (by decide)
    refine ⟨_, (pss_cons (ps_set (i := 1) scLaw.nd rfl (Or.inl rfl) (pe_call GStart hr1 rfl G.start.M G.start.F.kp G.start.B .nil pass0 (pa_cons (pv 0) pa_nil)))
      (pss_cons (ps_par (i := 2) (j := 3) (by rfl) scLaw.nd rfl rfl (by decide) rfl rfl (pa_cons (pe_call GNumber hr2 rfl G.number.M G.number.F.kp G.number.B .nil pass0 (pa_cons (pv 1) pa_nil)) (pa_cons (pe_call GNumber hr2 rfl G.number.M G.number.F.kp G.number.B .nil pass0 (pa_cons (pv 1) pa_nil)) pa_nil)) (by rfl))
      (pss_cons (ps_set (i := 4) scLaw.nd rfl (Or.inl rfl) (pe_call GNumber hr2 rfl G.number.M G.number.F.kp G.number.B .nil pass0 (pa_cons (pv 1) pa_nil)))
      (pss_cons (ps_par (i := 5) (j := 6) (by rfl) scLaw.nd rfl rfl (by decide) rfl rfl (pa_cons (pe_call GNumber hr2 rfl G.number.M G.number.F.kp G.number.B .nil pass0 (pa_cons (pv 1) pa_nil)) (pa_cons (pe_call GNumber hr2 rfl G.number.M G.number.F.kp G.number.B .nil pass0 (pa_cons (pv 1) pa_nil)) pa_nil)) (by rfl))
      (pss_cut (ps_par (i := 5) (j := 6) (by rfl) scLaw.nd rfl rfl (by decide) rfl rfl (pa_cons (pe_ifExp (pt_cmpR op_ne (pv 5) pe_int (nomark _)) (pv 5) pe_int) (pa_cons (pe_ifExp (pt_cmpR op_ne (pv 6) pe_int (nomark _)) (pv 6) (pe_un un_neg pe_int)) pa_nil)) (by rfl))
      (pss_cons (ps_set (i := 7) scLaw.nd rfl (Or.inl rfl) (pe_call GDraw hr1 rfl G.draw.M G.draw.F.kp G.draw.B .nil pass0 (pa_cons (pv 1) (pa_cons pe_int pa_nil))))
      (pss_cut (ps_if (pt_cmpR op_eq (pv 7) pe_int (nomark _)) (pss_cons (ps_set (i := 8) scLaw.nd rfl (Or.inl rfl) (pe_op op_add pe_int (pe_call GDraw hr1 rfl G.draw.M G.draw.F.kp G.draw.B .nil pass0 (pa_cons (pv 1) (pa_cons pe_int pa_nil))))) (pss_one (ps_par (i := 3) (j := 6) (by rfl) scLaw.nd rfl rfl (by decide) rfl rfl (pa_cons (pe_op op_sub (pe_op op_add (pe_op op_mulW (pv 2) (pv 8)) (pe_call GDraw hr1 rfl G.draw.M G.draw.F.kp G.draw.B .nil pass0 (pa_cons (pv 1) (pa_cons pe_int pa_nil)))) pe_int) (pa_cons (pe_op op_mulW (pv 5) (pv 8)) pa_nil)) (by rfl)))) pss_nil)
      (pss_cut (ps_if (pt_cmpR op_eq (pe_call GDraw hr1 rfl G.draw.M G.draw.F.kp G.draw.B .nil pass0 (pa_cons (pv 1) (pa_cons pe_int pa_nil))) pe_int (nomark _)) (pss_one (ps_set (i := 4) scLaw.nd rfl (Or.inl rfl) (pe_op op_fdivS (pv 2) (pv 5)))) pss_nil)
      (pss_cons (ps_par (i := 9) (j := 10) (by rfl) scLaw.nd rfl rfl (by decide) rfl rfl (pa_cons (pe_make L.M GI hr2 rfl T.mgC L.b2 .nil pass0 (pa_cons (pv 2) (pa_cons (pv 5) pa_nil))) (pa_cons (pe_make L.M GI hr2 rfl T.mgC L.b2 .nil pass0 (pa_cons (pv 3) (pa_cons (pv 6) pa_nil))) pa_nil)) (by rfl))
      (pss_cut (ps_set (i := 11) scLaw.nd rfl (Or.inl rfl) (pe_ifExp (pt_cmpR op_gt (pe_op op_mulW (pv 5) (pv 6)) pe_int (nomark _)) pe_int (pe_un un_neg pe_int)))
      (pss_cons (ps_set (i := 12) scLaw.nd rfl (Or.inl rfl) (pe_op op_mulW (pe_op op_sub (pe_op op_mulW (pv 2) (pv 6)) (pe_op op_mulW (pv 3) (pv 5))) (pv 11)))
      (pss_cons (ps_if (pt_not (pt_val (pe_call GSame hr2 rfl G.same.M G.same.F.kp G.same.B .nil pass0 (pa_cons (pe_call GCompared hr4 rfl G.compared.M G.compared.F.kp G.compared.B .nil pass0 (pa_cons (pv 9) (pa_cons (pv 10) pa_nil))) (pa_cons (pe_call GDue hr1 rfl G.due.M G.due.F.kp G.due.B .nil pass0 (pa_cons (pv 12) pa_nil)) pa_nil))))) pss_never pss_nil)
      (pss_cons (ps_if (pt_not (pt_val (pe_call GSame hr2 rfl G.same.M G.same.F.kp G.same.B .nil pass0 (pa_cons (pe_call GCompared hr4 rfl G.compared.M G.compared.F.kp G.compared.B .nil pass0 (pa_cons (pv 10) (pa_cons (pv 9) pa_nil))) (pa_cons (pe_call GDue hr1 rfl G.due.M G.due.F.kp G.due.B .nil pass0 (pa_cons (pe_un un_neg (pv 12)) pa_nil)) pa_nil))))) pss_never pss_nil)
      (pss_cut (ps_set (i := 13) scLaw.nd rfl (Or.inl rfl) (pe_op op_mulW (pe_op op_sub (pv 2) (pe_op op_mulW (pv 4) (pv 5))) (pe_ifExp (pt_cmpR op_gt (pv 5) pe_int (nomark _)) pe_int (pe_un un_neg pe_int))))
      (pss_cons (ps_if (pt_not (pt_val (pe_call GSame hr2 rfl G.same.M G.same.F.kp G.same.B .nil pass0 (pa_cons (pe_call GCompared hr4 rfl G.compared.M G.compared.F.kp G.compared.B .nil pass0 (pa_cons (pv 9) (pa_cons (pv 4) pa_nil))) (pa_cons (pe_call GDue hr1 rfl G.due.M G.due.F.kp G.due.B .nil pass0 (pa_cons (pv 13) pa_nil)) pa_nil))))) pss_never pss_nil)
      (pss_cons (ps_if (pt_not (pt_val (pe_call GSame hr2 rfl G.same.M G.same.F.kp G.same.B .nil pass0 (pa_cons (pe_call GCompared hr4 rfl G.compared.M G.compared.F.kp G.compared.B .nil pass0 (pa_cons (pv 9) (pa_cons (pv 9) pa_nil))) (pa_cons (pe_call GDue hr1 rfl G.due.M G.due.F.kp G.due.B .nil pass0 (pa_cons pe_int pa_nil)) pa_nil))))) pss_never pss_nil)
      (pss_cons (ps_if (PW.pt (pw_or (pt_cmpR op_ne (pe_callTy (call_boolOwn G.mBool.at_ G.mBool.fn GBool hr3 G.bBool pass0) (by rfl) T.bool_ boot_bool' (pa_cons (pv 9) pa_nil)) (pe_cmpR op_ne (pv 2) pe_int (nomark _)) (nomark _)) (pw_or1 (pt_val (pe_callTy (call_boolOwn G.mBool.at_ G.mBool.fn GBool hr3 G.bBool pass0) (by rfl) T.bool_ boot_bool' (pa_cons (pe_make L.M GI hr2 rfl T.mgC L.b2 .nil pass0 (pa_cons pe_int (pa_cons (pv 6) pa_nil))) pa_nil)))))) pss_never pss_nil)
      (pss_cons (ps_if (PW.pt (pw_or (pt_cmpR op_ne (pe_callTy (call_strOwn G.mStr.at_ G.mStr.fn GStr hr3 G.bStr pass0) (by rfl) T.str_ boot_str' (pa_cons (pv 9) pa_nil)) (pe_call GText hr2 rfl G.text.M G.text.F.kp G.text.B .nil pass0 (pa_cons (pv 2) (pa_cons (pv 5) pa_nil))) (nomark _)) (pw_or1 (pt_cmpR op_ne (pe_callTy (call_strOwn G.mStr.at_ G.mStr.fn GStr hr3 G.bStr pass0) (by rfl) T.str_ boot_str' (pa_cons (pv 10) pa_nil)) (pe_call GText hr2 rfl G.text.M G.text.F.kp G.text.B .nil pass0 (pa_cons (pv 3) (pa_cons (pv 6) pa_nil))) (nomark _))))) pss_never pss_nil)
      (pss_one (ps_ret (pe_cmpR op_eq (pe_callTy (call_strOwn G.mStr.at_ G.mStr.fn GStr hr3 G.bStr pass0) (by rfl) T.str_ boot_str' (pa_cons (pe_make L.M GI hr2 rfl T.mgC bd vd pass0 (pa_cons (pv 4) pa_nil)) pa_nil)) (pe_callTy call_str_int (by rfl) T.str_ boot_str' (pa_cons (pv 4) pa_nil)) (nomark _)))))))))))))))))))))), ?_⟩
    refine ⟨_, rfl, a, ns, rfl, hS, hlen, fun sa sl H1 S1 _ _ _ => ?_⟩
    refine ⟨_, rfl, sa, sl, 0, rfl, S1, by decide, fun h H2 sh S2 _ => ?_⟩
    refine ⟨_, rfl, sa, sl, _, rfl, S2, by decide, fun o0 H3 so0 S3 _ => ⟨_, _, rfl, ?_⟩⟩
    refine ⟨_, rfl, sa, sl, _, rfl, S3, by decide, fun w0 H4 sw0 S4 _ => ?_⟩
    refine ⟨_, rfl, sa, sl, _, rfl, S4, by decide, fun l0 H5 sl0 S5 _ => ?_⟩
    refine ⟨_, rfl, sa, sl, _, rfl, S5, by decide, fun u0 H6 su0 S6 _ => ⟨_, _, rfl, ?_⟩⟩
    refine ⟨fun σ' H' => ∃ l u, l ≠ 0 ∧ u ≠ 0 ∧ Sm 135 l ∧ Sm 135 u ∧ σ' = [some (.ref a), some (.ref sa), some (.int h), some (.int o0), some (.int w0), some (.int l), some (.int u), none, none, none, none, none, none, none] ∧ StreamAt H' sa sl 10, ?_, ?_⟩
    · have s4 : Sm 135 4 := Sm.mono (n := 3) (by decide) (by decide)
      have s5 : Sm 135 (-5) := Sm.mono (n := 3) (by decide) (by decide)
      refine ⟨_, rfl, rfl, _, rfl, ifN (fun hl => ?_) (fun hl => ?_)⟩
      · refine ⟨_, rfl, _, rfl, rfl, _, rfl, ifN (fun hu => ?_) (fun hu => ?_)⟩
        · exact ⟨_, rfl, _, _, rfl, l0, u0, hl, hu, sl0, su0, rfl, S6⟩
        · exact ⟨_, rfl, _, _, rfl, l0, -5, hl, by decide, sl0, s5, rfl, S6⟩
      · refine ⟨_, rfl, rfl, _, rfl, ifN (fun hu => ?_) (fun hu => ?_)⟩
        · exact ⟨_, rfl, _, _, rfl, 4, u0, by decide, hu, s4, su0, rfl, S6⟩
        · exact ⟨_, rfl, _, _, rfl, 4, -5, by decide, by decide, s4, s5, rfl, S6⟩
    rintro _ H7 ⟨l, u1, hl, hu1, sl', su1, rfl, S7⟩
    refine ⟨_, rfl, sa, sl, 10, 3, rfl, S7, by decide, by decide, sm_small (by decide), fun nr H8 _ _ S8 _ => ?_⟩
    refine ⟨fun σ' H' => ∃ (o u : Int) (near by' : Option V) (n : Nat), u ≠ 0 ∧ Sm 150 o ∧ Sm 150 u ∧ n ≤ 90000 ∧ σ' = [some (.ref a), some (.ref sa), some (.int h), some (.int o), some (.int w0), some (.int l), some (.int u), near, by', none, none, none, none, none] ∧ StreamAt H' sa sl n, ?_, ?_⟩
    · refine ⟨_, rfl, rfl, _, rfl, ifD_2 (fun _ => ?_) (fun _ => ⟨o0, u1, _, _, 11, hu1, so0.mono (by decide), su1.mono (by decide), by decide, rfl, S8⟩)⟩
      refine ⟨_, rfl, sa, sl, 11, 1000, rfl, S8, by decide, by decide, sm9000 (n := 10) (by decide) (by decide), fun r H9 q0 q1 S9 _ => ⟨_, _, rfl, rfl, ?_⟩⟩
      have sby : Sm 11 (1 + r) := by
        show (1 + r).natAbs < 2 ^ 11
        omega
      refine ⟨_, rfl, _, rfl, _, _, rfl, rfl, mulw sh sby (by decide) (by decide) (by decide), ?_⟩
      refine ⟨_, rfl, sa, sl, 12, 3, rfl, S9, by decide, by decide, sm_small (by decide), fun r2 H10 q2 q3 S10 _ => ⟨_, _, rfl, rfl, _, _, rfl, rfl, ?_⟩⟩
      refine ⟨_, rfl, _, rfl, _, _, rfl, rfl, mulw sl' sby (by decide) (by decide) (by decide), _, _, rfl, ?_⟩
      have s3 : Sm 147 r2 := Sm.mono (n := 2) (by show r2.natAbs < 2 ^ 2; omega) (by decide)
      refine ⟨h * (1 + r) + r2 - 1, l * (1 + r), _, _, 13, Int.mul_ne_zero hl (by omega), ?_, sl'.mul sby (by decide), by decide, rfl, S10⟩
      exact (((sh.mul sby (by decide) : Sm 147 (h * (1 + r))).add s3 (Nat.le_refl _)).sub (Sm.one (by decide)) (by decide))
    rintro _ H11 ⟨o, u, near, by', n, hu, so, su, hn, rfl, S11⟩
    refine ⟨fun σ' H' => ∃ (w : Int), Sm 135 w ∧ σ' = [some (.ref a), some (.ref sa), some (.int h), some (.int o), some (.int w), some (.int l), some (.int u), near, by', none, none, none, none, none], ?_, ?_⟩
    · refine ⟨_, rfl, sa, sl, n, 3, rfl, S11, by omega, by decide, sm_small (by decide), fun r H12 _ _ S12 _ => ⟨rfl, _, rfl, ifD_2 (fun _ => ?_) (fun _ => ⟨w0, sw0, rfl⟩)⟩⟩
      exact ⟨_, rfl, _, rfl, _, _, rfl, rfl, ⟨hl, Nat.lt_of_lt_of_le (PySem.Flt.log2_lt_of (by decide) sl') (by decide)⟩, h.fdiv l, sh.le (Int.natAbs_fdiv_le_natAbs h l), rfl⟩
    clear S11
    rintro _ H13 ⟨w, sw, rfl⟩
    refine ⟨_, rfl, _, rfl, fun p1 dx1 n1 nd1 ne1 => ⟨p1, dx1, h, l, rfl, hl, sl'.mono (by decide), upd_same, fun T1 B1 H14 lw1 e1 le1 le2 ho1 kp1 => ⟨rfl, ?_⟩⟩⟩
    have r0 : RatAt C H14 p1 T1 B1 := ⟨lw1, dx1, ho1⟩
    refine ⟨_, rfl, _, rfl, fun p2 dx2 n2 nd2 ne2 => ⟨p2, dx2, o, u, rfl, hu, su.mono (by decide), upd_same, fun T2 B2 H15 lw2 e2 le3 le4 ho2 kp2 => ⟨rfl, _, _, rfl, ?_⟩⟩⟩
    have r1 : RatAt C H15 p1 T1 B1 := r0.same (Same.made n2 nd2 kp2)
    have r2 : RatAt C H15 p2 T2 B2 := ⟨lw2, dx2, ho2⟩
    have c1 : Sm 300 T1 := (sh.le le1).mono (by decide)
    have d1 : Sm 300 B1 := (sl'.le le2).mono (by decide)
    have c2 : Sm 300 T2 := (so.le le3).mono (by decide)
    have d2 : Sm 300 B2 := (su.le le4).mono (by decide)
    have a1 : Sm 2000 T1 := c1.mono (by decide)
    have b1 : Sm 2000 B1 := d1.mono (by decide)
    have a2 : Sm 2000 T2 := c2.mono (by decide)
    have b2 : Sm 2000 B2 := d2.mono (by decide)
    refine ⟨fun σ' H' => ∃ sg : Int, ((0 < l * u ∧ sg = 1) ∨ (¬ 0 < l * u ∧ sg = -1)) ∧ σ' = [some (.ref a), some (.ref sa), some (.int h), some (.int o), some (.int w), some (.int l), some (.int u), near, by', some (.ref p1), some (.ref p2), some (.int sg), none, none] ∧ RatAt C H' p1 T1 B1 ∧ RatAt C H' p2 T2 B2, ?_, ?_⟩
    · refine ⟨_, rfl, _, rfl, _, _, rfl, rfl, mulw sl' su (by decide) (by decide) (by decide), _, _, rfl, rfl, _, rfl, ifD_2 (fun hp => ?_) (fun hp => ?_)⟩
      · exact ⟨1, .inl ⟨hp, rfl⟩, rfl, r1, r2⟩
      · exact ⟨_, rfl, -1, .inr ⟨hp, rfl⟩, rfl, r1, r2⟩
    clear r0 r1 r2 ho1 kp1 ho2 kp2
    rintro _ H16 ⟨sg, hsg, rfl, r1, r2⟩
    have hlu : l * u ≠ 0 := Int.mul_ne_zero hl hu
    have ssg : Sm 2 sg := by
      rcases hsg with ⟨_, rfl⟩ | ⟨_, rfl⟩ <;> decide
    have sdif : Sm 286 (h * u - o * l) := ((sh.mul su (Nat.le_refl _)).sub (so.mul sl' (by decide)) (by decide))
    have pos1 := sg_pos hlu hsg
    have pB : 0 < B1 * B2 := Int.mul_pos r1.low.pos r2.low.pos
    have pB' : 0 < B2 * B1 := Int.mul_pos r2.low.pos r1.low.pos
    refine ⟨_, rfl, _, rfl, _, _, rfl, rfl, mulw sh su (by decide) (by decide) (by decide), _, rfl, _, rfl, _, _, rfl, rfl, mulw so sl' (by decide) (by decide) (by decide), _, _, rfl, rfl, _, rfl, _, _, rfl, rfl, mulw sdif ssg (by decide) (by decide) (by decide), ?_⟩
    -- one and two
    refine ⟨_, rfl, _, rfl, p1, .ref p2, T1, B1, T2, B2, rfl, r1, .inr ⟨p2, rfl, r2⟩, a1, b1, a2, b2, fun q1 hq1 => ?_⟩
    refine ⟨_, rfl, _, rfl, fun q2 hq2 => ?_⟩
    refine ⟨_, _, rfl, .lst ((Same.new hq2) _ _ upd_same) upd_same (by rfl) (by show 6 ≤ sizeLine; decide) (six_two (six_of pos1 pB (g_two e1 e2))), fun H17 s17 => ⟨_, rfl, iteF ?_⟩⟩
    have m17 := ((Same.new hq1).trans (Same.new hq2)).trans s17
    have r1a := r1.same m17
    have r2a := r2.same m17
    refine ⟨_, rfl, _, rfl, p2, .ref p1, T2, B2, T1, B1, rfl, r2a, .inr ⟨p1, rfl, r1a⟩, a2, b2, a1, b1, fun q3 hq3 => ?_⟩
    refine ⟨_, rfl, _, rfl, _, rfl, fun q4 hq4 => ?_⟩
    refine ⟨_, _, rfl, .lst ((Same.new hq4) _ _ upd_same) upd_same (by rfl) (by show 6 ≤ sizeLine; decide) (six_two (six_of pos1 pB' (g_two' e1 e2))), fun H18 s18 => ⟨_, rfl, iteF ?_⟩⟩
    have m18 := ((Same.new hq3).trans (Same.new hq4)).trans s18
    have r1b := r1a.same m18
    have r2b := r2a.same m18
    -- rest
    refine ⟨fun σ' H' => ∃ sg' : Int, ((0 < l ∧ sg' = 1) ∨ (¬ 0 < l ∧ sg' = -1)) ∧ σ' = [some (.ref a), some (.ref sa), some (.int h), some (.int o), some (.int w), some (.int l), some (.int u), near, by', some (.ref p1), some (.ref p2), some (.int sg), some (.int ((h * u - o * l) * sg)), some (.int ((h - w * l) * sg'))] ∧ RatAt C H' p1 T1 B1 ∧ RatAt C H' p2 T2 B2, ?_, ?_⟩
    · have sd : Sm 271 (h - w * l) := (sh.mono (by decide) : Sm 270 h).sub (sw.mul sl' (by decide)) (by decide)
      refine ⟨_, rfl, _, rfl, _, rfl, _, _, rfl, rfl, mulw sw sl' (by decide) (by decide) (by decide), _, _, rfl, rfl, _, rfl, _, _, rfl, rfl, _, rfl, ifD_2 (fun hp => ?_) (fun hp => ?_)⟩
      · exact ⟨_, _, rfl, rfl, mulw (m := 2) sd (by decide) (by decide) (by decide) (by decide), 1, .inl ⟨hp, rfl⟩, rfl, r1b, r2b⟩
      · exact ⟨_, rfl, _, _, rfl, rfl, mulw (m := 2) sd (by decide) (by decide) (by decide) (by decide), -1, .inr ⟨hp, rfl⟩, rfl, r1b, r2b⟩
    clear r1 r2 r1a r2a r1b r2b
    rintro _ H19 ⟨sg', hsg', rfl, r1, r2⟩
    have pos2 := sg_pos hl hsg'
    -- one and whole
    refine ⟨_, rfl, _, rfl, p1, .int w, T1, B1, w, 1, rfl, r1, .inl ⟨rfl, rfl⟩, a1, b1, sw.mono (by decide), Sm.one (by decide), fun q5 hq5 => ?_⟩
    refine ⟨_, rfl, _, rfl, fun q6 hq6 => ?_⟩
    refine ⟨_, _, rfl, .lst ((Same.new hq6) _ _ upd_same) upd_same (by rfl) (by show 6 ≤ sizeLine; decide) (six_two (six_of pos2 r1.low.pos (g_one e1))), fun H20 s20 => ⟨_, rfl, iteF ?_⟩⟩
    have m20 := ((Same.new hq5).trans (Same.new hq6)).trans s20
    have r1c := r1.same m20
    have r2c := r2.same m20
    -- one and one
    refine ⟨_, rfl, _, rfl, p1, .ref p1, T1, B1, T1, B1, rfl, r1c, .inr ⟨p1, rfl, r1c⟩, a1, b1, a1, b1, fun q7 hq7 => ?_⟩
    refine ⟨0, rfl, fun q8 hq8 => ?_⟩
    refine ⟨_, _, rfl, .lst ((Same.new hq8) _ _ upd_same) upd_same (by rfl) (by show 6 ≤ sizeLine; decide) (six_two (congrArg six (Int.sub_self _))), fun H21 s21 => ⟨_, rfl, iteF ?_⟩⟩
    have m21 := ((Same.new hq7).trans (Same.new hq8)).trans s21
    have r1d := r1c.same m21
    have r2d := r2c.same m21
    -- truth
    obtain ⟨dx3, o3⟩ := r1d.ob
    have hT : (T1 != 0) = !decide (V.int h = V.int 0) := by
      rw [dec_int]
      show (!(T1 == 0)) = !(h == 0)
      congr 1
      by_cases z : h = 0
      · have : T1 = 0 := by
          rw [z, Int.zero_mul] at e1
          exact (Int.mul_eq_zero.mp e1).resolve_right hl
        rw [z, this]
      · have : T1 ≠ 0 := fun q => by
          rw [q, Int.zero_mul] at e1
          exact Int.mul_ne_zero z r1d.low.ne e1.symm
        rw [beq_eq_false_iff_ne.mpr z, beq_eq_false_iff_ne.mpr this]
    refine ⟨_, rfl, p1, dx3, _, rfl, o3, p1, T1, B1, rfl, r1d, _, rfl, _, rfl, rfl, rfl, _, rfl, ?_⟩
    rw [hT]
    refine iteNS rfl ?_
    refine ⟨_, rfl, fun p4 dx4 n4 nd4 ne4 => ⟨p4, dx4, 0, u, rfl, hu, su.mono (by decide), upd_same, fun T4 B4 H22 lw4 e4 le7 le8 ho4 kp4 => ⟨rfl, ?_⟩⟩⟩
    have m22 : Same H21 H22 := Same.made n4 nd4 kp4
    have z4 : T4 = 0 := by
      rw [Int.zero_mul] at e4
      exact (Int.mul_eq_zero.mp e4).resolve_right hu
    subst z4
    refine ⟨p4, dx4, _, rfl, ho4, p4, 0, B4, rfl, ⟨lw4, dx4, ho4⟩, _, rfl, _, rfl, iteF ?_⟩
    have r1e := r1d.same m22
    have r2e := r2d.same m22
    obtain ⟨dx5, o5⟩ := r1e.ob
    obtain ⟨dx6, o6⟩ := r2e.ob
    -- texts
    refine ⟨_, rfl, p1, dx5, _, rfl, o5, p1, T1, B1, rfl, r1e, c1, d1, _, rfl, _, rfl, _, rfl, h, l, rfl, hl, sh.mono (by decide), sl'.mono (by decide), rfl, _, rfl, ?_⟩
    rw [txt_of hl r1e.low e1]
    refine iteNS rfl ?_
    refine ⟨_, rfl, p2, dx6, _, rfl, o6, p2, T2, B2, rfl, r2e, c2, d2, _, rfl, _, rfl, _, rfl, o, u, rfl, hu, so.mono (by decide), su.mono (by decide), rfl, _, rfl, ?_⟩
    rw [txt_of hu r2e.low e2]
    refine iteNS rfl ?_
    refine ⟨_, rfl, fun p7 dx7 n7 nd7 ne7 => ⟨p7, dx7, w, 1, rfl, by decide, Sm.one (by decide), upd_same, fun T7 B7 H23 lw7 e7 le9 le10 ho7 kp7 => ⟨rfl, ?_⟩⟩⟩
    obtain ⟨w1, w2⟩ := lw7.uniq (low_one w) e7
    subst w1
    subst w2
    refine ⟨p7, dx7, _, rfl, ho7, p7, _, 1, rfl, ⟨lw7, dx7, ho7⟩, sw.mono (by decide), Sm.one (by decide), _, rfl, _, rfl, _, rfl, log1920 (sw.mono (by decide)), rfl, ?_⟩
    show Q (V.bl (decide (V.str (txt _ 1) = V.str (Str.ofString (toString _))))) H23
    rw [decide_eq_true (by unfold txt; rw [if_pos rfl])]
    exact k _
end
end PA

set_option maxHeartbeats 8000000
namespace PA
open PySem L2 RZ
theorem kit_self {K : PySem.W.Frag} {C : Addr} : PySem.W.kitOne K (.ref C) (.ref C) = some true := by
  unfold PySem.W.kitOne
  rw [if_pos (by simp)]
theorem kit_int {K : PySem.W.Frag} {C : Addr} (h2 : PySem.W.isClsIn K C = true) (h3 : PySem.W.typeIn K (.ref C) = some (.type "type")) (h4 : PySem.W.subIn K (.type "int") (.ref C) = some false) : PySem.W.kitOne K (.type "int") (.ref C) = some false := by
  have e2 : ((PySem.W.clsIn K C).isSome && PySem.W.typeIn K (.ref C) == some (.type "type")) = true := by
    have h2' : (PySem.W.clsIn K C).isSome = true := h2
    rw [h2', h3] <;> rfl
  unfold PySem.W.kitOne
  rw [if_neg (by simp)]
  show (if ((PySem.W.clsIn K C).isSome && PySem.W.typeIn K (.ref C) == some (.type "type")) = true then PySem.W.subIn K (.type "int") (.ref C) else none) = some false
  rw [if_pos e2]
  exact h4
theorem bI2_of {K : PySem.W.Frag} {f : Addr} {fd : FuncData} (F : FunI K f fd) : Binds K fd ["self", "top", "bottom"] [] := by
  obtain ⟨ds, hv, hb⟩ := F.binds1 (ps := ["self", "top", "bottom"]) 3 1 (by simp) rfl (fun T kV doc pm an cdv ct us its h1 h2 => match us, h1, its, h2 with | [_, _, _], _, [_], _ => ⟨_, rfl, rfl⟩)
  cases hv
  exact hb
theorem all_mk {l : PySem.W.OpenLaw} {w : World} {K : PySem.W.Frag} {h : Heap} {mg : Str → Option Value} {fa C TT gI gLaw gEq gNe gLt gLe gGt gGe gBool gStr g1 g2 g3 g4 g5 gDraw gStart gSame gNumber gDivisor gCompared gDue gText : Addr} (X : K.In h) (G : h.Ns mainGlobals mg) (hfa : mg "law" = some (.ref fa))
    {ocI kVI dcI pmI cdI ctI : Value} {odI anI : Option Addr} {slI : Array (Option Value)} {oT : Value} {odT : Option Addr} {tkT : Tok} {mT : Nat} {slT : Array (Option Value)} {ocEq kVEq dcEq pmEq cdEq ctEq : Value} {odEq anEq : Option Addr} {slEq : Array (Option Value)} {ocNe kVNe dcNe pmNe cdNe ctNe : Value} {odNe anNe : Option Addr} {slNe : Array (Option Value)} {ocLt kVLt dcLt pmLt cdLt ctLt : Value} {odLt anLt : Option Addr} {slLt : Array (Option Value)} {ocLe kVLe dcLe pmLe cdLe ctLe : Value} {odLe anLe : Option Addr} {slLe : Array (Option Value)} {ocGt kVGt dcGt pmGt cdGt ctGt : Value} {odGt anGt : Option Addr} {slGt : Array (Option Value)} {ocGe kVGe dcGe pmGe cdGe ctGe : Value} {odGe anGe : Option Addr} {slGe : Array (Option Value)} {ocBool kVBool dcBool pmBool cdBool ctBool : Value} {odBool anBool : Option Addr} {slBool : Array (Option Value)} {ocStr kVStr dcStr pmStr cdStr ctStr : Value} {odStr anStr : Option Addr} {slStr : Array (Option Value)} {oc1 kV1 dc1 pm1 cd1 ct1 : Value} {od1 an1 : Option Addr} {sl1 : Array (Option Value)} {oc2 kV2 dc2 pm2 cd2 ct2 : Value} {od2 an2 : Option Addr} {sl2 : Array (Option Value)} {oc3 kV3 dc3 pm3 cd3 ct3 : Value} {od3 an3 : Option Addr} {sl3 : Array (Option Value)} {oc4 kV4 dc4 pm4 cd4 ct4 : Value} {od4 an4 : Option Addr} {sl4 : Array (Option Value)} {oc5 kV5 dc5 pm5 cd5 ct5 : Value} {od5 an5 : Option Addr} {sl5 : Array (Option Value)} {ocDraw kVDraw dcDraw pmDraw cdDraw ctDraw : Value} {odDraw anDraw : Option Addr} {slDraw : Array (Option Value)} {ocStart kVStart dcStart pmStart cdStart ctStart : Value} {odStart anStart : Option Addr} {slStart : Array (Option Value)} {ocSame kVSame dcSame pmSame cdSame ctSame : Value} {odSame anSame : Option Addr} {slSame : Array (Option Value)} {ocNumber kVNumber dcNumber pmNumber cdNumber ctNumber : Value} {odNumber anNumber : Option Addr} {slNumber : Array (Option Value)} {ocDivisor kVDivisor dcDivisor pmDivisor cdDivisor ctDivisor : Value} {odDivisor anDivisor : Option Addr} {slDivisor : Array (Option Value)} {ocCompared kVCompared dcCompared pmCompared cdCompared ctCompared : Value} {odCompared anCompared : Option Addr} {slCompared : Array (Option Value)} {ocDue kVDue dcDue pmDue cdDue ctDue : Value} {odDue anDue : Option Addr} {slDue : Array (Option Value)} {ocText kVText dcText pmText cdText ctText : Value} {odText anText : Option Addr} {slText : Array (Option Value)} {ocLaw kVLaw dcLaw pmLaw cdLaw ctLaw : Value} {odLaw anLaw : Option Addr} {slLaw : Array (Option Value)}
    (aC : PySem.W.nsIn K mainGlobals "Ratio" = some (some (.ref C)))
    (aI : PySem.W.findIn K (.ref C) "__init__" = some (some (.ref gI)))
    (lI : K.lookup gI = some ⟨ocI, odI, .func (PySem.W.fnOf "__init__" "Ratio.__init__" (defArgs sInit) (defBody sInit) (defScope sInit) (.ref TT) kVI dcI pmI anI cdI ctI), slI⟩)
    (cI : PySem.W.codeIn K cdI "Ratio.__init__" = true)
    (kI : PySem.W.keepIn K (.ref gI) = true)
    (lT : K.lookup TT = some ⟨oT, odT, .seq #[.int 1 tkT] mT, slT⟩)
    (iI : PySem.W.isFn K (.ref gI) = true)
    (aEq : PySem.W.findIn K (.ref C) "__eq__" = some (some (.ref gEq)))
    (lEq : K.lookup gEq = some ⟨ocEq, odEq, .func (PySem.W.fnOf "__eq__" "Ratio.__eq__" (defArgs sEq) (defBody sEq) (defScope sEq) .none kVEq dcEq pmEq anEq cdEq ctEq), slEq⟩)
    (cEq : PySem.W.codeIn K cdEq "Ratio.__eq__" = true)
    (kEq : PySem.W.keepIn K (.ref gEq) = true)
    (iEq : PySem.W.isFn K (.ref gEq) = true)
    (aNe : PySem.W.findIn K (.ref C) "__ne__" = some (some (.ref gNe)))
    (lNe : K.lookup gNe = some ⟨ocNe, odNe, .func (PySem.W.fnOf "__ne__" "Ratio.__ne__" (defArgs sNe) (defBody sNe) (defScope sNe) .none kVNe dcNe pmNe anNe cdNe ctNe), slNe⟩)
    (cNe : PySem.W.codeIn K cdNe "Ratio.__ne__" = true)
    (kNe : PySem.W.keepIn K (.ref gNe) = true)
    (iNe : PySem.W.isFn K (.ref gNe) = true)
    (aLt : PySem.W.findIn K (.ref C) "__lt__" = some (some (.ref gLt)))
    (lLt : K.lookup gLt = some ⟨ocLt, odLt, .func (PySem.W.fnOf "__lt__" "Ratio.__lt__" (defArgs sLt) (defBody sLt) (defScope sLt) .none kVLt dcLt pmLt anLt cdLt ctLt), slLt⟩)
    (cLt : PySem.W.codeIn K cdLt "Ratio.__lt__" = true)
    (kLt : PySem.W.keepIn K (.ref gLt) = true)
    (iLt : PySem.W.isFn K (.ref gLt) = true)
    (aLe : PySem.W.findIn K (.ref C) "__le__" = some (some (.ref gLe)))
    (lLe : K.lookup gLe = some ⟨ocLe, odLe, .func (PySem.W.fnOf "__le__" "Ratio.__le__" (defArgs sLe) (defBody sLe) (defScope sLe) .none kVLe dcLe pmLe anLe cdLe ctLe), slLe⟩)
    (cLe : PySem.W.codeIn K cdLe "Ratio.__le__" = true)
    (kLe : PySem.W.keepIn K (.ref gLe) = true)
    (iLe : PySem.W.isFn K (.ref gLe) = true)
    (aGt : PySem.W.findIn K (.ref C) "__gt__" = some (some (.ref gGt)))
    (lGt : K.lookup gGt = some ⟨ocGt, odGt, .func (PySem.W.fnOf "__gt__" "Ratio.__gt__" (defArgs sGt) (defBody sGt) (defScope sGt) .none kVGt dcGt pmGt anGt cdGt ctGt), slGt⟩)
    (cGt : PySem.W.codeIn K cdGt "Ratio.__gt__" = true)
    (kGt : PySem.W.keepIn K (.ref gGt) = true)
    (iGt : PySem.W.isFn K (.ref gGt) = true)
    (aGe : PySem.W.findIn K (.ref C) "__ge__" = some (some (.ref gGe)))
    (lGe : K.lookup gGe = some ⟨ocGe, odGe, .func (PySem.W.fnOf "__ge__" "Ratio.__ge__" (defArgs sGe) (defBody sGe) (defScope sGe) .none kVGe dcGe pmGe anGe cdGe ctGe), slGe⟩)
    (cGe : PySem.W.codeIn K cdGe "Ratio.__ge__" = true)
    (kGe : PySem.W.keepIn K (.ref gGe) = true)
    (iGe : PySem.W.isFn K (.ref gGe) = true)
    (aBool : PySem.W.findIn K (.ref C) "__bool__" = some (some (.ref gBool)))
    (lBool : K.lookup gBool = some ⟨ocBool, odBool, .func (PySem.W.fnOf "__bool__" "Ratio.__bool__" (defArgs sBool) (defBody sBool) (defScope sBool) .none kVBool dcBool pmBool anBool cdBool ctBool), slBool⟩)
    (cBool : PySem.W.codeIn K cdBool "Ratio.__bool__" = true)
    (kBool : PySem.W.keepIn K (.ref gBool) = true)
    (iBool : PySem.W.isFn K (.ref gBool) = true)
    (aStr : PySem.W.findIn K (.ref C) "__str__" = some (some (.ref gStr)))
    (lStr : K.lookup gStr = some ⟨ocStr, odStr, .func (PySem.W.fnOf "__str__" "Ratio.__str__" (defArgs sStr) (defBody sStr) (defScope sStr) .none kVStr dcStr pmStr anStr cdStr ctStr), slStr⟩)
    (cStr : PySem.W.codeIn K cdStr "Ratio.__str__" = true)
    (kStr : PySem.W.keepIn K (.ref gStr) = true)
    (iStr : PySem.W.isFn K (.ref gStr) = true)
    (a1 : PySem.W.nsIn K mainGlobals "is_integer" = some (some (.ref g1)))
    (l1 : K.lookup g1 = some ⟨oc1, od1, .func (PySem.W.fnOf "is_integer" "is_integer" (defArgs sIsInt) (defBody sIsInt) (defScope sIsInt) .none kV1 dc1 pm1 an1 cd1 ct1), sl1⟩)
    (c1 : PySem.W.codeIn K cd1 "is_integer" = true)
    (k1 : PySem.W.keepIn K (.ref g1) = true)
    (a2 : PySem.W.nsIn K mainGlobals "_is_number" = some (some (.ref g2)))
    (l2 : K.lookup g2 = some ⟨oc2, od2, .func (PySem.W.fnOf "_is_number" "_is_number" (defArgs sIsNum) (defBody sIsNum) (defScope sIsNum) .none kV2 dc2 pm2 an2 cd2 ct2), sl2⟩)
    (c2 : PySem.W.codeIn K cd2 "_is_number" = true)
    (k2 : PySem.W.keepIn K (.ref g2) = true)
    (a3 : PySem.W.nsIn K mainGlobals "_top" = some (some (.ref g3)))
    (l3 : K.lookup g3 = some ⟨oc3, od3, .func (PySem.W.fnOf "_top" "_top" (defArgs sTop) (defBody sTop) (defScope sTop) .none kV3 dc3 pm3 an3 cd3 ct3), sl3⟩)
    (c3 : PySem.W.codeIn K cd3 "_top" = true)
    (k3 : PySem.W.keepIn K (.ref g3) = true)
    (a4 : PySem.W.nsIn K mainGlobals "_bottom" = some (some (.ref g4)))
    (l4 : K.lookup g4 = some ⟨oc4, od4, .func (PySem.W.fnOf "_bottom" "_bottom" (defArgs sBot) (defBody sBot) (defScope sBot) .none kV4 dc4 pm4 an4 cd4 ct4), sl4⟩)
    (c4 : PySem.W.codeIn K cd4 "_bottom" = true)
    (k4 : PySem.W.keepIn K (.ref g4) = true)
    (a5 : PySem.W.nsIn K mainGlobals "_gap" = some (some (.ref g5)))
    (l5 : K.lookup g5 = some ⟨oc5, od5, .func (PySem.W.fnOf "_gap" "_gap" (defArgs sGap) (defBody sGap) (defScope sGap) .none kV5 dc5 pm5 an5 cd5 ct5), sl5⟩)
    (c5 : PySem.W.codeIn K cd5 "_gap" = true)
    (k5 : PySem.W.keepIn K (.ref g5) = true)
    (aDraw : PySem.W.nsIn K mainGlobals "_law_draw" = some (some (.ref gDraw)))
    (lDraw : K.lookup gDraw = some ⟨ocDraw, odDraw, .func (PySem.W.fnOf "_law_draw" "_law_draw" (defArgs sDraw) (defBody sDraw) (defScope sDraw) .none kVDraw dcDraw pmDraw anDraw cdDraw ctDraw), slDraw⟩)
    (cDraw : PySem.W.codeIn K cdDraw "_law_draw" = true)
    (kDraw : PySem.W.keepIn K (.ref gDraw) = true)
    (aStart : PySem.W.nsIn K mainGlobals "_law_start" = some (some (.ref gStart)))
    (lStart : K.lookup gStart = some ⟨ocStart, odStart, .func (PySem.W.fnOf "_law_start" "_law_start" (defArgs sStart) (defBody sStart) (defScope sStart) .none kVStart dcStart pmStart anStart cdStart ctStart), slStart⟩)
    (cStart : PySem.W.codeIn K cdStart "_law_start" = true)
    (kStart : PySem.W.keepIn K (.ref gStart) = true)
    (aSame : PySem.W.nsIn K mainGlobals "_law_same" = some (some (.ref gSame)))
    (lSame : K.lookup gSame = some ⟨ocSame, odSame, .func (PySem.W.fnOf "_law_same" "_law_same" (defArgs sSame) (defBody sSame) (defScope sSame) .none kVSame dcSame pmSame anSame cdSame ctSame), slSame⟩)
    (cSame : PySem.W.codeIn K cdSame "_law_same" = true)
    (kSame : PySem.W.keepIn K (.ref gSame) = true)
    (aNumber : PySem.W.nsIn K mainGlobals "_law_m_number" = some (some (.ref gNumber)))
    (lNumber : K.lookup gNumber = some ⟨ocNumber, odNumber, .func (PySem.W.fnOf "_law_m_number" "_law_m_number" (defArgs sNumber) (defBody sNumber) (defScope sNumber) .none kVNumber dcNumber pmNumber anNumber cdNumber ctNumber), slNumber⟩)
    (cNumber : PySem.W.codeIn K cdNumber "_law_m_number" = true)
    (kNumber : PySem.W.keepIn K (.ref gNumber) = true)
    (aDivisor : PySem.W.nsIn K mainGlobals "_law_m_divisor" = some (some (.ref gDivisor)))
    (lDivisor : K.lookup gDivisor = some ⟨ocDivisor, odDivisor, .func (PySem.W.fnOf "_law_m_divisor" "_law_m_divisor" (defArgs sDivisor) (defBody sDivisor) (defScope sDivisor) .none kVDivisor dcDivisor pmDivisor anDivisor cdDivisor ctDivisor), slDivisor⟩)
    (cDivisor : PySem.W.codeIn K cdDivisor "_law_m_divisor" = true)
    (kDivisor : PySem.W.keepIn K (.ref gDivisor) = true)
    (aCompared : PySem.W.nsIn K mainGlobals "_law_compared" = some (some (.ref gCompared)))
    (lCompared : K.lookup gCompared = some ⟨ocCompared, odCompared, .func (PySem.W.fnOf "_law_compared" "_law_compared" (defArgs sCompared) (defBody sCompared) (defScope sCompared) .none kVCompared dcCompared pmCompared anCompared cdCompared ctCompared), slCompared⟩)
    (cCompared : PySem.W.codeIn K cdCompared "_law_compared" = true)
    (kCompared : PySem.W.keepIn K (.ref gCompared) = true)
    (aDue : PySem.W.nsIn K mainGlobals "_law_due" = some (some (.ref gDue)))
    (lDue : K.lookup gDue = some ⟨ocDue, odDue, .func (PySem.W.fnOf "_law_due" "_law_due" (defArgs sDue) (defBody sDue) (defScope sDue) .none kVDue dcDue pmDue anDue cdDue ctDue), slDue⟩)
    (cDue : PySem.W.codeIn K cdDue "_law_due" = true)
    (kDue : PySem.W.keepIn K (.ref gDue) = true)
    (aText : PySem.W.nsIn K mainGlobals "_law_text" = some (some (.ref gText)))
    (lText : K.lookup gText = some ⟨ocText, odText, .func (PySem.W.fnOf "_law_text" "_law_text" (defArgs sText) (defBody sText) (defScope sText) .none kVText dcText pmText anText cdText ctText), slText⟩)
    (cText : PySem.W.codeIn K cdText "_law_text" = true)
    (kText : PySem.W.keepIn K (.ref gText) = true)
    (aLaw : PySem.W.nsIn K mainGlobals "law" = some (some (.ref gLaw)))
    (lLaw : K.lookup gLaw = some ⟨ocLaw, odLaw, .func (PySem.W.fnOf "law" "law" (defArgs sLaw) (defBody sLaw) (defScope sLaw) .none kVLaw dcLaw pmLaw anLaw cdLaw ctLaw), slLaw⟩)
    (cLaw : PySem.W.codeIn K cdLaw "law" = true)
    (kLaw : PySem.W.keepIn K (.ref gLaw) = true)
    (pg : PySem.W.plainGet K C Str.empty = true)
    (hd : PySem.W.hasDictIn K C = true)
    (po : PySem.W.plainOver K C = true)
    (sa : PySem.W.findIn K (.ref C) "__setattr__" = some (some (.builtin "object.__setattr__")))
    (mk : PySem.W.makesIn K C = true)
    (kc : PySem.W.keepIn K (.ref C) = true)
    (nT : PySem.W.findIn K (.ref C) "top" = some none)
    (nB : PySem.W.findIn K (.ref C) "bottom" = some none)
    (gg : PySem.W.nsIn K mainGlobals "gcd" = some (some (.builtin "math.gcd")))
    (zisi : PySem.W.nsIn K mainGlobals "isinstance" = some none)
    (zint : PySem.W.nsIn K mainGlobals "int" = some none)
    (zboo : PySem.W.nsIn K mainGlobals "bool" = some none)
    (zabs : PySem.W.nsIn K mainGlobals "abs" = some none)
    (zlis : PySem.W.nsIn K mainGlobals "list" = some none)
    (zall : PySem.W.nsIn K mainGlobals "all" = some none)
    (zzip : PySem.W.nsIn K mainGlobals "zip" = some none)
    (zlen : PySem.W.nsIn K mainGlobals "len" = some none)
    (ztup : PySem.W.nsIn K mainGlobals "tuple" = some none)
    (zstr : PySem.W.nsIn K mainGlobals "str" = some none)
    (zZer : PySem.W.nsIn K mainGlobals "ZeroDivisionError" = some none)
    (q1 : PySem.W.findIn K (.ref C) "__class__" = some (some (.builtin "object.__class__")))
    (q2 : PySem.W.specialIn K (.builtin "object.__class__") "__get__" = some (some (.builtin "getset_descriptor.__get__")))
    (q3 : PySem.W.takesIn K (.builtin "object.__class__") = some true)
    (q4 : PySem.W.mroIn K C (.type "object") = some true)
    (iC : PySem.W.isClsIn K C = true)
    (tC : PySem.W.typeIn K (.ref C) = some (.type "type"))
    (sf : PySem.W.selfFirst K C = true)
    (s1 : PySem.W.subIn K (.type "int") (.ref C) = some false)
    (s2 : PySem.W.subIn K (.ref C) (.type "int") = some false) :
    ∃ fd : FuncData, (∀ (s : Shared) (v : Value), BindsTo s fd ⟨[v], []⟩ [("_law_script", v)]) ∧ ∀ base : Heap, K.In base → base.Ns mainGlobals mg → FnOk l.prog w K mg base CX0 5 fa fd ["_law_script"] (spLaw K) := by
  have e := hfa.symm.trans (PySem.W.mg_of X G aLaw)
  cases e
  have T : Txt K mg C := ⟨⟨pg, hd, po, sa⟩, nT, nB, PySem.W.mg_of X G aC, PySem.W.mg_none_of X G zisi, PySem.W.mg_none_of X G zint, PySem.W.mg_none_of X G zboo, PySem.W.mg_none_of X G zabs, PySem.W.mg_none_of X G zlis, PySem.W.mg_none_of X G zall, PySem.W.mg_none_of X G zzip, PySem.W.mg_none_of X G zlen, PySem.W.mg_none_of X G ztup, PySem.W.mg_none_of X G zstr, PySem.W.mg_none_of X G zZer, PySem.W.mg_of X G gg, q1, q2, q3, q4, kit_self, kit_int iC tC s1⟩
  have FI : FunI K gI (PySem.W.fnOf "__init__" "Ratio.__init__" (defArgs sInit) (defBody sInit) (defScope sInit) (.ref TT) kVI dcI pmI anI cdI ctI) := ⟨⟨_, _, _, _, _, _, _, _, _, _, rfl, lI, cI, .inr ⟨by simp, TT, _, [.int 1 tkT], mT, rfl, lT, rfl, .cons ⟨tkT, rfl⟩ .nil⟩, .inl rfl⟩, kI⟩
  have bI1 := FI.binds1 (ps := ["self", "top", "bottom"]) 2 0 (by simp) rfl (fun T kV doc pm an cdv ct us its h1 h2 => match us, h1, its, h2 with | [_, _], _, [_], _ => ⟨_, rfl, rfl⟩)
  have bI2 : Binds K _ ["self", "top", "bottom"] [] := bI2_of FI
  have FEq := fun_mk (st := sEq) lEq cEq kEq
  have bEq := FEq.binds (ps := ["self", "other"]) fun _ _ _ _ _ _ us hl => match us, hl with | [_, _], _ => rfl
  have FNe := fun_mk (st := sNe) lNe cNe kNe
  have bNe := FNe.binds (ps := ["self", "other"]) fun _ _ _ _ _ _ us hl => match us, hl with | [_, _], _ => rfl
  have FLt := fun_mk (st := sLt) lLt cLt kLt
  have bLt := FLt.binds (ps := ["self", "other"]) fun _ _ _ _ _ _ us hl => match us, hl with | [_, _], _ => rfl
  have FLe := fun_mk (st := sLe) lLe cLe kLe
  have bLe := FLe.binds (ps := ["self", "other"]) fun _ _ _ _ _ _ us hl => match us, hl with | [_, _], _ => rfl
  have FGt := fun_mk (st := sGt) lGt cGt kGt
  have bGt := FGt.binds (ps := ["self", "other"]) fun _ _ _ _ _ _ us hl => match us, hl with | [_, _], _ => rfl
  have FGe := fun_mk (st := sGe) lGe cGe kGe
  have bGe := FGe.binds (ps := ["self", "other"]) fun _ _ _ _ _ _ us hl => match us, hl with | [_, _], _ => rfl
  have FBool := fun_mk (st := sBool) lBool cBool kBool
  have bBool := FBool.binds (ps := ["self"]) fun _ _ _ _ _ _ us hl => match us, hl with | [_], _ => rfl
  have FStr := fun_mk (st := sStr) lStr cStr kStr
  have bStr := FStr.binds (ps := ["self"]) fun _ _ _ _ _ _ us hl => match us, hl with | [_], _ => rfl
  have F1 := fun_mk (st := sIsInt) l1 c1 k1
  have b1 := F1.binds (ps := ["value"]) fun _ _ _ _ _ _ us hl => match us, hl with | [_], _ => rfl
  have F2 := fun_mk (st := sIsNum) l2 c2 k2
  have b2 := F2.binds (ps := ["value"]) fun _ _ _ _ _ _ us hl => match us, hl with | [_], _ => rfl
  have F3 := fun_mk (st := sTop) l3 c3 k3
  have b3 := F3.binds (ps := ["value"]) fun _ _ _ _ _ _ us hl => match us, hl with | [_], _ => rfl
  have F4 := fun_mk (st := sBot) l4 c4 k4
  have b4 := F4.binds (ps := ["value"]) fun _ _ _ _ _ _ us hl => match us, hl with | [_], _ => rfl
  have F5 := fun_mk (st := sGap) l5 c5 k5
  have b5 := F5.binds (ps := ["first", "second"]) fun _ _ _ _ _ _ us hl => match us, hl with | [_, _], _ => rfl
  have FDraw := fun_mk (st := sDraw) lDraw cDraw kDraw
  have bDraw := FDraw.binds (ps := ["_law_stream", "_law_many"]) fun _ _ _ _ _ _ us hl => match us, hl with | [_, _], _ => rfl
  have FStart := fun_mk (st := sStart) lStart cStart kStart
  have bStart := FStart.binds (ps := ["_law_script"]) fun _ _ _ _ _ _ us hl => match us, hl with | [_], _ => rfl
  have FSame := fun_mk (st := sSame) lSame cSame kSame
  have bSame := FSame.binds (ps := ["_law_found", "_law_due_here"]) fun _ _ _ _ _ _ us hl => match us, hl with | [_, _], _ => rfl
  have FNumber := fun_mk (st := sNumber) lNumber cNumber kNumber
  have bNumber := FNumber.binds (ps := ["_law_stream"]) fun _ _ _ _ _ _ us hl => match us, hl with | [_], _ => rfl
  have FDivisor := fun_mk (st := sDivisor) lDivisor cDivisor kDivisor
  have bDivisor := FDivisor.binds (ps := ["_law_one", "_law_other"]) fun _ _ _ _ _ _ us hl => match us, hl with | [_, _], _ => rfl
  have FCompared := fun_mk (st := sCompared) lCompared cCompared kCompared
  have bCompared := FCompared.binds (ps := ["_law_one", "_law_other"]) fun _ _ _ _ _ _ us hl => match us, hl with | [_, _], _ => rfl
  have FDue := fun_mk (st := sDue) lDue cDue kDue
  have bDue := FDue.binds (ps := ["_law_gap"]) fun _ _ _ _ _ _ us hl => match us, hl with | [_], _ => rfl
  have FText := fun_mk (st := sText) lText cText kText
  have bText := FText.binds (ps := ["_law_high", "_law_low"]) fun _ _ _ _ _ _ us hl => match us, hl with | [_, _], _ => rfl
  have PR : Prog K mg C ⟨gI, PySem.W.fnOf "__init__" "Ratio.__init__" (defArgs sInit) (defBody sInit) (defScope sInit) (.ref TT) kVI dcI pmI anI cdI ctI, g1, PySem.W.fnOf "is_integer" "is_integer" (defArgs sIsInt) (defBody sIsInt) (defScope sIsInt) .none kV1 dc1 pm1 an1 cd1 ct1, g2, PySem.W.fnOf "_is_number" "_is_number" (defArgs sIsNum) (defBody sIsNum) (defScope sIsNum) .none kV2 dc2 pm2 an2 cd2 ct2, g3, PySem.W.fnOf "_top" "_top" (defArgs sTop) (defBody sTop) (defScope sTop) .none kV3 dc3 pm3 an3 cd3 ct3, g4, PySem.W.fnOf "_bottom" "_bottom" (defArgs sBot) (defBody sBot) (defScope sBot) .none kV4 dc4 pm4 an4 cd4 ct4, g5, PySem.W.fnOf "_gap" "_gap" (defArgs sGap) (defBody sGap) (defScope sGap) .none kV5 dc5 pm5 an5 cd5 ct5, gEq, PySem.W.fnOf "__eq__" "Ratio.__eq__" (defArgs sEq) (defBody sEq) (defScope sEq) .none kVEq dcEq pmEq anEq cdEq ctEq, gNe, PySem.W.fnOf "__ne__" "Ratio.__ne__" (defArgs sNe) (defBody sNe) (defScope sNe) .none kVNe dcNe pmNe anNe cdNe ctNe, gLt, PySem.W.fnOf "__lt__" "Ratio.__lt__" (defArgs sLt) (defBody sLt) (defScope sLt) .none kVLt dcLt pmLt anLt cdLt ctLt, gLe, PySem.W.fnOf "__le__" "Ratio.__le__" (defArgs sLe) (defBody sLe) (defScope sLe) .none kVLe dcLe pmLe anLe cdLe ctLe, gGt, PySem.W.fnOf "__gt__" "Ratio.__gt__" (defArgs sGt) (defBody sGt) (defScope sGt) .none kVGt dcGt pmGt anGt cdGt ctGt, gGe, PySem.W.fnOf "__ge__" "Ratio.__ge__" (defArgs sGe) (defBody sGe) (defScope sGe) .none kVGe dcGe pmGe anGe cdGe ctGe, gBool, PySem.W.fnOf "__bool__" "Ratio.__bool__" (defArgs sBool) (defBody sBool) (defScope sBool) .none kVBool dcBool pmBool anBool cdBool ctBool, gStr, PySem.W.fnOf "__str__" "Ratio.__str__" (defArgs sStr) (defBody sStr) (defScope sStr) .none kVStr dcStr pmStr anStr cdStr ctStr, gDraw, PySem.W.fnOf "_law_draw" "_law_draw" (defArgs sDraw) (defBody sDraw) (defScope sDraw) .none kVDraw dcDraw pmDraw anDraw cdDraw ctDraw, gStart, PySem.W.fnOf "_law_start" "_law_start" (defArgs sStart) (defBody sStart) (defScope sStart) .none kVStart dcStart pmStart anStart cdStart ctStart, gSame, PySem.W.fnOf "_law_same" "_law_same" (defArgs sSame) (defBody sSame) (defScope sSame) .none kVSame dcSame pmSame anSame cdSame ctSame, gNumber, PySem.W.fnOf "_law_m_number" "_law_m_number" (defArgs sNumber) (defBody sNumber) (defScope sNumber) .none kVNumber dcNumber pmNumber anNumber cdNumber ctNumber, gDivisor, PySem.W.fnOf "_law_m_divisor" "_law_m_divisor" (defArgs sDivisor) (defBody sDivisor) (defScope sDivisor) .none kVDivisor dcDivisor pmDivisor anDivisor cdDivisor ctDivisor, gCompared, PySem.W.fnOf "_law_compared" "_law_compared" (defArgs sCompared) (defBody sCompared) (defScope sCompared) .none kVCompared dcCompared pmCompared anCompared cdCompared ctCompared, gDue, PySem.W.fnOf "_law_due" "_law_due" (defArgs sDue) (defBody sDue) (defScope sDue) .none kVDue dcDue pmDue anDue cdDue ctDue, gText, PySem.W.fnOf "_law_text" "_law_text" (defArgs sText) (defBody sText) (defScope sText) .none kVText dcText pmText anText cdText ctText⟩ := ⟨⟨T, FI, ⟨mk, aI, iI, kc⟩, bI2, ⟨F1, b1, PySem.W.mg_of X G a1⟩, ⟨F2, b2, PySem.W.mg_of X G a2⟩, ⟨F3, b3, PySem.W.mg_of X G a3⟩, ⟨F4, b4, PySem.W.mg_of X G a4⟩, ⟨F5, b5, PySem.W.mg_of X G a5⟩⟩, bI1, FEq, bEq, FNe, bNe, FLt, bLt, FLe, bLe, FGt, bGt, FGe, bGe, FBool, bBool, FStr, bStr, ⟨aEq, iEq, s1⟩, ⟨aNe, iNe, s1⟩, ⟨aLt, iLt, s1⟩, ⟨aLe, iLe, s1⟩, ⟨aGt, iGt, s1⟩, ⟨aGe, iGe, s1⟩, ⟨aBool, iBool, kBool⟩, ⟨aStr, iStr, kStr⟩, ⟨FDraw, bDraw, PySem.W.mg_of X G aDraw⟩, ⟨FStart, bStart, PySem.W.mg_of X G aStart⟩, ⟨FSame, bSame, PySem.W.mg_of X G aSame⟩, ⟨FNumber, bNumber, PySem.W.mg_of X G aNumber⟩, ⟨FDivisor, bDivisor, PySem.W.mg_of X G aDivisor⟩, ⟨FCompared, bCompared, PySem.W.mg_of X G aCompared⟩, ⟨FDue, bDue, PySem.W.mg_of X G aDue⟩, ⟨FText, bText, PySem.W.mg_of X G aText⟩⟩
  exact ⟨PySem.W.fnOf "law" "law" (defArgs sLaw) (defBody sLaw) (defScope sLaw) .none kVLaw dcLaw pmLaw anLaw cdLaw ctLaw, fun s v => .of_eq rfl, fun base _ _ => ok_law (fun_mk (st := sLaw) lLaw cLaw kLaw) PR⟩
theorem walk {l : PySem.W.OpenLaw} {q : Program} {loose : List Str} {XP : (Str → Option Value) → Heap → Prop} {YP : World → Heap → Prop} {d : DefRec} {K : Params → PySem.W.Frag} (hn : l.most = some 63) (hdf : d.params.defaults = [])
    (hY : ∀ (w : World) (h : Heap), YP w h → (K w.params).In h)
    (F : ∀ (w : World) (mg : Str → Option Value) (fa : Addr) (h : Heap), (K w.params).In h → h.Ns mainGlobals mg → mg d.name = some (.ref fa) →
      ∃ fd : FuncData, (∀ (s : Shared) (u : Value), BindsTo s fd ⟨[u], []⟩ [("_law_script", u)]) ∧ ∀ base : Heap, (K w.params).In base → base.Ns mainGlobals mg → FnOk l.prog w (K w.params) mg base CX0 5 fa fd ["_law_script"] (spLaw (K w.params))) :
    PySem.W.WalkO q loose XP YP l.row.toRowW d [] (fun f vs => PySem.call f vs) :=
  L2.walk_of (n := 63) (k := 5) (x := "_law_script") (CX := fun _ => CX0) (sp := fun w => spLaw (K w.params)) hn (by decide) hdf ⟨rfl, by decide, by decide⟩ hY F (fun _ _ a ns hl _ hS => ⟨a, ns, rfl, hS, hl, fun _ => rfl⟩) fun _ _ _ _ _ z => z
end PA

open PySem PySem.W PyProof.Rows
set_option maxRecDepth 100000 in
set_option maxHeartbeats 0 in
theorem PySem.Challenge.cw_pairahead_k03_ratio_comparisons_holds : PySem.Challenge.rw_pairahead_k03_ratio_comparisons.Holds := by
  w_on; o_law; k_head; (case hw => w_witness2)
  k_fill
  refine PA.walk (l := PySem.Challenge.rw_pairahead_k03_ratio_comparisons) rfl rfl (fun w h Y => PySem.W.kIn_of Y) ?F
  case F =>
    intro w mg fa h KX G hmg
    refine' PA.all_mk KX G hmg ?aC ?aI ?lI ?cI ?kI ?lT ?iI ?aEq ?lEq ?cEq ?kEq ?iEq ?aNe ?lNe ?cNe ?kNe ?iNe ?aLt ?lLt ?cLt ?kLt ?iLt ?aLe ?lLe ?cLe ?kLe ?iLe ?aGt ?lGt ?cGt ?kGt ?iGt ?aGe ?lGe ?cGe ?kGe ?iGe ?aBool ?lBool ?cBool ?kBool ?iBool ?aStr ?lStr ?cStr ?kStr ?iStr ?a1 ?l1 ?c1 ?k1 ?a2 ?l2 ?c2 ?k2 ?a3 ?l3 ?c3 ?k3 ?a4 ?l4 ?c4 ?k4 ?a5 ?l5 ?c5 ?k5 ?aDraw ?lDraw ?cDraw ?kDraw ?aStart ?lStart ?cStart ?kStart ?aSame ?lSame ?cSame ?kSame ?aNumber ?lNumber ?cNumber ?kNumber ?aDivisor ?lDivisor ?cDivisor ?kDivisor ?aCompared ?lCompared ?cCompared ?kCompared ?aDue ?lDue ?cDue ?kDue ?aText ?lText ?cText ?kText ?aLaw ?lLaw ?cLaw ?kLaw ?pg ?hd ?po ?sa ?mk ?kc ?nT ?nB ?gg ?zisi ?zint ?zboo ?zabs ?zlis ?zall ?zzip ?zlen ?ztup ?zstr ?zZer ?q1 ?q2 ?q3 ?q4 ?iC ?tC ?sf ?s1 ?s2
    (case aC => k_is)
    (case aI => k_is)
    (case lI => k_is)
    (case cI => k_is)
    (case kI => k_is)
    (case lT => k_is)
    (case iI => k_is)
    (case aEq => k_is)
    (case lEq => k_is)
    (case cEq => k_is)
    (case kEq => k_is)
    (case iEq => k_is)
    (case aNe => k_is)
    (case lNe => k_is)
    (case cNe => k_is)
    (case kNe => k_is)
    (case iNe => k_is)
    (case aLt => k_is)
    (case lLt => k_is)
    (case cLt => k_is)
    (case kLt => k_is)
    (case iLt => k_is)
    (case aLe => k_is)
    (case lLe => k_is)
    (case cLe => k_is)
    (case kLe => k_is)
    (case iLe => k_is)
    (case aGt => k_is)
    (case lGt => k_is)
    (case cGt => k_is)
    (case kGt => k_is)
    (case iGt => k_is)
    (case aGe => k_is)
    (case lGe => k_is)
    (case cGe => k_is)
    (case kGe => k_is)
    (case iGe => k_is)
    (case aBool => k_is)
    (case lBool => k_is)
    (case cBool => k_is)
    (case kBool => k_is)
    (case iBool => k_is)
    (case aStr => k_is)
    (case lStr => k_is)
    (case cStr => k_is)
    (case kStr => k_is)
    (case iStr => k_is)
    (case a1 => k_is)
    (case l1 => k_is)
    (case c1 => k_is)
    (case k1 => k_is)
    (case a2 => k_is)
    (case l2 => k_is)
    (case c2 => k_is)
    (case k2 => k_is)
    (case a3 => k_is)
    (case l3 => k_is)
    (case c3 => k_is)
    (case k3 => k_is)
    (case a4 => k_is)
    (case l4 => k_is)
    (case c4 => k_is)
    (case k4 => k_is)
    (case a5 => k_is)
    (case l5 => k_is)
    (case c5 => k_is)
    (case k5 => k_is)
    (case aDraw => k_is)
    (case lDraw => k_is)
    (case cDraw => k_is)
    (case kDraw => k_is)
    (case aStart => k_is)
    (case lStart => k_is)
    (case cStart => k_is)
    (case kStart => k_is)
    (case aSame => k_is)
    (case lSame => k_is)
    (case cSame => k_is)
    (case kSame => k_is)
    (case aNumber => k_is)
    (case lNumber => k_is)
    (case cNumber => k_is)
    (case kNumber => k_is)
    (case aDivisor => k_is)
    (case lDivisor => k_is)
    (case cDivisor => k_is)
    (case kDivisor => k_is)
    (case aCompared => k_is)
    (case lCompared => k_is)
    (case cCompared => k_is)
    (case kCompared => k_is)
    (case aDue => k_is)
    (case lDue => k_is)
    (case cDue => k_is)
    (case kDue => k_is)
    (case aText => k_is)
    (case lText => k_is)
    (case cText => k_is)
    (case kText => k_is)
    (case aLaw => k_is)
    (case lLaw => k_is)
    (case cLaw => k_is)
    (case kLaw => k_is)
    (case pg => k_is)
    (case hd => k_is)
    (case po => k_is)
    (case sa => k_is)
    (case mk => k_is)
    (case kc => k_is)
    (case nT => k_is)
    (case nB => k_is)
    (case gg => k_is)
    (case zisi => k_is)
    (case zint => k_is)
    (case zboo => k_is)
    (case zabs => k_is)
    (case zlis => k_is)
    (case zall => k_is)
    (case zzip => k_is)
    (case zlen => k_is)
    (case ztup => k_is)
    (case zstr => k_is)
    (case zZer => k_is)
    (case q1 => k_is)
    (case q2 => k_is)
    (case q3 => k_is)
    (case q4 => k_is)
    (case iC => k_is)
    (case tC => k_is)
    (case sf => k_is)
    (case s1 => k_is)
    (case s2 => k_is)
#print axioms PySem.Challenge.cw_pairahead_k03_ratio_comparisons_holds
