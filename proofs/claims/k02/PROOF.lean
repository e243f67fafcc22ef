import PyProof.Rows.All
import Wide.All
import OpenK.AllK
import Wide.FinOn
import HandS.ForMost
import HandS.OwnEq
import HandS.Wide
import HandS.Gcd
import HandS.IsInst
import HandS.Defaults
import HandS.MakeKw
import HandS.ExcBuiltin
import HandS.TryOnly
import HandS.ForExc
import PySem.Challenge.RW_pairahead_k02_ratio_quotients
import HandS.Codes
import HandS.Evl
import HandS.RaiseOp
set_option Elab.async false
set_option linter.all false
set_option maxRecDepth 100000
set_option maxHeartbeats 2000000
namespace PLow
open PySem PySem.W PySem.Calls PyProof.Rows
section
variable {prog : Program} {w : World} {M : Model} {A : Around} {E : Value → Shared → Prop} {s : Shared} {K : Frag} {x C L f : Addr} {h₀ : Heap} {m : Str → Option Value} {ox : Obj} {od : Option Obj} {nm : String}

/-- an int's own slot declines an instance -/
theorem add_declines {a : Int} {t : Tok} {R : PySem.Fin → Shared → Prop} (ho : s.heap.get? x = some ox) (hd : ∀ v, ox.data ≠ .prim v) (h : R (.done (.ret .notImplemented)) s) :
    wpAny (model prog w) A (Builtin.«int.__add__» ⟨[Value.int a t, Value.ref x], []⟩) R E s := by
  obtain ⟨hp, g, d, tk, os⟩ := s
  wp_walk
  split
  · rename_i e
    exact absurd e (hd _)
  · wp_walk
    exact h
theorem sub_declines {a : Int} {t : Tok} {R : PySem.Fin → Shared → Prop} (ho : s.heap.get? x = some ox) (hd : ∀ v, ox.data ≠ .prim v) (h : R (.done (.ret .notImplemented)) s) :
    wpAny (model prog w) A (Builtin.«int.__sub__» ⟨[Value.int a t, Value.ref x], []⟩) R E s := by
  obtain ⟨hp, g, d, tk, os⟩ := s
  wp_walk
  split
  · rename_i e
    exact absurd e (hd _)
  · wp_walk
    exact h
theorem mul_declines {a : Int} {t : Tok} {R : PySem.Fin → Shared → Prop} (ho : s.heap.get? x = some ox) (hd : ∀ v, ox.data ≠ .prim v) (h : R (.done (.ret .notImplemented)) s) :
    wpAny (model prog w) A (Builtin.«int.__mul__» ⟨[Value.int a t, Value.ref x], []⟩) R E s := by
  obtain ⟨hp, g, d, tk, os⟩ := s
  wp_walk
  split
  · rename_i e
    exact absurd e (hd _)
  · wp_walk
    exact h

/-- the left operand's own slot, the right one declines: an int and an instance with the reflected method -/
theorem rbin {op : Operator} {id : String} {a : Int} {t : Tok} {B : Builtin} {Q : Value → Shared → Prop} {g : Addr} (F : Fr h₀ L s.heap m) (X₀ : K.In h₀) (I : InstAt s.heap x ox C od) (hc : selfFirst K C = true)
    (hs : findIn K (.ref C) (PySem.dunder op.info.2) = some (some (.ref g))) (hr : findIn K (.ref C) (dunderR op.info.2) = some (some (.ref f))) (hf : isFn K (.ref f) = true)
    (hfT : fillsNumberSlot (.type "int") op.info.2 = pure true) (hsub : subIn K (.ref C) (.type "int") = some false)
    (slot : Slot "int" (PySem.dunder op.info.2) id) (entry : entryFor table id = some B) (args : argsOk id ⟨[Value.int a t, .ref x], []⟩)
    (dec : ∀ (A : Around) (E : Value → Shared → Prop) (R : PySem.Fin → Shared → Prop), R (.done (.ret .notImplemented)) s → wpAny (model prog w) A (B ⟨[Value.int a t, .ref x], []⟩) R E s)
    (h : wpAny (model prog w) A (call (.ref f) [.ref x, .int a t]) (PySem.W.CmpBack Q) E s) : wpAny (model prog w) A (binaryOp op (.int a t) (.ref x)) Q E s := by
  have X := X₀.keeps F.keep
  obtain ⟨cd, rest, hcd, hm⟩ := ksp_first hc
  rcases hi : op.info with ⟨sym, nm'⟩
  rw [hi] at hs hr hfT slot
  dsimp only at hs hr hfT slot
  have one := ksp_try X I hr hf h
  have L0 : Looks (model prog w) s.heap (typeOf (.int a t)) (.type "int") := Looks.of_pure rfl
  have L1 : Looks (model prog w) s.heap (typeOf (.ref x)) (.ref C) := I.type
  have L3 : Looks (model prog w) s.heap (fillsNumberSlot (.ref C) nm') true := fills_K X hcd hm hs
  have L5 : Looks (model prog w) s.heap (isSubtype (.ref C) (.type "int")) false := looks_subIn X hsub
  have hne : (Value.type "int" == Value.ref C) = false := Bool.eq_false_iff.mpr fun q => by cases beq_iff_eq.mp q
  have hpy : numberSlotInPython (.type "int") nm' = pure false := rfl
  simp only [binaryOp, hi]
  refine wpAny_holding (wpAny_bind ?_)
  unfold binaryOp1
  refine wpAny_bind (L0.here (wpAny_bind (L1.here (wpAny_bind (wpAny_of_eq hfT ?_)))))
  simp only [hne, Bool.false_eq_true, if_false]
  refine wpAny_bind (L3.here ?_)
  simp only [Bool.and_self, if_true]
  refine wpAny_bind (L5.here ?_)
  simp only [Bool.false_eq_true, if_false, pure_bind, Bool.not_false, Bool.and_self, if_true, hpy]
  refine wpAny_bind (wpAny_tryMethod_declines (id := id) (typeIs_int s a t) slot ?_)
  refine GQ.call_here slot (typeIs_int s a t) entry args (dec _ _ _ ?_)
  refine ⟨rfl, ?_⟩
  refine wpAny_bind (wpAny_mono one (fun r s' hr' => ?_) fun _ _ e => e)
  obtain ⟨v, rfl, hq⟩ := hr'
  dsimp only
  exact wpAny_bind (wpAny_rule (wpAny_pure (wpAny_pure hq)))

/-- abs(x) by the own method -/
theorem abs_own {Q : Value → Shared → Prop} (F : Fr h₀ L s.heap m) (X₀ : K.In h₀) (I : InstAt s.heap x ox C od) (hs : findIn K (.ref C) "__abs__" = some (some (.ref f))) (hf : isFn K (.ref f) = true)
    (h : wpAny (model prog w) A.in1 (call (.ref f) [.ref x]) Q E s) : wpAny (model prog w) A (call (.builtin "abs") [.ref x]) Q E s := by
  refine call_function_entry kind_abs plain_abs entry_abs (args_abs _) ?_
  unfold Builtin.«abs»
  refine wpAny_bind (m := oneArg "abs" _) (wpAny_pure ?_)
  refine wpAny_bind (special_fn (X₀.keeps F.keep) I hs (beq_iff_eq.mp hf) ?_)
  exact wpAny_mono h (fun v s' q => wpAny_pure ⟨v, rfl, q⟩) fun _ _ z => z
end
end PLow

namespace L2
open PySem PySem.Spec PyProof.Rows
section
variable {X : Cx} {CX : CXT} {k : Nat} {C f g : Addr} {fd : FuncData} {ps : List Str} {sp : Sp} {E : XK} {op : Operator}
theorem cmpBack_of {pins : List (Addr × Obj)} {σ : St} {Q : VK} {u : Value} {s' : Shared} (h : EP X pins σ Q u s') : PySem.W.CmpBack (EP X pins σ Q) u s' := by
  obtain ⟨v, H', I, r, q⟩ := id h
  cases v with
  | non => cases (show u = Value.none from r); exact h
  | bl b => cases (show u = Value.bool b from r); exact h
  | int i => obtain ⟨t, e⟩ := (show ∃ t, u = Value.int i t from r); cases e; exact h
  | str x => obtain ⟨t, e⟩ := (show ∃ t, u = Value.str x t from r); cases e; exact h
  | byt b => obtain ⟨t, e⟩ := (show ∃ t, u = Value.bytes b t from r); cases e; exact h
  | flt b => obtain ⟨t, e⟩ := (show ∃ t, u = Value.float b t from r); cases e; exact h
  | ref a => cases (show u = Value.ref a from r); exact h
  | ty n => cases (show u = Value.type n from r); exact h
/-- what of the class an own operator asks: f the method, g the reflected one -/
structure OwnOp (K : PySem.W.Frag) (C f g : Addr) (op : Operator) : Prop where
  first : PySem.W.selfFirst K C = true
  at_ : PySem.W.findIn K (.ref C) (PySem.dunder op.info.2) = some (some (.ref f))
  fn : PySem.W.isFn K (.ref f) = true
  ar : PySem.W.findIn K (.ref C) (dunderR op.info.2) = some (some (.ref g))
  fr : PySem.W.isFn K (.ref g) = true
  sub : PySem.W.subIn K (.type "int") (.ref C) = some false
  sub' : PySem.W.subIn K (.ref C) (.type "int") = some false
/-- x op y, x an instance with the own method, y an instance of the same class -/
theorem op_ownR (O : OwnOp X.K C f g op) (F : FnOk X.prog X.w X.K X.mg X.base CX k f fd ps sp) (hr : Room k X.A) (hb : Binds X.K fd ps []) (hx : Passes CX X E) :
    OpR X (binaryOp op) (fun x y H Q => ∃ a b dx dy fs gs, x = .ref a ∧ y = .ref b ∧ H a = some (.ins C dx fs) ∧ H b = some (.ins C dy gs) ∧ sp [.ref a, .ref b] H Q E) := by
  intro pins s σ H x y v u Q I rx ry h
  obtain ⟨a, b, dx, dy, fs, gs, rfl, rfl, ha, hb', q⟩ := h
  cases rx
  cases ry
  obtain ⟨mA, J, _⟩ := ins_get I.hok ha
  obtain ⟨mB, J', _⟩ := ins_get I.hok hb'
  obtain ⟨od, J, _⟩ := J.look
  obtain ⟨od', J', _⟩ := J'.look
  obtain ⟨m, hF⟩ := I.fr
  refine PySem.W.binop_K hF I.ok.mod.kin J J'.type O.first O.at_ O.fn ?_
  exact wpAny_mono (run_fn (us := [.ref a, .ref b]) (vs := [.ref a, .ref b]) F hr hb .nil hx I (.cons rfl (.cons rfl .nil)) q) (fun _ _ z => cmpBack_of z) fun _ _ z => z
/-- x op i, i an int -/
theorem op_ownI {fo ro : Option Value} (O : OwnOp X.K C f g op) (h1 : PySem.W.findIn X.K (.type "int") (PySem.dunder op.info.2) = some fo) (h2 : PySem.W.findIn X.K (.type "int") (dunderR op.info.2) = some ro)
    (F : FnOk X.prog X.w X.K X.mg X.base CX k f fd ps sp) (hr : Room k X.A) (hb : Binds X.K fd ps []) (hx : Passes CX X E) :
    OpR X (binaryOp op) (fun x y H Q => ∃ a i dx fs, x = .ref a ∧ y = .int i ∧ H a = some (.ins C dx fs) ∧ sp [.ref a, .int i] H Q E) := by
  intro pins s σ H x y v u Q I rx ry h
  obtain ⟨a, i, dx, fs, rfl, rfl, ha, q⟩ := h
  cases rx
  obtain ⟨t, rfl⟩ := ry
  obtain ⟨mA, J, _⟩ := ins_get I.hok ha
  obtain ⟨od, J, _⟩ := J.look
  obtain ⟨m, hF⟩ := I.fr
  refine PySem.W.ksp_binT hF I.ok.mod.kin J rfl O.first O.at_ O.fn O.ar (.inr ⟨_, rfl⟩) h1 h2 O.sub ?_
  exact wpAny_mono (run_fn (us := [.ref a, .int i t]) (vs := [.ref a, .int i]) F hr hb .nil hx I (.cons rfl (.cons ⟨t, rfl⟩ .nil)) q) (fun _ _ z => cmpBack_of z) fun _ _ z => z
/-- i op x, i an int: the reflected method, F of g -/
theorem op_ownL {id : String} {B : Builtin} (O : OwnOp X.K C f g op) (hfT : fillsNumberSlot (.type "int") op.info.2 = pure true)
    (slot : PySem.Slot "int" (PySem.dunder op.info.2) id) (entry : entryFor table id = some B) (args : ∀ i t x, argsOk id ⟨[Value.int i t, .ref x], []⟩)
    (dec : ∀ (i : Int) (t : Tok) (x : Addr) (ox : Obj) (s : Shared), s.heap.get? x = some ox → (∀ v, ox.data ≠ .prim v) → ∀ (A : Around) (E : Value → Shared → Prop) (R : PySem.Fin → Shared → Prop), R (.done (.ret .notImplemented)) s →
      wpAny (model X.prog X.w) A (B ⟨[Value.int i t, .ref x], []⟩) R E s)
    (F : FnOk X.prog X.w X.K X.mg X.base CX k g fd ps sp) (hr : Room k X.A) (hb : Binds X.K fd ps []) (hx : Passes CX X E) :
    OpR X (binaryOp op) (fun x y H Q => ∃ a i dx fs, x = .int i ∧ y = .ref a ∧ H a = some (.ins C dx fs) ∧ sp [.ref a, .int i] H Q E) := by
  intro pins s σ H x y v u Q I rx ry h
  obtain ⟨a, i, dx, fs, rfl, rfl, ha, q⟩ := h
  obtain ⟨t, rfl⟩ := rx
  cases ry
  obtain ⟨mA, J, _⟩ := ins_get I.hok ha
  have ho := J.obj
  obtain ⟨od, J, _⟩ := J.look
  obtain ⟨m, hF⟩ := I.fr
  refine PLow.rbin hF I.ok.mod.kin J O.first O.at_ O.ar O.fr hfT O.sub' slot entry (args _ _ _) (dec i t a _ s ho (fun v z => by simp [PySem.W.instObj] at z)) ?_
  exact wpAny_mono (run_fn (us := [.ref a, .int i t]) (vs := [.ref a, .int i]) F hr hb .nil hx I (.cons rfl (.cons ⟨t, rfl⟩ .nil)) q) (fun _ _ z => cmpBack_of z) fun _ _ z => z
/-- -x -/
theorem un_own (hs : PySem.W.findIn X.K (.ref C) "__neg__" = some (some (.ref f))) (hf : PySem.W.isFn X.K (.ref f) = true) (F : FnOk X.prog X.w X.K X.mg X.base CX k f fd ps sp) (hr : Room k X.A) (hb : Binds X.K fd ps []) (hx : Passes CX X E) :
    UnR X (unaryOp .USub) (fun x H Q => ∃ a dx fs, x = .ref a ∧ H a = some (.ins C dx fs) ∧ sp [.ref a] H Q E) := by
  intro pins s σ H x v Q I rx h
  obtain ⟨a, dx, fs, rfl, ha, q⟩ := h
  cases rx
  obtain ⟨mA, J, _⟩ := ins_get I.hok ha
  obtain ⟨od, J, _⟩ := J.look
  obtain ⟨m, hF⟩ := I.fr
  refine PySem.W.ksp_neg hF I.ok.mod.kin J hs hf ?_
  exact run_fn (us := [.ref a]) (vs := [.ref a]) F hr hb .nil hx I (.cons rfl .nil) q
/-- abs(x) -/
theorem call_absOwn (hs : PySem.W.findIn X.K (.ref C) "__abs__" = some (some (.ref f))) (hf : PySem.W.isFn X.K (.ref f) = true) (F : FnOk X.prog X.w X.K X.mg X.base CX k f fd ps sp) (hr : Room (k + 1) X.A) (hb : Binds X.K fd ps []) (hx : Passes CX X E) :
    CallR X (.builtin "abs") (fun xs H Q => ∃ a dx fs, xs = [.ref a] ∧ H a = some (.ins C dx fs) ∧ sp [.ref a] H Q E) := by
  intro pins s σ H xs us Q I r h
  obtain ⟨a, dx, fs, rfl, ha, q⟩ := h
  cases r with
  | cons r1 r2 =>
    cases r2
    cases r1
    obtain ⟨mA, J, _⟩ := ins_get I.hok ha
    obtain ⟨od, J, _⟩ := J.look
    obtain ⟨m, hF⟩ := I.fr
    refine PLow.abs_own hF I.ok.mod.kin J hs hf ?_
    have hl := F.len _ _ _ _ q
    have r2 : Vals [V.ref a] [Value.ref a] := .cons rfl .nil
    refine wpAny_call (codeAny_mono (F.run X.A.in1 X.stack s H ⟨[.ref a], []⟩ [.ref a] [.ref a] Q E hr.in1 I.env0.in1 (by
      have := hb s [.ref a] I.kIn (by simpa using hl)
      simpa using this) r2 q) fun r s' hq => ?_)
    cases r with
    | error e => exact hx pins σ H s e s' I hq
    | ok fl =>
      cases fl with
      | ret w => exact I.after hq
      | next => exact False.elim hq
      | brk => exact False.elim hq
      | cont => exact False.elim hq
/-- // by any divisor but 0 below 2 ^ 9000 in size -/
def CDivS (_ j : Int) : Prop := j ≠ 0 ∧ j.natAbs.log2 < 9000
theorem op_fdivS : OpR X (binaryOp .FloorDiv) (rI CDivS fun i j => .int (i.fdiv j)) := opI fun i j _ _ _ _ _ hc q =>
  floordiv_int hc.1 q (.inl (PyProof.noPylong_of_log2 hc.2))
end
end L2

set_option maxHeartbeats 2000000
namespace PA
/-- below 2 ^ n in size -/
abbrev Sm (n : Nat) (x : Int) : Prop := x.natAbs < 2 ^ n
theorem Sm.mono {n m : Nat} {x : Int} (h : Sm n x) (hn : n ≤ m) : Sm m x := Nat.lt_of_lt_of_le h (Nat.pow_le_pow_right (by decide) hn)
theorem Sm.mul {n m k : Nat} {x y : Int} (hx : Sm n x) (hy : Sm m y) (h : n + m ≤ k) : Sm k (x * y) := by
  refine Sm.mono (n := n + m) ?_ h
  unfold Sm
  rw [Int.natAbs_mul, Nat.pow_add]
  exact Nat.mul_lt_mul'' hx hy
theorem Sm.add {n k : Nat} {x y : Int} (hx : Sm n x) (hy : Sm n y) (h : n + 1 ≤ k) : Sm k (x + y) := by
  refine Sm.mono (n := n + 1) ?_ h
  unfold Sm at *
  rw [Nat.pow_succ]
  omega
theorem Sm.sub {n k : Nat} {x y : Int} (hx : Sm n x) (hy : Sm n y) (h : n + 1 ≤ k) : Sm k (x - y) := by
  refine Sm.mono (n := n + 1) ?_ h
  unfold Sm at *
  rw [Nat.pow_succ]
  omega
theorem Sm.neg {n : Nat} {x : Int} (hx : Sm n x) : Sm n (-x) := by
  unfold Sm at *
  rw [Int.natAbs_neg]
  exact hx
theorem Sm.le {n : Nat} {x y : Int} (hx : Sm n x) (h : y.natAbs ≤ x.natAbs) : Sm n y := Nat.lt_of_le_of_lt h hx
theorem Sm.one {n : Nat} (h : 0 < n) : Sm n 1 := by
  show (1 : Int).natAbs < 2 ^ n
  exact Nat.one_lt_two_pow (by omega)

/-- the divisor that a Ratio shortens by -/
def shr (t b : Int) : Int := if b < 0 then -((Nat.gcd t.natAbs b.natAbs : Nat) : Int) else ((Nat.gcd t.natAbs b.natAbs : Nat) : Int)
/-- lowest terms -/
structure Low (T B : Int) : Prop where
  pos : 0 < B
  cop : Nat.gcd T.natAbs B.natAbs = 1
theorem low_one (i : Int) : Low i 1 := ⟨by decide, Nat.gcd_one_right _⟩
theorem gcd_key {a b c d g : Nat} (h1 : a = c * g) (h2 : b = d * g) : Nat.gcd a b = Nat.gcd c d * g := by
  rw [h1, h2]
  exact Nat.gcd_mul_right _ _ _
theorem rat_mk {t b : Int} (hb : b ≠ 0) : shr t b ≠ 0 ∧ (shr t b).natAbs ≤ b.natAbs ∧ Low (t.fdiv (shr t b)) (b.fdiv (shr t b)) ∧ (t.fdiv (shr t b)) * b = t * (b.fdiv (shr t b)) ∧
    (t.fdiv (shr t b)).natAbs ≤ t.natAbs ∧ (b.fdiv (shr t b)).natAbs ≤ b.natAbs := by
  have hg : 0 < Nat.gcd t.natAbs b.natAbs := Nat.gcd_pos_of_pos_right _ (Int.natAbs_pos.mpr hb)
  have hgb : Nat.gcd t.natAbs b.natAbs ≤ b.natAbs := Nat.gcd_le_right _ (Int.natAbs_pos.mpr hb)
  have hsn : (shr t b).natAbs = Nat.gcd t.natAbs b.natAbs := by
    unfold shr
    split
    · rw [Int.natAbs_neg, Int.natAbs_natCast]
    · rw [Int.natAbs_natCast]
  have hs0 : shr t b ≠ 0 := by
    intro z
    rw [z] at hsn
    simp at hsn
    omega
  have dv : ∀ y : Int, (Nat.gcd t.natAbs b.natAbs) ∣ y.natAbs → ∃ q : Int, y = q * shr t b := by
    intro y hy
    have h1 : ((Nat.gcd t.natAbs b.natAbs : Nat) : Int) ∣ y := Int.ofNat_dvd_left.mpr hy
    obtain ⟨q, hq⟩ := h1
    unfold shr
    split
    · exact ⟨-q, by rw [Int.neg_mul_neg, Int.mul_comm]; exact hq⟩
    · exact ⟨q, by rw [Int.mul_comm]; exact hq⟩
  obtain ⟨T, hT⟩ := dv t (Nat.gcd_dvd_left _ _)
  obtain ⟨B, hB⟩ := dv b (Nat.gcd_dvd_right _ _)
  have eT : t.fdiv (shr t b) = T := by
    conv => lhs; lhs; rw [hT]
    exact Int.mul_fdiv_cancel _ hs0
  have eB : b.fdiv (shr t b) = B := by
    conv => lhs; lhs; rw [hB]
    exact Int.mul_fdiv_cancel _ hs0
  rw [eT, eB]
  have nT : t.natAbs = T.natAbs * Nat.gcd t.natAbs b.natAbs := by
    conv => lhs; rw [hT, Int.natAbs_mul, hsn]
  have nB : b.natAbs = B.natAbs * Nat.gcd t.natAbs b.natAbs := by
    conv => lhs; rw [hB, Int.natAbs_mul, hsn]
  refine ⟨hs0, by rw [hsn]; exact hgb, ⟨?_, ?_⟩, ?_, ?_, ?_⟩
  · have hB0 : B ≠ 0 := by
      intro z
      rw [z, Int.zero_mul] at hB
      exact hb hB
    rcases Int.lt_or_gt_of_ne hB0 with h | h
    · exfalso
      unfold shr at hB
      split at hB
      · rename_i hneg
        have : 0 < B * -((Nat.gcd t.natAbs b.natAbs : Nat) : Int) := Int.mul_pos_of_neg_of_neg h (by omega)
        omega
      · rename_i hneg
        have : B * ((Nat.gcd t.natAbs b.natAbs : Nat) : Int) < 0 := Int.mul_neg_of_neg_of_pos h (by omega)
        omega
    · exact h
  · have e : Nat.gcd t.natAbs b.natAbs = Nat.gcd T.natAbs B.natAbs * Nat.gcd t.natAbs b.natAbs := by
      exact gcd_key nT nB
    have e2 : 1 * Nat.gcd t.natAbs b.natAbs = Nat.gcd T.natAbs B.natAbs * Nat.gcd t.natAbs b.natAbs := by rw [Nat.one_mul]; exact e
    exact (Nat.eq_of_mul_eq_mul_right hg e2).symm
  · calc T * b = T * (B * shr t b) := by rw [← hB]
      _ = (T * shr t b) * B := by rw [Int.mul_comm B, ← Int.mul_assoc]
      _ = t * B := by rw [← hT]
  · rw [nT]; exact Nat.le_mul_of_pos_right _ hg
  · rw [nB]; exact Nat.le_mul_of_pos_right _ hg
/-- a fraction has one lowest form -/
theorem Low.uniq {T B T' B' : Int} (h : Low T B) (h' : Low T' B') (e : T * B' = T' * B) : T = T' ∧ B = B' := by
  have n : T.natAbs * B'.natAbs = T'.natAbs * B.natAbs := by rw [← Int.natAbs_mul, ← Int.natAbs_mul, e]
  have d1 : B.natAbs ∣ B'.natAbs := by
    have : B.natAbs ∣ T.natAbs * B'.natAbs := ⟨T'.natAbs, by rw [n, Nat.mul_comm]⟩
    exact (Nat.Coprime.symm h.cop).dvd_of_dvd_mul_left this
  have d2 : B'.natAbs ∣ B.natAbs := by
    have : B'.natAbs ∣ T'.natAbs * B.natAbs := ⟨T.natAbs, by rw [← n, Nat.mul_comm]⟩
    exact (Nat.Coprime.symm h'.cop).dvd_of_dvd_mul_left this
  have eB : B = B' := by
    have := Nat.dvd_antisymm d1 d2
    have p1 := h.pos
    have p2 := h'.pos
    omega
  subst eB
  have hB : B ≠ 0 := by have := h.pos; omega
  exact ⟨Int.eq_of_mul_eq_mul_right hB e, rfl⟩
theorem Low.neg {T B : Int} (h : Low T B) : Low (-T) B := ⟨h.pos, by rw [Int.natAbs_neg]; exact h.cop⟩
/-- a = n / d and b = n / d -/
theorem cross {a b n d x y : Int} (hb : b ≠ 0) (h1 : a * d = n * b) (h2 : n * y = x * d) (hd : d ≠ 0) : a * y = x * b := by
  have : (a * y) * d = (x * b) * d := by
    calc (a * y) * d = (a * d) * y := by rw [Int.mul_assoc, Int.mul_comm y, ← Int.mul_assoc]
      _ = (n * b) * y := by rw [h1]
      _ = (n * y) * b := by rw [Int.mul_assoc, Int.mul_comm b, ← Int.mul_assoc]
      _ = (x * d) * b := by rw [h2]
      _ = (x * b) * d := by rw [Int.mul_assoc, Int.mul_comm d, ← Int.mul_assoc]
  exact Int.eq_of_mul_eq_mul_right hd this
end PA

set_option maxHeartbeats 2000000
namespace PA
open PySem L2
/-! ### 1. the text by places -/
def top (i : Nat) : Stmt := PySem.Challenge.pw_pairahead_k02_ratio_quotients.main.body.getD i (.Pass ⟨0, 0, 0, 0⟩)
abbrev sIsInt : Stmt := top 2
abbrev sInit : Stmt := inClass (top 4) 0
abbrev sAdd : Stmt := inClass (top 4) 1
abbrev sRadd : Stmt := inClass (top 4) 2
abbrev sSub : Stmt := inClass (top 4) 3
abbrev sRsub : Stmt := inClass (top 4) 4
abbrev sMul : Stmt := inClass (top 4) 5
abbrev sRmul : Stmt := inClass (top 4) 6
abbrev sNeg : Stmt := inClass (top 4) 10
abbrev sAbs : Stmt := inClass (top 4) 11
abbrev sIsNum : Stmt := top 5
abbrev sTop : Stmt := top 6
abbrev sBot : Stmt := top 7
abbrev sGap : Stmt := top 8
/-! ### 2. the data -/
theorem tb_ : ¬ (("top" : Str) = "bottom") := by decide +kernel
def flds (t b : Int) : List (Str × V) := putF "bottom" (.int b) (putF "top" (.int t) [])
theorem flds_top (t b : Int) : (flds t b).lookup ("top" : Str) = some (.int t) := by
  unfold flds
  rw [lookup_putF, if_neg tb_, lookup_putF, if_pos rfl]
theorem flds_bot (t b : Int) : (flds t b).lookup ("bottom" : Str) = some (.int b) := by
  unfold flds
  rw [lookup_putF, if_pos rfl]
theorem flds_no (t b : Int) {m : Str} (h1 : ¬ m = "bottom") (h2 : ¬ m = "top") : (flds t b).lookup m = none := by
  unfold flds
  rw [lookup_putF, if_neg h1, lookup_putF, if_neg h2]
  all_goals rfl
/-- a Ratio T / B in lowest terms stands at p -/
structure RatAt (C : Addr) (H : Hp) (p : Addr) (T B : Int) : Prop where
  low : Low T B
  ob : ∃ dx, H p = some (.ins C dx (flds T B))
theorem RatAt.same {C : Addr} {H H' : Hp} {p : Addr} {T B : Int} (h : RatAt C H p T B) (s : Same H H') : RatAt C H' p T B := ⟨h.low, let ⟨dx, e⟩ := h.ob; ⟨dx, s _ _ e⟩⟩
/-- the number T / B: an int or a Ratio -/
def Num (C : Addr) (H : Hp) (v : V) (T B : Int) : Prop := (v = .int T ∧ B = 1) ∨ (∃ p, v = .ref p ∧ RatAt C H p T B)
theorem Num.low {C : Addr} {H : Hp} {v : V} {T B : Int} (h : Num C H v T B) : Low T B := by
  rcases h with ⟨_, rfl⟩ | ⟨_, _, r⟩
  · exact low_one _
  · exact r.low
theorem Num.same {C : Addr} {H H' : Hp} {v : V} {T B : Int} (h : Num C H v T B) (s : Same H H') : Num C H' v T B := by
  rcases h with h | ⟨p, e, r⟩
  · exact .inl h
  · exact .inr ⟨p, e, r.same s⟩
/-! ### 3. promises -/
def spIsInt : Sp := fun vs H Q _ => ∃ i, vs = [.int i] ∧ Q (.bl true) H
def spIsNum (C : Addr) : Sp := fun vs H Q _ => ∃ v T B, vs = [v] ∧ Num C H v T B ∧ Q (.bl true) H
def spTop (C : Addr) : Sp := fun vs H Q _ => ∃ v T B, vs = [v] ∧ Num C H v T B ∧ Q (.int T) H
def spBot (C : Addr) : Sp := fun vs H Q _ => ∃ v T B, vs = [v] ∧ Num C H v T B ∧ Q (.int B) H
def spGap (C : Addr) : Sp := fun vs H Q _ => ∃ p v T B T' B', vs = [.ref p, v] ∧ RatAt C H p T B ∧ Num C H v T' B' ∧ Sm 2000 T ∧ Sm 2000 B ∧ Sm 2000 T' ∧ Sm 2000 B' ∧ Q (.int (T * B' - T' * B)) H
/-- Ratio.__init__ with a denominator that is not 0 -/
def spInit (C : Addr) : Sp := fun vs H Q _ => ∃ p dx t b, vs = [.ref p, .int t, .int b] ∧ b ≠ 0 ∧ Sm 9000 b ∧ H p = some (.ins C dx []) ∧
  ∀ T B H', Low T B → T * b = t * B → T.natAbs ≤ t.natAbs → B.natAbs ≤ b.natAbs → H' p = some (.ins C dx (flds T B)) → (∀ c o, H c = some o → c ≠ p → H' c = some o) → Q .non H'
/-- what the top has left -/
structure Txt (K : PySem.W.Frag) (mg : Str → Option Value) (C : Addr) : Prop where
  cl : Cls K C
  nT : NoAttr K C "top"
  nB : NoAttr K C "bottom"
  mgC : mg "Ratio" = some (.ref C)
  isi : mg "isinstance" = none
  int_ : mg "int" = none
  bool_ : mg "bool" = none
  abs_ : mg "abs" = none
  list_ : mg "list" = none
  all_ : mg "all" = none
  zde : mg "ZeroDivisionError" = none
  gcd : mg "gcd" = some (.builtin "math.gcd")
  q1 : PySem.W.findIn K (.ref C) "__class__" = some (some (.builtin "object.__class__"))
  q2 : PySem.W.specialIn K (.builtin "object.__class__") "__get__" = some (some (.builtin "getset_descriptor.__get__"))
  q3 : PySem.W.takesIn K (.builtin "object.__class__") = some true
  q4 : PySem.W.mroIn K C (.type "object") = some true
  kC : PySem.W.kitOne K (.ref C) (.ref C) = some true
  kI : PySem.W.kitOne K (.type "int") (.ref C) = some false
theorem boot_isi : bootBuiltins "isinstance" = some (.builtin "isinstance") := by decide +kernel
theorem boot_int' : bootBuiltins "int" = some (.type "int") := by decide +kernel
theorem boot_bool' : bootBuiltins "bool" = some (.type "bool") := by decide +kernel
/-- a def of the module -/
structure Df (K : PySem.W.Frag) (mg : Str → Option Value) (x : Str) (st : Stmt) (f : Addr) (fd : FuncData) (ps : List Str) : Prop where
  F : Fun K x x st f fd
  B : Binds K fd ps []
  M : mg x = some (.ref f)
section
variable {P : Program} {w : World} {K : PySem.W.Frag} {mg : Str → Option Value} {base : Heap} {C : Addr}
theorem Txt.ty (T : Txt K mg C) {H : Hp} {p : Addr} {t b : Int} (r : RatAt C H p t b) : TyX K H (.ref p) (.ref C) := by
  obtain ⟨dx, e⟩ := r.ob
  exact .base (.ins e T.cl T.q1 T.q2 T.q3 T.q4)
theorem scIsInt : FnScope ["value"] ["value"] (defScope sIsInt) := ⟨rfl, rfl, rfl, by decide +kernel, rfl, by decide +kernel, by decide +kernel⟩
theorem ok_isInt {f : Addr} {fd : FuncData} (F : Fun K "is_integer" "is_integer" sIsInt f fd) (T : Txt K mg C) : FnOk P w K mg base CX0 1 f fd ["value"] spIsInt := by
  refine F.ok scIsInt (fun vs H Q E h => ?_) (fun cdv A outer s H vs Q E hr h => ?_)
  · obtain ⟨i, rfl, _⟩ := h
    rfl
  · obtain ⟨i, rfl, k⟩ := h
    refine ⟨_, pss_one (ps_ret (pe_and (pe_callB call_isi (by rfl) T.isi boot_isi (pa_cons (pv 0) (pa_cons (pe_bltn (v := .ty "int") (by rfl) T.int_ boot_int' rfl) pa_nil)))
      (pe_one (pe_not (pe_callB call_isi (by rfl) T.isi boot_isi (pa_cons (pv 0) (pa_cons (pe_bltn (v := .ty "bool") (by rfl) T.bool_ boot_bool' rfl) pa_nil))))))), ?_⟩
    refine ⟨_, rfl, _, _, _, _, _, rfl, .ty _, .base (.int i), kit_ty (b := "int") (r := true) (by decide +kernel), _, rfl, iteT ?_⟩
    exact ⟨_, rfl, _, _, _, _, _, rfl, .ty _, .base (.int i), kit_ty (b := "bool") (r := false) (by decide +kernel), _, rfl, k⟩
theorem scIsNum : FnScope ["value"] ["value"] (defScope sIsNum) := ⟨rfl, rfl, rfl, by decide +kernel, rfl, by decide +kernel, by decide +kernel⟩
theorem ok_isNum {f f1 : Addr} {fd fd1 : FuncData} (F : Fun K "_is_number" "_is_number" sIsNum f fd) (T : Txt K mg C) (D1 : Df K mg "is_integer" sIsInt f1 fd1 ["value"]) : FnOk P w K mg base CX0 2 f fd ["value"] (spIsNum C) := by
  have G1 : FnOk P w K mg base CX0 1 f1 fd1 ["value"] spIsInt := ok_isInt D1.F T
  refine F.ok scIsNum (fun vs H Q E h => ?_) (fun cdv A outer s H vs Q E hr h => ?_)
  · obtain ⟨v, _, _, rfl, _⟩ := h
    rfl
  · obtain ⟨v, t, b, rfl, n, k⟩ := h
    refine ⟨_, pss_one (ps_ret (pe_or (pe_callB call_isi (by rfl) T.isi boot_isi (pa_cons (pv 0) (pa_cons (pe_glob (v := .ref C) rfl T.mgC rfl) pa_nil)))
      (pe_one (pe_call G1 hr rfl D1.M D1.F.kp D1.B .nil pass0 (pa_cons (pv 0) pa_nil))))), ?_⟩
    rcases n with ⟨rfl, rfl⟩ | ⟨p, rfl, r⟩
    · exact ⟨_, rfl, _, _, _, _, _, rfl, .own C, .base (.int t), T.kI, _, rfl, iteF ⟨_, rfl, t, rfl, k⟩⟩
    · exact ⟨_, rfl, _, _, _, _, _, rfl, .own C, T.ty r, T.kC, _, rfl, iteT k⟩
theorem scTop : FnScope ["value"] ["value"] (defScope sTop) := ⟨rfl, rfl, rfl, by decide +kernel, rfl, by decide +kernel, by decide +kernel⟩
theorem ok_top {f : Addr} {fd : FuncData} (F : Fun K "_top" "_top" sTop f fd) (T : Txt K mg C) : FnOk P w K mg base CX0 1 f fd ["value"] (spTop C) := by
  refine F.ok scTop (fun vs H Q E h => ?_) (fun cdv A outer s H vs Q E hr h => ?_)
  · obtain ⟨v, _, _, rfl, _⟩ := h
    rfl
  · obtain ⟨v, t, b, rfl, n, k⟩ := h
    refine ⟨_, pss_one (ps_ret (pe_ifExp (pt_val (pe_callB call_isi (by rfl) T.isi boot_isi (pa_cons (pv 0) (pa_cons (pe_glob (v := .ref C) rfl T.mgC rfl) pa_nil)))) (pe_fld (pv 0) rfl) (pv 0))), ?_⟩
    rcases n with ⟨rfl, rfl⟩ | ⟨p, rfl, r⟩
    · exact ⟨_, rfl, _, _, _, _, _, rfl, .own C, .base (.int t), T.kI, _, rfl, iteF ⟨_, rfl, k⟩⟩
    · obtain ⟨dx, e⟩ := r.ob
      exact ⟨_, rfl, _, _, _, _, _, rfl, .own C, T.ty r, T.kC, _, rfl, iteT ⟨_, rfl, p, C, dx, _, _, rfl, e, T.cl, T.nT, flds_top _ _, k⟩⟩
theorem scBot : FnScope ["value"] ["value"] (defScope sBot) := ⟨rfl, rfl, rfl, by decide +kernel, rfl, by decide +kernel, by decide +kernel⟩
theorem ok_bot {f : Addr} {fd : FuncData} (F : Fun K "_bottom" "_bottom" sBot f fd) (T : Txt K mg C) : FnOk P w K mg base CX0 1 f fd ["value"] (spBot C) := by
  refine F.ok scBot (fun vs H Q E h => ?_) (fun cdv A outer s H vs Q E hr h => ?_)
  · obtain ⟨v, _, _, rfl, _⟩ := h
    rfl
  · obtain ⟨v, t, b, rfl, n, k⟩ := h
    refine ⟨_, pss_one (ps_ret (pe_ifExp (pt_val (pe_callB call_isi (by rfl) T.isi boot_isi (pa_cons (pv 0) (pa_cons (pe_glob (v := .ref C) rfl T.mgC rfl) pa_nil)))) (pe_fld (pv 0) rfl) pe_int)), ?_⟩
    rcases n with ⟨rfl, rfl⟩ | ⟨p, rfl, r⟩
    · exact ⟨_, rfl, _, _, _, _, _, rfl, .own C, .base (.int t), T.kI, _, rfl, iteF k⟩
    · obtain ⟨dx, e⟩ := r.ob
      exact ⟨_, rfl, _, _, _, _, _, rfl, .own C, T.ty r, T.kC, _, rfl, iteT ⟨_, rfl, p, C, dx, _, _, rfl, e, T.cl, T.nB, flds_bot _ _, k⟩⟩
theorem mulw {n m : Nat} {x y : Int} (hx : Sm n x) (hy : Sm m y) (hn : 0 < n) (hm : 0 < m) (h : n + m ≤ 1000000) : CMulW x y := wide_mul hx hy hn hm h
theorem scGap : FnScope ["first", "second"] ["first", "second"] (defScope sGap) := ⟨rfl, rfl, rfl, by decide +kernel, rfl, by decide +kernel, by decide +kernel⟩
theorem ok_gap {f f1 f2 : Addr} {fd fd1 fd2 : FuncData} (F : Fun K "_gap" "_gap" sGap f fd) (T : Txt K mg C) (D1 : Df K mg "_top" sTop f1 fd1 ["value"]) (D2 : Df K mg "_bottom" sBot f2 fd2 ["value"]) : FnOk P w K mg base CX0 2 f fd ["first", "second"] (spGap C) := by
  have G1 : FnOk P w K mg base CX0 1 f1 fd1 ["value"] (spTop C) := ok_top D1.F T
  have G2 : FnOk P w K mg base CX0 1 f2 fd2 ["value"] (spBot C) := ok_bot D2.F T
  refine F.ok scGap (fun vs H Q E h => ?_) (fun cdv A outer s H vs Q E hr h => ?_)
  · obtain ⟨p, v, _, _, _, _, rfl, _⟩ := h
    rfl
  · obtain ⟨p, v, t, b, t', b', rfl, r, n, s1, s2, s3, s4, k⟩ := h
    obtain ⟨dx, e⟩ := r.ob
    refine ⟨_, pss_one (ps_ret (pe_op op_sub (pe_op op_mulW (pe_fld (pv 0) rfl) (pe_call G2 hr rfl D2.M D2.F.kp D2.B .nil pass0 (pa_cons (pv 1) pa_nil)))
      (pe_op op_mulW (pe_call G1 hr rfl D1.M D1.F.kp D1.B .nil pass0 (pa_cons (pv 1) pa_nil)) (pe_fld (pv 0) rfl)))), ?_⟩
    refine ⟨_, rfl, p, C, dx, _, _, rfl, e, T.cl, T.nT, flds_top _ _, _, rfl, v, t', b', rfl, n, _, _, rfl, rfl, mulw s1 s4 (by decide) (by decide) (by decide), ?_⟩
    refine ⟨_, rfl, v, t', b', rfl, n, _, rfl, p, C, dx, _, _, rfl, e, T.cl, T.nB, flds_bot _ _, _, _, rfl, rfl, mulw s3 s2 (by decide) (by decide) (by decide), ?_⟩
    exact ⟨_, _, rfl, rfl, k⟩
theorem ifD_no {p A B : Prop} [Decidable p] (h : ¬ p) (q : B) : if decide p = true then A else B := by
  rw [decide_eq_false h]
  exact iteF q
theorem ifD_yes {p A B : Prop} [Decidable p] (h : p) (q : A) : if decide p = true then A else B := by
  rw [decide_eq_true h]
  exact iteT q
theorem ifD_2 {p A B : Prop} [Decidable p] (h1 : p → A) (h2 : ¬ p → B) : if decide p = true then A else B := by
  by_cases h : p
  · exact ifD_yes h (h1 h)
  · exact ifD_no h (h2 h)
/-! ### Ratio.__init__ -/
abbrev FunI (K : PySem.W.Frag) (f : Addr) (fd : FuncData) : Prop := FunD K "__init__" "Ratio.__init__" (defArgs sInit) (defBody sInit) (defScope sInit) [V.int 1] [] f fd
theorem scInit : FnScope ["self", "top", "bottom", "shared"] ["self", "top", "bottom"] (defScope sInit) := ⟨rfl, rfl, rfl, by decide +kernel, rfl, by decide +kernel, by decide +kernel⟩
theorem ok_init {f : Addr} {fd : FuncData} (F : FunI K f fd) (T : Txt K mg C) : FnOk P w K mg base CX0 1 f fd ["self", "top", "bottom"] (spInit C) := by
  refine F.ok scInit (fun vs H Q E h => ?_) (fun cdv A outer s H vs Q E hr h => ?_)
  · obtain ⟨p, dx, t, b, rfl, _⟩ := h
    rfl
  · obtain ⟨p, dx, t, b, rfl, hb, hs, hp, k⟩ := h
    obtain ⟨m1, m2, m3, m4, m5, m6⟩ := rat_mk (t := t) hb
    have hdiv : CDivS t (shr t b) := ⟨m1, Nat.lt_of_lt_of_le (PySem.Flt.log2_lt_of (by decide) (hs.le m2)) (Nat.le_refl _)⟩
    have hdiv2 : CDivS b (shr t b) := hdiv
    refine ⟨_, pss_cons (ps_if (pt_cmpR op_eq (pv 2) pe_int (nomark _)) pss_never pss_nil)
      (pss_cons (ps_set (i := 3) scInit.nd rfl (Or.inl rfl) (pe_callBfun cr_gcd (by rfl) T.gcd (pa_cons (pv 1) (pa_cons (pv 2) pa_nil))))
      (pss_cons (ps_if (pt_cmpR op_lt (pv 2) pe_int (nomark _)) (pss_one (ps_set (i := 3) scInit.nd rfl (Or.inl rfl) (pe_un un_neg (pv 3)))) pss_nil)
      (pss_cons (ps_fld (pv 0) (pe_op op_fdivS (pv 1) (pv 3)) rfl)
      (pss_one (ps_fld (pv 0) (pe_op op_fdivS (pv 2) (pv 3)) rfl))))), ?_⟩
    refine ⟨_, rfl, rfl, _, rfl, ifD_no (fun z => hb (by injection z)) ?_⟩
    refine ⟨_, rfl, _, rfl, t, b, rfl, ?_⟩
    refine ⟨_, rfl, b, 0, rfl, rfl, _, rfl, ifD_2 (fun hneg => ?_) (fun hneg => ?_)⟩
    · have e1 : shr t b = -((Nat.gcd t.natAbs b.natAbs : Nat) : Int) := by
        unfold shr
        rw [if_pos hneg]
      rw [e1] at hdiv hdiv2 m3 m4 m5 m6
      refine ⟨_, rfl, _, rfl, ?_⟩
      refine ⟨_, rfl, _, rfl, _, _, rfl, rfl, hdiv, _, rfl, p, C, dx, _, rfl, hp, T.cl, T.nT, (by show 0 < 1000; decide), ?_⟩
      refine ⟨_, rfl, _, rfl, _, _, rfl, rfl, hdiv2, _, rfl, p, C, dx, _, rfl, upd_same, T.cl, T.nB, (by show 1 < 1000; decide), ?_⟩
      exact k _ _ _ m3 m4 m5 m6 upd_same fun c o e hc => by rw [upd_ne hc, upd_ne hc]; exact e
    · have e1 : shr t b = ((Nat.gcd t.natAbs b.natAbs : Nat) : Int) := by
        unfold shr
        rw [if_neg hneg]
      rw [e1] at hdiv hdiv2 m3 m4 m5 m6
      refine ⟨_, rfl, _, rfl, _, _, rfl, rfl, hdiv, _, rfl, p, C, dx, _, rfl, hp, T.cl, T.nT, (by show 0 < 1000; decide), ?_⟩
      refine ⟨_, rfl, _, rfl, _, _, rfl, rfl, hdiv2, _, rfl, p, C, dx, _, rfl, upd_same, T.cl, T.nB, (by show 1 < 1000; decide), ?_⟩
      exact k _ _ _ m3 m4 m5 m6 upd_same fun c o e hc => by rw [upd_ne hc, upd_ne hc]; exact e
end
end PA

set_option maxHeartbeats 2000000
namespace PA
open PySem L2
/-- a new Ratio of value n / d -/
def News (C : Addr) (H : Hp) (Q : VK) (n d : Int) : Prop := ∀ x H' T B, H x = none → Same H H' → RatAt C H' x T B → T * d = n * B → T.natAbs ≤ n.natAbs → B.natAbs ≤ d.natAbs → Q (.ref x) H'
/-- self op other, a new Ratio of value num / (B * B') -/
def spBin (num : Int → Int → Int → Int → Int) (C : Addr) : Sp := fun vs H Q _ => ∃ p v T B T' B', vs = [.ref p, v] ∧ RatAt C H p T B ∧ Num C H v T' B' ∧ Sm 2000 T ∧ Sm 2000 B ∧ Sm 2000 T' ∧ Sm 2000 B' ∧ News C H Q (num T B T' B') (B * B')
def nAdd (T B T' B' : Int) : Int := T * B' + T' * B
def nSub (T B T' B' : Int) : Int := T * B' - T' * B
def nRsub (T B T' B' : Int) : Int := T' * B - T * B'
def nMul (T _ T' _ : Int) : Int := T * T'
def spNeg (C : Addr) : Sp := fun vs H Q _ => ∃ p T B, vs = [.ref p] ∧ RatAt C H p T B ∧ Sm 4000 B ∧ News C H Q (-T) B
def spAbs (C : Addr) : Sp := fun vs H Q _ => ∃ p T B, vs = [.ref p] ∧ RatAt C H p T B ∧ Sm 4000 B ∧ News C H Q (if T < 0 then -T else T) B
theorem mk_rat {C : Addr} {H : Hp} {Q : VK} {E : XK} {t b : Int} (hb : b ≠ 0) (hs : Sm 9000 b) (k : News C H Q t b) :
    ∀ x dx, H x = none → H dx = none → dx ≠ x → spInit C (V.ref x :: ([V.int t, V.int b] ++ [])) (upd (upd H dx (.own x)) x (.ins C dx [])) (fun v H2 => v = .non ∧ Q (.ref x) H2) E := by
  intro x dx nx ndx nex
  refine ⟨x, dx, t, b, rfl, hb, hs, upd_same, fun T B H' l e1 e2 e3 ho kp => ⟨rfl, k x H' T B nx (fun c o e => ?_) ⟨l, dx, ho⟩ e1 e2 e3⟩⟩
  exact kp c o (by rw [upd_ne (ne_of_none e nx), upd_ne (ne_of_none e ndx)]; exact e) (ne_of_none e nx)
theorem Low.ne {T B : Int} (h : Low T B) : B ≠ 0 := fun z => by have := h.pos; omega
section
variable {P : Program} {w : World} {K : PySem.W.Frag} {mg : Str → Option Value} {base : Heap} {C : Addr}
/-- the module's small defs and the class's maker -/
structure Lib (K : PySem.W.Frag) (mg : Str → Option Value) (C fi f1 f2 f3 f4 f5 : Addr) (di d1 d2 d3 d4 d5 : FuncData) : Prop where
  T : Txt K mg C
  I : FunI K fi di
  M : Mk K C fi
  b2 : Binds K di ["self", "top", "bottom"] []
  isInt : Df K mg "is_integer" sIsInt f1 d1 ["value"]
  isNum : Df K mg "_is_number" sIsNum f2 d2 ["value"]
  top_ : Df K mg "_top" sTop f3 d3 ["value"]
  bot_ : Df K mg "_bottom" sBot f4 d4 ["value"]
  gap_ : Df K mg "_gap" sGap f5 d5 ["first", "second"]
variable {fi f1 f2 f3 f4 f5 : Addr} {di d1 d2 d3 d4 d5 : FuncData}
theorem scAdd : FnScope ["self", "other", "top"] ["self", "other"] (defScope sAdd) := ⟨rfl, rfl, rfl, by decide +kernel, rfl, by decide +kernel, by decide +kernel⟩
theorem ok_add {f : Addr} {fd : FuncData} (F : Fun K "__add__" "Ratio.__add__" sAdd f fd) (L : Lib K mg C fi f1 f2 f3 f4 f5 di d1 d2 d3 d4 d5) : FnOk P w K mg base CX0 3 f fd ["self", "other"] (spBin nAdd C) := by
  have GI : FnOk P w K mg base CX0 1 fi di ["self", "top", "bottom"] (spInit C) := ok_init L.I L.T
  have G2 : FnOk P w K mg base CX0 2 f2 d2 ["value"] (spIsNum C) := ok_isNum L.isNum.F L.T L.isInt
  have G3 : FnOk P w K mg base CX0 1 f3 d3 ["value"] (spTop C) := ok_top L.top_.F L.T
  have G4 : FnOk P w K mg base CX0 1 f4 d4 ["value"] (spBot C) := ok_bot L.bot_.F L.T
  have T := L.T
  refine F.ok scAdd (fun vs H Q E h => ?_) (fun cdv A outer s H vs Q E hr h => ?_)
  · obtain ⟨p, v, _, _, _, _, rfl, _⟩ := h
    rfl
  · obtain ⟨p, v, t, b, t', b', rfl, r, n, s1, s2, s3, s4, k⟩ := h
    obtain ⟨dx, e⟩ := r.ob
    have hr1 : Room 1 _ := hr.mono (by decide)
    refine ⟨_, pss_cons (ps_if (pt_not (pt_val (pe_call G2 hr rfl L.isNum.M L.isNum.F.kp L.isNum.B .nil pass0 (pa_cons (pv 1) pa_nil)))) pss_never pss_nil)
      (pss_cons (ps_set (i := 2) scAdd.nd rfl (Or.inl rfl) (pe_op op_add (pe_op op_mulW (pe_fld (pv 0) rfl) (pe_call G4 hr1 rfl L.bot_.M L.bot_.F.kp L.bot_.B .nil pass0 (pa_cons (pv 1) pa_nil)))
        (pe_op op_mulW (pe_call G3 hr1 rfl L.top_.M L.top_.F.kp L.top_.B .nil pass0 (pa_cons (pv 1) pa_nil)) (pe_fld (pv 0) rfl))))
      (pss_one (ps_ret (pe_make L.M GI hr rfl T.mgC L.b2 .nil pass0 (pa_cons (pv 2) (pa_cons (pe_op op_mulW (pe_fld (pv 0) rfl) (pe_call G4 hr1 rfl L.bot_.M L.bot_.F.kp L.bot_.B .nil pass0 (pa_cons (pv 1) pa_nil))) pa_nil)))))), ?_⟩
    refine ⟨_, rfl, v, t', b', rfl, n, _, rfl, iteF ?_⟩
    refine ⟨_, rfl, p, C, dx, _, _, rfl, e, T.cl, T.nT, flds_top _ _, _, rfl, v, t', b', rfl, n, _, _, rfl, rfl, mulw s1 s4 (by decide) (by decide) (by decide), ?_⟩
    refine ⟨_, rfl, v, t', b', rfl, n, _, rfl, p, C, dx, _, _, rfl, e, T.cl, T.nB, flds_bot _ _, _, _, rfl, rfl, mulw s3 s2 (by decide) (by decide) (by decide), ?_⟩
    refine ⟨_, _, rfl, rfl, ?_⟩
    refine ⟨_, rfl, _, rfl, p, C, dx, _, _, rfl, e, T.cl, T.nB, flds_bot _ _, _, rfl, v, t', b', rfl, n, _, _, rfl, rfl, mulw s2 s4 (by decide) (by decide) (by decide), ?_⟩
    exact mk_rat (Int.mul_ne_zero r.low.ne n.low.ne) (s2.mul s4 (by decide)) k
theorem scSub : FnScope ["self", "other"] ["self", "other"] (defScope sSub) := ⟨rfl, rfl, rfl, by decide +kernel, rfl, by decide +kernel, by decide +kernel⟩
theorem ok_sub {f : Addr} {fd : FuncData} (F : Fun K "__sub__" "Ratio.__sub__" sSub f fd) (L : Lib K mg C fi f1 f2 f3 f4 f5 di d1 d2 d3 d4 d5) : FnOk P w K mg base CX0 3 f fd ["self", "other"] (spBin nSub C) := by
  have GI : FnOk P w K mg base CX0 1 fi di ["self", "top", "bottom"] (spInit C) := ok_init L.I L.T
  have G2 : FnOk P w K mg base CX0 2 f2 d2 ["value"] (spIsNum C) := ok_isNum L.isNum.F L.T L.isInt
  have G4 : FnOk P w K mg base CX0 1 f4 d4 ["value"] (spBot C) := ok_bot L.bot_.F L.T
  have G5 : FnOk P w K mg base CX0 2 f5 d5 ["first", "second"] (spGap C) := ok_gap L.gap_.F L.T L.top_ L.bot_
  have T := L.T
  refine F.ok scSub (fun vs H Q E h => ?_) (fun cdv A outer s H vs Q E hr h => ?_)
  · obtain ⟨p, v, _, _, _, _, rfl, _⟩ := h
    rfl
  · obtain ⟨p, v, t, b, t', b', rfl, r, n, s1, s2, s3, s4, k⟩ := h
    obtain ⟨dx, e⟩ := r.ob
    have hr1 : Room 1 _ := hr.mono (by decide)
    refine ⟨_, pss_cons (ps_if (pt_not (pt_val (pe_call G2 hr rfl L.isNum.M L.isNum.F.kp L.isNum.B .nil pass0 (pa_cons (pv 1) pa_nil)))) pss_never pss_nil)
      (pss_one (ps_ret (pe_make L.M GI hr rfl T.mgC L.b2 .nil pass0 (pa_cons (pe_call G5 hr rfl L.gap_.M L.gap_.F.kp L.gap_.B .nil pass0 (pa_cons (pv 0) (pa_cons (pv 1) pa_nil)))
        (pa_cons (pe_op op_mulW (pe_fld (pv 0) rfl) (pe_call G4 hr1 rfl L.bot_.M L.bot_.F.kp L.bot_.B .nil pass0 (pa_cons (pv 1) pa_nil))) pa_nil))))), ?_⟩
    refine ⟨_, rfl, v, t', b', rfl, n, _, rfl, iteF ?_⟩
    refine ⟨_, rfl, _, rfl, p, v, t, b, t', b', rfl, r, n, s1.mono (by decide), s2.mono (by decide), s3.mono (by decide), s4.mono (by decide), ?_⟩
    refine ⟨_, rfl, p, C, dx, _, _, rfl, e, T.cl, T.nB, flds_bot _ _, _, rfl, v, t', b', rfl, n, _, _, rfl, rfl, mulw s2 s4 (by decide) (by decide) (by decide), ?_⟩
    exact mk_rat (Int.mul_ne_zero r.low.ne n.low.ne) (s2.mul s4 (by decide)) k
theorem scMul : FnScope ["self", "other"] ["self", "other"] (defScope sMul) := ⟨rfl, rfl, rfl, by decide +kernel, rfl, by decide +kernel, by decide +kernel⟩
theorem ok_mul {f : Addr} {fd : FuncData} (F : Fun K "__mul__" "Ratio.__mul__" sMul f fd) (L : Lib K mg C fi f1 f2 f3 f4 f5 di d1 d2 d3 d4 d5) : FnOk P w K mg base CX0 3 f fd ["self", "other"] (spBin nMul C) := by
  have GI : FnOk P w K mg base CX0 1 fi di ["self", "top", "bottom"] (spInit C) := ok_init L.I L.T
  have G2 : FnOk P w K mg base CX0 2 f2 d2 ["value"] (spIsNum C) := ok_isNum L.isNum.F L.T L.isInt
  have G3 : FnOk P w K mg base CX0 1 f3 d3 ["value"] (spTop C) := ok_top L.top_.F L.T
  have G4 : FnOk P w K mg base CX0 1 f4 d4 ["value"] (spBot C) := ok_bot L.bot_.F L.T
  have T := L.T
  refine F.ok scMul (fun vs H Q E h => ?_) (fun cdv A outer s H vs Q E hr h => ?_)
  · obtain ⟨p, v, _, _, _, _, rfl, _⟩ := h
    rfl
  · obtain ⟨p, v, t, b, t', b', rfl, r, n, s1, s2, s3, s4, k⟩ := h
    obtain ⟨dx, e⟩ := r.ob
    have hr1 : Room 1 _ := hr.mono (by decide)
    refine ⟨_, pss_cons (ps_if (pt_not (pt_val (pe_call G2 hr rfl L.isNum.M L.isNum.F.kp L.isNum.B .nil pass0 (pa_cons (pv 1) pa_nil)))) pss_never pss_nil)
      (pss_one (ps_ret (pe_make L.M GI hr rfl T.mgC L.b2 .nil pass0 (pa_cons (pe_op op_mulW (pe_fld (pv 0) rfl) (pe_call G3 hr1 rfl L.top_.M L.top_.F.kp L.top_.B .nil pass0 (pa_cons (pv 1) pa_nil)))
        (pa_cons (pe_op op_mulW (pe_fld (pv 0) rfl) (pe_call G4 hr1 rfl L.bot_.M L.bot_.F.kp L.bot_.B .nil pass0 (pa_cons (pv 1) pa_nil))) pa_nil))))), ?_⟩
    refine ⟨_, rfl, v, t', b', rfl, n, _, rfl, iteF ?_⟩
    refine ⟨_, rfl, p, C, dx, _, _, rfl, e, T.cl, T.nT, flds_top _ _, _, rfl, v, t', b', rfl, n, _, _, rfl, rfl, mulw s1 s3 (by decide) (by decide) (by decide), ?_⟩
    refine ⟨_, rfl, p, C, dx, _, _, rfl, e, T.cl, T.nB, flds_bot _ _, _, rfl, v, t', b', rfl, n, _, _, rfl, rfl, mulw s2 s4 (by decide) (by decide) (by decide), ?_⟩
    exact mk_rat (Int.mul_ne_zero r.low.ne n.low.ne) (s2.mul s4 (by decide)) k
theorem scNeg : FnScope ["self"] ["self"] (defScope sNeg) := ⟨rfl, rfl, rfl, by decide +kernel, rfl, by decide +kernel, by decide +kernel⟩
theorem ok_neg {f : Addr} {fd : FuncData} (F : Fun K "__neg__" "Ratio.__neg__" sNeg f fd) (L : Lib K mg C fi f1 f2 f3 f4 f5 di d1 d2 d3 d4 d5) : FnOk P w K mg base CX0 3 f fd ["self"] (spNeg C) := by
  have GI : FnOk P w K mg base CX0 1 fi di ["self", "top", "bottom"] (spInit C) := ok_init L.I L.T
  have T := L.T
  refine F.ok scNeg (fun vs H Q E h => ?_) (fun cdv A outer s H vs Q E hr h => ?_)
  · obtain ⟨p, _, _, rfl, _⟩ := h
    rfl
  · obtain ⟨p, t, b, rfl, r, s2, k⟩ := h
    obtain ⟨dx, e⟩ := r.ob
    refine ⟨_, pss_one (ps_ret (pe_make L.M GI hr rfl T.mgC L.b2 .nil pass0 (pa_cons (pe_un un_neg (pe_fld (pv 0) rfl)) (pa_cons (pe_fld (pv 0) rfl) pa_nil)))), ?_⟩
    refine ⟨_, rfl, p, C, dx, _, _, rfl, e, T.cl, T.nT, flds_top _ _, _, rfl, _, rfl, p, C, dx, _, _, rfl, e, T.cl, T.nB, flds_bot _ _, ?_⟩
    exact mk_rat r.low.ne (s2.mono (by decide)) k
theorem scAbs : FnScope ["self"] ["self"] (defScope sAbs) := ⟨rfl, rfl, rfl, by decide +kernel, rfl, by decide +kernel, by decide +kernel⟩
theorem ok_abs {f : Addr} {fd : FuncData} (F : Fun K "__abs__" "Ratio.__abs__" sAbs f fd) (L : Lib K mg C fi f1 f2 f3 f4 f5 di d1 d2 d3 d4 d5) : FnOk P w K mg base CX0 3 f fd ["self"] (spAbs C) := by
  have GI : FnOk P w K mg base CX0 1 fi di ["self", "top", "bottom"] (spInit C) := ok_init L.I L.T
  have T := L.T
  refine F.ok scAbs (fun vs H Q E h => ?_) (fun cdv A outer s H vs Q E hr h => ?_)
  · obtain ⟨p, _, _, rfl, _⟩ := h
    rfl
  · obtain ⟨p, t, b, rfl, r, s2, k⟩ := h
    obtain ⟨dx, e⟩ := r.ob
    refine ⟨_, pss_one (ps_ret (pe_make L.M GI hr rfl T.mgC L.b2 .nil pass0 (pa_cons (pe_callB call_abs (by rfl) T.abs_ (by decide +kernel) (pa_cons (pe_fld (pv 0) rfl) pa_nil)) (pa_cons (pe_fld (pv 0) rfl) pa_nil)))), ?_⟩
    refine ⟨_, rfl, p, C, dx, _, _, rfl, e, T.cl, T.nT, flds_top _ _, _, rfl, _, rfl, p, C, dx, _, _, rfl, e, T.cl, T.nB, flds_bot _ _, ?_⟩
    exact mk_rat r.low.ne (s2.mono (by decide)) k
/-- an own operator with what the ints' side asks -/
structure OpTxt (K : PySem.W.Frag) (C f g : Addr) (op : Operator) : Prop where
  O : OwnOp K C f g op
  h1 : ∃ fo, PySem.W.findIn K (.type "int") (PySem.dunder op.info.2) = some fo
  h2 : ∃ ro, PySem.W.findIn K (.type "int") (dunderR op.info.2) = some ro
/-- self op other in the reflected method's own body: other an int or a Ratio -/
def rOwn (C : Addr) (sp : Sp) : R2 := fun x y H Q => ∃ p T B T' B', x = .ref p ∧ RatAt C H p T B ∧ Num C H y T' B' ∧ sp [x, y] H Q E0
theorem op_own {X : Cx} {k : Nat} {f g : Addr} {fd : FuncData} {ps : List Str} {sp : Sp} {op : Operator} (O : OpTxt X.K C f g op) (F : FnOk X.prog X.w X.K X.mg X.base CX0 k f fd ps sp) (hr : Room k X.A) (hb : Binds X.K fd ps []) : OpR X (binaryOp op) (rOwn C sp) := by
  intro pins s σ H x y v u Q I rx ry h
  obtain ⟨p, t, b, t', b', rfl, ⟨_, dx, e⟩, n, q⟩ := h
  rcases n with ⟨rfl, rfl⟩ | ⟨p', rfl, ⟨_, dx', e'⟩⟩
  · obtain ⟨fo, h1⟩ := O.h1
    obtain ⟨ro, h2⟩ := O.h2
    exact op_ownI O.O h1 h2 F hr hb pass0 pins s σ H _ _ v u Q I rx ry ⟨p, t', dx, _, rfl, rfl, e, q⟩
  · exact op_ownR O.O F hr hb pass0 pins s σ H _ _ v u Q I rx ry ⟨p, p', dx, dx', _, _, rfl, rfl, e, e', q⟩
theorem scRadd : FnScope ["self", "other"] ["self", "other"] (defScope sRadd) := ⟨rfl, rfl, rfl, by decide +kernel, rfl, by decide +kernel, by decide +kernel⟩
theorem ok_radd {f g : Addr} {fd gd : FuncData} (F : Fun K "__radd__" "Ratio.__radd__" sRadd g gd) (O : OpTxt K C f g .Add) (G : FnOk P w K mg base CX0 3 f fd ["self", "other"] (spBin nAdd C)) (bG : Binds K fd ["self", "other"] []) :
    FnOk P w K mg base CX0 4 g gd ["self", "other"] (spBin nAdd C) := by
  refine F.ok scRadd (fun vs H Q E h => ?_) (fun cdv A outer s H vs Q E hr h => ?_)
  · obtain ⟨p, v, _, _, _, _, rfl, _⟩ := h
    rfl
  · obtain ⟨p, v, t, b, t', b', rfl, r, n, s1, s2, s3, s4, k⟩ := h
    refine ⟨_, pss_one (ps_ret (pe_op (op_own O G hr bG) (pv 0) (pv 1))), ?_⟩
    exact ⟨_, rfl, _, rfl, p, t, b, t', b', rfl, r, n, p, v, t, b, t', b', rfl, r, n, s1, s2, s3, s4, k⟩
theorem scRmul : FnScope ["self", "other"] ["self", "other"] (defScope sRmul) := ⟨rfl, rfl, rfl, by decide +kernel, rfl, by decide +kernel, by decide +kernel⟩
theorem ok_rmul {f g : Addr} {fd gd : FuncData} (F : Fun K "__rmul__" "Ratio.__rmul__" sRmul g gd) (O : OpTxt K C f g .Mult) (G : FnOk P w K mg base CX0 3 f fd ["self", "other"] (spBin nMul C)) (bG : Binds K fd ["self", "other"] []) :
    FnOk P w K mg base CX0 4 g gd ["self", "other"] (spBin nMul C) := by
  refine F.ok scRmul (fun vs H Q E h => ?_) (fun cdv A outer s H vs Q E hr h => ?_)
  · obtain ⟨p, v, _, _, _, _, rfl, _⟩ := h
    rfl
  · obtain ⟨p, v, t, b, t', b', rfl, r, n, s1, s2, s3, s4, k⟩ := h
    refine ⟨_, pss_one (ps_ret (pe_op (op_own O G hr bG) (pv 0) (pv 1))), ?_⟩
    exact ⟨_, rfl, _, rfl, p, t, b, t', b', rfl, r, n, p, v, t, b, t', b', rfl, r, n, s1, s2, s3, s4, k⟩
theorem scRsub : FnScope ["self", "other"] ["self", "other"] (defScope sRsub) := ⟨rfl, rfl, rfl, by decide +kernel, rfl, by decide +kernel, by decide +kernel⟩
theorem ok_rsub {f g fa fn h : Addr} {fd gd fnd hd : FuncData} (F : Fun K "__rsub__" "Ratio.__rsub__" sRsub h hd) (O : OpTxt K C f g .Add) (G : FnOk P w K mg base CX0 3 f fd ["self", "other"] (spBin nAdd C)) (bG : Binds K fd ["self", "other"] [])
    (mN : Meth K C "__neg__" fn) (GN : FnOk P w K mg base CX0 3 fn fnd ["self"] (spNeg C)) (bN : Binds K fnd ["self"] []) :
    FnOk P w K mg base CX0 4 h hd ["self", "other"] (spBin nRsub C) := by
  refine F.ok scRsub (fun vs H Q E h => ?_) (fun cdv A outer s H vs Q E hr h => ?_)
  · obtain ⟨p, v, _, _, _, _, rfl, _⟩ := h
    rfl
  · obtain ⟨p, v, t, b, t', b', rfl, r, n, s1, s2, s3, s4, k⟩ := h
    obtain ⟨dx, e⟩ := r.ob
    refine ⟨_, pss_one (ps_ret (pe_op (op_own O G hr bG) (pe_un (un_own mN.at_ mN.fn GN hr bN pass0) (pv 0)) (pv 1))), ?_⟩
    refine ⟨_, rfl, p, dx, _, rfl, e, p, t, b, rfl, r, s2.mono (by decide), fun x H1 T1 B1 nx sm r1 e1 l1 l2 => ?_⟩
    obtain ⟨rfl, rfl⟩ := r1.low.uniq r.low.neg e1
    have n1 := n.same sm
    refine ⟨_, rfl, x, _, _, t', b', rfl, r1, n1, x, v, _, _, t', b', rfl, r1, n1, s1.neg, s2, s3, s4, fun x2 H2 T2 B2 nx2 sm2 r2 e2 l3 l4 => ?_⟩
    have en : nAdd (-t) B1 t' b' = nRsub t B1 t' b' := by
      unfold nAdd nRsub
      rw [Int.neg_mul]
      omega
    rw [en] at e2 l3
    exact k x2 H2 T2 B2 (sm.free nx2) (sm.trans sm2) r2 e2 l3 l4
end
end PA

set_option maxHeartbeats 2000000
namespace PA
open PySem L2
open C8 (pss_cut tCut)
abbrev sDraw : Stmt := top 10
abbrev sStart : Stmt := top 11
abbrev sWhole : Stmt := top 12
abbrev sNumber : Stmt := top 13
abbrev sDivisor : Stmt := top 14
abbrev sRatio : Stmt := top 15
abbrev sRefused : Stmt := top 16
abbrev sLaw : Stmt := top 17
/-! ### data of ints -/
theorem ints_lay : ∀ ns : List Int, PyData.canLayAll0 (ns.map PyData.int) = true
  | [] => by simp [PyData.canLayAll0]
  | z :: zs => by simp [PyData.canLayAll0, PyData.canLay0, ints_lay zs]
theorem ints_depth : ∀ ns : List Int, PyData.depthAll (ns.map PyData.int) ≤ 2
  | [] => by simp [PyData.depthAll]
  | z :: zs => by
    have h1 := ints_depth zs
    simp only [List.map_cons, PyData.depthAll, PyData.depth]
    omega
theorem ints_shaped (ns : List Int) : SeqAt.shaped (.list (ns.map PyData.int)) = true := by
  have h1 := ints_depth ns
  have h2 : PyData.depth (.list (ns.map PyData.int)) ≤ 64 := by
    simp only [PyData.depth]
    omega
  show (PyData.canLay0 (.list (ns.map PyData.int)) && decide (PyData.depth (.list (ns.map PyData.int)) ≤ 64)) = true
  rw [Bool.and_eq_true]
  exact ⟨by simp only [PyData.canLay0]; exact ints_lay ns, decide_eq_true h2⟩
theorem dp_ints {K : PySem.W.Frag} {H : Hp} : ∀ ns : List Int, DpAll K H (ns.map V.int) (ns.map PyData.int)
  | [] => .nil
  | z :: zs => .cons (.int z) (dp_ints zs)
theorem ints_nil (ns : List Int) : PyData.eqv (.list (ns.map PyData.int)) (.list []) = ns.isEmpty := by
  cases ns with
  | nil => simp [PyData.eqv, PyData.eqvAll]
  | cons z zs => simp [PyData.eqv, PyData.eqvAll]
/-! ### the stream of draws: the list at a, the numbers left at l, n draws made -/
def StreamAt (H : Hp) (a l : Addr) (n : Nat) : Prop := a ≠ l ∧ ∃ (ns : List Int) (x z : Int), H a = some (.lst [.ref l, .int x, .int (n : Int), .int z]) ∧ H l = some (.lst (ns.map V.int)) ∧ ns.length ≤ 63 ∧ 0 ≤ x ∧ 0 ≤ z ∧ z < 2147483647
/-- all but the stream is kept -/
def Keep (a l : Addr) (H H' : Hp) : Prop := ∀ c o, c ≠ a → c ≠ l → H c = some o → H' c = some o
theorem Keep.refl (a l : Addr) (H : Hp) : Keep a l H H := fun _ _ _ _ h => h
theorem Keep.trans {a l : Addr} {H H1 H2 : Hp} (h : Keep a l H H1) (h' : Keep a l H1 H2) : Keep a l H H2 := fun c o x y e => h' c o x y (h c o x y e)
theorem Keep.of {a l : Addr} {H H' : Hp} (h : Same H H') : Keep a l H H' := fun c o _ _ e => h c o e
theorem StreamAt.same {H H' : Hp} {a l : Addr} {n : Nat} (h : StreamAt H a l n) (s : Same H H') : StreamAt H' a l n := by
  obtain ⟨ne, ns, x, z, h1, h2, h3⟩ := h
  exact ⟨ne, ns, x, z, s _ _ h1, s _ _ h2, h3⟩
theorem Same.new {H : Hp} {p : Addr} {o : HO} (hp : H p = none) : Same H (upd H p o) := fun b u e => by
  rw [upd_ne (ne_of_none e hp)]
  exact e
def spDraw : Sp := fun vs H Q _ => ∃ (a l : Addr) (n : Nat) (many : Int), vs = [.ref a, .int many] ∧ StreamAt H a l n ∧ n ≤ 100000 ∧ 0 < many ∧ Sm 9000 many ∧
  ∀ (r : Int) (H' : Hp), 0 ≤ r → r < many → StreamAt H' a l (n + 1) → Keep a l H H' → Q (.int r) H'
section
variable {P : Program} {w : World} {K : PySem.W.Frag} {mg : Str → Option Value} {base : Heap} {C : Addr}
theorem scDraw : FnScope ["_law_stream", "_law_many", "_law_digit", "_law_mixed"] ["_law_stream", "_law_many"] (defScope sDraw) := ⟨rfl, rfl, rfl, by decide +kernel, rfl, by decide +kernel, by decide +kernel⟩
theorem ok_draw {f : Addr} {fd : FuncData} (F : Fun K "_law_draw" "_law_draw" sDraw f fd) (T : Txt K mg C) : FnOk P w K mg base CX0 1 f fd ["_law_stream", "_law_many"] spDraw := by
  refine F.ok scDraw (fun vs H Q E h => ?_) (fun cdv A outer s H vs Q E hr h => ?_)
  · obtain ⟨a, l, n, many, rfl, _⟩ := h
    rfl
  · obtain ⟨a, l, n, many, rfl, ⟨ne, ns, x, z, h1, h2, hl, hx, hz0, hz1⟩, hn, hm, hms, k⟩ := h
    have hW : ∀ j : Int, CDivW j many := fun j => ⟨hm, Nat.lt_of_lt_of_le (PySem.Flt.log2_lt_of (by decide) hms) (Nat.le_refl _)⟩
    refine ⟨_, pss_cut (ps_asg (pe_op op_add (pe_ix ix_list (pv 0) pe_int (fun _ _ => rfl)) pe_int) (pg_sub (pv 0) pe_int set_list))
      (pss_cut (ps_if (PW.pt (pw_and (pt_cmpR op_eq (pe_ix ix_list (pv 0) pe_int (fun _ _ => rfl)) pe_int (nomark _)) (pw_and1 (pt_cmpR (op_neD hr.units) (pe_ix ix_list (pv 0) pe_int (fun _ _ => rfl)) (pe_lst pa_nil) (nomark _)))))
        (pss_cons (ps_asg (pe_bm PySem.F.plainAttrs_list PySem.F.slot_list_pop PySem.F.type_list_pop mt_popAt (pe_ix ix_list (pv 0) pe_int (fun _ _ => rfl)) (pa_cons pe_int pa_nil)) (pg_sub (pv 0) pe_int set_list))
          (pss_one (ps_if (pt_cmpR op_lt (pe_ix ix_list (pv 0) pe_int (fun _ _ => rfl)) (pe_op op_pow pe_int pe_int) (nomark _))
            (pss_cons (ps_asg (pe_op op_mod (pe_callTy call_int1 (by rfl) T.int_ boot_int' (pa_cons (pe_op op_add (pe_op op_add (pe_op op_mul (pe_ix ix_list (pv 0) pe_int (fun _ _ => rfl)) pe_int) (pe_ix ix_list (pv 0) pe_int (fun _ _ => rfl))) pe_int) pa_nil)) pe_int) (pg_sub (pv 0) pe_int set_list))
              (pss_one (ps_asg pe_int (pg_sub (pv 0) pe_int set_list)))) pss_nil))) pss_nil)
      (pss_cons (ps_if (pt_cmpR op_gt (pe_ix ix_list (pv 0) pe_int (fun _ _ => rfl)) pe_int (nomark _))
        (pss_cons (ps_set (i := 2) scDraw.nd rfl (Or.inl rfl) (pe_op op_mod (pe_callTy call_int1 (by rfl) T.int_ boot_int' (pa_cons (pe_ix ix_list (pv 0) pe_int (fun _ _ => rfl)) pa_nil)) (pv 1)))
          (pss_cons (ps_asg (pe_op op_fdivW (pe_ix ix_list (pv 0) pe_int (fun _ _ => rfl)) (pv 1)) (pg_sub (pv 0) pe_int set_list))
            (pss_one (ps_ret (pv 2))))) pss_nil)
      (pss_cons (ps_set (i := 3) scDraw.nd rfl (Or.inl rfl) (pe_op op_mod (pe_op op_pow (pe_op op_add (pe_op op_add (pe_ix ix_list (pv 0) pe_int (fun _ _ => rfl)) (pe_op op_mul pe_int (pe_ix ix_list (pv 0) pe_int (fun _ _ => rfl)))) pe_int) pe_int) pe_int))
      (pss_one (ps_ret (pe_op op_mod (pe_op op_mod (pe_op op_pow (pe_op op_add (pe_op op_add (pe_op op_mul (pv 3) pe_int) (pe_op op_mul (pe_op op_mul pe_int (pe_ix ix_list (pv 0) pe_int (fun _ _ => rfl))) (pe_ix ix_list (pv 0) pe_int (fun _ _ => rfl)))) pe_int) pe_int) pe_int) (pv 1))))))), ?_⟩
    refine ⟨fun σ' H' => σ' = [some (V.ref a), some (V.int many), none, none] ∧ H' = upd H a (.lst [.ref l, .int x, .int ((n : Int) + 1), .int z]), ?_, ?_⟩
    · exact ⟨_, rfl, a, _, 2, _, rfl, rfl, SqL.of h1, rfl, _, _, rfl, rfl, _, rfl, a, _, 2, 2, rfl, rfl, h1, rfl, rfl, rfl⟩
    rintro _ _ ⟨rfl, rfl⟩
    refine ⟨fun σ' H' => σ' = [some (V.ref a), some (V.int many), none, none] ∧ ∃ (ns' : List Int) (x' z' : Int), H' a = some (.lst [.ref l, .int x', .int ((n : Int) + 1), .int z']) ∧ H' l = some (.lst (ns'.map V.int)) ∧ ns'.length ≤ 63 ∧ 0 ≤ x' ∧ 0 ≤ z' ∧ z' < 2147483647 ∧ Keep a l H H', ?_, ?_⟩
    · have kp1 : Keep a l H (upd H a (.lst [.ref l, .int x, .int ((n : Int) + 1), .int z])) := fun c o ca _ e => by rw [upd_ne ca]; exact e
      have hl1 : (upd H a (.lst [.ref l, .int x, .int ((n : Int) + 1), .int z])) l = some (.lst (ns.map V.int)) := by rw [upd_ne ne.symm]; exact h2
      refine ⟨_, rfl, a, _, 1, _, rfl, rfl, SqL.of upd_same, rfl, rfl, _, rfl, ifD_2 (fun hx0 => ?_) (fun _ => iteF ?_)⟩
      · refine ⟨_, rfl, a, _, 0, _, rfl, rfl, SqL.of upd_same, rfl, Nat.zero_le _, fun p hp => ?_⟩
        have npa : a ≠ p := fun e => by rw [← e, upd_same] at hp; cases hp
        have npl : l ≠ p := ne_of_none hl1 hp
        have kp2 : Keep a l H (upd (upd H a (.lst [.ref l, .int x, .int ((n : Int) + 1), .int z])) p (.lst [])) := fun c o ca cl e => by
          rw [upd_ne (ne_of_none (kp1 c o ca cl e) hp)]; exact kp1 c o ca cl e
        refine ⟨.list (ns.map PyData.int), .list [], .lst (SqL.of (by rw [upd_ne npl]; exact hl1)) (dp_ints ns), .lst (SqL.of upd_same) .nil, ints_shaped ns, ints_shaped [], _, rfl, ?_⟩
        rw [ints_nil]
        cases ns with
        | nil => exact iteF ⟨rfl, [], x, z, by rw [upd_ne npa, upd_same], by rw [upd_ne npl]; exact hl1, Nat.zero_le _, hx, hz0, hz1, kp2⟩
        | cons y ys =>
          refine iteT ?_
          have ga : (upd (upd H a (.lst [.ref l, .int x, .int ((n : Int) + 1), .int z])) p (.lst [])) a = some (.lst [.ref l, .int x, .int ((n : Int) + 1), .int z]) := by rw [upd_ne npa, upd_same]
          have gl : (upd (upd H a (.lst [.ref l, .int x, .int ((n : Int) + 1), .int z])) p (.lst [])) l = some (.lst ((y :: ys).map V.int)) := by rw [upd_ne npl]; exact hl1
          generalize (upd (upd H a (.lst [.ref l, .int x, .int ((n : Int) + 1), .int z])) p (.lst [])) = Hb at ga gl kp2
          refine ⟨_, rfl, a, _, 0, _, rfl, rfl, SqL.of ga, rfl, .inl ⟨rfl, _, SqL.of gl⟩, l, _, 0, 0, .int y, rfl, rfl, gl, by decide, by decide, (ixN_seq (Evl.ixN_nat (j := 0) (by simp))).1, rfl, ?_⟩
          have ga2 : (upd Hb l (.lst (((y :: ys).map V.int).eraseIdx 0))) a = some (.lst [.ref l, .int x, .int ((n : Int) + 1), .int z]) := by rw [upd_ne ne]; exact ga
          refine ⟨_, rfl, a, _, 1, 1, rfl, rfl, ga2, rfl, ?_⟩
          have kp3 : ∀ o, Keep a l H (upd (upd Hb l (.lst (((y :: ys).map V.int).eraseIdx 0))) a o) := fun o c u ca cl e => by rw [upd_ne ca, upd_ne cl]; exact kp2 c u ca cl e
          have gl3 : ∀ o, (upd (upd Hb l (.lst (((y :: ys).map V.int).eraseIdx 0))) a o) l = some (.lst (ys.map V.int)) := fun o => by rw [upd_ne ne.symm, upd_same]; rfl
          have hys : ys.length ≤ 63 := Nat.le_trans (Nat.le_succ _) hl
          refine ⟨_, rfl, a, _, 1, _, rfl, rfl, SqL.of upd_same, rfl, 10, 18, rfl, rfl, (by show CPow 10 18; unfold CPow; decide), _, _, rfl, rfl, _, rfl, ifD_2 (fun hy => ?_) (fun hy => ?_)⟩
          · refine ⟨_, rfl, a, _, 3, _, rfl, rfl, SqL.of upd_same, rfl, _, _, rfl, rfl, .inr (by decide), _, rfl, a, _, 1, _, rfl, rfl, SqL.of upd_same, rfl, _, _, rfl, rfl, _, _, rfl, rfl, .inl ⟨_, rfl, _, _, rfl, rfl, (by show (0 : Int) < 2147483647; decide), _, rfl, a, _, 3, 3, rfl, rfl, upd_same, rfl, ?_⟩⟩
            refine ⟨_, rfl, a, _, 1, 1, rfl, rfl, upd_same, rfl, ?_⟩
            rw [upd_upd, upd_upd]
            exact ⟨rfl, ys, 0, (z * 31 + y + 7) % 2147483647, upd_same, gl3 _, hys, by decide, Int.emod_nonneg _ (by decide), Int.emod_lt_of_pos _ (by decide), kp3 _⟩
          · exact ⟨rfl, ys, y, z, upd_same, gl3 _, hys, by
              have h18 : (0 : Int) ≤ 10 ^ (18 : Int).toNat := by decide
              omega, hz0, hz1, kp3 _⟩
      · exact ⟨rfl, ns, x, z, upd_same, hl1, hl, hx, hz0, hz1, kp1⟩
    rintro _ H1 ⟨rfl, ns', x', z', g1, g2, gl, gx, gz0, gz1, kp⟩
    refine ⟨_, rfl, a, _, 1, _, rfl, rfl, SqL.of g1, rfl, _, _, rfl, rfl, _, rfl, ifD_2 (fun hp => ?_) (fun _ => ?_)⟩
    · refine ⟨_, rfl, a, _, 1, _, rfl, rfl, SqL.of g1, rfl, .inl ⟨_, rfl, _, rfl, _, _, rfl, rfl, hm, ?_⟩⟩
      refine ⟨_, rfl, a, _, 1, _, rfl, rfl, SqL.of g1, rfl, _, rfl, _, _, rfl, rfl, hW _, _, rfl, a, _, 1, 1, rfl, rfl, g1, rfl, _, rfl, ?_⟩
      refine k (x' % many) _ (Int.emod_nonneg _ (by omega)) (Int.emod_lt_of_pos _ hm) ⟨ne, ns', x' / many, z', upd_same, by rw [upd_ne ne.symm]; exact g2, gl, Int.ediv_nonneg gx (by omega), gz0, gz1⟩ fun c o ca cl e => by
        rw [upd_ne ca]; exact kp c o ca cl e
    · have hn' : (n : Int) ≤ 100000 := by omega
      have hn0 : (0 : Int) ≤ n := by omega
      refine ⟨_, rfl, a, _, 3, _, rfl, rfl, SqL.of g1, rfl, _, rfl, a, _, 2, _, rfl, rfl, SqL.of g1, rfl, _, _, rfl, rfl, .inl (by decide), _, _, rfl, rfl, _, _, rfl, rfl, _, _, rfl, rfl, ?_, _, _, rfl, rfl, (by show (0 : Int) < 2147483629; decide), ?_⟩
      · show CPow _ 5
        refine ⟨by decide, by decide, ?_⟩
        have e64 : (2 : Nat) ^ 64 = 18446744073709551616 := by decide
        rw [e64]
        omega
      · generalize hmx : ((z' + 104729 * ((n : Int) + 1) + 17) ^ (5 : Int).toNat) % 2147483629 = mx
        have m0 : 0 ≤ mx := by rw [← hmx]; exact Int.emod_nonneg _ (by decide)
        have m1 : mx < 2147483629 := by rw [← hmx]; exact Int.emod_lt_of_pos _ (by decide)
        refine ⟨_, rfl, _, _, rfl, rfl, .inr (by decide), _, rfl, a, _, 2, _, rfl, rfl, SqL.of g1, rfl, _, _, rfl, rfl, .inl (by decide), _, rfl, a, _, 2, _, rfl, rfl, SqL.of g1, rfl, _, _, rfl, rfl, .inr ?_, _, _, rfl, rfl, _, _, rfl, rfl, _, _, rfl, rfl, ?_, _, _, rfl, rfl, (by show (0 : Int) < 1000000007; decide), _, rfl, _, _, rfl, rfl, hm, ?_⟩
        · have e64 : (2 : Int) ^ 64 = 18446744073709551616 := by decide
          rw [e64]
          omega
        · show CPow _ 3
          refine ⟨by decide, by decide, ?_⟩
          have e64 : (2 : Nat) ^ 64 = 18446744073709551616 := by decide
          rw [e64]
          have q0 : 0 ≤ 40503 * ((n : Int) + 1) * ((n : Int) + 1) := Int.mul_nonneg (by omega) (by omega)
          have q1 : 40503 * ((n : Int) + 1) * ((n : Int) + 1) ≤ 40503 * 100001 * 100001 := Int.mul_le_mul (by omega) (by omega) (by omega) (by decide)
          omega
        · exact k _ _ (Int.emod_nonneg _ (by omega)) (Int.emod_lt_of_pos _ hm) ⟨ne, ns', x', z', g1, g2, gl, gx, gz0, gz1⟩ kp
end
end PA

set_option maxHeartbeats 2000000
namespace PA
open PySem L2
open C8 (pss_cut tCut)
def spStart (K : PySem.W.Frag) : Sp := fun vs H Q _ => ∃ (p : Addr) (ns : List Int), vs = [.ref p] ∧ SqL K H p (ns.map V.int) ∧ ns.length ≤ 63 ∧ ∀ (a l : Addr) (H' : Hp), StreamAt H' a l 0 → H a = none → H l = none → Same H H' → Q (.ref a) H'
/-- a drawn number of up to 40 digits -/
def spNumber : Sp := fun vs H Q _ => ∃ (a l : Addr) (n : Nat), vs = [.ref a] ∧ StreamAt H a l n ∧ n ≤ 90000 ∧ ∀ (r : Int) (H' : Hp), Sm 135 r → StreamAt H' a l (n + 2) → Keep a l H H' → Q (.int r) H'
def spDivisor : Sp := fun vs H Q _ => ∃ (x y : Int), vs = [.int x, .int y] ∧ Q (.int ((Nat.gcd x.natAbs y.natAbs : Nat) : Int)) H
/-- the found Ratio is u / d -/
def spRatio (C : Addr) : Sp := fun vs H Q _ => ∃ p T B u d, vs = [.ref p, .int u, .int d] ∧ RatAt C H p T B ∧ T * d = u * B ∧ Sm 4000 T ∧ Sm 4000 B ∧ Sm 4000 u ∧ Sm 4000 d ∧ Q (.bl true) H
theorem num_pos {z : Int} (h : 0 < z) : 0 < 2 * z + 1 := by omega
theorem sm9000 {x : Int} {n : Nat} (h : Sm n x) (hn : n ≤ 9000) : Sm 9000 x := h.mono hn
theorem e133 : (2 : Int) ^ 133 = 10889035741470030830827987437816582766592 := by decide
theorem e135 : (2 : Nat) ^ 135 = 43556142965880123323311949751266331066368 := by decide
theorem num_sm {z : Int} (h : 0 < z) (h1 : z ≤ 2 ^ 133) : Sm 9000 (2 * z + 1) := by
  refine sm9000 (n := 135) ?_ (by decide)
  show (2 * z + 1).natAbs < 2 ^ 135
  have h2 := e133
  rw [h2] at h1
  rw [e135]
  omega
theorem num_in {z r : Int} (h : 0 < z) (h1 : z ≤ 2 ^ 133) (q0 : 0 ≤ r) (q1 : r < 2 * z + 1) : Sm 135 (r - z) := by
  show (r - z).natAbs < 2 ^ 135
  have h2 := e133
  rw [h2] at h1
  rw [e135]
  omega
theorem sm_small {x : Int} (h : x.natAbs < 8) : Sm 9000 x := sm9000 (n := 3) h (by decide)
section
variable {P : Program} {w : World} {K : PySem.W.Frag} {mg : Str → Option Value} {base : Heap} {C : Addr}
theorem scStart : FnScope ["_law_script"] ["_law_script"] (defScope sStart) := ⟨rfl, rfl, rfl, by decide +kernel, rfl, by decide +kernel, by decide +kernel⟩
theorem boot_list' : bootBuiltins "list" = some (.type "list") := by decide +kernel
theorem ok_start {f : Addr} {fd : FuncData} (F : Fun K "_law_start" "_law_start" sStart f fd) (T : Txt K mg C) : FnOk P w K mg base CX0 1 f fd ["_law_script"] (spStart K) := by
  refine F.ok scStart (fun vs H Q E h => ?_) (fun cdv A outer s H vs Q E hr h => ?_)
  · obtain ⟨p, ns, rfl, _⟩ := h
    rfl
  · obtain ⟨p, ns, rfl, hS, hl, k⟩ := h
    refine ⟨_, pss_one (ps_ret (pe_lst (pa_cons (pe_callTy call_list_of (by rfl) T.list_ boot_list' (pa_cons (pv 0) pa_nil)) (pa_cons pe_int (pa_cons pe_int (pa_cons pe_int pa_nil)))))), ?_⟩
    refine ⟨_, rfl, p, _, rfl, .inl hS, fun l hl' => ⟨by show 4 ≤ sizeLine; decide, fun a ha => ?_⟩⟩
    have nal : a ≠ l := fun e => by rw [e, upd_same] at ha; cases ha
    have ha0 : H a = Option.none := by rw [upd_ne nal] at ha; exact ha
    exact k a l _ ⟨nal, ns, 0, 0, upd_same, by rw [upd_ne nal.symm, upd_same], hl, by decide, by decide, by decide⟩ ha0 hl' ((Same.new hl').trans (Same.new ha))
theorem scWhole : FnScope ["_law_thing"] ["_law_thing"] (defScope sWhole) := ⟨rfl, rfl, rfl, by decide +kernel, rfl, by decide +kernel, by decide +kernel⟩
theorem ok_whole {f : Addr} {fd : FuncData} (F : Fun K "_law_m_whole" "_law_m_whole" sWhole f fd) (T : Txt K mg C) : FnOk P w K mg base CX0 1 f fd ["_law_thing"] spIsInt := by
  refine F.ok scWhole (fun vs H Q E h => ?_) (fun cdv A outer s H vs Q E hr h => ?_)
  · obtain ⟨i, rfl, _⟩ := h
    rfl
  · obtain ⟨i, rfl, k⟩ := h
    refine ⟨_, pss_one (ps_ret (pe_and (pe_callB call_isi (by rfl) T.isi boot_isi (pa_cons (pv 0) (pa_cons (pe_bltn (v := .ty "int") (by rfl) T.int_ boot_int' rfl) pa_nil)))
      (pe_one (pe_not (pe_callB call_isi (by rfl) T.isi boot_isi (pa_cons (pv 0) (pa_cons (pe_bltn (v := .ty "bool") (by rfl) T.bool_ boot_bool' rfl) pa_nil))))))), ?_⟩
    refine ⟨_, rfl, _, _, _, _, _, rfl, .ty _, .base (.int i), kit_ty (b := "int") (r := true) (by decide +kernel), _, rfl, iteT ?_⟩
    exact ⟨_, rfl, _, _, _, _, _, rfl, .ty _, .base (.int i), kit_ty (b := "bool") (r := false) (by decide +kernel), _, rfl, k⟩
theorem scNumber : FnScope ["_law_stream", "_law_kind", "_law_size"] ["_law_stream"] (defScope sNumber) := ⟨rfl, rfl, rfl, by decide +kernel, rfl, by decide +kernel, by decide +kernel⟩
theorem ok_number {f g : Addr} {fd gd : FuncData} (F : Fun K "_law_m_number" "_law_m_number" sNumber f fd) (T : Txt K mg C) (D : Df K mg "_law_draw" sDraw g gd ["_law_stream", "_law_many"]) : FnOk P w K mg base CX0 2 f fd ["_law_stream"] spNumber := by
  have G : FnOk P w K mg base CX0 1 g gd ["_law_stream", "_law_many"] spDraw := ok_draw D.F T
  refine F.ok scNumber (fun vs H Q E h => ?_) (fun cdv A outer s H vs Q E hr h => ?_)
  · obtain ⟨a, l, n, rfl, _⟩ := h
    rfl
  · obtain ⟨a, l, n, rfl, S, hn, k⟩ := h
    refine ⟨_, pss_cons (ps_set (i := 1) scNumber.nd rfl (Or.inl rfl) (pe_call G hr rfl D.M D.F.kp D.B .nil pass0 (pa_cons (pv 0) (pa_cons pe_int pa_nil))))
      (pss_cons (ps_if (pt_cmpR op_eq (pv 1) pe_int (nomark _)) (pss_one (ps_ret (pe_op op_sub (pe_call G hr rfl D.M D.F.kp D.B .nil pass0 (pa_cons (pv 0) (pa_cons pe_int pa_nil))) pe_int))) pss_nil)
      (pss_cons (ps_set (i := 2) scNumber.nd rfl (Or.inl rfl) (pe_ix ix_list (pe_lst (pa_cons pe_int (pa_cons (pe_op op_pow pe_int pe_int) (pa_cons (pe_op op_pow pe_int pe_int) pa_nil)))) (pe_op op_sub (pv 1) pe_int) (fun _ _ => rfl)))
      (pss_one (ps_ret (pe_op op_sub (pe_call G hr rfl D.M D.F.kp D.B .nil pass0 (pa_cons (pv 0) (pa_cons (pe_op op_add (pe_op op_mul pe_int (pv 2)) pe_int) pa_nil))) (pv 2)))))), ?_⟩
    refine ⟨_, rfl, a, l, n, 4, rfl, S, by omega, by decide, sm_small (by decide), fun r H1 r0 r1 S1 k1 => ?_⟩
    refine ⟨_, rfl, rfl, _, rfl, ifD_2 (fun e => ?_) (fun e => ?_)⟩
    · refine ⟨_, rfl, a, l, n + 1, 5, rfl, S1, by omega, by decide, sm_small (by decide), fun r' H2 r0' r1' S2 k2 => ?_⟩
      refine ⟨_, _, rfl, rfl, k (r' - 2) H2 ?_ S2 (k1.trans k2)⟩
      show (r' - 2).natAbs < 2 ^ 135
      have : (2 : Nat) ^ 3 ≤ 2 ^ 135 := Nat.pow_le_pow_right (by decide) (by decide)
      omega
    · have rn : r ≠ 0 := fun z => e (by rw [z])
      refine ⟨10, 9, rfl, rfl, (by show CPow 10 9; unfold CPow; decide), 10, 40, rfl, rfl, (by show CPow 10 40; unfold CPow; decide), by show 3 ≤ sizeLine; decide, fun p hp => ?_⟩
      have S1' : StreamAt (upd H1 p (.lst [.int 1000, .int (10 ^ (9 : Int).toNat), .int (10 ^ (40 : Int).toNat)])) a l (n + 1) := S1.same (Same.new hp)
      have kp2 : Keep a l H (upd H1 p (.lst [.int 1000, .int (10 ^ (9 : Int).toNat), .int (10 ^ (40 : Int).toNat)])) := k1.trans (Keep.of (Same.new hp))
      have h123 : r = 1 ∨ r = 2 ∨ r = 3 := by omega
      rcases h123 with rfl | rfl | rfl
      · refine ⟨_, rfl, _, _, rfl, rfl, p, _, _, _, rfl, rfl, SqL.of upd_same, rfl, ?_⟩
        refine ⟨_, rfl, _, rfl, _, _, rfl, rfl, .inl (by decide), _, _, rfl, rfl, a, l, n + 1, _, rfl, S1', by omega, num_pos (z := 1000) (by decide), num_sm (z := 1000) (by decide) (by decide), fun r' H2 q0 q1 S2 k2 => ?_⟩
        exact ⟨_, rfl, _, _, rfl, rfl, k _ H2 (num_in (z := 1000) (by decide) (by decide) q0 q1) S2 (kp2.trans k2)⟩
      · refine ⟨_, rfl, _, _, rfl, rfl, p, _, _, _, rfl, rfl, SqL.of upd_same, rfl, ?_⟩
        refine ⟨_, rfl, _, rfl, _, _, rfl, rfl, .inl (by decide), _, _, rfl, rfl, a, l, n + 1, _, rfl, S1', by omega, num_pos (z := (10 ^ 9)) (by decide), num_sm (z := (10 ^ 9)) (by decide) (by decide), fun r' H2 q0 q1 S2 k2 => ?_⟩
        exact ⟨_, rfl, _, _, rfl, rfl, k _ H2 (num_in (z := (10 ^ 9)) (by decide) (by decide) q0 q1) S2 (kp2.trans k2)⟩
      · refine ⟨_, rfl, _, _, rfl, rfl, p, _, _, _, rfl, rfl, SqL.of upd_same, rfl, ?_⟩
        refine ⟨_, rfl, _, rfl, _, _, rfl, rfl, .inl (by decide), _, _, rfl, rfl, a, l, n + 1, _, rfl, S1', by omega, num_pos (z := (10 ^ 40)) (by decide), num_sm (z := (10 ^ 40)) (by decide) (by decide), fun r' H2 q0 q1 S2 k2 => ?_⟩
        exact ⟨_, rfl, _, _, rfl, rfl, k _ H2 (num_in (z := (10 ^ 40)) (by decide) (by decide) q0 q1) S2 (kp2.trans k2)⟩
theorem scDivisor : FnScope ["_law_one", "_law_other"] ["_law_one", "_law_other"] (defScope sDivisor) := ⟨rfl, rfl, rfl, by decide +kernel, rfl, by decide +kernel, by decide +kernel⟩
theorem boot_abs' : bootBuiltins "abs" = some (.builtin "abs") := by decide +kernel
theorem ok_divisor {f : Addr} {fd : FuncData} (F : Fun K "_law_m_divisor" "_law_m_divisor" sDivisor f fd) (T : Txt K mg C) : FnOk P w K mg base CX0 1 f fd ["_law_one", "_law_other"] spDivisor := by
  refine F.ok scDivisor (fun vs H Q E h => ?_) (fun cdv A outer s H vs Q E hr h => ?_)
  · obtain ⟨x, y, rfl, _⟩ := h
    rfl
  · obtain ⟨x, y, rfl, k⟩ := h
    refine ⟨_, pss_cons (ps_par (i := 0) (j := 1) (by rfl) scDivisor.nd rfl rfl (by decide) rfl rfl (pa_cons (pe_callB call_abs (by rfl) T.abs_ boot_abs' (pa_cons (pv 0) pa_nil)) (pa_cons (pe_callB call_abs (by rfl) T.abs_ boot_abs' (pa_cons (pv 1) pa_nil)) pa_nil)) (by rfl))
      (pss_cons (ps_while PassesOwn.never (pt_cmpR op_gt (pv 1) pe_int (nomark _)) (pss_one (ps_par (i := 0) (j := 1) (by rfl) scDivisor.nd rfl rfl (by decide) rfl rfl (pa_cons (pv 1) (pa_cons (pe_op op_mod (pe_callTy call_int1 (by rfl) T.int_ boot_int' (pa_cons (pv 0) pa_nil)) (pv 1)) pa_nil)) (by rfl))))
      (pss_one (ps_ret (pv 0)))), ?_⟩
    refine ⟨_, rfl, _, rfl, _, rfl, _, rfl, _, _, rfl, ?_⟩
    refine while_by (fun σ H' => H' = H ∧ ∃ a b : Nat, σ = [some (V.int a), some (V.int b)] ∧ Nat.gcd a b = Nat.gcd x.natAbs y.natAbs) (fun σ _ => match σ with | [_, some (V.int b)] => b.toNat | _ => 0) ?_ ?_ ?_
    · refine ⟨rfl, x.natAbs, y.natAbs, ?_, rfl⟩
      have e : ∀ z : Int, (if z < 0 then -z else z) = ((z.natAbs : Nat) : Int) := fun z => by split <;> omega
      show [some (V.int (if x < 0 then -x else x)), some (V.int (if y < 0 then -y else y))] = _
      rw [e, e]
    · rintro σ H' ⟨rfl, a, b, rfl, hg⟩
      refine ⟨_, rfl, _, _, rfl, rfl, _, rfl, ?_⟩
      by_cases hb : (0 : Int) < (b : Int)
      · refine ifD_yes hb ?_
        refine ⟨_, rfl, _, rfl, .inl ⟨_, rfl, _, rfl, _, _, rfl, rfl, hb, _, _, rfl, ⟨rfl, b, a % b, ?_, ?_⟩, ?_⟩⟩
        · show [some (V.int (b : Int)), some (V.int ((a : Int) % (b : Int)))] = _
          rw [← Int.natCast_emod]
        · rw [← hg, Nat.gcd_comm a b, Nat.gcd_rec b a, Nat.gcd_comm]
        · show ((a : Int) % (b : Int)).toNat < (b : Int).toNat
          have := Int.emod_lt_of_pos (a : Int) hb
          omega
      · refine ifD_no hb ?_
        have hb0 : b = 0 := by omega
        subst hb0
        rw [Nat.gcd_zero_right] at hg
        refine ⟨_, rfl, ?_⟩
        rw [hg]
        exact k
    · rintro σ H' Q1 Q2 hq ⟨v, e, i, j, e1, e2, c, e3, q⟩
      exact ⟨v, e, i, j, e1, e2, c, e3, hq _ _ q⟩
theorem scRatio : FnScope ["_law_found", "_law_high", "_law_low"] ["_law_found", "_law_high", "_law_low"] (defScope sRatio) := ⟨rfl, rfl, rfl, by decide +kernel, rfl, by decide +kernel, by decide +kernel⟩
theorem ok_ratio {f g1 g2 : Addr} {fd gd1 gd2 : FuncData} (F : Fun K "_law_m_ratio" "_law_m_ratio" sRatio f fd) (T : Txt K mg C) (D1 : Df K mg "_law_m_whole" sWhole g1 gd1 ["_law_thing"]) (D2 : Df K mg "_law_m_divisor" sDivisor g2 gd2 ["_law_one", "_law_other"]) :
    FnOk P w K mg base CX0 2 f fd ["_law_found", "_law_high", "_law_low"] (spRatio C) := by
  have G1 : FnOk P w K mg base CX0 1 g1 gd1 ["_law_thing"] spIsInt := ok_whole D1.F T
  have G2 : FnOk P w K mg base CX0 1 g2 gd2 ["_law_one", "_law_other"] spDivisor := ok_divisor D2.F T
  refine F.ok scRatio (fun vs H Q E h => ?_) (fun cdv A outer s H vs Q E hr h => ?_)
  · obtain ⟨p, t, b, u, d, rfl, _⟩ := h
    rfl
  · obtain ⟨p, t, b, u, d, rfl, r, e, s1, s2, s3, s4, k⟩ := h
    obtain ⟨dx, ho⟩ := r.ob
    refine ⟨_, pss_cons (ps_if (PW.pt (pw_or (pt_not (pt_val (pe_callB call_isi (by rfl) T.isi boot_isi (pa_cons (pv 0) (pa_cons (pe_glob (v := .ref C) rfl T.mgC rfl) pa_nil)))))
        (pw_or (pt_not (pt_val (pe_call G1 hr rfl D1.M D1.F.kp D1.B .nil pass0 (pa_cons (pe_fld (pv 0) rfl) pa_nil)))) (pw_or1 (pt_not (pt_val (pe_call G1 hr rfl D1.M D1.F.kp D1.B .nil pass0 (pa_cons (pe_fld (pv 0) rfl) pa_nil)))))))) pss_never pss_nil)
      (pss_cons (ps_if (PW.pt (pw_or (pt_cmpR op_lt (pe_fld (pv 0) rfl) pe_int (nomark _)) (pw_or1 (pt_cmpR op_ne (pe_call G2 hr rfl D2.M D2.F.kp D2.B .nil pass0 (pa_cons (pe_fld (pv 0) rfl) (pa_cons (pe_fld (pv 0) rfl) pa_nil))) pe_int (nomark _))))) pss_never pss_nil)
      (pss_one (ps_ret (pe_cmpR op_eq (pe_op op_mulW (pe_fld (pv 0) rfl) (pv 2)) (pe_op op_mulW (pv 1) (pe_fld (pv 0) rfl)) (nomark _))))), ?_⟩
    refine ⟨_, rfl, _, _, _, _, _, rfl, .own C, T.ty r, T.kC, _, rfl, iteF ?_⟩
    refine ⟨_, rfl, p, C, dx, _, _, rfl, ho, T.cl, T.nT, flds_top _ _, t, rfl, _, rfl, iteF ?_⟩
    refine ⟨_, rfl, p, C, dx, _, _, rfl, ho, T.cl, T.nB, flds_bot _ _, b, rfl, _, rfl, iteF ?_⟩
    refine ⟨_, rfl, p, C, dx, _, _, rfl, ho, T.cl, T.nB, flds_bot _ _, b, 1, rfl, rfl, _, rfl, ifD_no (by have := r.low.pos; omega) ?_⟩
    refine ⟨_, rfl, p, C, dx, _, _, rfl, ho, T.cl, T.nT, flds_top _ _, _, rfl, p, C, dx, _, _, rfl, ho, T.cl, T.nB, flds_bot _ _, t, b, rfl, ?_⟩
    rw [r.low.cop]
    refine ⟨rfl, _, rfl, iteNS rfl ?_⟩
    refine ⟨_, rfl, p, C, dx, _, _, rfl, ho, T.cl, T.nT, flds_top _ _, _, rfl, _, _, rfl, rfl, mulw s1 s4 (by decide) (by decide) (by decide), ?_⟩
    refine ⟨_, rfl, _, rfl, p, C, dx, _, _, rfl, ho, T.cl, T.nB, flds_bot _ _, _, _, rfl, rfl, mulw s3 s2 (by decide) (by decide) (by decide), rfl, ?_⟩
    show Q (V.bl (decide (V.int (t * d) = V.int (u * b)))) H
    rw [decide_eq_true (by rw [e])]
    exact k
end
end PA

set_option maxHeartbeats 4000000
namespace PA
open PySem L2
open C8 (pss_cut tCut)
abbrev sFdiv : Stmt := inClass (top 4) 7
abbrev sMod : Stmt := inClass (top 4) 8
abbrev sOver : Stmt := inClass (top 4) 9
/-! ### arithmetic -/
theorem fdiv_mul {a b k : Int} (hk : k ≠ 0) : (k * a).fdiv (k * b) = a.fdiv b := by
  rcases Int.lt_or_gt_of_ne hk with h | h
  · have e := Int.mul_fdiv_mul_of_pos (a := -k) a b (by omega)
    rw [← e, Int.neg_mul, Int.neg_mul, Int.neg_fdiv_neg]
  · exact Int.mul_fdiv_mul_of_pos a b h
/-- the floor of one fraction, written twice -/
theorem fdiv_same {a b c d : Int} (hb : b ≠ 0) (hd : d ≠ 0) (e : a * d = c * b) : a.fdiv b = c.fdiv d := by
  rw [← fdiv_mul (a := a) (b := b) hd, ← fdiv_mul (a := c) (b := d) hb]
  rw [Int.mul_comm d a, e, Int.mul_comm c b, Int.mul_comm d b]
theorem log9000 {n : Nat} {j : Int} (h : Sm n j) (h0 : 0 < n) (hn : n ≤ 9000) : j.natAbs.log2 < 9000 := Nat.lt_of_lt_of_le (PySem.Flt.log2_lt_of h0 h) hn
theorem sm_fdiv {n : Nat} {a b : Int} (h : Sm n a) : Sm n (a.fdiv b) := h.le (Int.natAbs_fdiv_le_natAbs a b)
/-! ### promises -/
abbrev ZDE : Value := .type "ZeroDivisionError"
def spInit0 : Sp := fun vs H _ E => ∃ p t, vs = [.ref p, .int t, .int 0] ∧ E ZDE none H
/-- self // other -/
def spFdiv (C : Addr) : Sp := fun vs H Q _ => ∃ p v T B T' B', vs = [.ref p, v] ∧ RatAt C H p T B ∧ Num C H v T' B' ∧ T' ≠ 0 ∧ Sm 2000 T ∧ Sm 2000 B ∧ Sm 2000 T' ∧ Sm 2000 B' ∧ Q (.int ((T * B').fdiv (B * T'))) H
/-- self % other -/
def spMod (C : Addr) : Sp := fun vs H Q _ => ∃ p v T B T' B', vs = [.ref p, v] ∧ RatAt C H p T B ∧ Num C H v T' B' ∧ T' ≠ 0 ∧ Sm 300 T ∧ Sm 300 B ∧ Sm 300 T' ∧ Sm 300 B' ∧
  ∀ x H' T2 B2, Same H H' → RatAt C H' x T2 B2 → T2 * (B * B') = (T * B' - (T * B').fdiv (B * T') * T' * B) * B2 → Sm 4000 T2 → Sm 4000 B2 → Q (.ref x) H'
def spOver (C : Addr) : Sp := fun vs H Q _ => ∃ p v T B T' B', vs = [.ref p, v] ∧ RatAt C H p T B ∧ Num C H v T' B' ∧ T' ≠ 0 ∧ Sm 2000 T ∧ Sm 2000 B ∧ Sm 2000 T' ∧ Sm 2000 B' ∧ News C H Q (T * B') (B * T')
/-- by 0 all three raise ZeroDivisionError -/
def spBy0 (C : Addr) : Sp := fun vs H _ E => ∃ p v T B B', vs = [.ref p, v] ∧ RatAt C H p T B ∧ Num C H v 0 B' ∧ Sm 2000 T ∧ Sm 2000 B ∧ Sm 2000 B' ∧ ∀ d H', Same H H' → E ZDE d H'
/-! ### rules -/
section
variable {X : Cx} {CX : CXT} {k : Nat} {C f : Addr} {fd : FuncData} {ps : List Str} {sp : Sp} {E : XK} {op : Operator}
/-- an own operator without a reflected method -/
structure OwnN (K : PySem.W.Frag) (C f : Addr) (op : Operator) : Prop where
  first : PySem.W.selfFirst K C = true
  at_ : PySem.W.findIn K (.ref C) (PySem.dunder op.info.2) = some (some (.ref f))
  fn : PySem.W.isFn K (.ref f) = true
  ar : PySem.W.findIn K (.ref C) (dunderR op.info.2) = some none
  sub : PySem.W.subIn K (.type "int") (.ref C) = some false
  h1 : ∃ fo, PySem.W.findIn K (.type "int") (PySem.dunder op.info.2) = some fo
  h2 : ∃ ro, PySem.W.findIn K (.type "int") (dunderR op.info.2) = some ro
def rOwnE (C : Addr) (sp : Sp) (E : XK) : R2 := fun x y H Q => ∃ p T B T' B', x = .ref p ∧ RatAt C H p T B ∧ Num C H y T' B' ∧ sp [x, y] H Q E
theorem op_ownN (O : OwnN X.K C f op) (F : FnOk X.prog X.w X.K X.mg X.base CX k f fd ps sp) (hr : Room k X.A) (hb : Binds X.K fd ps []) (hx : Passes CX X E) : OpR X (binaryOp op) (rOwnE C sp E) := by
  intro pins s σ H x y v u Q I rx ry h
  obtain ⟨p, t, b, t', b', rfl, ⟨_, dx, e⟩, n, q⟩ := h
  cases rx
  obtain ⟨mA, J, _⟩ := ins_get I.hok e
  obtain ⟨od, J, _⟩ := J.look
  obtain ⟨m, hF⟩ := I.fr
  rcases n with ⟨rfl, rfl⟩ | ⟨p', rfl, ⟨_, dx', e'⟩⟩
  · obtain ⟨fo, h1⟩ := O.h1
    obtain ⟨ro, h2⟩ := O.h2
    obtain ⟨tk, rfl⟩ := ry
    refine PySem.W.ksp_binT hF I.ok.mod.kin J rfl O.first O.at_ O.fn O.ar (.inl rfl) h1 h2 O.sub ?_
    exact wpAny_mono (run_fn (us := [.ref p, .int t' tk]) (vs := [.ref p, .int t']) F hr hb .nil hx I (.cons rfl (.cons ⟨tk, rfl⟩ .nil)) q) (fun _ _ z => cmpBack_of z) fun _ _ z => z
  · cases ry
    obtain ⟨mB, J', _⟩ := ins_get I.hok e'
    obtain ⟨od', J', _⟩ := J'.look
    refine PySem.W.binop_K hF I.ok.mod.kin J J'.type O.first O.at_ O.fn ?_
    exact wpAny_mono (run_fn (us := [.ref p, .ref p']) (vs := [.ref p, .ref p']) F hr hb .nil hx I (.cons rfl (.cons rfl .nil)) q) (fun _ _ z => cmpBack_of z) fun _ _ z => z
/-- i // 0 -/
theorem op_fdiv0 {W : WX} (hc : X.calm = true) (tk : Takes X W) : OpR X (binaryOp .FloorDiv) (fun x y H _ => ∃ i, x = .int i ∧ y = .int 0 ∧ ∀ σ d, W ZDE d σ H) := by
  intro pins s σ H x y v u Q I rx ry h
  obtain ⟨i, rfl, rfl, w⟩ := h
  obtain ⟨t, rfl⟩ := rx
  obtain ⟨t', rfl⟩ := ry
  exact AutoIntOps.floordiv_0 (by rfl) ⟨I.ok.hd hc, fun h' tk' e hx => takes_new (t' := tk') tk I hx (w σ)⟩
end
section
variable {P : Program} {w : World} {K : PySem.W.Frag} {mg : Str → Option Value} {base : Heap} {C : Addr}
variable {fi f1 f2 f3 f4 f5 : Addr} {di d1 d2 d3 d4 d5 : FuncData}
theorem ok_init0 {f : Addr} {fd : FuncData} (F : FunI K f fd) (T : Txt K mg C) : FnOk P w K mg base (L2.CX P w) 1 f fd ["self", "top", "bottom"] spInit0 := by
  refine F.ok scInit (fun vs H Q E h => ?_) (fun cdv A outer s H vs Q E hr h => ?_)
  · obtain ⟨p, t, rfl, _⟩ := h
    rfl
  · obtain ⟨p, t, rfl, k⟩ := h
    refine ⟨_, pss_cons (ps_if (pt_cmpR op_eq (pv 2) pe_int (nomark _)) (pss_one (ps_raiseB rfl (takes_of rfl rfl rfl rfl) exb_ZeroDivisionError (by rfl) T.zde boot_ZeroDivisionError)) pss_nil) pss_never, ?_⟩
    exact ⟨_, rfl, rfl, _, rfl, ifD_yes rfl k⟩
theorem scFdiv : FnScope ["self", "other"] ["self", "other"] (defScope sFdiv) := ⟨rfl, rfl, rfl, by decide +kernel, rfl, by decide +kernel, by decide +kernel⟩
theorem ok_fdiv {f : Addr} {fd : FuncData} (F : Fun K "__floordiv__" "Ratio.__floordiv__" sFdiv f fd) (L : Lib K mg C fi f1 f2 f3 f4 f5 di d1 d2 d3 d4 d5) : FnOk P w K mg base CX0 3 f fd ["self", "other"] (spFdiv C) := by
  have G2 : FnOk P w K mg base CX0 2 f2 d2 ["value"] (spIsNum C) := ok_isNum L.isNum.F L.T L.isInt
  have G3 : FnOk P w K mg base CX0 1 f3 d3 ["value"] (spTop C) := ok_top L.top_.F L.T
  have G4 : FnOk P w K mg base CX0 1 f4 d4 ["value"] (spBot C) := ok_bot L.bot_.F L.T
  have T := L.T
  refine F.ok scFdiv (fun vs H Q E h => ?_) (fun cdv A outer s H vs Q E hr h => ?_)
  · obtain ⟨p, v, _, _, _, _, rfl, _⟩ := h
    rfl
  · obtain ⟨p, v, t, b, t', b', rfl, r, n, ht', s1, s2, s3, s4, k⟩ := h
    obtain ⟨dx, e⟩ := r.ob
    have hr1 : Room 1 _ := hr.mono (by decide)
    refine ⟨_, pss_cons (ps_if (pt_not (pt_val (pe_call G2 hr rfl L.isNum.M L.isNum.F.kp L.isNum.B .nil pass0 (pa_cons (pv 1) pa_nil)))) pss_never pss_nil)
      (pss_one (ps_ret (pe_op op_fdivS (pe_op op_mulW (pe_fld (pv 0) rfl) (pe_call G4 hr1 rfl L.bot_.M L.bot_.F.kp L.bot_.B .nil pass0 (pa_cons (pv 1) pa_nil)))
        (pe_op op_mulW (pe_fld (pv 0) rfl) (pe_call G3 hr1 rfl L.top_.M L.top_.F.kp L.top_.B .nil pass0 (pa_cons (pv 1) pa_nil)))))), ?_⟩
    refine ⟨_, rfl, v, t', b', rfl, n, _, rfl, iteF ?_⟩
    refine ⟨_, rfl, p, C, dx, _, _, rfl, e, T.cl, T.nT, flds_top _ _, _, rfl, v, t', b', rfl, n, _, _, rfl, rfl, mulw s1 s4 (by decide) (by decide) (by decide), ?_⟩
    refine ⟨_, rfl, p, C, dx, _, _, rfl, e, T.cl, T.nB, flds_bot _ _, _, rfl, v, t', b', rfl, n, _, _, rfl, rfl, mulw s2 s3 (by decide) (by decide) (by decide), ?_⟩
    exact ⟨_, _, rfl, rfl, ⟨Int.mul_ne_zero r.low.ne ht', log9000 (s2.mul s3 (Nat.le_refl _)) (by decide) (by decide)⟩, k⟩
theorem ok_fdiv0 {f : Addr} {fd : FuncData} (F : Fun K "__floordiv__" "Ratio.__floordiv__" sFdiv f fd) (L : Lib K mg C fi f1 f2 f3 f4 f5 di d1 d2 d3 d4 d5) : FnOk P w K mg base (L2.CX P w) 3 f fd ["self", "other"] (spBy0 C) := by
  have G2 : FnOk P w K mg base CX0 2 f2 d2 ["value"] (spIsNum C) := ok_isNum L.isNum.F L.T L.isInt
  have G3 : FnOk P w K mg base CX0 1 f3 d3 ["value"] (spTop C) := ok_top L.top_.F L.T
  have G4 : FnOk P w K mg base CX0 1 f4 d4 ["value"] (spBot C) := ok_bot L.bot_.F L.T
  have T := L.T
  refine F.okX scFdiv (fun vs H Q E h => ?_) (fun cdv A outer s H vs Q E hr h => ?_)
  · obtain ⟨p, v, _, _, _, rfl, _⟩ := h
    rfl
  · obtain ⟨p, v, t, b, b', rfl, r, n, s1, s2, s4, k⟩ := h
    obtain ⟨dx, e⟩ := r.ob
    have hr1 : Room 1 _ := hr.mono (by decide)
    refine ⟨_, pss_cons (ps_if (pt_not (pt_val (pe_call G2 hr rfl L.isNum.M L.isNum.F.kp L.isNum.B .nil pass0 (pa_cons (pv 1) pa_nil)))) pss_never pss_nil)
      (pss_one (ps_ret (pe_op (op_fdiv0 rfl (takes_of rfl rfl rfl rfl)) (pe_op op_mulW (pe_fld (pv 0) rfl) (pe_call G4 hr1 rfl L.bot_.M L.bot_.F.kp L.bot_.B .nil pass0 (pa_cons (pv 1) pa_nil)))
        (pe_op op_mulW (pe_fld (pv 0) rfl) (pe_call G3 hr1 rfl L.top_.M L.top_.F.kp L.top_.B .nil pass0 (pa_cons (pv 1) pa_nil)))))), ?_⟩
    refine ⟨_, rfl, v, 0, b', rfl, n, _, rfl, iteF ?_⟩
    refine ⟨_, rfl, p, C, dx, _, _, rfl, e, T.cl, T.nT, flds_top _ _, _, rfl, v, 0, b', rfl, n, _, _, rfl, rfl, mulw s1 s4 (by decide) (by decide) (by decide), ?_⟩
    refine ⟨_, rfl, p, C, dx, _, _, rfl, e, T.cl, T.nB, flds_bot _ _, _, rfl, v, 0, b', rfl, n, _, _, rfl, rfl, mulw (m := 1) s2 (by decide) (by decide) (by decide) (by decide), ?_⟩
    refine ⟨_, rfl, (congrArg V.int (Int.mul_zero b)), fun σ d => k d H (Same.refl H)⟩
theorem scOver : FnScope ["self", "other"] ["self", "other"] (defScope sOver) := ⟨rfl, rfl, rfl, by decide +kernel, rfl, by decide +kernel, by decide +kernel⟩
theorem ok_over {f : Addr} {fd : FuncData} (F : Fun K "over" "Ratio.over" sOver f fd) (L : Lib K mg C fi f1 f2 f3 f4 f5 di d1 d2 d3 d4 d5) : FnOk P w K mg base CX0 3 f fd ["self", "other"] (spOver C) := by
  have GI : FnOk P w K mg base CX0 1 fi di ["self", "top", "bottom"] (spInit C) := ok_init L.I L.T
  have G3 : FnOk P w K mg base CX0 1 f3 d3 ["value"] (spTop C) := ok_top L.top_.F L.T
  have G4 : FnOk P w K mg base CX0 1 f4 d4 ["value"] (spBot C) := ok_bot L.bot_.F L.T
  have T := L.T
  refine F.ok scOver (fun vs H Q E h => ?_) (fun cdv A outer s H vs Q E hr h => ?_)
  · obtain ⟨p, v, _, _, _, _, rfl, _⟩ := h
    rfl
  · obtain ⟨p, v, t, b, t', b', rfl, r, n, ht', s1, s2, s3, s4, k⟩ := h
    obtain ⟨dx, e⟩ := r.ob
    have hr1 : Room 1 _ := hr.mono (by decide)
    refine ⟨_, pss_one (ps_ret (pe_make L.M GI hr rfl T.mgC L.b2 .nil pass0 (pa_cons (pe_op op_mulW (pe_fld (pv 0) rfl) (pe_call G4 hr1 rfl L.bot_.M L.bot_.F.kp L.bot_.B .nil pass0 (pa_cons (pv 1) pa_nil)))
        (pa_cons (pe_op op_mulW (pe_fld (pv 0) rfl) (pe_call G3 hr1 rfl L.top_.M L.top_.F.kp L.top_.B .nil pass0 (pa_cons (pv 1) pa_nil))) pa_nil)))), ?_⟩
    refine ⟨_, rfl, p, C, dx, _, _, rfl, e, T.cl, T.nT, flds_top _ _, _, rfl, v, t', b', rfl, n, _, _, rfl, rfl, mulw s1 s4 (by decide) (by decide) (by decide), ?_⟩
    refine ⟨_, rfl, p, C, dx, _, _, rfl, e, T.cl, T.nB, flds_bot _ _, _, rfl, v, t', b', rfl, n, _, _, rfl, rfl, mulw s2 s3 (by decide) (by decide) (by decide), ?_⟩
    exact mk_rat (Int.mul_ne_zero r.low.ne ht') (s2.mul s3 (by decide)) k
theorem ok_over0 {f : Addr} {fd : FuncData} (F : Fun K "over" "Ratio.over" sOver f fd) (L : Lib K mg C fi f1 f2 f3 f4 f5 di d1 d2 d3 d4 d5) : FnOk P w K mg base (L2.CX P w) 3 f fd ["self", "other"] (spBy0 C) := by
  have GI : FnOk P w K mg base (L2.CX P w) 1 fi di ["self", "top", "bottom"] spInit0 := ok_init0 L.I L.T
  have G3 : FnOk P w K mg base CX0 1 f3 d3 ["value"] (spTop C) := ok_top L.top_.F L.T
  have G4 : FnOk P w K mg base CX0 1 f4 d4 ["value"] (spBot C) := ok_bot L.bot_.F L.T
  have T := L.T
  refine F.okX scOver (fun vs H Q E h => ?_) (fun cdv A outer s H vs Q E hr h => ?_)
  · obtain ⟨p, v, _, _, _, rfl, _⟩ := h
    rfl
  · obtain ⟨p, v, t, b, b', rfl, r, n, s1, s2, s4, k⟩ := h
    obtain ⟨dx, e⟩ := r.ob
    have hr1 : Room 1 _ := hr.mono (by decide)
    refine ⟨_, pss_one (ps_ret (pe_make (E := E) L.M GI hr rfl T.mgC L.b2 .nil (passes_call (takes_of rfl rfl rfl rfl) (fun _ _ _ _ z => z)) (pa_cons (pe_op op_mulW (pe_fld (pv 0) rfl) (pe_call G4 hr1 rfl L.bot_.M L.bot_.F.kp L.bot_.B .nil pass0 (pa_cons (pv 1) pa_nil)))
        (pa_cons (pe_op op_mulW (pe_fld (pv 0) rfl) (pe_call G3 hr1 rfl L.top_.M L.top_.F.kp L.top_.B .nil pass0 (pa_cons (pv 1) pa_nil))) pa_nil)))), ?_⟩
    refine ⟨_, rfl, p, C, dx, _, _, rfl, e, T.cl, T.nT, flds_top _ _, _, rfl, v, 0, b', rfl, n, _, _, rfl, rfl, mulw s1 s4 (by decide) (by decide) (by decide), ?_⟩
    refine ⟨_, rfl, p, C, dx, _, _, rfl, e, T.cl, T.nB, flds_bot _ _, _, rfl, v, 0, b', rfl, n, _, _, rfl, rfl, mulw (m := 1) s2 (by decide) (by decide) (by decide) (by decide), ?_⟩
    intro x dx' nx ndx nex
    refine ⟨x, t * b', (congrArg (fun z => [V.ref x, V.int (t * b'), V.int z]) (Int.mul_zero b)), k none _ fun c o z => ?_⟩
    rw [upd_ne (ne_of_none z nx), upd_ne (ne_of_none z ndx)]
    exact z
theorem scMod : FnScope ["self", "other"] ["self", "other"] (defScope sMod) := ⟨rfl, rfl, rfl, by decide +kernel, rfl, by decide +kernel, by decide +kernel⟩
theorem ok_mod0 {f g : Addr} {fd gd : FuncData} (F : Fun K "__mod__" "Ratio.__mod__" sMod f fd) (L : Lib K mg C fi f1 f2 f3 f4 f5 di d1 d2 d3 d4 d5) (O : OwnN K C g .FloorDiv) (FF : Fun K "__floordiv__" "Ratio.__floordiv__" sFdiv g gd) (bG : Binds K gd ["self", "other"] []) :
    FnOk P w K mg base (L2.CX P w) 4 f fd ["self", "other"] (spBy0 C) := by
  have G2 : FnOk P w K mg base CX0 2 f2 d2 ["value"] (spIsNum C) := ok_isNum L.isNum.F L.T L.isInt
  have G : FnOk P w K mg base (L2.CX P w) 3 g gd ["self", "other"] (spBy0 C) := ok_fdiv0 FF L
  refine F.okX scMod (fun vs H Q E h => ?_) (fun cdv A outer s H vs Q E hr h => ?_)
  · obtain ⟨p, v, _, _, _, rfl, _⟩ := h
    rfl
  · obtain ⟨p, v, t, b, b', rfl, r, n, s1, s2, s4, k⟩ := h
    have hr2 : Room 2 _ := hr.mono (by decide)
    refine ⟨_, pss_cons (ps_if (pt_not (pt_val (pe_call G2 hr2 rfl L.isNum.M L.isNum.F.kp L.isNum.B .nil pass0 (pa_cons (pv 1) pa_nil)))) pss_never pss_nil)
      (pss_one (ps_ret (pe_op op_sub (pv 0) (pe_op op_mul (pe_op (op_ownN (E := E) O G hr bG (passes_call (takes_of rfl rfl rfl rfl) (fun _ _ _ _ z => z))) (pv 0) (pv 1)) (pv 1))))), ?_⟩
    refine ⟨_, rfl, v, 0, b', rfl, n, _, rfl, iteF ?_⟩
    exact ⟨_, rfl, _, rfl, _, rfl, p, t, b, 0, b', rfl, r, n, p, v, t, b, b', rfl, r, n, s1, s2, s4, k⟩
theorem ok_mod {f g fm fr fs frs : Addr} {fd gd md rd sd : FuncData} (F : Fun K "__mod__" "Ratio.__mod__" sMod f fd) (L : Lib K mg C fi f1 f2 f3 f4 f5 di d1 d2 d3 d4 d5) (O : OwnN K C g .FloorDiv) (FF : Fun K "__floordiv__" "Ratio.__floordiv__" sFdiv g gd) (bG : Binds K gd ["self", "other"] [])
    (OM : OpTxt K C fm fr .Mult) (GR : FnOk P w K mg base CX0 4 fr rd ["self", "other"] (spBin nMul C)) (bR : Binds K rd ["self", "other"] [])
    (OS : OpTxt K C fs frs .Sub) (GS : FnOk P w K mg base CX0 3 fs sd ["self", "other"] (spBin nSub C)) (bS : Binds K sd ["self", "other"] []) :
    FnOk P w K mg base CX0 5 f fd ["self", "other"] (spMod C) := by
  have G2 : FnOk P w K mg base CX0 2 f2 d2 ["value"] (spIsNum C) := ok_isNum L.isNum.F L.T L.isInt
  have G : FnOk P w K mg base CX0 3 g gd ["self", "other"] (spFdiv C) := ok_fdiv FF L
  refine F.ok scMod (fun vs H Q E h => ?_) (fun cdv A outer s H vs Q E hr h => ?_)
  · obtain ⟨p, v, _, _, _, _, rfl, _⟩ := h
    rfl
  · obtain ⟨p, v, t, b, t', b', rfl, r, n, ht', s1, s2, s3, s4, k⟩ := h
    have hr2 : Room 2 _ := hr.mono (by decide)
    have hr3 : Room 3 _ := hr.mono (by decide)
    refine ⟨_, pss_cons (ps_if (pt_not (pt_val (pe_call G2 hr2 rfl L.isNum.M L.isNum.F.kp L.isNum.B .nil pass0 (pa_cons (pv 1) pa_nil)))) pss_never pss_nil)
      (pss_one (ps_ret (pe_op (op_own OS GS hr3 bS) (pv 0) (pe_op (OpR.or op_mulW (op_ownL OM.O PySem.F.fills_int_mul PySem.F.slot_int_mul PySem.F.entry_int_mul (fun _ _ _ => PySem.F.args_int_mul_2 _ _) (fun i t x ox s ho hd A E R z => PLow.mul_declines ho hd z) GR hr bR pass0))
        (pe_op (op_ownN (E := E0) O G hr3 bG pass0) (pv 0) (pv 1)) (pv 1))))), ?_⟩
    refine ⟨_, rfl, v, t', b', rfl, n, _, rfl, iteF ?_⟩
    have sq : Sm 600 ((t * b').fdiv (b * t')) := sm_fdiv (s1.mul s4 (by decide))
    generalize hq : (t * b').fdiv (b * t') = q at sq k
    refine ⟨_, rfl, _, rfl, _, rfl, p, t, b, t', b', rfl, r, n, p, v, t, b, t', b', rfl, r, n, ht', s1.mono (by decide), s2.mono (by decide), s3.mono (by decide), s4.mono (by decide), ?_⟩
    rw [hq]
    have fin : ∀ (v1 : V) (H1 : Hp) (T1 B1 : Int), Same H H1 → Num C H1 v1 T1 B1 → T1 * b' = q * t' * B1 → Sm 900 T1 → Sm 300 B1 → rOwn C (spBin nSub C) (.ref p) v1 H1 Q := by
      intro v1 H1 T1 B1 sm n1 e1 z1 z2
      refine ⟨p, t, b, T1, B1, rfl, r.same sm, n1, p, v1, t, b, T1, B1, rfl, r.same sm, n1, s1.mono (by decide), s2.mono (by decide), z1.mono (by decide), z2.mono (by decide), fun x H2 T2 B2 nx sm2 r2 e2 l1 l2 => ?_⟩
      refine k x H2 T2 B2 (sm.trans sm2) r2 (cross r2.low.ne e2 ?_ (Int.mul_ne_zero r.low.ne n1.low.ne)) (Sm.le (x := nSub t b T1 B1) ?_ l1) (Sm.le (x := b * B1) (s2.mul z2 (by decide)) l2)
      · unfold nSub
        grind
      · exact (((s1.mono (by decide) : Sm 900 t).mul z2 (Nat.le_refl _)).sub (z1.mul s2 (by decide)) (by decide))
    rcases n with ⟨rfl, rfl⟩ | ⟨p', rfl, r'⟩
    · refine ⟨_, rfl, .inl ⟨q, t', rfl, rfl, mulw sq s3 (by decide) (by decide) (by decide), ?_⟩⟩
      exact fin (.int (q * t')) H (q * t') 1 (Same.refl H) (.inl ⟨rfl, rfl⟩) (by rw [Int.mul_one]) (sq.mul s3 (by decide)) (Sm.one (by decide))
    · obtain ⟨dx', e'⟩ := r'.ob
      refine ⟨_, rfl, .inr ⟨p', q, dx', _, rfl, rfl, e', p', .int q, t', b', q, 1, rfl, r', (.inl ⟨rfl, rfl⟩), s3.mono (by decide), s4.mono (by decide), sq.mono (by decide), Sm.one (by decide), fun x H1 T1 B1 nx sm r1 e1 l1 l2 => ?_⟩⟩
      refine fin (.ref x) H1 T1 B1 sm (.inr ⟨x, rfl, r1⟩) ?_ (Sm.le (x := nMul t' b' q 1) (s3.mul sq (by decide)) l1) (Sm.le (x := b' * 1) (by rw [Int.mul_one]; exact s4) l2)
      unfold nMul at e1
      rw [Int.mul_one] at e1
      rw [e1, Int.mul_comm q t']
end
end PA

set_option maxHeartbeats 8000000
namespace PA
open PySem L2
open C8 (pss_cut tCut)
/-! ### the three ways to divide by 0 -/
def spRefused (C : Addr) : Sp := fun vs H Q _ => ∃ p v T B B' w, vs = [.ref p, v, .int w] ∧ RatAt C H p T B ∧ Num C H v 0 B' ∧ Sm 2000 T ∧ Sm 2000 B ∧ Sm 2000 B' ∧ ∀ H', Same H H' → Q (.bl true) H'
theorem exm_ZDE {K : PySem.W.Frag} : PySem.W.exmOne K ZDE ZDE = some true := by kernel_rfl
abbrev EW (W : WX) : XK := fun cls d H => ∀ σ, W cls d σ H
def tbRef (C : Addr) (W : WX) : TS := tIfS (tTest (tOp rEq (tVar 2) (tC (.int 0)))) (tAsg (tOp (rOwnE C (spBy0 C) (EW W)) (tVar 0) (tVar 1)) (gName 3))
  (tIfS (tTest (tOp rEq (tVar 2) (tC (.int 1)))) (tAsg (tOp (rOwnE C (spBy0 C) (EW W)) (tVar 0) (tVar 1)) (gName 3)) (tAsg (tMeth C "over" (spBy0 C) [] (EW W) (tVar 0) (tCons (tVar 1) tNil)) (gName 3)))
section
variable {P : Program} {w : World} {K : PySem.W.Frag} {mg : Str → Option Value} {base : Heap} {C : Addr}
variable {fi f1 f2 f3 f4 f5 : Addr} {di d1 d2 d3 d4 d5 : FuncData}
theorem scRefused : FnScope ["_law_one", "_law_zero", "_law_way", "_law_found"] ["_law_one", "_law_zero", "_law_way"] (defScope sRefused) := ⟨rfl, rfl, rfl, by decide +kernel, rfl, by decide +kernel, by decide +kernel⟩
theorem ok_refused {f ff fm fo : Addr} {fd fdf fdm fdo : FuncData} (F : Fun K "_law_refused" "_law_refused" sRefused f fd) (T : Txt K mg C) (L : Lib K mg C fi f1 f2 f3 f4 f5 di d1 d2 d3 d4 d5)
    (O1 : OwnN K C ff .FloorDiv) (F1 : Fun K "__floordiv__" "Ratio.__floordiv__" sFdiv ff fdf) (b1 : Binds K fdf ["self", "other"] [])
    (O2 : OwnN K C fm .Mod) (F2 : Fun K "__mod__" "Ratio.__mod__" sMod fm fdm) (b2 : Binds K fdm ["self", "other"] [])
    (m3 : Meth K C "over" fo) (F3 : Fun K "over" "Ratio.over" sOver fo fdo) (b3 : Binds K fdo ["self", "other"] []) : FnOk P w K mg base CX0 5 f fd ["_law_one", "_law_zero", "_law_way"] (spRefused C) := by
  have G1 : FnOk P w K mg base (L2.CX P w) 3 ff fdf ["self", "other"] (spBy0 C) := ok_fdiv0 F1 L
  have G2 : FnOk P w K mg base (L2.CX P w) 4 fm fdm ["self", "other"] (spBy0 C) := ok_mod0 F2 L O1 F1 b1
  have G3 : FnOk P w K mg base (L2.CX P w) 3 fo fdo ["self", "other"] (spBy0 C) := ok_over0 F3 L
  refine F.ok scRefused (fun vs H Q E h => ?_) (fun cdv A outer s H vs Q E hr h => ?_)
  · obtain ⟨p, v, _, _, _, w, rfl, _⟩ := h
    rfl
  · obtain ⟨p, v, t, b, b', w, rfl, r, n, s1, s2, s4, k⟩ := h
    obtain ⟨dx, e⟩ := r.ob
    have hr3 : Room 3 _ := hr.mono (by decide)
    refine ⟨_, pss_cons (ps_try_only (tb := tbRef C) (ts := fun _ _ _ => tRet (tC (.bl true))) (Wout := fun _ _ _ _ => False) rfl rfl (names_blt (by rfl) T.zde boot_ZeroDivisionError) takes0
      (fun W pn xe tk _ => pss_one (ps_if (pt_cmpR op_eq (pv 2) pe_int (nomark _)) (pss_one (ps_set (i := 3) scRefused.nd rfl (Or.inl rfl) (by exact (pe_op (op_ownN O1 G1 hr3 b1 (passes_call tk (fun _ _ σ _ z => z σ))) (pv 0) (pv 1)))))
        (pss_one (ps_if (pt_cmpR op_eq (pv 2) pe_int (nomark _)) (pss_one (ps_set (i := 3) scRefused.nd rfl (Or.inl rfl) (by exact (pe_op (op_ownN O2 G2 hr b2 (passes_call tk (fun _ _ σ _ z => z σ))) (pv 0) (pv 1)))))
          (pss_one (ps_set (i := 3) scRefused.nd rfl (Or.inl rfl) (by exact (pe_meth (pv 0) T.cl m3 G3 hr3 b3 .nil (passes_call tk (fun _ _ σ _ z => z σ)) (pa_cons (pv 1) pa_nil)))))))))
      (fun a oe cls d pn hz hf => pss_one (ps_ret pe_bl))) pss_never, ?_⟩
    refine ⟨_, rfl, rfl, _, rfl, ifD_2 (fun _ => ?_) (fun _ => ?_)⟩
    · exact ⟨_, rfl, _, rfl, p, t, b, 0, b', rfl, r, n, p, v, t, b, b', rfl, r, n, s1, s2, s4, fun d H' sm σ => ⟨true, exm_ZDE, fun _ a ha => k H' sm, fun q => Bool.noConfusion q⟩⟩
    refine ⟨_, rfl, rfl, _, rfl, ifD_2 (fun _ => ?_) (fun _ => ?_)⟩
    · exact ⟨_, rfl, _, rfl, p, t, b, 0, b', rfl, r, n, p, v, t, b, b', rfl, r, n, s1, s2, s4, fun d H' sm σ => ⟨true, exm_ZDE, fun _ a ha => k H' sm, fun q => Bool.noConfusion q⟩⟩
    · exact ⟨_, rfl, p, dx, _, rfl, e, flds_no _ _ (by decide +kernel) (by decide +kernel), _, rfl, p, v, t, b, b', rfl, r, n, s1, s2, s4, fun d H' sm σ => ⟨true, exm_ZDE, fun _ a ha => k H' sm, fun q => Bool.noConfusion q⟩⟩
end
structure Adr where
  fI : Addr
  dI : FuncData
  f1 : Addr
  d1 : FuncData
  f2 : Addr
  d2 : FuncData
  f3 : Addr
  d3 : FuncData
  f4 : Addr
  d4 : FuncData
  f5 : Addr
  d5 : FuncData
  fAdd : Addr
  dAdd : FuncData
  fRadd : Addr
  dRadd : FuncData
  fSub : Addr
  dSub : FuncData
  fRsub : Addr
  dRsub : FuncData
  fMul : Addr
  dMul : FuncData
  fRmul : Addr
  dRmul : FuncData
  fNeg : Addr
  dNeg : FuncData
  fFdiv : Addr
  dFdiv : FuncData
  fMod : Addr
  dMod : FuncData
  fOver : Addr
  dOver : FuncData
  fDraw : Addr
  dDraw : FuncData
  fStart : Addr
  dStart : FuncData
  fWhole : Addr
  dWhole : FuncData
  fNumber : Addr
  dNumber : FuncData
  fDivisor : Addr
  dDivisor : FuncData
  fRatio : Addr
  dRatio : FuncData
  fRefused : Addr
  dRefused : FuncData
structure Prog (K : PySem.W.Frag) (mg : Str → Option Value) (C : Addr) (A : Adr) : Prop where
  L : Lib K mg C A.fI A.f1 A.f2 A.f3 A.f4 A.f5 A.dI A.d1 A.d2 A.d3 A.d4 A.d5
  add_ : Fun K "__add__" "Ratio.__add__" sAdd A.fAdd A.dAdd
  bAdd : Binds K A.dAdd ["self", "other"] []
  radd_ : Fun K "__radd__" "Ratio.__radd__" sRadd A.fRadd A.dRadd
  bRadd : Binds K A.dRadd ["self", "other"] []
  sub_ : Fun K "__sub__" "Ratio.__sub__" sSub A.fSub A.dSub
  bSub : Binds K A.dSub ["self", "other"] []
  rsub_ : Fun K "__rsub__" "Ratio.__rsub__" sRsub A.fRsub A.dRsub
  bRsub : Binds K A.dRsub ["self", "other"] []
  mul_ : Fun K "__mul__" "Ratio.__mul__" sMul A.fMul A.dMul
  bMul : Binds K A.dMul ["self", "other"] []
  rmul_ : Fun K "__rmul__" "Ratio.__rmul__" sRmul A.fRmul A.dRmul
  bRmul : Binds K A.dRmul ["self", "other"] []
  neg_ : Fun K "__neg__" "Ratio.__neg__" sNeg A.fNeg A.dNeg
  bNeg : Binds K A.dNeg ["self"] []
  fdiv_ : Fun K "__floordiv__" "Ratio.__floordiv__" sFdiv A.fFdiv A.dFdiv
  bFdiv : Binds K A.dFdiv ["self", "other"] []
  mod_ : Fun K "__mod__" "Ratio.__mod__" sMod A.fMod A.dMod
  bMod : Binds K A.dMod ["self", "other"] []
  over_ : Fun K "over" "Ratio.over" sOver A.fOver A.dOver
  bOver : Binds K A.dOver ["self", "other"] []
  oAdd : OpTxt K C A.fAdd A.fRadd .Add
  oSub : OpTxt K C A.fSub A.fRsub .Sub
  oMul : OpTxt K C A.fMul A.fRmul .Mult
  oFdiv : OwnN K C A.fFdiv .FloorDiv
  oMod : OwnN K C A.fMod .Mod
  mOver : Meth K C "over" A.fOver
  draw : Df K mg "_law_draw" sDraw A.fDraw A.dDraw ["_law_stream", "_law_many"]
  start : Df K mg "_law_start" sStart A.fStart A.dStart ["_law_script"]
  whole : Df K mg "_law_m_whole" sWhole A.fWhole A.dWhole ["_law_thing"]
  number : Df K mg "_law_m_number" sNumber A.fNumber A.dNumber ["_law_stream"]
  divisor : Df K mg "_law_m_divisor" sDivisor A.fDivisor A.dDivisor ["_law_one", "_law_other"]
  ratio : Df K mg "_law_m_ratio" sRatio A.fRatio A.dRatio ["_law_found", "_law_high", "_law_low"]
  refused : Df K mg "_law_refused" sRefused A.fRefused A.dRefused ["_law_one", "_law_zero", "_law_way"]
def spLaw (K : PySem.W.Frag) : Sp := fun vs H Q _ => ∃ (a : Addr) (ns : List Int), vs = [.ref a] ∧ SqL K H a (ns.map V.int) ∧ ns.length ≤ 63 ∧ ∀ H', Q (.bl true) H'
theorem m_mod {T1 B1 T2 B2 h l o u q : Int} (e1 : T1 * l = h * B1) (e2 : T2 * u = o * B2) : (T1 * B2 - q * T2 * B1) * (l * u) = (h * u - q * o * l) * (B1 * B2) := by grind
theorem ifN {A B : Prop} {x : Int} (h1 : x ≠ 0 → A) (h2 : x = 0 → B) : if (!decide (V.int x = V.int 0)) = true then A else B := by
  by_cases h : x = 0
  · rw [decide_eq_true (by rw [h])]
    exact iteF (h2 h)
  · rw [decide_eq_false (fun z => h (by injection z))]
    exact iteT (h1 h)
section
variable {P : Program} {w : World} {K : PySem.W.Frag} {mg : Str → Option Value} {base : Heap} {C : Addr} {A : Adr}
theorem scLaw : FnScope ["_law_script", "_law_stream", "_law_high", "_law_low", "_law_other", "_law_under", "_law_one", "_law_by", "_law_way", "_law_due", "_law_found"] ["_law_script"] (defScope sLaw) := ⟨rfl, rfl, rfl, by decide +kernel, rfl, by decide +kernel, by decide +kernel⟩
theorem ok_law {f : Addr} {fd : FuncData} (F : Fun K "law" "law" sLaw f fd) (G : Prog K mg C A) : FnOk P w K mg base CX0 6 f fd ["_law_script"] (spLaw K) := by
  have L := G.L
  have T := L.T
  have GI : FnOk P w K mg base CX0 1 A.fI A.dI ["self", "top", "bottom"] (spInit C) := ok_init L.I T
  have GSub : FnOk P w K mg base CX0 3 A.fSub A.dSub ["self", "other"] (spBin nSub C) := ok_sub G.sub_ L
  have GMul : FnOk P w K mg base CX0 3 A.fMul A.dMul ["self", "other"] (spBin nMul C) := ok_mul G.mul_ L
  have GRmul : FnOk P w K mg base CX0 4 A.fRmul A.dRmul ["self", "other"] (spBin nMul C) := ok_rmul G.rmul_ G.oMul GMul G.bMul
  have GFdiv : FnOk P w K mg base CX0 3 A.fFdiv A.dFdiv ["self", "other"] (spFdiv C) := ok_fdiv G.fdiv_ L
  have GMod : FnOk P w K mg base CX0 5 A.fMod A.dMod ["self", "other"] (spMod C) := ok_mod (md := A.dMul) G.mod_ L G.oFdiv G.fdiv_ G.bFdiv G.oMul GRmul G.bRmul G.oSub GSub G.bSub
  have GOver : FnOk P w K mg base CX0 3 A.fOver A.dOver ["self", "other"] (spOver C) := ok_over G.over_ L
  have GDraw : FnOk P w K mg base CX0 1 A.fDraw A.dDraw ["_law_stream", "_law_many"] spDraw := ok_draw G.draw.F T
  have GStart : FnOk P w K mg base CX0 1 A.fStart A.dStart ["_law_script"] (spStart K) := ok_start G.start.F T
  have GWhole : FnOk P w K mg base CX0 1 A.fWhole A.dWhole ["_law_thing"] spIsInt := ok_whole G.whole.F T
  have GNumber : FnOk P w K mg base CX0 2 A.fNumber A.dNumber ["_law_stream"] spNumber := ok_number G.number.F T G.draw
  have GRatio : FnOk P w K mg base CX0 2 A.fRatio A.dRatio ["_law_found", "_law_high", "_law_low"] (spRatio C) := ok_ratio G.ratio.F T G.whole G.divisor
  have GRefused : FnOk P w K mg base CX0 5 A.fRefused A.dRefused ["_law_one", "_law_zero", "_law_way"] (spRefused C) := ok_refused G.refused.F T L G.oFdiv G.fdiv_ G.bFdiv G.oMod G.mod_ G.bMod G.mOver G.over_ G.bOver
  refine F.ok scLaw (fun vs H Q E h => ?_) (fun cdv A0 outer s H vs Q E hr h => ?_)
  · obtain ⟨a, ns, rfl, _⟩ := h
    rfl
  · obtain ⟨a, ns, rfl, hS, hlen, k⟩ := h
    have hr5 : Room 5 _ := hr
    have hr3 : Room 3 _ := hr.mono (by decide)
    have hr2 : Room 2 _ := hr.mono (by decide)
    have hr1 : Room 1 _ := hr.mono (by decide)
    refine ⟨_, (pss_cons (ps_set (i := 1) scLaw.nd rfl (Or.inl rfl) (pe_call GStart hr1 rfl G.start.M G.start.F.kp G.start.B .nil pass0 (pa_cons (pv 0) pa_nil)))
      (pss_cons (ps_par (i := 2) (j := 3) (by rfl) scLaw.nd rfl rfl (by decide) rfl rfl (pa_cons (pe_call GNumber hr2 rfl G.number.M G.number.F.kp G.number.B .nil pass0 (pa_cons (pv 1) pa_nil)) (pa_cons (pe_call GNumber hr2 rfl G.number.M G.number.F.kp G.number.B .nil pass0 (pa_cons (pv 1) pa_nil)) pa_nil)) (by rfl))
      (pss_cons (ps_par (i := 4) (j := 5) (by rfl) scLaw.nd rfl rfl (by decide) rfl rfl (pa_cons (pe_call GNumber hr2 rfl G.number.M G.number.F.kp G.number.B .nil pass0 (pa_cons (pv 1) pa_nil)) (pa_cons (pe_call GNumber hr2 rfl G.number.M G.number.F.kp G.number.B .nil pass0 (pa_cons (pv 1) pa_nil)) pa_nil)) (by rfl))
      (pss_cut (ps_par (i := 3) (j := 4) (by rfl) scLaw.nd rfl rfl (by decide) rfl rfl (pa_cons (pe_ifExp (pt_cmpR op_ne (pv 3) pe_int (nomark _)) (pv 3) pe_int) (pa_cons (pe_ifExp (pt_cmpR op_ne (pv 4) pe_int (nomark _)) (pv 4) (pe_un un_neg pe_int)) pa_nil)) (by rfl))
      (pss_cut (ps_set (i := 5) scLaw.nd rfl (Or.inl rfl) (pe_ifExp (pt_cmpR op_ne (pv 5) pe_int (nomark _)) (pv 5) pe_int))
      (pss_cut (ps_if (pt_cmpR op_eq (pe_call GDraw hr1 rfl G.draw.M G.draw.F.kp G.draw.B .nil pass0 (pa_cons (pv 1) (pa_cons pe_int pa_nil))) pe_int (nomark _)) (pss_one (ps_set (i := 2) scLaw.nd rfl (Or.inl rfl) (pe_op op_mulW (pv 2) (pv 4)))) pss_nil)
      (pss_cons (ps_par (i := 6) (j := 7) (by rfl) scLaw.nd rfl rfl (by decide) rfl rfl (pa_cons (pe_make L.M GI hr2 rfl T.mgC L.b2 .nil pass0 (pa_cons (pv 2) (pa_cons (pv 3) pa_nil))) (pa_cons (pe_make L.M GI hr2 rfl T.mgC L.b2 .nil pass0 (pa_cons (pv 4) (pa_cons (pv 5) pa_nil))) pa_nil)) (by rfl))
      (pss_cut (ps_if (pt_cmpR op_eq (pe_call GDraw hr1 rfl G.draw.M G.draw.F.kp G.draw.B .nil pass0 (pa_cons (pv 1) (pa_cons pe_int pa_nil))) pe_int (nomark _)) (pss_one (ps_par (i := 7) (j := 5) (by rfl) scLaw.nd rfl rfl (by decide) rfl rfl (pa_cons (pv 4) (pa_cons pe_int pa_nil)) (by rfl))) pss_nil)
      (pss_cut (ps_for PassesOwn.never rfl (pi_tup (pe_tup (pa_cons pe_int (pa_cons pe_int (pa_cons pe_int pa_nil))))) (pg_name (i := 8) scLaw.nd rfl (Or.inl rfl))
        (pss_one (ps_if (PW.pt (pw_or (pt_not (pt_val (pe_call GRefused hr5 rfl G.refused.M G.refused.F.kp G.refused.B .nil pass0 (pa_cons (pv 6) (pa_cons pe_int (pa_cons (pv 8) pa_nil)))))) (pw_or1 (pt_not (pt_val (pe_call GRefused hr5 rfl G.refused.M G.refused.F.kp G.refused.B .nil pass0 (pa_cons (pv 6) (pa_cons (pe_make L.M GI hr2 rfl T.mgC L.b2 .nil pass0 (pa_cons pe_int (pa_cons (pv 3) pa_nil))) (pa_cons (pv 8) pa_nil))))))))) pss_never pss_nil)))
      (pss_cons (ps_set (i := 9) scLaw.nd rfl (Or.inl rfl) (pe_op op_fdivS (pe_op op_mulW (pv 2) (pv 5)) (pe_op op_mulW (pv 3) (pv 4))))
      (pss_cons (ps_set (i := 10) scLaw.nd rfl (Or.inl rfl) (pe_op (op_ownN (E := E0) G.oFdiv GFdiv hr3 G.bFdiv pass0) (pv 6) (pv 7)))
      (pss_cons (ps_if (PW.pt (pw_or (pt_not (pt_val (pe_call GWhole hr1 rfl G.whole.M G.whole.F.kp G.whole.B .nil pass0 (pa_cons (pv 10) pa_nil)))) (pw_or1 (pt_cmpR op_ne (pv 10) (pv 9) (nomark _))))) pss_never pss_nil)
      (pss_cons (ps_if (pt_not (pt_val (pe_call GRatio hr2 rfl G.ratio.M G.ratio.F.kp G.ratio.B .nil pass0 (pa_cons (pe_op (op_ownN (E := E0) G.oMod GMod hr5 G.bMod pass0) (pv 6) (pv 7)) (pa_cons (pe_op op_sub (pe_op op_mulW (pv 2) (pv 5)) (pe_op op_mulW (pe_op op_mulW (pv 9) (pv 4)) (pv 3))) (pa_cons (pe_op op_mulW (pv 3) (pv 5)) pa_nil)))))) pss_never pss_nil)
      (pss_cons (ps_if (pt_not (pt_val (pe_call GRatio hr2 rfl G.ratio.M G.ratio.F.kp G.ratio.B .nil pass0 (pa_cons (pe_meth (pv 6) T.cl G.mOver GOver hr3 G.bOver .nil pass0 (pa_cons (pv 7) pa_nil)) (pa_cons (pe_op op_mulW (pv 2) (pv 5)) (pa_cons (pe_op op_mulW (pv 3) (pv 4)) pa_nil)))))) pss_never pss_nil)
      (pss_one (ps_ret (pe_call GRatio hr2 rfl G.ratio.M G.ratio.F.kp G.ratio.B .nil pass0 (pa_cons (pv 6) (pa_cons (pv 2) (pa_cons (pv 3) pa_nil)))))))))))))))))))), ?_⟩
    refine ⟨_, rfl, a, ns, rfl, hS, hlen, fun sa sl H1 S1 _ _ _ => ?_⟩
    refine ⟨_, rfl, sa, sl, 0, rfl, S1, by decide, fun h0 H2 sh0 S2 _ => ?_⟩
    refine ⟨_, rfl, sa, sl, _, rfl, S2, by decide, fun l0 H3 sl0 S3 _ => ⟨_, _, rfl, ?_⟩⟩
    refine ⟨_, rfl, sa, sl, _, rfl, S3, by decide, fun o0 H4 so0 S4 _ => ?_⟩
    refine ⟨_, rfl, sa, sl, _, rfl, S4, by decide, fun u0 H5 su0 S5 _ => ⟨_, _, rfl, ?_⟩⟩
    refine ⟨fun σ' H' => ∃ l o, l ≠ 0 ∧ o ≠ 0 ∧ Sm 135 l ∧ Sm 135 o ∧ σ' = [some (.ref a), some (.ref sa), some (.int h0), some (.int l), some (.int o), some (.int u0), none, none, none, none, none] ∧ StreamAt H' sa sl 8, ?_, ?_⟩
    · have s7 : Sm 135 7 := Sm.mono (n := 3) (by decide) (by decide)
      have s2 : Sm 135 (-2) := Sm.mono (n := 2) (by decide) (by decide)
      refine ⟨_, rfl, rfl, _, rfl, ifN (fun hl => ?_) (fun hl => ?_)⟩
      · refine ⟨_, rfl, _, rfl, rfl, _, rfl, ifN (fun ho => ?_) (fun ho => ?_)⟩
        · exact ⟨_, rfl, _, _, rfl, l0, o0, hl, ho, sl0, so0, rfl, S5⟩
        · exact ⟨_, rfl, _, _, rfl, l0, -2, hl, by decide, sl0, s2, rfl, S5⟩
      · refine ⟨_, rfl, rfl, _, rfl, ifN (fun ho => ?_) (fun ho => ?_)⟩
        · exact ⟨_, rfl, _, _, rfl, 7, o0, by decide, ho, s7, so0, rfl, S5⟩
        · exact ⟨_, rfl, _, _, rfl, 7, -2, by decide, by decide, s7, s2, rfl, S5⟩
    rintro _ H6 ⟨l, o, hl, ho, sl', so, rfl, S6⟩
    refine ⟨fun σ' H' => ∃ u, u ≠ 0 ∧ Sm 135 u ∧ σ' = [some (.ref a), some (.ref sa), some (.int h0), some (.int l), some (.int o), some (.int u), none, none, none, none, none] ∧ StreamAt H' sa sl 8, ?_, ?_⟩
    · refine ⟨_, rfl, rfl, _, rfl, ifN (fun hu => ?_) (fun hu => ?_)⟩
      · exact ⟨_, rfl, u0, hu, su0, rfl, S6⟩
      · exact ⟨1, by decide, Sm.one (by decide), rfl, S6⟩
    rintro _ H7 ⟨u, hu, su, rfl, S7⟩
    refine ⟨fun σ' H' => ∃ h, Sm 270 h ∧ σ' = [some (.ref a), some (.ref sa), some (.int h), some (.int l), some (.int o), some (.int u), none, none, none, none, none] ∧ StreamAt H' sa sl 9, ?_, ?_⟩
    · refine ⟨_, rfl, sa, sl, 8, 4, rfl, S7, by decide, by decide, sm_small (by decide), fun r H8 _ _ S8 _ => ⟨rfl, _, rfl, ifD_2 (fun _ => ?_) (fun _ => ⟨h0, sh0.mono (by decide), rfl, S8⟩)⟩⟩
      exact ⟨_, rfl, _, rfl, _, _, rfl, rfl, mulw sh0 so (by decide) (by decide) (by decide), h0 * o, sh0.mul so (by decide), rfl, S8⟩
    rintro _ H8 ⟨h, sh, rfl, S8⟩
    refine ⟨_, rfl, _, rfl, fun p1 dx1 n1 nd1 ne1 => ⟨p1, dx1, h, l, rfl, hl, sl'.mono (by decide), upd_same, fun T1 B1 H9 lw1 e1 le1 le2 ho1 kp1 => ⟨rfl, ?_⟩⟩⟩
    have m1 : Same H8 H9 := Same.made n1 nd1 kp1
    have r1 : RatAt C H9 p1 T1 B1 := ⟨lw1, dx1, ho1⟩
    refine ⟨_, rfl, _, rfl, fun p2 dx2 n2 nd2 ne2 => ⟨p2, dx2, o, u, rfl, hu, su.mono (by decide), upd_same, fun T2 B2 H10 lw2 e2 le3 le4 ho2 kp2 => ⟨rfl, _, _, rfl, ?_⟩⟩⟩
    have m2 : Same H9 H10 := Same.made n2 nd2 kp2
    have r2 : RatAt C H10 p2 T2 B2 := ⟨lw2, dx2, ho2⟩
    have a1 : Sm 300 T1 := (sh.le le1).mono (by decide)
    have b1 : Sm 300 B1 := (sl'.le le2).mono (by decide)
    have nT2 : T2 ≠ 0 := fun z => by
      rw [z, Int.zero_mul] at e2
      exact Int.mul_ne_zero ho lw2.ne e2.symm
    refine ⟨fun σ' H' => ∃ (v : V) (u T B : Int), u ≠ 0 ∧ Sm 135 u ∧ σ' = [some (.ref a), some (.ref sa), some (.int h), some (.int l), some (.int o), some (.int u), some (.ref p1), some v, none, none, none] ∧ RatAt C H' p1 T1 B1 ∧ Num C H' v T B ∧ T ≠ 0 ∧ T * u = o * B ∧ Sm 300 T ∧ Sm 300 B, ?_, ?_⟩
    · refine ⟨_, rfl, sa, sl, 9, 3, rfl, (S8.same m1).same m2, by decide, by decide, sm_small (by decide), fun r H11 _ _ S11 kp11 => ?_⟩
      obtain ⟨_, _, _, _, za, zl, _⟩ := id ((S8.same m1).same m2)
      have r1' : RatAt C H11 p1 T1 B1 := ⟨lw1, dx1, kp11 p1 _ (ne_of (m2 _ _ ho1) za (by intro z; cases z)) (ne_of (m2 _ _ ho1) zl (by intro z; cases z)) (m2 _ _ ho1)⟩
      have r2' : RatAt C H11 p2 T2 B2 := ⟨lw2, dx2, kp11 p2 _ (ne_of ho2 za (by intro z; cases z)) (ne_of ho2 zl (by intro z; cases z)) ho2⟩
      refine ⟨rfl, _, rfl, ifD_2 (fun _ => ?_) (fun _ => ?_)⟩
      · exact ⟨_, rfl, _, _, rfl, .int o, 1, o, 1, by decide, Sm.one (by decide), rfl, r1', .inl ⟨rfl, rfl⟩, ho, rfl, so.mono (by decide), Sm.one (by decide)⟩
      · exact ⟨.ref p2, u, T2, B2, hu, su, rfl, r1', .inr ⟨p2, rfl, r2'⟩, nT2, e2, (so.le le3).mono (by decide), (su.le le4).mono (by decide)⟩
    clear nT2 r2 m2 ho2 kp2 e2 le3 le4 lw2 hu su
    rintro _ H12 ⟨v, u, T2, B2, hu, su, rfl, r1', n2', nT2, e2, a2, b2⟩
    refine ⟨fun σ' H' => ∃ wv, σ' = [some (.ref a), some (.ref sa), some (.int h), some (.int l), some (.int o), some (.int u), some (.ref p1), some v, wv, none, none] ∧ RatAt C H' p1 T1 B1 ∧ Num C H' v T2 B2, ?_, ?_⟩
    · refine ⟨by show 3 ≤ sizeLine; decide, fun t ht => ⟨t, rfl, ⟨_, SqT.of upd_same⟩, ?_⟩⟩
      have q1 := Same.new (o := .tup [.int 0, .int 1, .int 2]) ht
      refine for_tup (K := K) (a := t) (xs := [.int 0, .int 1, .int 2]) (fun i σ' H' => (∃ wv, σ' = [some (.ref a), some (.ref sa), some (.int h), some (.int l), some (.int o), some (.int u), some (.ref p1), some v, wv, none, none]) ∧ RatAt C H' p1 T1 B1 ∧ Num C H' v T2 B2 ∧ H' t = some (.tup [.int 0, .int 1, .int 2])) ⟨⟨none, rfl⟩, r1'.same q1, n2'.same q1, upd_same⟩ (fun i σ' H' _ q => SqT.of q.2.2.2) ?_ ?_
      · rintro i x σ' H' hx ⟨⟨wv, rfl⟩, r, n, htt⟩
        obtain ⟨ww, rfl⟩ : ∃ ww : Int, x = V.int ww := by
          have hm := List.mem_of_getElem? hx
          rcases List.mem_cons.mp hm with e | hm
          · exact ⟨_, e⟩
          rcases List.mem_cons.mp hm with e | hm
          · exact ⟨_, e⟩
          rcases List.mem_cons.mp hm with e | hm
          · exact ⟨_, e⟩
          cases hm
        refine ⟨_, rfl, _, rfl, p1, .int 0, T1, B1, 1, ww, rfl, r, .inl ⟨rfl, rfl⟩, a1.mono (by decide), b1.mono (by decide), Sm.one (by decide), fun H13 s13 => ⟨_, rfl, iteF ?_⟩⟩
        refine ⟨_, rfl, _, rfl, fun p4 dx4 n4 nd4 ne4 => ⟨p4, dx4, 0, l, rfl, hl, sl'.mono (by decide), upd_same, fun T4 B4 H14 lw4 e4 le7 le8 ho4 kp4 => ⟨rfl, ?_⟩⟩⟩
        have s14 : Same H13 H14 := Same.made n4 nd4 kp4
        have z4 : T4 = 0 := by
          have z : T4 * l = 0 := by rw [e4, Int.zero_mul]
          exact (Int.mul_eq_zero.mp z).resolve_right hl
        subst z4
        refine ⟨_, rfl, p1, .ref p4, T1, B1, B4, ww, rfl, (r.same s13).same s14, .inr ⟨p4, rfl, ⟨lw4, dx4, ho4⟩⟩, a1.mono (by decide), b1.mono (by decide), (sl'.le le8).mono (by decide), fun H15 s15 => ⟨_, rfl, ?_⟩⟩
        exact ⟨⟨_, rfl⟩, ((r.same s13).same s14).same s15, ((n.same s13).same s14).same s15, s15 _ _ (s14 _ _ (s13 _ _ htt))⟩
      · rintro σ' H' ⟨⟨wv, rfl⟩, r, n, htt⟩
        exact ⟨wv, rfl, r, n⟩
    clear r1' n2'
    rintro _ H16 ⟨wv, rfl, r1', n2'⟩
    have slo : Sm 270 (l * o) := sl'.mul so (by decide)
    have hlo : l * o ≠ 0 := Int.mul_ne_zero hl ho
    have shu : Sm 405 (h * u) := sh.mul su (by decide)
    refine ⟨_, rfl, _, rfl, _, _, rfl, rfl, mulw sh su (by decide) (by decide) (by decide), _, rfl, _, rfl, _, _, rfl, rfl, mulw sl' so (by decide) (by decide) (by decide), _, _, rfl, rfl, ⟨hlo, log9000 slo (by decide) (by decide)⟩, ?_⟩
    refine ⟨_, rfl, _, rfl, p1, T1, B1, T2, B2, rfl, r1', n2', p1, v, T1, B1, T2, B2, rfl, r1', n2', nT2, a1.mono (by decide), b1.mono (by decide), a2.mono (by decide), b2.mono (by decide), ?_⟩
    have hBT : B1 * T2 ≠ 0 := Int.mul_ne_zero r1'.low.ne nT2
    have heq : (T1 * B2).fdiv (B1 * T2) = (h * u).fdiv (l * o) := fdiv_same hBT hlo (by grind)
    have sd : Sm 405 ((h * u).fdiv (l * o)) := sm_fdiv shu
    rw [heq]
    refine ⟨_, rfl, _, rfl, _, rfl, iteF ?_⟩
    refine ⟨_, rfl, _, rfl, rfl, _, rfl, iteNS rfl ?_⟩
    have sol : Sm 675 ((h * u).fdiv (l * o) * o * l) := (sd.mul so (Nat.le_refl _)).mul sl' (by decide)
    -- one % by
    refine ⟨_, rfl, _, rfl, p1, T1, B1, T2, B2, rfl, r1', n2', p1, v, T1, B1, T2, B2, rfl, r1', n2', nT2, a1, b1, a2, b2, fun x H17 T3 B3 sm17 r3 e3 z3 z4 => ?_⟩
    refine ⟨_, rfl, _, rfl, _, _, rfl, rfl, mulw sh su (by decide) (by decide) (by decide), _, rfl, _, rfl, _, _, rfl, rfl, mulw sd so (by decide) (by decide) (by decide), _, rfl, _, _, rfl, rfl, mulw (sd.mul so (Nat.le_refl _)) sl' (by decide) (by decide) (by decide), _, _, rfl, rfl, ?_⟩
    refine ⟨_, rfl, _, rfl, _, _, rfl, rfl, mulw sl' su (by decide) (by decide) (by decide), ?_⟩
    rw [heq] at e3
    refine ⟨x, T3, B3, _, _, rfl, r3, cross (x := h * u - (h * u).fdiv (l * o) * o * l) (y := l * u) r3.low.ne e3 (m_mod e1 e2) (Int.mul_ne_zero r1'.low.ne n2'.low.ne), z3, z4, (shu.mono (by decide) : Sm 675 (h * u)).sub sol (by decide), sl'.mul su (by decide), ⟨_, rfl, iteF ?_⟩⟩
    have r1b := r1'.same sm17
    have n2b := n2'.same sm17
    obtain ⟨dx5, o5⟩ := r1b.ob
    -- one.over(by)
    refine ⟨_, rfl, p1, dx5, _, rfl, o5, flds_no _ _ (by decide +kernel) (by decide +kernel), _, rfl, p1, v, T1, B1, T2, B2, rfl, r1b, n2b, nT2, a1.mono (by decide), b1.mono (by decide), a2.mono (by decide), b2.mono (by decide), fun x H18 T5 B5 nx sm18 r5 e5 l1 l2 => ?_⟩
    refine ⟨_, rfl, _, rfl, _, _, rfl, rfl, mulw sh su (by decide) (by decide) (by decide), _, rfl, _, rfl, _, _, rfl, rfl, mulw sl' so (by decide) (by decide) (by decide), ?_⟩
    refine ⟨x, T5, B5, h * u, l * o, rfl, r5, cross r5.low.ne e5 (by grind) hBT, (Sm.le (x := T1 * B2) (a1.mul b2 (by decide)) l1), (Sm.le (x := B1 * T2) (b1.mul a2 (by decide)) l2), shu.mono (by decide), slo.mono (by decide), ⟨_, rfl, iteF ?_⟩⟩
    exact ⟨_, rfl, _, rfl, _, rfl, p1, T1, B1, h, l, rfl, r1b.same sm18, e1, a1.mono (by decide), b1.mono (by decide), sh.mono (by decide), sl'.mono (by decide), k _⟩
end
end PA

set_option maxHeartbeats 8000000
namespace PA
open PySem L2
theorem kit_self {K : PySem.W.Frag} {C : Addr} : PySem.W.kitOne K (.ref C) (.ref C) = some true := by
  unfold PySem.W.kitOne
  rw [if_pos (by simp)]
theorem kit_int {K : PySem.W.Frag} {C : Addr} (h2 : PySem.W.isClsIn K C = true) (h3 : PySem.W.typeIn K (.ref C) = some (.type "type")) (h4 : PySem.W.subIn K (.type "int") (.ref C) = some false) : PySem.W.kitOne K (.type "int") (.ref C) = some false := by
  have e2 : ((PySem.W.clsIn K C).isSome && PySem.W.typeIn K (.ref C) == some (.type "type")) = true := by
    have h2' : (PySem.W.clsIn K C).isSome = true := h2
    rw [h2', h3] <;> rfl
  unfold PySem.W.kitOne
  rw [if_neg (by simp)]
  show (if ((PySem.W.clsIn K C).isSome && PySem.W.typeIn K (.ref C) == some (.type "type")) = true then PySem.W.subIn K (.type "int") (.ref C) else none) = some false
  rw [if_pos e2]
  exact h4
theorem dn_add : ("__add__" : Str) = PySem.dunder Operator.Add.info.2 := by decide +kernel
theorem dr_add : ("__radd__" : Str) = dunderR Operator.Add.info.2 := by decide +kernel
theorem dn_sub : ("__sub__" : Str) = PySem.dunder Operator.Sub.info.2 := by decide +kernel
theorem dr_sub : ("__rsub__" : Str) = dunderR Operator.Sub.info.2 := by decide +kernel
theorem dn_mul : ("__mul__" : Str) = PySem.dunder Operator.Mult.info.2 := by decide +kernel
theorem dr_mul : ("__rmul__" : Str) = dunderR Operator.Mult.info.2 := by decide +kernel
theorem dn_floordiv : ("__floordiv__" : Str) = PySem.dunder Operator.FloorDiv.info.2 := by decide +kernel
theorem dr_floordiv : ("__rfloordiv__" : Str) = dunderR Operator.FloorDiv.info.2 := by decide +kernel
theorem dn_mod : ("__mod__" : Str) = PySem.dunder Operator.Mod.info.2 := by decide +kernel
theorem dr_mod : ("__rmod__" : Str) = dunderR Operator.Mod.info.2 := by decide +kernel
theorem bI2_of {K : PySem.W.Frag} {f : Addr} {fd : FuncData} (F : FunI K f fd) : Binds K fd ["self", "top", "bottom"] [] := by
  obtain ⟨ds, hv, hb⟩ := F.binds1 (ps := ["self", "top", "bottom"]) 3 1 (by simp) rfl (fun T kV doc pm an cdv ct us its h1 h2 => match us, h1, its, h2 with | [_, _, _], _, [_], _ => ⟨_, rfl, rfl⟩)
  cases hv
  exact hb
theorem all_mk {l : PySem.W.OpenLaw} {w : World} {K : PySem.W.Frag} {h : Heap} {mg : Str → Option Value} {fa C TT gI gLaw gAdd gRadd gSub gRsub gMul gRmul gNeg gFdiv gMod gOver g1 g2 g3 g4 g5 gDraw gStart gWhole gNumber gDivisor gRatio gRefused : Addr} (X : K.In h) (G : h.Ns mainGlobals mg) (hfa : mg "law" = some (.ref fa))
    {ocI kVI dcI pmI cdI ctI : Value} {odI anI : Option Addr} {slI : Array (Option Value)} {oT : Value} {odT : Option Addr} {tkT : Tok} {mT : Nat} {slT : Array (Option Value)} {ocAdd kVAdd dcAdd pmAdd cdAdd ctAdd : Value} {odAdd anAdd : Option Addr} {slAdd : Array (Option Value)} {ocRadd kVRadd dcRadd pmRadd cdRadd ctRadd : Value} {odRadd anRadd : Option Addr} {slRadd : Array (Option Value)} {ocSub kVSub dcSub pmSub cdSub ctSub : Value} {odSub anSub : Option Addr} {slSub : Array (Option Value)} {ocRsub kVRsub dcRsub pmRsub cdRsub ctRsub : Value} {odRsub anRsub : Option Addr} {slRsub : Array (Option Value)} {ocMul kVMul dcMul pmMul cdMul ctMul : Value} {odMul anMul : Option Addr} {slMul : Array (Option Value)} {ocRmul kVRmul dcRmul pmRmul cdRmul ctRmul : Value} {odRmul anRmul : Option Addr} {slRmul : Array (Option Value)} {ocNeg kVNeg dcNeg pmNeg cdNeg ctNeg : Value} {odNeg anNeg : Option Addr} {slNeg : Array (Option Value)} {ocFdiv kVFdiv dcFdiv pmFdiv cdFdiv ctFdiv : Value} {odFdiv anFdiv : Option Addr} {slFdiv : Array (Option Value)} {ocMod kVMod dcMod pmMod cdMod ctMod : Value} {odMod anMod : Option Addr} {slMod : Array (Option Value)} {ocOver kVOver dcOver pmOver cdOver ctOver : Value} {odOver anOver : Option Addr} {slOver : Array (Option Value)} {oc1 kV1 dc1 pm1 cd1 ct1 : Value} {od1 an1 : Option Addr} {sl1 : Array (Option Value)} {oc2 kV2 dc2 pm2 cd2 ct2 : Value} {od2 an2 : Option Addr} {sl2 : Array (Option Value)} {oc3 kV3 dc3 pm3 cd3 ct3 : Value} {od3 an3 : Option Addr} {sl3 : Array (Option Value)} {oc4 kV4 dc4 pm4 cd4 ct4 : Value} {od4 an4 : Option Addr} {sl4 : Array (Option Value)} {oc5 kV5 dc5 pm5 cd5 ct5 : Value} {od5 an5 : Option Addr} {sl5 : Array (Option Value)} {ocDraw kVDraw dcDraw pmDraw cdDraw ctDraw : Value} {odDraw anDraw : Option Addr} {slDraw : Array (Option Value)} {ocStart kVStart dcStart pmStart cdStart ctStart : Value} {odStart anStart : Option Addr} {slStart : Array (Option Value)} {ocWhole kVWhole dcWhole pmWhole cdWhole ctWhole : Value} {odWhole anWhole : Option Addr} {slWhole : Array (Option Value)} {ocNumber kVNumber dcNumber pmNumber cdNumber ctNumber : Value} {odNumber anNumber : Option Addr} {slNumber : Array (Option Value)} {ocDivisor kVDivisor dcDivisor pmDivisor cdDivisor ctDivisor : Value} {odDivisor anDivisor : Option Addr} {slDivisor : Array (Option Value)} {ocRatio kVRatio dcRatio pmRatio cdRatio ctRatio : Value} {odRatio anRatio : Option Addr} {slRatio : Array (Option Value)} {ocRefused kVRefused dcRefused pmRefused cdRefused ctRefused : Value} {odRefused anRefused : Option Addr} {slRefused : Array (Option Value)} {ocLaw kVLaw dcLaw pmLaw cdLaw ctLaw : Value} {odLaw anLaw : Option Addr} {slLaw : Array (Option Value)} {foadd roadd : Option Value} {fosub rosub : Option Value} {fomul romul : Option Value} {fofloordiv rofloordiv : Option Value} {fomod romod : Option Value}
    (aC : PySem.W.nsIn K mainGlobals "Ratio" = some (some (.ref C)))
    (aI : PySem.W.findIn K (.ref C) "__init__" = some (some (.ref gI)))
    (lI : K.lookup gI = some ⟨ocI, odI, .func (PySem.W.fnOf "__init__" "Ratio.__init__" (defArgs sInit) (defBody sInit) (defScope sInit) (.ref TT) kVI dcI pmI anI cdI ctI), slI⟩)
    (cI : PySem.W.codeIn K cdI "Ratio.__init__" = true)
    (kI : PySem.W.keepIn K (.ref gI) = true)
    (lT : K.lookup TT = some ⟨oT, odT, .seq #[.int 1 tkT] mT, slT⟩)
    (iI : PySem.W.isFn K (.ref gI) = true)
    (aAdd : PySem.W.findIn K (.ref C) "__add__" = some (some (.ref gAdd)))
    (lAdd : K.lookup gAdd = some ⟨ocAdd, odAdd, .func (PySem.W.fnOf "__add__" "Ratio.__add__" (defArgs sAdd) (defBody sAdd) (defScope sAdd) .none kVAdd dcAdd pmAdd anAdd cdAdd ctAdd), slAdd⟩)
    (cAdd : PySem.W.codeIn K cdAdd "Ratio.__add__" = true)
    (kAdd : PySem.W.keepIn K (.ref gAdd) = true)
    (iAdd : PySem.W.isFn K (.ref gAdd) = true)
    (aRadd : PySem.W.findIn K (.ref C) "__radd__" = some (some (.ref gRadd)))
    (lRadd : K.lookup gRadd = some ⟨ocRadd, odRadd, .func (PySem.W.fnOf "__radd__" "Ratio.__radd__" (defArgs sRadd) (defBody sRadd) (defScope sRadd) .none kVRadd dcRadd pmRadd anRadd cdRadd ctRadd), slRadd⟩)
    (cRadd : PySem.W.codeIn K cdRadd "Ratio.__radd__" = true)
    (kRadd : PySem.W.keepIn K (.ref gRadd) = true)
    (iRadd : PySem.W.isFn K (.ref gRadd) = true)
    (aSub : PySem.W.findIn K (.ref C) "__sub__" = some (some (.ref gSub)))
    (lSub : K.lookup gSub = some ⟨ocSub, odSub, .func (PySem.W.fnOf "__sub__" "Ratio.__sub__" (defArgs sSub) (defBody sSub) (defScope sSub) .none kVSub dcSub pmSub anSub cdSub ctSub), slSub⟩)
    (cSub : PySem.W.codeIn K cdSub "Ratio.__sub__" = true)
    (kSub : PySem.W.keepIn K (.ref gSub) = true)
    (iSub : PySem.W.isFn K (.ref gSub) = true)
    (aRsub : PySem.W.findIn K (.ref C) "__rsub__" = some (some (.ref gRsub)))
    (lRsub : K.lookup gRsub = some ⟨ocRsub, odRsub, .func (PySem.W.fnOf "__rsub__" "Ratio.__rsub__" (defArgs sRsub) (defBody sRsub) (defScope sRsub) .none kVRsub dcRsub pmRsub anRsub cdRsub ctRsub), slRsub⟩)
    (cRsub : PySem.W.codeIn K cdRsub "Ratio.__rsub__" = true)
    (kRsub : PySem.W.keepIn K (.ref gRsub) = true)
    (iRsub : PySem.W.isFn K (.ref gRsub) = true)
    (aMul : PySem.W.findIn K (.ref C) "__mul__" = some (some (.ref gMul)))
    (lMul : K.lookup gMul = some ⟨ocMul, odMul, .func (PySem.W.fnOf "__mul__" "Ratio.__mul__" (defArgs sMul) (defBody sMul) (defScope sMul) .none kVMul dcMul pmMul anMul cdMul ctMul), slMul⟩)
    (cMul : PySem.W.codeIn K cdMul "Ratio.__mul__" = true)
    (kMul : PySem.W.keepIn K (.ref gMul) = true)
    (iMul : PySem.W.isFn K (.ref gMul) = true)
    (aRmul : PySem.W.findIn K (.ref C) "__rmul__" = some (some (.ref gRmul)))
    (lRmul : K.lookup gRmul = some ⟨ocRmul, odRmul, .func (PySem.W.fnOf "__rmul__" "Ratio.__rmul__" (defArgs sRmul) (defBody sRmul) (defScope sRmul) .none kVRmul dcRmul pmRmul anRmul cdRmul ctRmul), slRmul⟩)
    (cRmul : PySem.W.codeIn K cdRmul "Ratio.__rmul__" = true)
    (kRmul : PySem.W.keepIn K (.ref gRmul) = true)
    (iRmul : PySem.W.isFn K (.ref gRmul) = true)
    (aNeg : PySem.W.findIn K (.ref C) "__neg__" = some (some (.ref gNeg)))
    (lNeg : K.lookup gNeg = some ⟨ocNeg, odNeg, .func (PySem.W.fnOf "__neg__" "Ratio.__neg__" (defArgs sNeg) (defBody sNeg) (defScope sNeg) .none kVNeg dcNeg pmNeg anNeg cdNeg ctNeg), slNeg⟩)
    (cNeg : PySem.W.codeIn K cdNeg "Ratio.__neg__" = true)
    (kNeg : PySem.W.keepIn K (.ref gNeg) = true)
    (iNeg : PySem.W.isFn K (.ref gNeg) = true)
    (aFdiv : PySem.W.findIn K (.ref C) "__floordiv__" = some (some (.ref gFdiv)))
    (lFdiv : K.lookup gFdiv = some ⟨ocFdiv, odFdiv, .func (PySem.W.fnOf "__floordiv__" "Ratio.__floordiv__" (defArgs sFdiv) (defBody sFdiv) (defScope sFdiv) .none kVFdiv dcFdiv pmFdiv anFdiv cdFdiv ctFdiv), slFdiv⟩)
    (cFdiv : PySem.W.codeIn K cdFdiv "Ratio.__floordiv__" = true)
    (kFdiv : PySem.W.keepIn K (.ref gFdiv) = true)
    (iFdiv : PySem.W.isFn K (.ref gFdiv) = true)
    (aMod : PySem.W.findIn K (.ref C) "__mod__" = some (some (.ref gMod)))
    (lMod : K.lookup gMod = some ⟨ocMod, odMod, .func (PySem.W.fnOf "__mod__" "Ratio.__mod__" (defArgs sMod) (defBody sMod) (defScope sMod) .none kVMod dcMod pmMod anMod cdMod ctMod), slMod⟩)
    (cMod : PySem.W.codeIn K cdMod "Ratio.__mod__" = true)
    (kMod : PySem.W.keepIn K (.ref gMod) = true)
    (iMod : PySem.W.isFn K (.ref gMod) = true)
    (aOver : PySem.W.findIn K (.ref C) "over" = some (some (.ref gOver)))
    (lOver : K.lookup gOver = some ⟨ocOver, odOver, .func (PySem.W.fnOf "over" "Ratio.over" (defArgs sOver) (defBody sOver) (defScope sOver) .none kVOver dcOver pmOver anOver cdOver ctOver), slOver⟩)
    (cOver : PySem.W.codeIn K cdOver "Ratio.over" = true)
    (kOver : PySem.W.keepIn K (.ref gOver) = true)
    (iOver : PySem.W.isFn K (.ref gOver) = true)
    (a1 : PySem.W.nsIn K mainGlobals "is_integer" = some (some (.ref g1)))
    (l1 : K.lookup g1 = some ⟨oc1, od1, .func (PySem.W.fnOf "is_integer" "is_integer" (defArgs sIsInt) (defBody sIsInt) (defScope sIsInt) .none kV1 dc1 pm1 an1 cd1 ct1), sl1⟩)
    (c1 : PySem.W.codeIn K cd1 "is_integer" = true)
    (k1 : PySem.W.keepIn K (.ref g1) = true)
    (a2 : PySem.W.nsIn K mainGlobals "_is_number" = some (some (.ref g2)))
    (l2 : K.lookup g2 = some ⟨oc2, od2, .func (PySem.W.fnOf "_is_number" "_is_number" (defArgs sIsNum) (defBody sIsNum) (defScope sIsNum) .none kV2 dc2 pm2 an2 cd2 ct2), sl2⟩)
    (c2 : PySem.W.codeIn K cd2 "_is_number" = true)
    (k2 : PySem.W.keepIn K (.ref g2) = true)
    (a3 : PySem.W.nsIn K mainGlobals "_top" = some (some (.ref g3)))
    (l3 : K.lookup g3 = some ⟨oc3, od3, .func (PySem.W.fnOf "_top" "_top" (defArgs sTop) (defBody sTop) (defScope sTop) .none kV3 dc3 pm3 an3 cd3 ct3), sl3⟩)
    (c3 : PySem.W.codeIn K cd3 "_top" = true)
    (k3 : PySem.W.keepIn K (.ref g3) = true)
    (a4 : PySem.W.nsIn K mainGlobals "_bottom" = some (some (.ref g4)))
    (l4 : K.lookup g4 = some ⟨oc4, od4, .func (PySem.W.fnOf "_bottom" "_bottom" (defArgs sBot) (defBody sBot) (defScope sBot) .none kV4 dc4 pm4 an4 cd4 ct4), sl4⟩)
    (c4 : PySem.W.codeIn K cd4 "_bottom" = true)
    (k4 : PySem.W.keepIn K (.ref g4) = true)
    (a5 : PySem.W.nsIn K mainGlobals "_gap" = some (some (.ref g5)))
    (l5 : K.lookup g5 = some ⟨oc5, od5, .func (PySem.W.fnOf "_gap" "_gap" (defArgs sGap) (defBody sGap) (defScope sGap) .none kV5 dc5 pm5 an5 cd5 ct5), sl5⟩)
    (c5 : PySem.W.codeIn K cd5 "_gap" = true)
    (k5 : PySem.W.keepIn K (.ref g5) = true)
    (aDraw : PySem.W.nsIn K mainGlobals "_law_draw" = some (some (.ref gDraw)))
    (lDraw : K.lookup gDraw = some ⟨ocDraw, odDraw, .func (PySem.W.fnOf "_law_draw" "_law_draw" (defArgs sDraw) (defBody sDraw) (defScope sDraw) .none kVDraw dcDraw pmDraw anDraw cdDraw ctDraw), slDraw⟩)
    (cDraw : PySem.W.codeIn K cdDraw "_law_draw" = true)
    (kDraw : PySem.W.keepIn K (.ref gDraw) = true)
    (aStart : PySem.W.nsIn K mainGlobals "_law_start" = some (some (.ref gStart)))
    (lStart : K.lookup gStart = some ⟨ocStart, odStart, .func (PySem.W.fnOf "_law_start" "_law_start" (defArgs sStart) (defBody sStart) (defScope sStart) .none kVStart dcStart pmStart anStart cdStart ctStart), slStart⟩)
    (cStart : PySem.W.codeIn K cdStart "_law_start" = true)
    (kStart : PySem.W.keepIn K (.ref gStart) = true)
    (aWhole : PySem.W.nsIn K mainGlobals "_law_m_whole" = some (some (.ref gWhole)))
    (lWhole : K.lookup gWhole = some ⟨ocWhole, odWhole, .func (PySem.W.fnOf "_law_m_whole" "_law_m_whole" (defArgs sWhole) (defBody sWhole) (defScope sWhole) .none kVWhole dcWhole pmWhole anWhole cdWhole ctWhole), slWhole⟩)
    (cWhole : PySem.W.codeIn K cdWhole "_law_m_whole" = true)
    (kWhole : PySem.W.keepIn K (.ref gWhole) = true)
    (aNumber : PySem.W.nsIn K mainGlobals "_law_m_number" = some (some (.ref gNumber)))
    (lNumber : K.lookup gNumber = some ⟨ocNumber, odNumber, .func (PySem.W.fnOf "_law_m_number" "_law_m_number" (defArgs sNumber) (defBody sNumber) (defScope sNumber) .none kVNumber dcNumber pmNumber anNumber cdNumber ctNumber), slNumber⟩)
    (cNumber : PySem.W.codeIn K cdNumber "_law_m_number" = true)
    (kNumber : PySem.W.keepIn K (.ref gNumber) = true)
    (aDivisor : PySem.W.nsIn K mainGlobals "_law_m_divisor" = some (some (.ref gDivisor)))
    (lDivisor : K.lookup gDivisor = some ⟨ocDivisor, odDivisor, .func (PySem.W.fnOf "_law_m_divisor" "_law_m_divisor" (defArgs sDivisor) (defBody sDivisor) (defScope sDivisor) .none kVDivisor dcDivisor pmDivisor anDivisor cdDivisor ctDivisor), slDivisor⟩)
    (cDivisor : PySem.W.codeIn K cdDivisor "_law_m_divisor" = true)
    (kDivisor : PySem.W.keepIn K (.ref gDivisor) = true)
    (aRatio : PySem.W.nsIn K mainGlobals "_law_m_ratio" = some (some (.ref gRatio)))
    (lRatio : K.lookup gRatio = some ⟨ocRatio, odRatio, .func (PySem.W.fnOf "_law_m_ratio" "_law_m_ratio" (defArgs sRatio) (defBody sRatio) (defScope sRatio) .none kVRatio dcRatio pmRatio anRatio cdRatio ctRatio), slRatio⟩)
    (cRatio : PySem.W.codeIn K cdRatio "_law_m_ratio" = true)
    (kRatio : PySem.W.keepIn K (.ref gRatio) = true)
    (aRefused : PySem.W.nsIn K mainGlobals "_law_refused" = some (some (.ref gRefused)))
    (lRefused : K.lookup gRefused = some ⟨ocRefused, odRefused, .func (PySem.W.fnOf "_law_refused" "_law_refused" (defArgs sRefused) (defBody sRefused) (defScope sRefused) .none kVRefused dcRefused pmRefused anRefused cdRefused ctRefused), slRefused⟩)
    (cRefused : PySem.W.codeIn K cdRefused "_law_refused" = true)
    (kRefused : PySem.W.keepIn K (.ref gRefused) = true)
    (aLaw : PySem.W.nsIn K mainGlobals "law" = some (some (.ref gLaw)))
    (lLaw : K.lookup gLaw = some ⟨ocLaw, odLaw, .func (PySem.W.fnOf "law" "law" (defArgs sLaw) (defBody sLaw) (defScope sLaw) .none kVLaw dcLaw pmLaw anLaw cdLaw ctLaw), slLaw⟩)
    (cLaw : PySem.W.codeIn K cdLaw "law" = true)
    (kLaw : PySem.W.keepIn K (.ref gLaw) = true)
    (pg : PySem.W.plainGet K C Str.empty = true)
    (hd : PySem.W.hasDictIn K C = true)
    (po : PySem.W.plainOver K C = true)
    (sa : PySem.W.findIn K (.ref C) "__setattr__" = some (some (.builtin "object.__setattr__")))
    (mk : PySem.W.makesIn K C = true)
    (kc : PySem.W.keepIn K (.ref C) = true)
    (nT : PySem.W.findIn K (.ref C) "top" = some none)
    (nB : PySem.W.findIn K (.ref C) "bottom" = some none)
    (gg : PySem.W.nsIn K mainGlobals "gcd" = some (some (.builtin "math.gcd")))
    (zisi : PySem.W.nsIn K mainGlobals "isinstance" = some none)
    (zint : PySem.W.nsIn K mainGlobals "int" = some none)
    (zboo : PySem.W.nsIn K mainGlobals "bool" = some none)
    (zabs : PySem.W.nsIn K mainGlobals "abs" = some none)
    (zlis : PySem.W.nsIn K mainGlobals "list" = some none)
    (zall : PySem.W.nsIn K mainGlobals "all" = some none)
    (zZer : PySem.W.nsIn K mainGlobals "ZeroDivisionError" = some none)
    (q1 : PySem.W.findIn K (.ref C) "__class__" = some (some (.builtin "object.__class__")))
    (q2 : PySem.W.specialIn K (.builtin "object.__class__") "__get__" = some (some (.builtin "getset_descriptor.__get__")))
    (q3 : PySem.W.takesIn K (.builtin "object.__class__") = some true)
    (q4 : PySem.W.mroIn K C (.type "object") = some true)
    (iC : PySem.W.isClsIn K C = true)
    (tC : PySem.W.typeIn K (.ref C) = some (.type "type"))
    (sf : PySem.W.selfFirst K C = true)
    (s1 : PySem.W.subIn K (.type "int") (.ref C) = some false)
    (s2 : PySem.W.subIn K (.ref C) (.type "int") = some false)
    (hadd : PySem.W.findIn K (.type "int") "__add__" = some foadd)
    (radd : PySem.W.findIn K (.type "int") "__radd__" = some roadd)
    (hsub : PySem.W.findIn K (.type "int") "__sub__" = some fosub)
    (rsub : PySem.W.findIn K (.type "int") "__rsub__" = some rosub)
    (hmul : PySem.W.findIn K (.type "int") "__mul__" = some fomul)
    (rmul : PySem.W.findIn K (.type "int") "__rmul__" = some romul)
    (hfloordiv : PySem.W.findIn K (.type "int") "__floordiv__" = some fofloordiv)
    (rfloordiv : PySem.W.findIn K (.type "int") "__rfloordiv__" = some rofloordiv)
    (hmod : PySem.W.findIn K (.type "int") "__mod__" = some fomod)
    (rmod : PySem.W.findIn K (.type "int") "__rmod__" = some romod)
    (nfloordiv : PySem.W.findIn K (.ref C) "__rfloordiv__" = some none)
    (nmod : PySem.W.findIn K (.ref C) "__rmod__" = some none) :
    ∃ fd : FuncData, (∀ (s : Shared) (v : Value), BindsTo s fd ⟨[v], []⟩ [("_law_script", v)]) ∧ ∀ base : Heap, K.In base → base.Ns mainGlobals mg → FnOk l.prog w K mg base CX0 6 fa fd ["_law_script"] (spLaw K) := by
  have e := hfa.symm.trans (PySem.W.mg_of X G aLaw)
  cases e
  have T : Txt K mg C := ⟨⟨pg, hd, po, sa⟩, nT, nB, PySem.W.mg_of X G aC, PySem.W.mg_none_of X G zisi, PySem.W.mg_none_of X G zint, PySem.W.mg_none_of X G zboo, PySem.W.mg_none_of X G zabs, PySem.W.mg_none_of X G zlis, PySem.W.mg_none_of X G zall, PySem.W.mg_none_of X G zZer, PySem.W.mg_of X G gg, q1, q2, q3, q4, kit_self, kit_int iC tC s1⟩
  have FI : FunI K gI (PySem.W.fnOf "__init__" "Ratio.__init__" (defArgs sInit) (defBody sInit) (defScope sInit) (.ref TT) kVI dcI pmI anI cdI ctI) := ⟨⟨_, _, _, _, _, _, _, _, _, _, rfl, lI, cI, .inr ⟨by simp, TT, _, [.int 1 tkT], mT, rfl, lT, rfl, .cons ⟨tkT, rfl⟩ .nil⟩, .inl rfl⟩, kI⟩
  have bI2 : Binds K _ ["self", "top", "bottom"] [] := bI2_of FI
  have FAdd := fun_mk (st := sAdd) lAdd cAdd kAdd
  have bAdd := FAdd.binds (ps := ["self", "other"]) fun _ _ _ _ _ _ us hl => match us, hl with | [_, _], _ => rfl
  have FRadd := fun_mk (st := sRadd) lRadd cRadd kRadd
  have bRadd := FRadd.binds (ps := ["self", "other"]) fun _ _ _ _ _ _ us hl => match us, hl with | [_, _], _ => rfl
  have FSub := fun_mk (st := sSub) lSub cSub kSub
  have bSub := FSub.binds (ps := ["self", "other"]) fun _ _ _ _ _ _ us hl => match us, hl with | [_, _], _ => rfl
  have FRsub := fun_mk (st := sRsub) lRsub cRsub kRsub
  have bRsub := FRsub.binds (ps := ["self", "other"]) fun _ _ _ _ _ _ us hl => match us, hl with | [_, _], _ => rfl
  have FMul := fun_mk (st := sMul) lMul cMul kMul
  have bMul := FMul.binds (ps := ["self", "other"]) fun _ _ _ _ _ _ us hl => match us, hl with | [_, _], _ => rfl
  have FRmul := fun_mk (st := sRmul) lRmul cRmul kRmul
  have bRmul := FRmul.binds (ps := ["self", "other"]) fun _ _ _ _ _ _ us hl => match us, hl with | [_, _], _ => rfl
  have FNeg := fun_mk (st := sNeg) lNeg cNeg kNeg
  have bNeg := FNeg.binds (ps := ["self"]) fun _ _ _ _ _ _ us hl => match us, hl with | [_], _ => rfl
  have FFdiv := fun_mk (st := sFdiv) lFdiv cFdiv kFdiv
  have bFdiv := FFdiv.binds (ps := ["self", "other"]) fun _ _ _ _ _ _ us hl => match us, hl with | [_, _], _ => rfl
  have FMod := fun_mk (st := sMod) lMod cMod kMod
  have bMod := FMod.binds (ps := ["self", "other"]) fun _ _ _ _ _ _ us hl => match us, hl with | [_, _], _ => rfl
  have FOver := fun_mk (st := sOver) lOver cOver kOver
  have bOver := FOver.binds (ps := ["self", "other"]) fun _ _ _ _ _ _ us hl => match us, hl with | [_, _], _ => rfl
  have F1 := fun_mk (st := sIsInt) l1 c1 k1
  have b1 := F1.binds (ps := ["value"]) fun _ _ _ _ _ _ us hl => match us, hl with | [_], _ => rfl
  have F2 := fun_mk (st := sIsNum) l2 c2 k2
  have b2 := F2.binds (ps := ["value"]) fun _ _ _ _ _ _ us hl => match us, hl with | [_], _ => rfl
  have F3 := fun_mk (st := sTop) l3 c3 k3
  have b3 := F3.binds (ps := ["value"]) fun _ _ _ _ _ _ us hl => match us, hl with | [_], _ => rfl
  have F4 := fun_mk (st := sBot) l4 c4 k4
  have b4 := F4.binds (ps := ["value"]) fun _ _ _ _ _ _ us hl => match us, hl with | [_], _ => rfl
  have F5 := fun_mk (st := sGap) l5 c5 k5
  have b5 := F5.binds (ps := ["first", "second"]) fun _ _ _ _ _ _ us hl => match us, hl with | [_, _], _ => rfl
  have FDraw := fun_mk (st := sDraw) lDraw cDraw kDraw
  have bDraw := FDraw.binds (ps := ["_law_stream", "_law_many"]) fun _ _ _ _ _ _ us hl => match us, hl with | [_, _], _ => rfl
  have FStart := fun_mk (st := sStart) lStart cStart kStart
  have bStart := FStart.binds (ps := ["_law_script"]) fun _ _ _ _ _ _ us hl => match us, hl with | [_], _ => rfl
  have FWhole := fun_mk (st := sWhole) lWhole cWhole kWhole
  have bWhole := FWhole.binds (ps := ["_law_thing"]) fun _ _ _ _ _ _ us hl => match us, hl with | [_], _ => rfl
  have FNumber := fun_mk (st := sNumber) lNumber cNumber kNumber
  have bNumber := FNumber.binds (ps := ["_law_stream"]) fun _ _ _ _ _ _ us hl => match us, hl with | [_], _ => rfl
  have FDivisor := fun_mk (st := sDivisor) lDivisor cDivisor kDivisor
  have bDivisor := FDivisor.binds (ps := ["_law_one", "_law_other"]) fun _ _ _ _ _ _ us hl => match us, hl with | [_, _], _ => rfl
  have FRatio := fun_mk (st := sRatio) lRatio cRatio kRatio
  have bRatio := FRatio.binds (ps := ["_law_found", "_law_high", "_law_low"]) fun _ _ _ _ _ _ us hl => match us, hl with | [_, _, _], _ => rfl
  have FRefused := fun_mk (st := sRefused) lRefused cRefused kRefused
  have bRefused := FRefused.binds (ps := ["_law_one", "_law_zero", "_law_way"]) fun _ _ _ _ _ _ us hl => match us, hl with | [_, _, _], _ => rfl
  have PR : Prog K mg C ⟨gI, PySem.W.fnOf "__init__" "Ratio.__init__" (defArgs sInit) (defBody sInit) (defScope sInit) (.ref TT) kVI dcI pmI anI cdI ctI, g1, PySem.W.fnOf "is_integer" "is_integer" (defArgs sIsInt) (defBody sIsInt) (defScope sIsInt) .none kV1 dc1 pm1 an1 cd1 ct1, g2, PySem.W.fnOf "_is_number" "_is_number" (defArgs sIsNum) (defBody sIsNum) (defScope sIsNum) .none kV2 dc2 pm2 an2 cd2 ct2, g3, PySem.W.fnOf "_top" "_top" (defArgs sTop) (defBody sTop) (defScope sTop) .none kV3 dc3 pm3 an3 cd3 ct3, g4, PySem.W.fnOf "_bottom" "_bottom" (defArgs sBot) (defBody sBot) (defScope sBot) .none kV4 dc4 pm4 an4 cd4 ct4, g5, PySem.W.fnOf "_gap" "_gap" (defArgs sGap) (defBody sGap) (defScope sGap) .none kV5 dc5 pm5 an5 cd5 ct5, gAdd, PySem.W.fnOf "__add__" "Ratio.__add__" (defArgs sAdd) (defBody sAdd) (defScope sAdd) .none kVAdd dcAdd pmAdd anAdd cdAdd ctAdd, gRadd, PySem.W.fnOf "__radd__" "Ratio.__radd__" (defArgs sRadd) (defBody sRadd) (defScope sRadd) .none kVRadd dcRadd pmRadd anRadd cdRadd ctRadd, gSub, PySem.W.fnOf "__sub__" "Ratio.__sub__" (defArgs sSub) (defBody sSub) (defScope sSub) .none kVSub dcSub pmSub anSub cdSub ctSub, gRsub, PySem.W.fnOf "__rsub__" "Ratio.__rsub__" (defArgs sRsub) (defBody sRsub) (defScope sRsub) .none kVRsub dcRsub pmRsub anRsub cdRsub ctRsub, gMul, PySem.W.fnOf "__mul__" "Ratio.__mul__" (defArgs sMul) (defBody sMul) (defScope sMul) .none kVMul dcMul pmMul anMul cdMul ctMul, gRmul, PySem.W.fnOf "__rmul__" "Ratio.__rmul__" (defArgs sRmul) (defBody sRmul) (defScope sRmul) .none kVRmul dcRmul pmRmul anRmul cdRmul ctRmul, gNeg, PySem.W.fnOf "__neg__" "Ratio.__neg__" (defArgs sNeg) (defBody sNeg) (defScope sNeg) .none kVNeg dcNeg pmNeg anNeg cdNeg ctNeg, gFdiv, PySem.W.fnOf "__floordiv__" "Ratio.__floordiv__" (defArgs sFdiv) (defBody sFdiv) (defScope sFdiv) .none kVFdiv dcFdiv pmFdiv anFdiv cdFdiv ctFdiv, gMod, PySem.W.fnOf "__mod__" "Ratio.__mod__" (defArgs sMod) (defBody sMod) (defScope sMod) .none kVMod dcMod pmMod anMod cdMod ctMod, gOver, PySem.W.fnOf "over" "Ratio.over" (defArgs sOver) (defBody sOver) (defScope sOver) .none kVOver dcOver pmOver anOver cdOver ctOver, gDraw, PySem.W.fnOf "_law_draw" "_law_draw" (defArgs sDraw) (defBody sDraw) (defScope sDraw) .none kVDraw dcDraw pmDraw anDraw cdDraw ctDraw, gStart, PySem.W.fnOf "_law_start" "_law_start" (defArgs sStart) (defBody sStart) (defScope sStart) .none kVStart dcStart pmStart anStart cdStart ctStart, gWhole, PySem.W.fnOf "_law_m_whole" "_law_m_whole" (defArgs sWhole) (defBody sWhole) (defScope sWhole) .none kVWhole dcWhole pmWhole anWhole cdWhole ctWhole, gNumber, PySem.W.fnOf "_law_m_number" "_law_m_number" (defArgs sNumber) (defBody sNumber) (defScope sNumber) .none kVNumber dcNumber pmNumber anNumber cdNumber ctNumber, gDivisor, PySem.W.fnOf "_law_m_divisor" "_law_m_divisor" (defArgs sDivisor) (defBody sDivisor) (defScope sDivisor) .none kVDivisor dcDivisor pmDivisor anDivisor cdDivisor ctDivisor, gRatio, PySem.W.fnOf "_law_m_ratio" "_law_m_ratio" (defArgs sRatio) (defBody sRatio) (defScope sRatio) .none kVRatio dcRatio pmRatio anRatio cdRatio ctRatio, gRefused, PySem.W.fnOf "_law_refused" "_law_refused" (defArgs sRefused) (defBody sRefused) (defScope sRefused) .none kVRefused dcRefused pmRefused anRefused cdRefused ctRefused⟩ := ⟨⟨T, FI, ⟨mk, aI, iI, kc⟩, bI2, ⟨F1, b1, PySem.W.mg_of X G a1⟩, ⟨F2, b2, PySem.W.mg_of X G a2⟩, ⟨F3, b3, PySem.W.mg_of X G a3⟩, ⟨F4, b4, PySem.W.mg_of X G a4⟩, ⟨F5, b5, PySem.W.mg_of X G a5⟩⟩, FAdd, bAdd, FRadd, bRadd, FSub, bSub, FRsub, bRsub, FMul, bMul, FRmul, bRmul, FNeg, bNeg, FFdiv, bFdiv, FMod, bMod, FOver, bOver, ⟨⟨sf, (show PySem.W.findIn K (.ref C) (PySem.dunder Operator.Add.info.2) = _ from (dn_add ▸ aAdd)), iAdd, (show PySem.W.findIn K (.ref C) (dunderR Operator.Add.info.2) = _ from (dr_add ▸ aRadd)), iRadd, s1, s2⟩, ⟨_, (dn_add ▸ hadd)⟩, ⟨_, (dr_add ▸ radd)⟩⟩, ⟨⟨sf, (show PySem.W.findIn K (.ref C) (PySem.dunder Operator.Sub.info.2) = _ from (dn_sub ▸ aSub)), iSub, (show PySem.W.findIn K (.ref C) (dunderR Operator.Sub.info.2) = _ from (dr_sub ▸ aRsub)), iRsub, s1, s2⟩, ⟨_, (dn_sub ▸ hsub)⟩, ⟨_, (dr_sub ▸ rsub)⟩⟩, ⟨⟨sf, (show PySem.W.findIn K (.ref C) (PySem.dunder Operator.Mult.info.2) = _ from (dn_mul ▸ aMul)), iMul, (show PySem.W.findIn K (.ref C) (dunderR Operator.Mult.info.2) = _ from (dr_mul ▸ aRmul)), iRmul, s1, s2⟩, ⟨_, (dn_mul ▸ hmul)⟩, ⟨_, (dr_mul ▸ rmul)⟩⟩, ⟨sf, (show PySem.W.findIn K (.ref C) (PySem.dunder Operator.FloorDiv.info.2) = _ from (dn_floordiv ▸ aFdiv)), iFdiv, (show PySem.W.findIn K (.ref C) (dunderR Operator.FloorDiv.info.2) = _ from (dr_floordiv ▸ nfloordiv)), s1, ⟨_, (dn_floordiv ▸ hfloordiv)⟩, ⟨_, (dr_floordiv ▸ rfloordiv)⟩⟩, ⟨sf, (show PySem.W.findIn K (.ref C) (PySem.dunder Operator.Mod.info.2) = _ from (dn_mod ▸ aMod)), iMod, (show PySem.W.findIn K (.ref C) (dunderR Operator.Mod.info.2) = _ from (dr_mod ▸ nmod)), s1, ⟨_, (dn_mod ▸ hmod)⟩, ⟨_, (dr_mod ▸ rmod)⟩⟩, ⟨aOver, iOver, kOver⟩, ⟨FDraw, bDraw, PySem.W.mg_of X G aDraw⟩, ⟨FStart, bStart, PySem.W.mg_of X G aStart⟩, ⟨FWhole, bWhole, PySem.W.mg_of X G aWhole⟩, ⟨FNumber, bNumber, PySem.W.mg_of X G aNumber⟩, ⟨FDivisor, bDivisor, PySem.W.mg_of X G aDivisor⟩, ⟨FRatio, bRatio, PySem.W.mg_of X G aRatio⟩, ⟨FRefused, bRefused, PySem.W.mg_of X G aRefused⟩⟩
  exact ⟨PySem.W.fnOf "law" "law" (defArgs sLaw) (defBody sLaw) (defScope sLaw) .none kVLaw dcLaw pmLaw anLaw cdLaw ctLaw, fun s v => .of_eq rfl, fun base _ _ => ok_law (fun_mk (st := sLaw) lLaw cLaw kLaw) PR⟩
theorem walk {l : PySem.W.OpenLaw} {q : Program} {loose : List Str} {XP : (Str → Option Value) → Heap → Prop} {YP : World → Heap → Prop} {d : DefRec} {K : Params → PySem.W.Frag} (hn : l.most = some 63) (hdf : d.params.defaults = [])
    (hY : ∀ (w : World) (h : Heap), YP w h → (K w.params).In h)
    (F : ∀ (w : World) (mg : Str → Option Value) (fa : Addr) (h : Heap), (K w.params).In h → h.Ns mainGlobals mg → mg d.name = some (.ref fa) →
      ∃ fd : FuncData, (∀ (s : Shared) (u : Value), BindsTo s fd ⟨[u], []⟩ [("_law_script", u)]) ∧ ∀ base : Heap, (K w.params).In base → base.Ns mainGlobals mg → FnOk l.prog w (K w.params) mg base CX0 6 fa fd ["_law_script"] (spLaw (K w.params))) :
    PySem.W.WalkO q loose XP YP l.row.toRowW d [] (fun f vs => PySem.call f vs) :=
  L2.walk_of (n := 63) (k := 6) (x := "_law_script") (CX := fun _ => CX0) (sp := fun w => spLaw (K w.params)) hn (by decide) hdf ⟨rfl, by decide, by decide⟩ hY F (fun _ _ a ns hl _ hS => ⟨a, ns, rfl, hS, hl, fun _ => rfl⟩) fun _ _ _ _ _ z => z
end PA

open PySem PySem.W PyProof.Rows
set_option maxRecDepth 100000 in
set_option maxHeartbeats 0 in
theorem PySem.Challenge.cw_pairahead_k02_ratio_quotients_holds : PySem.Challenge.rw_pairahead_k02_ratio_quotients.Holds := by
  w_on; o_law; k_head; (case hw => w_witness2)
  k_fill
  refine PA.walk (l := PySem.Challenge.rw_pairahead_k02_ratio_quotients) rfl rfl (fun w h Y => PySem.W.kIn_of Y) ?F
  case F =>
    intro w mg fa h KX G hmg
    refine' PA.all_mk KX G hmg ?aC ?aI ?lI ?cI ?kI ?lT ?iI ?aAdd ?lAdd ?cAdd ?kAdd ?iAdd ?aRadd ?lRadd ?cRadd ?kRadd ?iRadd ?aSub ?lSub ?cSub ?kSub ?iSub ?aRsub ?lRsub ?cRsub ?kRsub ?iRsub ?aMul ?lMul ?cMul ?kMul ?iMul ?aRmul ?lRmul ?cRmul ?kRmul ?iRmul ?aNeg ?lNeg ?cNeg ?kNeg ?iNeg ?aFdiv ?lFdiv ?cFdiv ?kFdiv ?iFdiv ?aMod ?lMod ?cMod ?kMod ?iMod ?aOver ?lOver ?cOver ?kOver ?iOver ?a1 ?l1 ?c1 ?k1 ?a2 ?l2 ?c2 ?k2 ?a3 ?l3 ?c3 ?k3 ?a4 ?l4 ?c4 ?k4 ?a5 ?l5 ?c5 ?k5 ?aDraw ?lDraw ?cDraw ?kDraw ?aStart ?lStart ?cStart ?kStart ?aWhole ?lWhole ?cWhole ?kWhole ?aNumber ?lNumber ?cNumber ?kNumber ?aDivisor ?lDivisor ?cDivisor ?kDivisor ?aRatio ?lRatio ?cRatio ?kRatio ?aRefused ?lRefused ?cRefused ?kRefused ?aLaw ?lLaw ?cLaw ?kLaw ?pg ?hd ?po ?sa ?mk ?kc ?nT ?nB ?gg ?zisi ?zint ?zboo ?zabs ?zlis ?zall ?zZer ?q1 ?q2 ?q3 ?q4 ?iC ?tC ?sf ?s1 ?s2 ?hadd ?radd ?hsub ?rsub ?hmul ?rmul ?hfloordiv ?rfloordiv ?hmod ?rmod ?nfloordiv ?nmod
    (case aC => k_is)
    (case aI => k_is)
    (case lI => k_is)
    (case cI => k_is)
    (case kI => k_is)
    (case lT => k_is)
    (case iI => k_is)
    (case aAdd => k_is)
    (case lAdd => k_is)
    (case cAdd => k_is)
    (case kAdd => k_is)
    (case iAdd => k_is)
    (case aRadd => k_is)
    (case lRadd => k_is)
    (case cRadd => k_is)
    (case kRadd => k_is)
    (case iRadd => k_is)
    (case aSub => k_is)
    (case lSub => k_is)
    (case cSub => k_is)
    (case kSub => k_is)
    (case iSub => k_is)
    (case aRsub => k_is)
    (case lRsub => k_is)
    (case cRsub => k_is)
    (case kRsub => k_is)
    (case iRsub => k_is)
    (case aMul => k_is)
    (case lMul => k_is)
    (case cMul => k_is)
    (case kMul => k_is)
    (case iMul => k_is)
    (case aRmul => k_is)
    (case lRmul => k_is)
    (case cRmul => k_is)
    (case kRmul => k_is)
    (case iRmul => k_is)
    (case aNeg => k_is)
    (case lNeg => k_is)
    (case cNeg => k_is)
    (case kNeg => k_is)
    (case iNeg => k_is)
    (case aFdiv => k_is)
    (case lFdiv => k_is)
    (case cFdiv => k_is)
    (case kFdiv => k_is)
    (case iFdiv => k_is)
    (case aMod => k_is)
    (case lMod => k_is)
    (case cMod => k_is)
    (case kMod => k_is)
    (case iMod => k_is)
    (case aOver => k_is)
    (case lOver => k_is)
    (case cOver => k_is)
    (case kOver => k_is)
    (case iOver => k_is)
    (case a1 => k_is)
    (case l1 => k_is)
    (case c1 => k_is)
    (case k1 => k_is)
    (case a2 => k_is)
    (case l2 => k_is)
    (case c2 => k_is)
    (case k2 => k_is)
    (case a3 => k_is)
    (case l3 => k_is)
    (case c3 => k_is)
    (case k3 => k_is)
    (case a4 => k_is)
    (case l4 => k_is)
    (case c4 => k_is)
    (case k4 => k_is)
    (case a5 => k_is)
    (case l5 => k_is)
    (case c5 => k_is)
    (case k5 => k_is)
    (case aDraw => k_is)
    (case lDraw => k_is)
    (case cDraw => k_is)
    (case kDraw => k_is)
    (case aStart => k_is)
    (case lStart => k_is)
    (case cStart => k_is)
    (case kStart => k_is)
    (case aWhole => k_is)
    (case lWhole => k_is)
    (case cWhole => k_is)
    (case kWhole => k_is)
    (case aNumber => k_is)
    (case lNumber => k_is)
    (case cNumber => k_is)
    (case kNumber => k_is)
    (case aDivisor => k_is)
    (case lDivisor => k_is)
    (case cDivisor => k_is)
    (case kDivisor => k_is)
    (case aRatio => k_is)
    (case lRatio => k_is)
    (case cRatio => k_is)
    (case kRatio => k_is)
    (case aRefused => k_is)
    (case lRefused => k_is)
    (case cRefused => k_is)
    (case kRefused => k_is)
    (case aLaw => k_is)
    (case lLaw => k_is)
    (case cLaw => k_is)
    (case kLaw => k_is)
    (case pg => k_is)
    (case hd => k_is)
    (case po => k_is)
    (case sa => k_is)
    (case mk => k_is)
    (case kc => k_is)
    (case nT => k_is)
    (case nB => k_is)
    (case gg => k_is)
    (case zisi => k_is)
    (case zint => k_is)
    (case zboo => k_is)
    (case zabs => k_is)
    (case zlis => k_is)
    (case zall => k_is)
    (case zZer => k_is)
    (case q1 => k_is)
    (case q2 => k_is)
    (case q3 => k_is)
    (case q4 => k_is)
    (case iC => k_is)
    (case tC => k_is)
    (case sf => k_is)
    (case s1 => k_is)
    (case s2 => k_is)
    (case hadd => k_is)
    (case radd => k_is)
    (case hsub => k_is)
    (case rsub => k_is)
    (case hmul => k_is)
    (case rmul => k_is)
    (case hfloordiv => k_is)
    (case rfloordiv => k_is)
    (case hmod => k_is)
    (case rmod => k_is)
    (case nfloordiv => k_is)
    (case nmod => k_is)
#print axioms PySem.Challenge.cw_pairahead_k02_ratio_quotients_holds
