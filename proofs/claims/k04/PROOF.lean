import PyProof.Rows.All
import Wide.All
import OpenK.AllK
import Wide.FinOn
import HandS.ForMost
import HandS.OwnEq
import HandS.Wide
import HandS.Gcd
import HandS.IsInst
import HandS.Defaults
import HandS.MakeKw
import HandS.ExcBuiltin
import HandS.TryOnly
import HandS.ForExc
import HandS.Zip
import HandS.Codes
import HandS.Evl
import HandS.Conv
import PySem.Challenge.RW_pairahead_k04_rules_made
set_option Elab.async false
set_option linter.all false
set_option maxRecDepth 100000
set_option maxHeartbeats 2000000
namespace PLow
open PySem PySem.W PySem.Calls PyProof.Rows
section
variable {prog : Program} {w : World} {M : Model} {A : Around} {E : Value → Shared → Prop} {s : Shared} {K : Frag} {x C L f : Addr} {h₀ : Heap} {m : Str → Option Value} {ox : Obj} {od : Option Obj} {nm : String}

/-- an int's own slot declines an instance -/
theorem add_declines {a : Int} {t : Tok} {R : PySem.Fin → Shared → Prop} (ho : s.heap.get? x = some ox) (hd : ∀ v, ox.data ≠ .prim v) (h : R (.done (.ret .notImplemented)) s) :
    wpAny (model prog w) A (Builtin.«int.__add__» ⟨[Value.int a t, Value.ref x], []⟩) R E s := by
  obtain ⟨hp, g, d, tk, os⟩ := s
  wp_walk
  split
  · rename_i e
    exact absurd e (hd _)
  · wp_walk
    exact h
theorem sub_declines {a : Int} {t : Tok} {R : PySem.Fin → Shared → Prop} (ho : s.heap.get? x = some ox) (hd : ∀ v, ox.data ≠ .prim v) (h : R (.done (.ret .notImplemented)) s) :
    wpAny (model prog w) A (Builtin.«int.__sub__» ⟨[Value.int a t, Value.ref x], []⟩) R E s := by
  obtain ⟨hp, g, d, tk, os⟩ := s
  wp_walk
  split
  · rename_i e
    exact absurd e (hd _)
  · wp_walk
    exact h
theorem mul_declines {a : Int} {t : Tok} {R : PySem.Fin → Shared → Prop} (ho : s.heap.get? x = some ox) (hd : ∀ v, ox.data ≠ .prim v) (h : R (.done (.ret .notImplemented)) s) :
    wpAny (model prog w) A (Builtin.«int.__mul__» ⟨[Value.int a t, Value.ref x], []⟩) R E s := by
  obtain ⟨hp, g, d, tk, os⟩ := s
  wp_walk
  split
  · rename_i e
    exact absurd e (hd _)
  · wp_walk
    exact h

/-- the left operand's own slot, the right one declines: an int and an instance with the reflected method -/
theorem rbin {op : Operator} {id : String} {a : Int} {t : Tok} {B : Builtin} {Q : Value → Shared → Prop} {g : Addr} (F : Fr h₀ L s.heap m) (X₀ : K.In h₀) (I : InstAt s.heap x ox C od) (hc : selfFirst K C = true)
    (hs : findIn K (.ref C) (PySem.dunder op.info.2) = some (some (.ref g))) (hr : findIn K (.ref C) (dunderR op.info.2) = some (some (.ref f))) (hf : isFn K (.ref f) = true)
    (hfT : fillsNumberSlot (.type "int") op.info.2 = pure true) (hsub : subIn K (.ref C) (.type "int") = some false)
    (slot : Slot "int" (PySem.dunder op.info.2) id) (entry : entryFor table id = some B) (args : argsOk id ⟨[Value.int a t, .ref x], []⟩)
    (dec : ∀ (A : Around) (E : Value → Shared → Prop) (R : PySem.Fin → Shared → Prop), R (.done (.ret .notImplemented)) s → wpAny (model prog w) A (B ⟨[Value.int a t, .ref x], []⟩) R E s)
    (h : wpAny (model prog w) A (call (.ref f) [.ref x, .int a t]) (PySem.W.CmpBack Q) E s) : wpAny (model prog w) A (binaryOp op (.int a t) (.ref x)) Q E s := by
  have X := X₀.keeps F.keep
  obtain ⟨cd, rest, hcd, hm⟩ := ksp_first hc
  rcases hi : op.info with ⟨sym, nm'⟩
  rw [hi] at hs hr hfT slot
  dsimp only at hs hr hfT slot
  have one := ksp_try X I hr hf h
  have L0 : Looks (model prog w) s.heap (typeOf (.int a t)) (.type "int") := Looks.of_pure rfl
  have L1 : Looks (model prog w) s.heap (typeOf (.ref x)) (.ref C) := I.type
  have L3 : Looks (model prog w) s.heap (fillsNumberSlot (.ref C) nm') true := fills_K X hcd hm hs
  have L5 : Looks (model prog w) s.heap (isSubtype (.ref C) (.type "int")) false := looks_subIn X hsub
  have hne : (Value.type "int" == Value.ref C) = false := Bool.eq_false_iff.mpr fun q => by cases beq_iff_eq.mp q
  have hpy : numberSlotInPython (.type "int") nm' = pure false := rfl
  simp only [binaryOp, hi]
  refine wpAny_holding (wpAny_bind ?_)
  unfold binaryOp1
  refine wpAny_bind (L0.here (wpAny_bind (L1.here (wpAny_bind (wpAny_of_eq hfT ?_)))))
  simp only [hne, Bool.false_eq_true, if_false]
  refine wpAny_bind (L3.here ?_)
  simp only [Bool.and_self, if_true]
  refine wpAny_bind (L5.here ?_)
  simp only [Bool.false_eq_true, if_false, pure_bind, Bool.not_false, Bool.and_self, if_true, hpy]
  refine wpAny_bind (wpAny_tryMethod_declines (id := id) (typeIs_int s a t) slot ?_)
  refine GQ.call_here slot (typeIs_int s a t) entry args (dec _ _ _ ?_)
  refine ⟨rfl, ?_⟩
  refine wpAny_bind (wpAny_mono one (fun r s' hr' => ?_) fun _ _ e => e)
  obtain ⟨v, rfl, hq⟩ := hr'
  dsimp only
  exact wpAny_bind (wpAny_rule (wpAny_pure (wpAny_pure hq)))

/-- abs(x) by the own method -/
theorem abs_own {Q : Value → Shared → Prop} (F : Fr h₀ L s.heap m) (X₀ : K.In h₀) (I : InstAt s.heap x ox C od) (hs : findIn K (.ref C) "__abs__" = some (some (.ref f))) (hf : isFn K (.ref f) = true)
    (h : wpAny (model prog w) A.in1 (call (.ref f) [.ref x]) Q E s) : wpAny (model prog w) A (call (.builtin "abs") [.ref x]) Q E s := by
  refine call_function_entry kind_abs plain_abs entry_abs (args_abs _) ?_
  unfold Builtin.«abs»
  refine wpAny_bind (m := oneArg "abs" _) (wpAny_pure ?_)
  refine wpAny_bind (special_fn (X₀.keeps F.keep) I hs (beq_iff_eq.mp hf) ?_)
  exact wpAny_mono h (fun v s' q => wpAny_pure ⟨v, rfl, q⟩) fun _ _ z => z
end
end PLow

namespace L2
open PySem PySem.Spec PyProof.Rows
section
variable {X : Cx} {CX : CXT} {k : Nat} {C f g : Addr} {fd : FuncData} {ps : List Str} {sp : Sp} {E : XK} {op : Operator}
theorem cmpBack_of {pins : List (Addr × Obj)} {σ : St} {Q : VK} {u : Value} {s' : Shared} (h : EP X pins σ Q u s') : PySem.W.CmpBack (EP X pins σ Q) u s' := by
  obtain ⟨v, H', I, r, q⟩ := id h
  cases v with
  | non => cases (show u = Value.none from r); exact h
  | bl b => cases (show u = Value.bool b from r); exact h
  | int i => obtain ⟨t, e⟩ := (show ∃ t, u = Value.int i t from r); cases e; exact h
  | str x => obtain ⟨t, e⟩ := (show ∃ t, u = Value.str x t from r); cases e; exact h
  | byt b => obtain ⟨t, e⟩ := (show ∃ t, u = Value.bytes b t from r); cases e; exact h
  | flt b => obtain ⟨t, e⟩ := (show ∃ t, u = Value.float b t from r); cases e; exact h
  | ref a => cases (show u = Value.ref a from r); exact h
  | ty n => cases (show u = Value.type n from r); exact h
/-- what of the class an own operator asks: f the method, g the reflected one -/
structure OwnOp (K : PySem.W.Frag) (C f g : Addr) (op : Operator) : Prop where
  first : PySem.W.selfFirst K C = true
  at_ : PySem.W.findIn K (.ref C) (PySem.dunder op.info.2) = some (some (.ref f))
  fn : PySem.W.isFn K (.ref f) = true
  ar : PySem.W.findIn K (.ref C) (dunderR op.info.2) = some (some (.ref g))
  fr : PySem.W.isFn K (.ref g) = true
  sub : PySem.W.subIn K (.type "int") (.ref C) = some false
  sub' : PySem.W.subIn K (.ref C) (.type "int") = some false
/-- x op y, x an instance with the own method, y an instance of the same class -/
theorem op_ownR (O : OwnOp X.K C f g op) (F : FnOk X.prog X.w X.K X.mg X.base CX k f fd ps sp) (hr : Room k X.A) (hb : Binds X.K fd ps []) (hx : Passes CX X E) :
    OpR X (binaryOp op) (fun x y H Q => ∃ a b dx dy fs gs, x = .ref a ∧ y = .ref b ∧ H a = some (.ins C dx fs) ∧ H b = some (.ins C dy gs) ∧ sp [.ref a, .ref b] H Q E) := by
  intro pins s σ H x y v u Q I rx ry h
  obtain ⟨a, b, dx, dy, fs, gs, rfl, rfl, ha, hb', q⟩ := h
  cases rx
  cases ry
  obtain ⟨mA, J, _⟩ := ins_get I.hok ha
  obtain ⟨mB, J', _⟩ := ins_get I.hok hb'
  obtain ⟨od, J, _⟩ := J.look
  obtain ⟨od', J', _⟩ := J'.look
  obtain ⟨m, hF⟩ := I.fr
  refine PySem.W.binop_K hF I.ok.mod.kin J J'.type O.first O.at_ O.fn ?_
  exact wpAny_mono (run_fn (us := [.ref a, .ref b]) (vs := [.ref a, .ref b]) F hr hb .nil hx I (.cons rfl (.cons rfl .nil)) q) (fun _ _ z => cmpBack_of z) fun _ _ z => z
/-- x op i, i an int -/
theorem op_ownI {fo ro : Option Value} (O : OwnOp X.K C f g op) (h1 : PySem.W.findIn X.K (.type "int") (PySem.dunder op.info.2) = some fo) (h2 : PySem.W.findIn X.K (.type "int") (dunderR op.info.2) = some ro)
    (F : FnOk X.prog X.w X.K X.mg X.base CX k f fd ps sp) (hr : Room k X.A) (hb : Binds X.K fd ps []) (hx : Passes CX X E) :
    OpR X (binaryOp op) (fun x y H Q => ∃ a i dx fs, x = .ref a ∧ y = .int i ∧ H a = some (.ins C dx fs) ∧ sp [.ref a, .int i] H Q E) := by
  intro pins s σ H x y v u Q I rx ry h
  obtain ⟨a, i, dx, fs, rfl, rfl, ha, q⟩ := h
  cases rx
  obtain ⟨t, rfl⟩ := ry
  obtain ⟨mA, J, _⟩ := ins_get I.hok ha
  obtain ⟨od, J, _⟩ := J.look
  obtain ⟨m, hF⟩ := I.fr
  refine PySem.W.ksp_binT hF I.ok.mod.kin J rfl O.first O.at_ O.fn O.ar (.inr ⟨_, rfl⟩) h1 h2 O.sub ?_
  exact wpAny_mono (run_fn (us := [.ref a, .int i t]) (vs := [.ref a, .int i]) F hr hb .nil hx I (.cons rfl (.cons ⟨t, rfl⟩ .nil)) q) (fun _ _ z => cmpBack_of z) fun _ _ z => z
/-- i op x, i an int: the reflected method, F of g -/
theorem op_ownL {id : String} {B : Builtin} (O : OwnOp X.K C f g op) (hfT : fillsNumberSlot (.type "int") op.info.2 = pure true)
    (slot : PySem.Slot "int" (PySem.dunder op.info.2) id) (entry : entryFor table id = some B) (args : ∀ i t x, argsOk id ⟨[Value.int i t, .ref x], []⟩)
    (dec : ∀ (i : Int) (t : Tok) (x : Addr) (ox : Obj) (s : Shared), s.heap.get? x = some ox → (∀ v, ox.data ≠ .prim v) → ∀ (A : Around) (E : Value → Shared → Prop) (R : PySem.Fin → Shared → Prop), R (.done (.ret .notImplemented)) s →
      wpAny (model X.prog X.w) A (B ⟨[Value.int i t, .ref x], []⟩) R E s)
    (F : FnOk X.prog X.w X.K X.mg X.base CX k g fd ps sp) (hr : Room k X.A) (hb : Binds X.K fd ps []) (hx : Passes CX X E) :
    OpR X (binaryOp op) (fun x y H Q => ∃ a i dx fs, x = .int i ∧ y = .ref a ∧ H a = some (.ins C dx fs) ∧ sp [.ref a, .int i] H Q E) := by
  intro pins s σ H x y v u Q I rx ry h
  obtain ⟨a, i, dx, fs, rfl, rfl, ha, q⟩ := h
  obtain ⟨t, rfl⟩ := rx
  cases ry
  obtain ⟨mA, J, _⟩ := ins_get I.hok ha
  have ho := J.obj
  obtain ⟨od, J, _⟩ := J.look
  obtain ⟨m, hF⟩ := I.fr
  refine PLow.rbin hF I.ok.mod.kin J O.first O.at_ O.ar O.fr hfT O.sub' slot entry (args _ _ _) (dec i t a _ s ho (fun v z => by simp [PySem.W.instObj] at z)) ?_
  exact wpAny_mono (run_fn (us := [.ref a, .int i t]) (vs := [.ref a, .int i]) F hr hb .nil hx I (.cons rfl (.cons ⟨t, rfl⟩ .nil)) q) (fun _ _ z => cmpBack_of z) fun _ _ z => z
/-- -x -/
theorem un_own (hs : PySem.W.findIn X.K (.ref C) "__neg__" = some (some (.ref f))) (hf : PySem.W.isFn X.K (.ref f) = true) (F : FnOk X.prog X.w X.K X.mg X.base CX k f fd ps sp) (hr : Room k X.A) (hb : Binds X.K fd ps []) (hx : Passes CX X E) :
    UnR X (unaryOp .USub) (fun x H Q => ∃ a dx fs, x = .ref a ∧ H a = some (.ins C dx fs) ∧ sp [.ref a] H Q E) := by
  intro pins s σ H x v Q I rx h
  obtain ⟨a, dx, fs, rfl, ha, q⟩ := h
  cases rx
  obtain ⟨mA, J, _⟩ := ins_get I.hok ha
  obtain ⟨od, J, _⟩ := J.look
  obtain ⟨m, hF⟩ := I.fr
  refine PySem.W.ksp_neg hF I.ok.mod.kin J hs hf ?_
  exact run_fn (us := [.ref a]) (vs := [.ref a]) F hr hb .nil hx I (.cons rfl .nil) q
/-- abs(x) -/
theorem call_absOwn (hs : PySem.W.findIn X.K (.ref C) "__abs__" = some (some (.ref f))) (hf : PySem.W.isFn X.K (.ref f) = true) (F : FnOk X.prog X.w X.K X.mg X.base CX k f fd ps sp) (hr : Room (k + 1) X.A) (hb : Binds X.K fd ps []) (hx : Passes CX X E) :
    CallR X (.builtin "abs") (fun xs H Q => ∃ a dx fs, xs = [.ref a] ∧ H a = some (.ins C dx fs) ∧ sp [.ref a] H Q E) := by
  intro pins s σ H xs us Q I r h
  obtain ⟨a, dx, fs, rfl, ha, q⟩ := h
  cases r with
  | cons r1 r2 =>
    cases r2
    cases r1
    obtain ⟨mA, J, _⟩ := ins_get I.hok ha
    obtain ⟨od, J, _⟩ := J.look
    obtain ⟨m, hF⟩ := I.fr
    refine PLow.abs_own hF I.ok.mod.kin J hs hf ?_
    have hl := F.len _ _ _ _ q
    have r2 : Vals [V.ref a] [Value.ref a] := .cons rfl .nil
    refine wpAny_call (codeAny_mono (F.run X.A.in1 X.stack s H ⟨[.ref a], []⟩ [.ref a] [.ref a] Q E hr.in1 I.env0.in1 (by
      have := hb s [.ref a] I.kIn (by simpa using hl)
      simpa using this) r2 q) fun r s' hq => ?_)
    cases r with
    | error e => exact hx pins σ H s e s' I hq
    | ok fl =>
      cases fl with
      | ret w => exact I.after hq
      | next => exact False.elim hq
      | brk => exact False.elim hq
      | cont => exact False.elim hq
/-- // by any divisor but 0 below 2 ^ 9000 in size -/
def CDivS (_ j : Int) : Prop := j ≠ 0 ∧ j.natAbs.log2 < 9000
theorem op_fdivS : OpR X (binaryOp .FloorDiv) (rI CDivS fun i j => .int (i.fdiv j)) := opI fun i j _ _ _ _ _ hc q =>
  floordiv_int hc.1 q (.inl (PyProof.noPylong_of_log2 hc.2))
end
end L2

set_option maxHeartbeats 2000000
namespace PA
/-- below 2 ^ n in size -/
abbrev Sm (n : Nat) (x : Int) : Prop := x.natAbs < 2 ^ n
theorem Sm.mono {n m : Nat} {x : Int} (h : Sm n x) (hn : n ≤ m) : Sm m x := Nat.lt_of_lt_of_le h (Nat.pow_le_pow_right (by decide) hn)
theorem Sm.mul {n m k : Nat} {x y : Int} (hx : Sm n x) (hy : Sm m y) (h : n + m ≤ k) : Sm k (x * y) := by
  refine Sm.mono (n := n + m) ?_ h
  unfold Sm
  rw [Int.natAbs_mul, Nat.pow_add]
  exact Nat.mul_lt_mul'' hx hy
theorem Sm.add {n k : Nat} {x y : Int} (hx : Sm n x) (hy : Sm n y) (h : n + 1 ≤ k) : Sm k (x + y) := by
  refine Sm.mono (n := n + 1) ?_ h
  unfold Sm at *
  rw [Nat.pow_succ]
  omega
theorem Sm.sub {n k : Nat} {x y : Int} (hx : Sm n x) (hy : Sm n y) (h : n + 1 ≤ k) : Sm k (x - y) := by
  refine Sm.mono (n := n + 1) ?_ h
  unfold Sm at *
  rw [Nat.pow_succ]
  omega
theorem Sm.neg {n : Nat} {x : Int} (hx : Sm n x) : Sm n (-x) := by
  unfold Sm at *
  rw [Int.natAbs_neg]
  exact hx
theorem Sm.le {n : Nat} {x y : Int} (hx : Sm n x) (h : y.natAbs ≤ x.natAbs) : Sm n y := Nat.lt_of_le_of_lt h hx
theorem Sm.one {n : Nat} (h : 0 < n) : Sm n 1 := by
  show (1 : Int).natAbs < 2 ^ n
  exact Nat.one_lt_two_pow (by omega)

/-- the divisor that a Ratio shortens by -/
def shr (t b : Int) : Int := if b < 0 then -((Nat.gcd t.natAbs b.natAbs : Nat) : Int) else ((Nat.gcd t.natAbs b.natAbs : Nat) : Int)
/-- lowest terms -/
structure Low (T B : Int) : Prop where
  pos : 0 < B
  cop : Nat.gcd T.natAbs B.natAbs = 1
theorem low_one (i : Int) : Low i 1 := ⟨by decide, Nat.gcd_one_right _⟩
theorem gcd_key {a b c d g : Nat} (h1 : a = c * g) (h2 : b = d * g) : Nat.gcd a b = Nat.gcd c d * g := by
  rw [h1, h2]
  exact Nat.gcd_mul_right _ _ _
theorem rat_mk {t b : Int} (hb : b ≠ 0) : shr t b ≠ 0 ∧ (shr t b).natAbs ≤ b.natAbs ∧ Low (t.fdiv (shr t b)) (b.fdiv (shr t b)) ∧ (t.fdiv (shr t b)) * b = t * (b.fdiv (shr t b)) ∧
    (t.fdiv (shr t b)).natAbs ≤ t.natAbs ∧ (b.fdiv (shr t b)).natAbs ≤ b.natAbs := by
  have hg : 0 < Nat.gcd t.natAbs b.natAbs := Nat.gcd_pos_of_pos_right _ (Int.natAbs_pos.mpr hb)
  have hgb : Nat.gcd t.natAbs b.natAbs ≤ b.natAbs := Nat.gcd_le_right _ (Int.natAbs_pos.mpr hb)
  have hsn : (shr t b).natAbs = Nat.gcd t.natAbs b.natAbs := by
    unfold shr
    split
    · rw [Int.natAbs_neg, Int.natAbs_natCast]
    · rw [Int.natAbs_natCast]
  have hs0 : shr t b ≠ 0 := by
    intro z
    rw [z] at hsn
    simp at hsn
    omega
  have dv : ∀ y : Int, (Nat.gcd t.natAbs b.natAbs) ∣ y.natAbs → ∃ q : Int, y = q * shr t b := by
    intro y hy
    have h1 : ((Nat.gcd t.natAbs b.natAbs : Nat) : Int) ∣ y := Int.ofNat_dvd_left.mpr hy
    obtain ⟨q, hq⟩ := h1
    unfold shr
    split
    · exact ⟨-q, by rw [Int.neg_mul_neg, Int.mul_comm]; exact hq⟩
    · exact ⟨q, by rw [Int.mul_comm]; exact hq⟩
  obtain ⟨T, hT⟩ := dv t (Nat.gcd_dvd_left _ _)
  obtain ⟨B, hB⟩ := dv b (Nat.gcd_dvd_right _ _)
  have eT : t.fdiv (shr t b) = T := by
    conv => lhs; lhs; rw [hT]
    exact Int.mul_fdiv_cancel _ hs0
  have eB : b.fdiv (shr t b) = B := by
    conv => lhs; lhs; rw [hB]
    exact Int.mul_fdiv_cancel _ hs0
  rw [eT, eB]
  have nT : t.natAbs = T.natAbs * Nat.gcd t.natAbs b.natAbs := by
    conv => lhs; rw [hT, Int.natAbs_mul, hsn]
  have nB : b.natAbs = B.natAbs * Nat.gcd t.natAbs b.natAbs := by
    conv => lhs; rw [hB, Int.natAbs_mul, hsn]
  refine ⟨hs0, by rw [hsn]; exact hgb, ⟨?_, ?_⟩, ?_, ?_, ?_⟩
  · have hB0 : B ≠ 0 := by
      intro z
      rw [z, Int.zero_mul] at hB
      exact hb hB
    rcases Int.lt_or_gt_of_ne hB0 with h | h
    · exfalso
      unfold shr at hB
      split at hB
      · rename_i hneg
        have : 0 < B * -((Nat.gcd t.natAbs b.natAbs : Nat) : Int) := Int.mul_pos_of_neg_of_neg h (by omega)
        omega
      · rename_i hneg
        have : B * ((Nat.gcd t.natAbs b.natAbs : Nat) : Int) < 0 := Int.mul_neg_of_neg_of_pos h (by omega)
        omega
    · exact h
  · have e : Nat.gcd t.natAbs b.natAbs = Nat.gcd T.natAbs B.natAbs * Nat.gcd t.natAbs b.natAbs := by
      exact gcd_key nT nB
    have e2 : 1 * Nat.gcd t.natAbs b.natAbs = Nat.gcd T.natAbs B.natAbs * Nat.gcd t.natAbs b.natAbs := by rw [Nat.one_mul]; exact e
    exact (Nat.eq_of_mul_eq_mul_right hg e2).symm
  · calc T * b = T * (B * shr t b) := by rw [← hB]
      _ = (T * shr t b) * B := by rw [Int.mul_comm B, ← Int.mul_assoc]
      _ = t * B := by rw [← hT]
  · rw [nT]; exact Nat.le_mul_of_pos_right _ hg
  · rw [nB]; exact Nat.le_mul_of_pos_right _ hg
/-- a fraction has one lowest form -/
theorem Low.uniq {T B T' B' : Int} (h : Low T B) (h' : Low T' B') (e : T * B' = T' * B) : T = T' ∧ B = B' := by
  have n : T.natAbs * B'.natAbs = T'.natAbs * B.natAbs := by rw [← Int.natAbs_mul, ← Int.natAbs_mul, e]
  have d1 : B.natAbs ∣ B'.natAbs := by
    have : B.natAbs ∣ T.natAbs * B'.natAbs := ⟨T'.natAbs, by rw [n, Nat.mul_comm]⟩
    exact (Nat.Coprime.symm h.cop).dvd_of_dvd_mul_left this
  have d2 : B'.natAbs ∣ B.natAbs := by
    have : B'.natAbs ∣ T'.natAbs * B.natAbs := ⟨T.natAbs, by rw [← n, Nat.mul_comm]⟩
    exact (Nat.Coprime.symm h'.cop).dvd_of_dvd_mul_left this
  have eB : B = B' := by
    have := Nat.dvd_antisymm d1 d2
    have p1 := h.pos
    have p2 := h'.pos
    omega
  subst eB
  have hB : B ≠ 0 := by have := h.pos; omega
  exact ⟨Int.eq_of_mul_eq_mul_right hB e, rfl⟩
theorem Low.neg {T B : Int} (h : Low T B) : Low (-T) B := ⟨h.pos, by rw [Int.natAbs_neg]; exact h.cop⟩
/-- a = n / d and b = n / d -/
theorem cross {a b n d x y : Int} (hb : b ≠ 0) (h1 : a * d = n * b) (h2 : n * y = x * d) (hd : d ≠ 0) : a * y = x * b := by
  have : (a * y) * d = (x * b) * d := by
    calc (a * y) * d = (a * d) * y := by rw [Int.mul_assoc, Int.mul_comm y, ← Int.mul_assoc]
      _ = (n * b) * y := by rw [h1]
      _ = (n * y) * b := by rw [Int.mul_assoc, Int.mul_comm b, ← Int.mul_assoc]
      _ = (x * d) * b := by rw [h2]
      _ = (x * b) * d := by rw [Int.mul_assoc, Int.mul_comm d, ← Int.mul_assoc]
  exact Int.eq_of_mul_eq_mul_right hd this
end PA

set_option maxHeartbeats 2000000
/-! a written dict of ints -/
namespace L2
open PySem PySem.Spec PyProof.Rows
/-- the entries of {1: 1, 4: 2, 9: 3, 16: 4} -/
def esM (x1 x2 x3 x4 y1 y2 y3 y4 : Tok) : Array DictEntry := #[⟨1, .int 1 x1, .int 1 y1⟩, ⟨4, .int 4 x2, .int 2 y2⟩, ⟨9, .int 9 x3, .int 3 y3⟩, ⟨16, .int 16 x4, .int 4 y4⟩]
structure KMarks (K : PySem.W.Frag) (d : Addr) : Prop where
  at_ : ∃ x1 x2 x3 x4 y1 y2 y3 y4 n, K.lookup d = some ⟨.type "dict", none, .dict (esM x1 x2 x3 x4 y1 y2 y3 y4) n, #[]⟩
  low : (d == sysModules) = false
/-- 1, 4, 9, 16 by their roots -/
inductive Root : Int → Int → Prop where
  | r1 : Root 1 1
  | r2 : Root 4 2
  | r3 : Root 9 3
  | r4 : Root 16 4
theorem root_find {k v : Int} (r : Root k v) (x1 x2 x3 x4 y1 y2 y3 y4 : Tok) : ∃ t, findBy Value.isInt (esM x1 x2 x3 x4 y1 y2 y3 y4) k = some (.int v t) := by
  cases r
  · exact ⟨y1, rfl⟩
  · exact ⟨y2, rfl⟩
  · exact ⟨y3, rfl⟩
  · exact ⟨y4, rfl⟩
section
variable {X : Cx} {d : Addr}
theorem KMarks.map (D : KMarks X.K d) {pins : List (Addr × Obj)} {σ : St} {H : Hp} {s : Shared} (I : Inv X pins σ H s) : ∃ x1 x2 x3 x4 y1 y2 y3 y4, s.heap.MapOf (PySem.intKind X.prog X.w) d (fun k => findBy Value.isInt (esM x1 x2 x3 x4 y1 y2 y3 y4) k) := by
  obtain ⟨x1, x2, x3, x4, y1, y2, y3, y4, n, e⟩ := D.at_
  refine ⟨x1, x2, x3, x4, y1, y2, y3, y4, _, _, n, I.kIn _ _ e, ⟨rfl, rfl, rfl⟩, rfl, ?_, fun _ => rfl⟩
  intro en hen
  have hm : en ∈ (esM x1 x2 x3 x4 y1 y2 y3 y4).toList := Array.mem_toList_iff.mpr hen
  rcases List.mem_cons.mp hm with rfl | hm
  · exact ⟨1, by simp [PySem.intKind, Value.isInt], (by show (1 : Int) = hashInt 1; decide +kernel)⟩
  rcases List.mem_cons.mp hm with rfl | hm
  · exact ⟨4, by simp [PySem.intKind, Value.isInt], (by show (4 : Int) = hashInt 4; decide +kernel)⟩
  rcases List.mem_cons.mp hm with rfl | hm
  · exact ⟨9, by simp [PySem.intKind, Value.isInt], (by show (9 : Int) = hashInt 9; decide +kernel)⟩
  rcases List.mem_cons.mp hm with rfl | hm
  · exact ⟨16, by simp [PySem.intKind, Value.isInt], (by show (16 : Int) = hashInt 16; decide +kernel)⟩
  cases hm
theorem op_notIn_km (D : KMarks X.K d) : OpR X (compareOp .NotIn) (fun x y H Q => ∃ k v, x = .int k ∧ y = .ref d ∧ Root k v ∧ Q (.bl false) H) := by
  intro pins s σ H x y v u Q I rx ry h
  obtain ⟨k, r, rfl, rfl, hr, q⟩ := h
  obtain ⟨t, rfl⟩ := rx
  cases ry
  obtain ⟨x1, x2, x3, x4, y1, y2, y3, y4, hm⟩ := D.map I
  obtain ⟨tk, ef⟩ := root_find hr x1 x2 x3 x4 y1 y2 y3 y4
  refine wpAny_notIn_of (k := k) (by simp [PySem.intKind, Value.isInt]) D.low hm ?_
  rw [ef]
  exact ⟨.bl false, H, I.tok _, rfl, q⟩
theorem ix_km (D : KMarks X.K d) : IxR X (fun x y H Q => ∃ k v, x = .ref d ∧ y = .int k ∧ Root k v ∧ Q (.int v) H) := by
  intro value slice pins s σ H x y v u Q I rx ry h hs
  obtain ⟨k, r, rfl, rfl, hr, q⟩ := h
  obtain rfl : v = Value.ref d := rx
  obtain ⟨t, rfl⟩ := ry
  obtain ⟨x1, x2, x3, x4, y1, y2, y3, y4, hm⟩ := D.map I
  obtain ⟨tk, ef⟩ := root_find hr x1 x2 x3 x4 y1 y2 y3 y4
  exact tail_any hm.typeIs slot_dict_getitem.lookup (wpAny_getItem_of (k := k) (by simp [PySem.intKind, Value.isInt]) hm ef ⟨.int r, H, I.tok _, ⟨tk, rfl⟩, q⟩) hs
end
/-! len(x) by the own method -/
section
variable {X : Cx} {CX : CXT} {k : Nat} {C f : Addr} {fd : FuncData} {ps : List Str} {sp : Sp} {E : XK}
theorem call_lenOwn (hs : PySem.W.findIn X.K (.ref C) "__len__" = some (some (.ref f))) (hf : PySem.W.isFn X.K (.ref f) = true) (F : FnOk X.prog X.w X.K X.mg X.base CX k f fd ps sp) (hr : Room (k + 1) X.A) (hb : Binds X.K fd ps []) (hx : Passes CX X E) :
    CallR X (.builtin "len") (fun xs H Q => ∃ a dx fs, xs = [.ref a] ∧ H a = some (.ins C dx fs) ∧ sp [.ref a] H (fun v H' => ∃ n : Nat, v = .int n ∧ n ≤ 1000 ∧ Q (.int n) H') E) := by
  intro pins s σ H xs us Q I r h
  obtain ⟨a, dx, fs, rfl, ha, q⟩ := h
  obtain ⟨u, rfl, ru⟩ := vals1 r
  cases ru
  obtain ⟨mA, J, _⟩ := ins_get I.hok ha
  obtain ⟨od, J, _⟩ := J.look
  obtain ⟨m, hF⟩ := I.fr
  refine PySem.W.len_K hF I.ok.mod.kin J hs hf ?_
  have hl := F.len _ _ _ _ q
  have r2 : Vals [V.ref a] [Value.ref a] := .cons rfl .nil
  refine wpAny_call (codeAny_mono (F.run X.A.in1 X.stack s H ⟨[.ref a], []⟩ [.ref a] [.ref a] _ E hr.in1 I.env0.in1 (by
    have := hb s [.ref a] I.kIn (by simpa using hl)
    simpa using this) r2 q) fun r s' hq => ?_)
  cases r with
  | error e => exact hx pins σ H s e s' I hq
  | ok fl =>
    cases fl with
    | ret w =>
      obtain ⟨v, H', I', rv, n, rfl, hn, q'⟩ := I.after hq
      obtain ⟨t, rfl⟩ := rv
      exact ⟨⟨by omega, by omega⟩, .int n, H', I'.tok _, ⟨_, rfl⟩, q'⟩
    | next => exact False.elim hq
    | brk => exact False.elim hq
    | cont => exact False.elim hq
end
end L2

set_option maxHeartbeats 4000000
namespace PA
open PySem L2 RZ
open C8 (pss_cut tCut)
def top (i : Nat) : Stmt := PySem.Challenge.pw_pairahead_k04_rules_made.main.body.getD i (.Pass ⟨0, 0, 0, 0⟩)
abbrev sIsInt : Stmt := top 6
abbrev sBelow : Stmt := top 7
abbrev sInit : Stmt := inClass (top 29) 0
abbrev sStep : Stmt := inClass (top 29) 2
abbrev sLen : Stmt := inClass (top 29) 4
abbrev sCheck : Stmt := top 31
abbrev sIsRow : Stmt := top 32
/-! ### data -/
abbrev Rw := Int × Bool × Int × Bool
def rv (r : Rw) : List V := [.int r.1, .bl r.2.1, .int r.2.2.1, .bl r.2.2.2]
def RwOk (n : Nat) (r : Rw) : Prop := (0 ≤ r.1 ∧ r.1 < n) ∧ 0 ≤ r.2.2.1 ∧ r.2.2.1 < n
/-- what stands at each place of a list of references -/
def Each (H : Hp) (P : Hp → Addr → Rw → Prop) (xs : List V) (rows : List Rw) : Prop := xs.length = rows.length ∧ ∀ (i : Nat) (x : V) (r : Rw), xs[i]? = some x → rows[i]? = some r → ∃ c, x = .ref c ∧ P H c r
def isT (H : Hp) (c : Addr) (r : Rw) : Prop := H c = some (.tup (rv r))
def isLT (H : Hp) (c : Addr) (r : Rw) : Prop := H c = some (.tup (rv r)) ∨ H c = some (.lst (rv r))
theorem Each.imp {H H' : Hp} {P P' : Hp → Addr → Rw → Prop} {xs : List V} {rows : List Rw} (e : Each H P xs rows) (f : ∀ c r, P H c r → P' H' c r) : Each H' P' xs rows := ⟨e.1, fun i x r h1 h2 => let ⟨c, hx, q⟩ := e.2 i x r h1 h2; ⟨c, hx, f c r q⟩⟩
theorem Each.sameT {H H' : Hp} {xs : List V} {rows : List Rw} (e : Each H isT xs rows) (s : Same H H') : Each H' isT xs rows := e.imp fun c r q => s _ _ q
theorem Each.sameLT {H H' : Hp} {xs : List V} {rows : List Rw} (e : Each H isLT xs rows) (s : Same H H') : Each H' isLT xs rows := e.imp fun c r q => q.elim (fun q => .inl (s _ _ q)) fun q => .inr (s _ _ q)
theorem Each.nil {H : Hp} {P : Hp → Addr → Rw → Prop} : Each H P [] [] := ⟨rfl, fun i x r h _ => by simp at h⟩
theorem Each.push {H : Hp} {P : Hp → Addr → Rw → Prop} {xs : List V} {rows : List Rw} {c : Addr} {r : Rw} (e : Each H P xs rows) (q : P H c r) : Each H P (xs ++ [.ref c]) (rows ++ [r]) := by
  refine ⟨by rw [List.length_append, List.length_append, e.1]; rfl, fun i x r' h1 h2 => ?_⟩
  rcases Nat.lt_or_ge i xs.length with hi | hi
  · rw [List.getElem?_append_left hi] at h1
    rw [List.getElem?_append_left (by rw [← e.1]; exact hi)] at h2
    exact e.2 i x r' h1 h2
  · rw [List.getElem?_append_right hi] at h1
    rw [List.getElem?_append_right (by rw [← e.1]; exact hi), ← e.1] at h2
    cases hk : i - xs.length with
    | zero =>
      rw [hk] at h1 h2
      have h1' : V.ref c = x := by simpa using h1
      have h2' : r = r' := by simpa using h2
      exact ⟨c, h1'.symm, h2' ▸ q⟩
    | succ k =>
      rw [hk] at h1
      simp at h1
/-- a list is changed: tuples stay -/
theorem isT.lst {H : Hp} {c D : Addr} {r : Rw} {xs ys : List V} (q : isT H c r) (hD : H D = some (.lst xs)) : isT (upd H D (.lst ys)) c r := by
  unfold isT
  rw [upd_ne (ne_of (H := H) q hD (by intro z; cases z))]
  exact q
theorem take_succ' {α : Type} {l : List α} {i : Nat} {x : α} (h : l[i]? = some x) : l.take (i + 1) = l.take i ++ [x] := by
  rw [List.take_add_one, h]
  rfl
def rf (R S : Addr) (k : Int) : List (Str × V) := putF "marks" (.int k) (putF "starts" (.ref S) (putF "rows" (.ref R) []))
theorem rs_ : ¬ (("rows" : Str) = "starts") := by decide +kernel
theorem rm_ : ¬ (("rows" : Str) = "marks") := by decide +kernel
theorem sm_ : ¬ (("starts" : Str) = "marks") := by decide +kernel
theorem rf_rows (R S : Addr) (k : Int) : (rf R S k).lookup ("rows" : Str) = some (.ref R) := by
  unfold rf
  rw [lookup_putF, if_neg rm_, lookup_putF, if_neg rs_, lookup_putF, if_pos rfl]
theorem rf_starts (R S : Addr) (k : Int) : (rf R S k).lookup ("starts" : Str) = some (.ref S) := by
  unfold rf
  rw [lookup_putF, if_neg sm_, lookup_putF, if_pos rfl]
theorem rf_marks (R S : Addr) (k : Int) : (rf R S k).lookup ("marks" : Str) = some (.int k) := by
  unfold rf
  rw [lookup_putF, if_pos rfl]
theorem rf_no (R S : Addr) (k : Int) {m : Str} (h1 : ¬ m = "marks") (h2 : ¬ m = "starts") (h3 : ¬ m = "rows") : (rf R S k).lookup m = none := by
  unfold rf
  rw [lookup_putF, if_neg h1, lookup_putF, if_neg h2, lookup_putF, if_neg h3]
  all_goals rfl
/-- a Rule stands at p -/
def RuleAt (K : PySem.W.Frag) (C : Addr) (H : Hp) (p : Addr) (rows : List Rw) (starts : List Int) (k : Int) : Prop := ∃ dx R S refs, H p = some (.ins C dx (rf R S k)) ∧ H R = some (.tup refs) ∧ Each H isT refs rows ∧ SqT K H S (starts.map V.int)
theorem SqT.up {K : PySem.W.Frag} {H H' : Hp} {a : Addr} {xs : List V} (h : SqT K H a xs) (e : Same H H') : SqT K H' a xs :=
  h.elim (fun h => .inl (h.elim (fun h => .inl (e _ _ h)) fun ⟨o, h⟩ => .inr ⟨o, e _ _ h⟩)) fun h => .inr h
theorem RuleAt.same {K : PySem.W.Frag} {C : Addr} {H H' : Hp} {p : Addr} {rows : List Rw} {starts : List Int} {k : Int} (r : RuleAt K C H p rows starts k) (s : Same H H') : RuleAt K C H' p rows starts k := by
  obtain ⟨dx, R, S, refs, h1, h2, h3, h4⟩ := r
  exact ⟨dx, R, S, refs, s _ _ h1, s _ _ h2, h3.sameT s, SqT.up h4 s⟩
structure Txt (K : PySem.W.Frag) (mg : Str → Option Value) (C : Addr) : Prop where
  cl : Cls K C
  nR : NoAttr K C "rows"
  nS : NoAttr K C "starts"
  nM : NoAttr K C "marks"
  mgC : mg "Rule" = some (.ref C)
  isi : mg "isinstance" = none
  int_ : mg "int" = none
  bool_ : mg "bool" = none
  list_ : mg "list" = none
  tup_ : mg "tuple" = none
  len_ : mg "len" = none
  all_ : mg "all" = none
  zip_ : mg "zip" = none
  range_ : mg "range" = none
  most : ∃ t, mg "MOST_ROWS" = some (.int 48 t)
  marks : ∃ d, mg "MARKS_OF_STARTS" = some (.ref d) ∧ KMarks K d
theorem boot_isi : bootBuiltins "isinstance" = some (.builtin "isinstance") := by decide +kernel
theorem boot_int' : bootBuiltins "int" = some (.type "int") := by decide +kernel
theorem boot_bool' : bootBuiltins "bool" = some (.type "bool") := by decide +kernel
theorem boot_tuple' : bootBuiltins "tuple" = some (.type "tuple") := by decide +kernel
theorem boot_list' : bootBuiltins "list" = some (.type "list") := by decide +kernel
theorem boot_all' : bootBuiltins "all" = some (.builtin "all") := by decide +kernel
structure Df (K : PySem.W.Frag) (mg : Str → Option Value) (x : Str) (st : Stmt) (f : Addr) (fd : FuncData) (ps : List Str) : Prop where
  F : Fun K x x st f fd
  B : Binds K fd ps []
  M : mg x = some (.ref f)
/-! ### promises -/
def spIsInt : Sp := fun vs H Q _ => ∃ i, vs = [.int i] ∧ Q (.bl true) H
def spBelow : Sp := fun vs H Q _ => ∃ v c : Int, vs = [.int v, .int c] ∧ 0 ≤ v ∧ v < c ∧ Q (.bl true) H
def spIsRow : Sp := fun vs H Q _ => ∃ (p : Addr) (r : Rw) (n : Nat), vs = [.ref p, .int (n : Int)] ∧ isT H p r ∧ RwOk n r ∧ Q (.bl true) H
def spCheck (K : PySem.W.Frag) : Sp := fun vs H Q _ => ∃ (R S : Addr) (refs : List V) (rows : List Rw) (starts : List Int) (k : Int), vs = [.ref R, .ref S] ∧ H R = some (.tup refs) ∧ Each H isT refs rows ∧ SqT K H S (starts.map V.int) ∧
  1 ≤ rows.length ∧ rows.length ≤ 48 ∧ (∀ r ∈ rows, RwOk rows.length r) ∧ Root (starts.length : Int) k ∧ (∀ s ∈ starts, 0 ≤ s ∧ s < (rows.length : Int)) ∧ ∀ H', Same H H' → Q .non H'
section
variable {P : Program} {w : World} {K : PySem.W.Frag} {mg : Str → Option Value} {base : Heap} {C : Addr}
theorem ifD_no {p A B : Prop} [Decidable p] (h : ¬ p) (q : B) : if decide p = true then A else B := by
  rw [decide_eq_false h]
  exact iteF q
theorem ifD_yes {p A B : Prop} [Decidable p] (h : p) (q : A) : if decide p = true then A else B := by
  rw [decide_eq_true h]
  exact iteT q
theorem ifD_2 {p A B : Prop} [Decidable p] (h1 : p → A) (h2 : ¬ p → B) : if decide p = true then A else B := by
  by_cases h : p
  · exact ifD_yes h (h1 h)
  · exact ifD_no h (h2 h)
theorem Same.new {H : Hp} {p : Addr} {o : HO} (hp : H p = none) : Same H (upd H p o) := fun b u e => by
  rw [upd_ne (ne_of_none e hp)]
  exact e
theorem scIsInt : FnScope ["value"] ["value"] (defScope sIsInt) := ⟨rfl, rfl, rfl, by decide +kernel, rfl, by decide +kernel, by decide +kernel⟩
theorem ok_isInt {f : Addr} {fd : FuncData} (F : Fun K "is_integer" "is_integer" sIsInt f fd) (T : Txt K mg C) : FnOk P w K mg base CX0 1 f fd ["value"] spIsInt := by
  refine F.ok scIsInt (fun vs H Q E h => ?_) (fun cdv A outer s H vs Q E hr h => ?_)
  · obtain ⟨i, rfl, _⟩ := h
    rfl
  · obtain ⟨i, rfl, k⟩ := h
    refine ⟨_, pss_one (ps_ret (pe_and (pe_callB call_isi (by rfl) T.isi boot_isi (pa_cons (pv 0) (pa_cons (pe_bltn (v := .ty "int") (by rfl) T.int_ boot_int' rfl) pa_nil)))
      (pe_one (pe_not (pe_callB call_isi (by rfl) T.isi boot_isi (pa_cons (pv 0) (pa_cons (pe_bltn (v := .ty "bool") (by rfl) T.bool_ boot_bool' rfl) pa_nil))))))), ?_⟩
    refine ⟨_, rfl, _, _, _, _, _, rfl, .ty _, .base (.int i), kit_ty (b := "int") (r := true) (by decide +kernel), _, rfl, iteT ?_⟩
    exact ⟨_, rfl, _, _, _, _, _, rfl, .ty _, .base (.int i), kit_ty (b := "bool") (r := false) (by decide +kernel), _, rfl, k⟩
theorem scBelow : FnScope ["value", "count"] ["value", "count"] (defScope sBelow) := ⟨rfl, rfl, rfl, by decide +kernel, rfl, by decide +kernel, by decide +kernel⟩
theorem ok_below {f g : Addr} {fd gd : FuncData} (F : Fun K "is_below" "is_below" sBelow f fd) (T : Txt K mg C) (D : Df K mg "is_integer" sIsInt g gd ["value"]) : FnOk P w K mg base CX0 2 f fd ["value", "count"] spBelow := by
  have G : FnOk P w K mg base CX0 1 g gd ["value"] spIsInt := ok_isInt D.F T
  refine F.ok scBelow (fun vs H Q E h => ?_) (fun cdv A outer s H vs Q E hr h => ?_)
  · obtain ⟨v, c, rfl, _⟩ := h
    rfl
  · obtain ⟨v, c, rfl, h0, h1, k⟩ := h
    refine ⟨_, pss_one (ps_ret (pe_and (pe_call G hr rfl D.M D.F.kp D.B .nil pass0 (pa_cons (pv 0) pa_nil)) (pe_one (pe_chain op_le op_lt pe_int (pv 0) (pv 1))))), ?_⟩
    refine ⟨_, rfl, v, rfl, _, rfl, iteT ?_⟩
    refine ⟨_, rfl, _, _, rfl, rfl, _, rfl, ifD_yes h0 ⟨_, rfl, _, _, rfl, rfl, ?_⟩⟩
    show Q (V.bl (decide (v < c))) H
    rw [decide_eq_true h1]
    exact k
theorem scIsRow : FnScope ["row", "count", "next_ahead", "falls", "next_behind", "goes"] ["row", "count"] (defScope sIsRow) := ⟨rfl, rfl, rfl, by decide +kernel, rfl, by decide +kernel, by decide +kernel⟩
theorem ok_isRow {f g1 g2 : Addr} {fd gd1 gd2 : FuncData} (F : Fun K "_is_row" "_is_row" sIsRow f fd) (T : Txt K mg C) (D1 : Df K mg "is_integer" sIsInt g1 gd1 ["value"]) (D2 : Df K mg "is_below" sBelow g2 gd2 ["value", "count"]) : FnOk P w K mg base CX0 3 f fd ["row", "count"] spIsRow := by
  have G : FnOk P w K mg base CX0 2 g2 gd2 ["value", "count"] spBelow := ok_below D2.F T D1
  refine F.ok scIsRow (fun vs H Q E h => ?_) (fun cdv A outer s H vs Q E hr h => ?_)
  · obtain ⟨p, r, n, rfl, _⟩ := h
    rfl
  · obtain ⟨p, ⟨a, fl, b, go⟩, n, rfl, hp, ⟨⟨a0, a1⟩, b0, b1⟩, k⟩ := h
    refine ⟨_, pss_cons (ps_if (pt_cmpR op_ne (pe_callB call_len_seq (by rfl) T.len_ PySem.boot_len (pa_cons (pv 0) pa_nil)) pe_int (nomark _)) pss_never pss_nil)
      (pss_cons (ps_asg (pv 0) (pg_tup rfl (pgs_cons (pg_name (i := 2) scIsRow.nd rfl (Or.inl rfl)) (pgs_cons (pg_name (i := 3) scIsRow.nd rfl (Or.inl rfl)) (pgs_cons (pg_name (i := 4) scIsRow.nd rfl (Or.inl rfl)) (pgs_cons (pg_name (i := 5) scIsRow.nd rfl (Or.inl rfl)) pgs_nil))))))
      (pss_cons (ps_if (PW.pt (pw_or (pt_not (pt_val (pe_call G hr rfl D2.M D2.F.kp D2.B .nil pass0 (pa_cons (pv 2) (pa_cons (pv 1) pa_nil))))) (pw_or1 (pt_not (pt_val (pe_call G hr rfl D2.M D2.F.kp D2.B .nil pass0 (pa_cons (pv 4) (pa_cons (pv 1) pa_nil)))))))) pss_never pss_nil)
      (pss_one (ps_ret (pe_and (pe_callB call_isi (by rfl) T.isi boot_isi (pa_cons (pv 3) (pa_cons (pe_bltn (v := .ty "bool") (by rfl) T.bool_ boot_bool' rfl) pa_nil))) (pe_one (pe_callB call_isi (by rfl) T.isi boot_isi (pa_cons (pv 5) (pa_cons (pe_bltn (v := .ty "bool") (by rfl) T.bool_ boot_bool' rfl) pa_nil))))))))), ?_⟩
    refine ⟨_, rfl, p, _, rfl, .inr (SqT.of hp), rfl, _, rfl, iteNS rfl ?_⟩
    refine ⟨_, rfl, p, _, rfl, SqT.of hp, rfl, _, _, rfl, _, _, rfl, _, _, rfl, _, _, rfl, rfl, ?_⟩
    refine ⟨_, rfl, _, rfl, a, _, rfl, a0, a1, _, rfl, iteF ?_⟩
    refine ⟨_, rfl, _, rfl, b, _, rfl, b0, b1, _, rfl, iteF ?_⟩
    refine ⟨_, rfl, _, _, _, _, _, rfl, .ty _, .base (.bl fl), kit_ty (b := "bool") (r := true) (by decide +kernel), _, rfl, iteT ?_⟩
    exact ⟨_, rfl, _, _, _, _, _, rfl, .ty _, .base (.bl go), kit_ty (b := "bool") (r := true) (by decide +kernel), k⟩
end
end PA

set_option maxHeartbeats 4000000
namespace PA
open PySem L2 RZ
open C8 (pss_cut tCut)
/-- the list of what was made so far: all true -/
theorem all_true (n : Nat) : (List.replicate n true).all id = true := by
  rw [List.all_eq_true]
  intro x hx
  rw [(List.mem_replicate.mp hx).2]
  rfl
def rLenK (K : PySem.W.Frag) : List V → Hp → (V → Hp → Prop) → Prop := fun xs H Q => ∃ p ys, xs = [.ref p] ∧ (SqL K H p ys ∨ SqT K H p ys) ∧ Q (.int ys.length) H
theorem call_lenK {X : Cx} {K : PySem.W.Frag} (h : X.K = K) : CallR X (.builtin "len") (rLenK K) := h ▸ call_len_seq
theorem root_le {n k : Int} (r : Root n k) : n ≤ 16 := by
  cases r <;> decide
section
variable {P : Program} {w : World} {K : PySem.W.Frag} {mg : Str → Option Value} {base : Heap} {C : Addr}
theorem scCheck : FnScope ["rows", "starts", "row", "state"] ["rows", "starts"] (defScope sCheck) := ⟨rfl, rfl, rfl, by decide +kernel, rfl, by decide +kernel, by decide +kernel⟩
theorem ok_check {f g1 g2 g3 : Addr} {fd gd1 gd2 gd3 : FuncData} (F : Fun K "_check_table" "_check_table" sCheck f fd) (T : Txt K mg C) (D1 : Df K mg "is_integer" sIsInt g1 gd1 ["value"]) (D2 : Df K mg "is_below" sBelow g2 gd2 ["value", "count"]) (D3 : Df K mg "_is_row" sIsRow g3 gd3 ["row", "count"]) : FnOk P w K mg base CX0 4 f fd ["rows", "starts"] (spCheck K) := by
  have G2 : FnOk P w K mg base CX0 3 g2 gd2 ["value", "count"] spBelow := (ok_below D2.F T D1).mono (by decide)
  have G3 : FnOk P w K mg base CX0 3 g3 gd3 ["row", "count"] spIsRow := ok_isRow D3.F T D1 D2
  obtain ⟨tm, hmost⟩ := T.most
  obtain ⟨dm, hdm, km⟩ := T.marks
  refine F.ok scCheck (fun vs H Q E h => ?_) (fun cdv A outer s H vs Q E hr h => ?_)
  · obtain ⟨R, S, _, _, _, _, rfl, _⟩ := h
    rfl
  · obtain ⟨R, S, refs, rows, starts, k, rfl, hR, hE, hS, h1, h48, hok, hroot, hst, kk⟩ := h
    refine ⟨_, pss_cons (ps_if (pt_not (pt_chain op_le op_le pe_int (pe_callB call_len_seq (by rfl) T.len_ PySem.boot_len (pa_cons (pv 0) pa_nil)) (pe_glob (v := .int 48) rfl hmost ⟨_, rfl⟩))) pss_never pss_nil)
      (pss_cons (ps_if (pt_not (pt_val (pe_callB (cr_all rfl) (by rfl) T.all_ boot_all' (pa_cons (pe_lc (own := [("row", 2)]) (g := gName 2) (tt := tYes) (by rfl) scCheck.nd (pi_tup (pv 0)) (blkOk_by (N := ["rows", "starts", "row", "state"]) (sc := defScope sCheck) (by decide +kernel))
          (fun _ _ _ _ _ => pg_name (i := 2) scCheck.nd rfl (Or.inl rfl)) (fun _ _ _ _ _ => pts_nil)
          (fun _ _ _ _ _ => pe_call G3 hr rfl D3.M D3.F.kp D3.B .nil pass0 (pa_cons (pv 2) (pa_cons (pe_callB (call_lenK (K := K) rfl) (by rfl) T.len_ PySem.boot_len (pa_cons (pv 0) pa_nil)) pa_nil)))) pa_nil)))) pss_never pss_nil)
      (pss_cons (ps_if (pt_cmpR (op_notIn_km km) (pe_callB call_len_seq (by rfl) T.len_ PySem.boot_len (pa_cons (pv 1) pa_nil)) (pe_glob (v := .ref dm) rfl hdm rfl) rfl) pss_never pss_nil)
      (pss_one (ps_if (pt_not (pt_val (pe_callB (cr_all rfl) (by rfl) T.all_ boot_all' (pa_cons (pe_lc (own := [("state", 3)]) (g := gName 3) (tt := tYes) (by rfl) scCheck.nd (pi_tup (pv 1)) (blkOk_by (N := ["rows", "starts", "row", "state"]) (sc := defScope sCheck) (by decide +kernel))
          (fun _ _ _ _ _ => pg_name (i := 3) scCheck.nd rfl (Or.inl rfl)) (fun _ _ _ _ _ => pts_nil)
          (fun _ _ _ _ _ => pe_call G2 hr rfl D2.M D2.F.kp D2.B .nil pass0 (pa_cons (pv 3) (pa_cons (pe_callB (call_lenK (K := K) rfl) (by rfl) T.len_ PySem.boot_len (pa_cons (pv 0) pa_nil)) pa_nil)))) pa_nil)))) pss_never pss_nil)))), ?_⟩
    have hlr : refs.length = rows.length := hE.1
    refine ⟨_, rfl, ?_⟩
    refine ⟨R, _, rfl, .inr (SqT.of hR), _, _, rfl, rfl, _, rfl, ifD_yes (by rw [hlr]; omega) ?_⟩
    refine ⟨_, _, rfl, rfl, _, rfl, ?_⟩
    rw [hlr]
    have h48' : ((rows.length : Int) ≤ 48) := by omega
    rw [decide_eq_true h48']
    refine iteF ?_
    refine ⟨_, rfl, R, rfl, ⟨_, SqT.of hR⟩, fun Dd hD => ?_⟩
    refine lc_tup (K := K) (a := R) (xs := refs) (fun i H' => Same H H' ∧ H' Dd = some (.lst ((List.replicate i true).map V.bl))) ⟨Same.new hD, upd_same⟩ (fun i H' _ q => SqT.of (q.1 _ _ hR)) ?_ ?_
    · rintro i x H' hx ⟨sm, hd⟩
      have hi : i < rows.length := by rw [← hlr]; exact (List.getElem?_eq_some_iff.mp hx).1
      have hr' : rows[i]? = some rows[i] := List.getElem?_eq_getElem hi
      obtain ⟨c, rfl, hc⟩ := hE.2 i x _ hx hr'
      refine ⟨rfl, ?_⟩
      dsimp only [tYes]
      rw [if_pos rfl]
      refine ⟨_, rfl, _, rfl, R, _, rfl, .inr (SqT.of (sm _ _ hR)), c, rows[i], rows.length, congrArg (fun z : Nat => [V.ref c, V.int (z : Int)]) hlr, sm _ _ hc, hok _ (List.getElem_mem hi), ?_⟩
      refine ⟨_, hd, ?_, ?_, ?_⟩
      · rw [List.length_map, List.length_replicate]
        exact Nat.lt_of_lt_of_le hi (Nat.le_trans h48 (by decide))
      · intro c o e
        rw [upd_ne (ne_of_none e hD)]
        exact sm _ _ e
      · rw [upd_same, List.replicate_succ', List.map_append]
        rfl
    rintro H1 ⟨s1, hd1⟩
    refine ⟨Dd, _, rfl, SqL.of hd1, ?_⟩
    rw [all_true]
    refine ⟨true, rfl, iteF ?_⟩
    have hS1 := SqT.up hS s1
    refine ⟨_, rfl, S, _, rfl, .inr hS1, (starts.length : Int), k, ?_, rfl, hroot, _, rfl, iteF ?_⟩
    · show V.int (((starts.map V.int).length : Nat) : Int) = _
      rw [List.length_map]
    refine ⟨_, rfl, S, rfl, ⟨_, hS1⟩, fun De hE' => ?_⟩
    refine lc_tup (K := K) (a := S) (xs := starts.map V.int) (fun i H' => Same H1 H' ∧ H' De = some (.lst ((List.replicate i true).map V.bl))) ⟨Same.new hE', upd_same⟩ (fun i H' _ q => SqT.up hS1 q.1) ?_ ?_
    · rintro i x H' hx ⟨sm, hd⟩
      rw [List.getElem?_map, Option.map_eq_some_iff] at hx
      obtain ⟨z, hz, rfl⟩ := hx
      have hz' := hst z (List.mem_of_getElem? hz)
      refine ⟨rfl, ?_⟩
      dsimp only [tYes]
      rw [if_pos rfl]
      refine ⟨_, rfl, _, rfl, R, _, rfl, .inr (SqT.of (sm _ _ (s1 _ _ hR))), z, (rows.length : Int), congrArg (fun y : Nat => [V.int z, V.int (y : Int)]) hlr, hz'.1, hz'.2, ?_⟩
      refine ⟨_, hd, ?_, ?_, ?_⟩
      · rw [List.length_map, List.length_replicate]
        have : starts.length ≤ 16 := by
          have := root_le hroot
          omega
        have hi := (List.getElem?_eq_some_iff.mp hz).1
        exact Nat.lt_of_lt_of_le (Nat.lt_of_lt_of_le hi this) (by decide)
      · intro c o e
        rw [upd_ne (ne_of_none e hE')]
        exact sm _ _ e
      · rw [upd_same, List.replicate_succ', List.map_append]
        rfl
    rintro H2 ⟨s2, hd2⟩
    refine ⟨De, _, rfl, SqL.of hd2, ?_⟩
    rw [all_true]
    refine ⟨true, rfl, iteF ?_⟩
    exact kk _ (s1.trans s2)
end
end PA

set_option maxHeartbeats 4000000
namespace L2
open PySem PySem.Spec PyProof.Rows
/-- two ways to walk -/
theorem PI.or {X : Cx} {tg l : Expr} {w1 w2 : TI} (h1 : PI X tg l w1) (h2 : PI X tg l w2) : PI X tg l (fun σ H R => w1 σ H R ∨ w2 σ H R) :=
  ⟨fun pins s σ H R I h => h.elim (h1.run pins s σ H R I) (h2.run pins s σ H R I)⟩
end L2
namespace PA
open PySem L2 RZ
open C8 (pss_cut tCut)
/-- a list or a tuple -/
def Sq (K : PySem.W.Frag) (H : Hp) (a : Addr) (xs : List V) : Prop := SqL K H a xs ∨ SqT K H a xs
theorem SqL.up {K : PySem.W.Frag} {H H' : Hp} {a : Addr} {xs : List V} (h : SqL K H a xs) (e : Same H H') : SqL K H' a xs :=
  h.elim (fun h => .inl (h.elim (fun h => .inl (e _ _ h)) fun ⟨o, h⟩ => .inr ⟨o, e _ _ h⟩)) fun h => .inr h
theorem Sq.up {K : PySem.W.Frag} {H H' : Hp} {a : Addr} {xs : List V} (h : Sq K H a xs) (e : Same H H') : Sq K H' a xs := h.imp (fun h => SqL.up h e) fun h => SqT.up h e
theorem isLT.sq {K : PySem.W.Frag} {H : Hp} {c : Addr} {r : Rw} (h : isLT H c r) : Sq K H c (rv r) := h.elim (fun h => .inr (SqT.of h)) fun h => .inl (SqL.of h)
theorem isT.ins {H : Hp} {c p C dx : Addr} {fs : List (Str × V)} {o : HO} {r : Rw} (q : isT H c r) (hp : H p = some (.ins C dx fs)) : isT (upd H p o) c r := by
  unfold isT
  rw [upd_ne (ne_of (H := H) q hp (by intro z; cases z))]
  exact q
theorem SqT.keep {K : PySem.W.Frag} {H H' : Hp} {a p C dx : Addr} {fs : List (Str × V)} {xs : List V} (h : SqT K H a xs) (hp : H p = some (.ins C dx fs)) (kp : ∀ c o, H c = some o → c ≠ p → H' c = some o) : SqT K H' a xs := by
  rcases h with (h | ⟨ob, h⟩) | h
  · exact .inl (.inl (kp _ _ h (ne_of h hp (by intro z; cases z))))
  · exact .inl (.inr ⟨ob, kp _ _ h (ne_of h hp (by intro z; cases z))⟩)
  · exact .inr h
theorem SqL.keep {K : PySem.W.Frag} {H H' : Hp} {a p C dx : Addr} {fs : List (Str × V)} {xs : List V} (h : SqL K H a xs) (hp : H p = some (.ins C dx fs)) (kp : ∀ c o, H c = some o → c ≠ p → H' c = some o) : SqL K H' a xs := by
  rcases h with (h | ⟨ob, h⟩) | h
  · exact .inl (.inl (kp _ _ h (ne_of h hp (by intro z; cases z))))
  · exact .inl (.inr ⟨ob, kp _ _ h (ne_of h hp (by intro z; cases z))⟩)
  · exact .inr h
theorem Sq.keep {K : PySem.W.Frag} {H H' : Hp} {a p C dx : Addr} {fs : List (Str × V)} {xs : List V} (h : Sq K H a xs) (hp : H p = some (.ins C dx fs)) (kp : ∀ c o, H c = some o → c ≠ p → H' c = some o) : Sq K H' a xs := h.imp (fun h => SqL.keep h hp kp) fun h => SqT.keep h hp kp
theorem SqT.ins {K : PySem.W.Frag} {H : Hp} {a p C dx : Addr} {fs : List (Str × V)} {xs : List V} {o : HO} (h : SqT K H a xs) (hp : H p = some (.ins C dx fs)) : SqT K (upd H p o) a xs := SqT.keep h hp fun c o e hc => by rw [upd_ne hc]; exact e
theorem rf2_rows (R S : Addr) : (putF "starts" (.ref S) (putF "rows" (.ref R) [])).lookup ("rows" : Str) = some (V.ref R) := by
  rw [lookup_putF, if_neg rs_, lookup_putF, if_pos rfl]
theorem rf2_starts (R S : Addr) : (putF "starts" (.ref S) (putF "rows" (.ref R) [])).lookup ("starts" : Str) = some (V.ref S) := by
  rw [lookup_putF, if_pos rfl]
/-- what is good for a Rule -/
structure Good (rows : List Rw) (starts : List Int) (k : Int) : Prop where
  one : 1 ≤ rows.length
  most : rows.length ≤ 48
  ok : ∀ r ∈ rows, RwOk rows.length r
  root : Root (starts.length : Int) k
  st : ∀ s ∈ starts, 0 ≤ s ∧ s < (rows.length : Int)
def spInit (K : PySem.W.Frag) (C : Addr) : Sp := fun vs H Q _ => ∃ (p dx G S : Addr) (refs : List V) (rows : List Rw) (starts : List Int) (k : Int), vs = [.ref p, .ref G, .ref S] ∧ H p = some (.ins C dx []) ∧
  Sq K H G refs ∧ Each H isLT refs rows ∧ Sq K H S (starts.map V.int) ∧ Good rows starts k ∧
  ∀ H', (∃ R S' refs', H' p = some (.ins C dx (rf R S' k)) ∧ H' R = some (.tup refs') ∧ Each H' isT refs' rows ∧ SqT K H' S' (starts.map V.int)) → (∀ c o, H c = some o → c ≠ p → H' c = some o) → Q .non H'
abbrev FunI (K : PySem.W.Frag) (f : Addr) (fd : FuncData) (dd : Addr) : Prop := FunD K "__init__" "Rule.__init__" (defArgs sInit) (defBody sInit) (defScope sInit) [V.ref dd] [] f fd
def rTupK (K : PySem.W.Frag) : List V → Hp → (V → Hp → Prop) → Prop := fun xs H Q => ∃ p ys, xs = [.ref p] ∧ ((SqL K H p ys ∧ ∀ l, H l = none → Q (.ref l) (upd H l (.tup ys))) ∨ (SqT K H p ys ∧ Q (.ref p) H))
theorem call_tupleK {X : Cx} {K : PySem.W.Frag} (h : X.K = K) : CallR X (.type "tuple") (rTupK K) := h ▸ call_tuple_of
section
variable {P : Program} {w : World} {K : PySem.W.Frag} {mg : Str → Option Value} {base : Heap} {C : Addr}
theorem scInit : FnScope ["self", "rows", "starts", "row"] ["self", "rows", "starts"] (defScope sInit) := ⟨rfl, rfl, rfl, by decide +kernel, rfl, by decide +kernel, by decide +kernel⟩
theorem ok_init {f g1 g2 g3 g4 dd : Addr} {fd gd1 gd2 gd3 gd4 : FuncData} (F : FunI K f fd dd) (T : Txt K mg C) (D1 : Df K mg "is_integer" sIsInt g1 gd1 ["value"]) (D2 : Df K mg "is_below" sBelow g2 gd2 ["value", "count"]) (D3 : Df K mg "_is_row" sIsRow g3 gd3 ["row", "count"]) (D4 : Df K mg "_check_table" sCheck g4 gd4 ["rows", "starts"]) : FnOk P w K mg base CX0 5 f fd ["self", "rows", "starts"] (spInit K C) := by
  have G4 : FnOk P w K mg base CX0 4 g4 gd4 ["rows", "starts"] (spCheck K) := ok_check D4.F T D1 D2 D3
  obtain ⟨dm, hdm, km⟩ := T.marks
  refine F.ok scInit (fun vs H Q E h => ?_) (fun cdv A outer s H vs Q E hr h => ?_)
  · obtain ⟨p, dx, G, S, _, _, _, _, rfl, _⟩ := h
    rfl
  · obtain ⟨p, dx, G, S, refs, rows, starts, k, rfl, hp, hG, hE, hS, gd, kk⟩ := h
    refine ⟨_, pss_cut (ps_fld (pv 0) (pe_callTy call_tuple_of (by rfl) T.tup_ boot_tuple' (pa_cons (pe_lc (own := [("row", 3)]) (g := gName 3) (tt := tYes) (by rfl) scInit.nd ((pi_list (pv 1)).or (pi_tup (pv 1))) (blkOk_by (N := ["self", "rows", "starts", "row"]) (sc := defScope sInit) (by decide +kernel))
          (fun _ _ _ _ _ => pg_name (i := 3) scInit.nd rfl (Or.inl rfl)) (fun _ _ _ _ _ => pts_nil)
          (fun _ _ _ _ _ => pe_callTy (call_tupleK (K := K) rfl) (by rfl) T.tup_ boot_tuple' (pa_cons (pv 3) pa_nil))) pa_nil)) rfl)
      (pss_cut (ps_fld (pv 0) (pe_callTy call_tuple_of (by rfl) T.tup_ boot_tuple' (pa_cons (pv 2) pa_nil)) rfl)
      (pss_cons (ps_expr (pe_call G4 hr rfl D4.M D4.F.kp D4.B .nil pass0 (pa_cons (pe_fld (pv 0) rfl) (pa_cons (pe_fld (pv 0) rfl) pa_nil))))
      (pss_one (ps_fld (pv 0) (pe_ix (ix_km km) (pe_glob (v := .ref dm) rfl hdm rfl) (pe_callB call_len_seq (by rfl) T.len_ PySem.boot_len (pa_cons (pe_fld (pv 0) rfl) pa_nil)) (fun _ _ => rfl)) rfl)))), ?_⟩
    have hlr : refs.length = rows.length := hE.1
    refine ⟨fun σ' H' => σ' = [some (.ref p), some (.ref G), some (.ref S), none] ∧ ∃ R refs', H' p = some (.ins C dx (putF "rows" (.ref R) [])) ∧ H' R = some (.tup refs') ∧ Each H' isT refs' rows ∧ (∀ c o, H c = some o → c ≠ p → H' c = some o), ?_, ?_⟩
    rcases hG with hG | hG
    · refine .inl ⟨_, rfl, G, rfl, ⟨_, hG⟩, fun Dd hD => ?_⟩
      refine lc_list (K := K) (a := G) (xs := refs) (fun i H' => Same H H' ∧ ∃ acc, H' Dd = some (.lst acc) ∧ Each H' isT acc (rows.take i)) ⟨Same.new hD, [], upd_same, by rw [List.take_zero]; exact Each.nil⟩ (fun i H' _ q => SqL.up hG q.1) ?_ ?_
      · rintro i x H' hx ⟨sm, acc, hd, he⟩
        have hi : i < rows.length := by rw [← hlr]; exact (List.getElem?_eq_some_iff.mp hx).1
        have hr' : rows[i]? = some rows[i] := List.getElem?_eq_getElem hi
        obtain ⟨c, rfl, hc⟩ := hE.2 i x _ hx hr'
        have hal : acc.length < sizeLine := by
          rw [he.1, List.length_take]
          exact Nat.lt_of_le_of_lt (Nat.le_trans (Nat.min_le_left _ _) (Nat.le_of_lt hi)) (Nat.lt_of_le_of_lt gd.most (by decide))
        refine ⟨rfl, ?_⟩
        dsimp only [tYes]
        rw [if_pos rfl]
        rcases hc with hc | hc
        · refine ⟨_, rfl, c, _, rfl, .inr ⟨SqT.of (sm _ _ hc), acc, hd, hal, ?_, _, upd_same, ?_⟩⟩
          · intro c' o e
            rw [upd_ne (ne_of_none e hD)]
            exact sm _ _ e
          · rw [take_succ' hr']
            exact Each.push (he.imp fun c' r' q => q.lst hd) ((show isT H' c rows[i] from sm _ _ hc).lst hd)
        · refine ⟨_, rfl, c, _, rfl, .inl ⟨SqL.of (sm _ _ hc), fun l hl => ⟨acc, ?_, hal, ?_, _, upd_same, ?_⟩⟩⟩
          · rw [upd_ne (ne_of_none hd hl)]
            exact hd
          · intro c' o e
            rw [upd_ne (ne_of_none e hD), upd_ne (ne_of_none (sm _ _ e) hl)]
            exact sm _ _ e
          · have hd' : (upd H' l (.tup (rv rows[i]))) Dd = some (.lst acc) := by rw [upd_ne (ne_of_none hd hl)]; exact hd
            rw [take_succ' hr']
            exact Each.push ((he.sameT (Same.new hl)).imp fun c' r' q => q.lst hd') ((show isT (upd H' l (.tup (rv rows[i]))) l rows[i] from upd_same).lst hd')
      rintro H1 ⟨s1, acc, hd, he⟩
      rw [hlr, List.take_length] at he
      refine ⟨Dd, _, rfl, .inl ⟨SqL.of hd, fun l hl => ?_⟩⟩
      have hp1 : (upd H1 l (.tup acc)) p = some (.ins C dx []) := by rw [upd_ne (ne_of_none (s1 _ _ hp) hl)]; exact s1 _ _ hp
      refine ⟨_, rfl, p, C, dx, _, rfl, hp1, T.cl, T.nR, (by show 0 < 1000; decide), rfl, l, acc, upd_same, ?_, ?_, ?_⟩
      · rw [upd_ne (ne_of hp1 upd_same (by intro z; cases z)).symm]
        exact upd_same
      · exact (he.sameT (Same.new hl)).imp fun c' r' q => isT.ins q hp1
      · intro c o e hc
        rw [upd_ne hc, upd_ne (ne_of_none (s1 _ _ e) hl)]
        exact s1 _ _ e
    · refine .inr ⟨_, rfl, G, rfl, ⟨_, hG⟩, fun Dd hD => ?_⟩
      refine lc_tup (K := K) (a := G) (xs := refs) (fun i H' => Same H H' ∧ ∃ acc, H' Dd = some (.lst acc) ∧ Each H' isT acc (rows.take i)) ⟨Same.new hD, [], upd_same, by rw [List.take_zero]; exact Each.nil⟩ (fun i H' _ q => SqT.up hG q.1) ?_ ?_
      · rintro i x H' hx ⟨sm, acc, hd, he⟩
        have hi : i < rows.length := by rw [← hlr]; exact (List.getElem?_eq_some_iff.mp hx).1
        have hr' : rows[i]? = some rows[i] := List.getElem?_eq_getElem hi
        obtain ⟨c, rfl, hc⟩ := hE.2 i x _ hx hr'
        have hal : acc.length < sizeLine := by
          rw [he.1, List.length_take]
          exact Nat.lt_of_le_of_lt (Nat.le_trans (Nat.min_le_left _ _) (Nat.le_of_lt hi)) (Nat.lt_of_le_of_lt gd.most (by decide))
        refine ⟨rfl, ?_⟩
        dsimp only [tYes]
        rw [if_pos rfl]
        rcases hc with hc | hc
        · refine ⟨_, rfl, c, _, rfl, .inr ⟨SqT.of (sm _ _ hc), acc, hd, hal, ?_, _, upd_same, ?_⟩⟩
          · intro c' o e
            rw [upd_ne (ne_of_none e hD)]
            exact sm _ _ e
          · rw [take_succ' hr']
            exact Each.push (he.imp fun c' r' q => q.lst hd) ((show isT H' c rows[i] from sm _ _ hc).lst hd)
        · refine ⟨_, rfl, c, _, rfl, .inl ⟨SqL.of (sm _ _ hc), fun l hl => ⟨acc, ?_, hal, ?_, _, upd_same, ?_⟩⟩⟩
          · rw [upd_ne (ne_of_none hd hl)]
            exact hd
          · intro c' o e
            rw [upd_ne (ne_of_none e hD), upd_ne (ne_of_none (sm _ _ e) hl)]
            exact sm _ _ e
          · have hd' : (upd H' l (.tup (rv rows[i]))) Dd = some (.lst acc) := by rw [upd_ne (ne_of_none hd hl)]; exact hd
            rw [take_succ' hr']
            exact Each.push ((he.sameT (Same.new hl)).imp fun c' r' q => q.lst hd') ((show isT (upd H' l (.tup (rv rows[i]))) l rows[i] from upd_same).lst hd')
      rintro H1 ⟨s1, acc, hd, he⟩
      rw [hlr, List.take_length] at he
      refine ⟨Dd, _, rfl, .inl ⟨SqL.of hd, fun l hl => ?_⟩⟩
      have hp1 : (upd H1 l (.tup acc)) p = some (.ins C dx []) := by rw [upd_ne (ne_of_none (s1 _ _ hp) hl)]; exact s1 _ _ hp
      refine ⟨_, rfl, p, C, dx, _, rfl, hp1, T.cl, T.nR, (by show 0 < 1000; decide), rfl, l, acc, upd_same, ?_, ?_, ?_⟩
      · rw [upd_ne (ne_of hp1 upd_same (by intro z; cases z)).symm]
        exact upd_same
      · exact (he.sameT (Same.new hl)).imp fun c' r' q => isT.ins q hp1
      · intro c o e hc
        rw [upd_ne hc, upd_ne (ne_of_none (s1 _ _ e) hl)]
        exact s1 _ _ e
    rintro _ H1 ⟨rfl, R, refs', hp1, hR1, hE1, kp1⟩
    have hS1 : Sq K H1 S (starts.map V.int) := Sq.keep hS hp kp1
    refine ⟨fun σ' H' => σ' = [some (.ref p), some (.ref G), some (.ref S), none] ∧ ∃ S', H' p = some (.ins C dx (putF "starts" (.ref S') (putF "rows" (.ref R) []))) ∧ H' R = some (.tup refs') ∧ Each H' isT refs' rows ∧ SqT K H' S' (starts.map V.int) ∧ (∀ c o, H c = some o → c ≠ p → H' c = some o), ?_, ?_⟩
    · rcases hS1 with hS1 | hS1
      · refine ⟨_, rfl, S, _, rfl, .inl ⟨hS1, fun l hl => ?_⟩⟩
        have hp2 : (upd H1 l (.tup (starts.map V.int))) p = some (.ins C dx (putF "rows" (.ref R) [])) := by rw [upd_ne (ne_of_none hp1 hl)]; exact hp1
        refine ⟨_, rfl, p, C, dx, _, rfl, hp2, T.cl, T.nS, (by show 1 < 1000; decide), rfl, l, upd_same, ?_, ?_, ?_, ?_⟩
        · rw [upd_ne (ne_of (Same.new hl _ _ hR1) hp2 (by intro z; cases z))]
          exact Same.new hl _ _ hR1
        · exact (hE1.sameT (Same.new hl)).imp fun c' r' q => isT.ins q hp2
        · exact SqT.ins (SqT.of upd_same) hp2
        · intro c o e hc
          rw [upd_ne hc]
          exact Same.new hl _ _ (kp1 _ _ e hc)
      · refine ⟨_, rfl, S, _, rfl, .inr ⟨hS1, ?_⟩⟩
        refine ⟨_, rfl, p, C, dx, _, rfl, hp1, T.cl, T.nS, (by show 1 < 1000; decide), rfl, S, upd_same, ?_, ?_, ?_, ?_⟩
        · rw [upd_ne (ne_of hR1 hp1 (by intro z; cases z))]
          exact hR1
        · exact hE1.imp fun c' r' q => isT.ins q hp1
        · exact SqT.ins hS1 hp1
        · intro c o e hc
          rw [upd_ne hc]
          exact kp1 _ _ e hc
    rintro _ H2 ⟨rfl, S', hp2, hR2, hE2, hS2, kp2⟩
    refine ⟨_, rfl, p, C, dx, _, _, rfl, hp2, T.cl, T.nR, rf2_rows R S', _, rfl, p, C, dx, _, _, rfl, hp2, T.cl, T.nS, rf2_starts R S', R, S', refs', rows, starts, k, rfl, hR2, hE2, hS2, gd.one, gd.most, gd.ok, gd.root, gd.st, fun H3 s3 => ?_⟩
    refine ⟨_, rfl, p, C, dx, _, _, rfl, s3 _ _ hp2, T.cl, T.nS, rf2_starts R S', S', _, rfl, .inr (SqT.up hS2 s3), (starts.length : Int), k, rfl, ?_, gd.root, ?_⟩
    · show V.int (((starts.map V.int).length : Nat) : Int) = _
      rw [List.length_map]
    refine ⟨_, rfl, p, C, dx, _, rfl, s3 _ _ hp2, T.cl, T.nM, (by show 2 < 1000; decide), ?_⟩
    refine kk _ ⟨R, S', refs', upd_same, ?_, ?_, ?_⟩ ?_
    · rw [upd_ne (ne_of (s3 _ _ hR2) (s3 _ _ hp2) (by intro z; cases z))]
      exact s3 _ _ hR2
    · exact (hE2.sameT s3).imp fun c' r' q => isT.ins q (s3 _ _ hp2)
    · exact SqT.ins (SqT.up hS2 s3) (s3 _ _ hp2)
    · intro c o e hc
      rw [upd_ne hc]
      exact s3 _ _ (kp2 _ _ e hc)
end
end PA

set_option maxHeartbeats 2000000
namespace PA
open PySem L2 RZ
open C8 (pss_cut tCut)
abbrev sDraw : Stmt := top 38
abbrev sStart : Stmt := top 39
abbrev sSame : Stmt := top 40
abbrev sTable : Stmt := top 41
abbrev sHanded : Stmt := top 42
abbrev sAfter : Stmt := top 43
abbrev sSpoilt : Stmt := top 44
abbrev sSteps : Stmt := top 45
abbrev sLaw : Stmt := top 46
/-! ### data of ints -/
theorem ints_lay : ∀ ns : List Int, PyData.canLayAll0 (ns.map PyData.int) = true
  | [] => by simp [PyData.canLayAll0]
  | z :: zs => by simp [PyData.canLayAll0, PyData.canLay0, ints_lay zs]
theorem ints_depth : ∀ ns : List Int, PyData.depthAll (ns.map PyData.int) ≤ 2
  | [] => by simp [PyData.depthAll]
  | z :: zs => by
    have h1 := ints_depth zs
    simp only [List.map_cons, PyData.depthAll, PyData.depth]
    omega
theorem ints_shaped (ns : List Int) : SeqAt.shaped (.list (ns.map PyData.int)) = true := by
  have h1 := ints_depth ns
  have h2 : PyData.depth (.list (ns.map PyData.int)) ≤ 64 := by
    simp only [PyData.depth]
    omega
  show (PyData.canLay0 (.list (ns.map PyData.int)) && decide (PyData.depth (.list (ns.map PyData.int)) ≤ 64)) = true
  rw [Bool.and_eq_true]
  exact ⟨by simp only [PyData.canLay0]; exact ints_lay ns, decide_eq_true h2⟩
theorem dp_ints {K : PySem.W.Frag} {H : Hp} : ∀ ns : List Int, DpAll K H (ns.map V.int) (ns.map PyData.int)
  | [] => .nil
  | z :: zs => .cons (.int z) (dp_ints zs)
theorem ints_nil (ns : List Int) : PyData.eqv (.list (ns.map PyData.int)) (.list []) = ns.isEmpty := by
  cases ns with
  | nil => simp [PyData.eqv, PyData.eqvAll]
  | cons z zs => simp [PyData.eqv, PyData.eqvAll]
/-! ### the stream of draws: the list at a, the numbers left at l, n draws made -/
def StreamAt (H : Hp) (a l : Addr) (n : Nat) : Prop := a ≠ l ∧ ∃ (ns : List Int) (x z : Int), H a = some (.lst [.ref l, .int x, .int (n : Int), .int z]) ∧ H l = some (.lst (ns.map V.int)) ∧ ns.length ≤ 63 ∧ 0 ≤ x ∧ 0 ≤ z ∧ z < 2147483647
/-- all but the stream is kept -/
def Keep (a l : Addr) (H H' : Hp) : Prop := ∀ c o, c ≠ a → c ≠ l → H c = some o → H' c = some o
theorem Keep.refl (a l : Addr) (H : Hp) : Keep a l H H := fun _ _ _ _ h => h
theorem Keep.trans {a l : Addr} {H H1 H2 : Hp} (h : Keep a l H H1) (h' : Keep a l H1 H2) : Keep a l H H2 := fun c o x y e => h' c o x y (h c o x y e)
theorem Keep.of {a l : Addr} {H H' : Hp} (h : Same H H') : Keep a l H H' := fun c o _ _ e => h c o e
theorem StreamAt.same {H H' : Hp} {a l : Addr} {n : Nat} (h : StreamAt H a l n) (s : Same H H') : StreamAt H' a l n := by
  obtain ⟨ne, ns, x, z, h1, h2, h3⟩ := h
  exact ⟨ne, ns, x, z, s _ _ h1, s _ _ h2, h3⟩
def spDraw : Sp := fun vs H Q _ => ∃ (a l : Addr) (n : Nat) (many : Int), vs = [.ref a, .int many] ∧ StreamAt H a l n ∧ n ≤ 100000 ∧ 0 < many ∧ Sm 9000 many ∧
  ∀ (r : Int) (H' : Hp), 0 ≤ r → r < many → StreamAt H' a l (n + 1) → Keep a l H H' → Q (.int r) H'
section
variable {P : Program} {w : World} {K : PySem.W.Frag} {mg : Str → Option Value} {base : Heap} {C : Addr}
theorem scDraw : FnScope ["_law_stream", "_law_many", "_law_digit", "_law_mixed"] ["_law_stream", "_law_many"] (defScope sDraw) := ⟨rfl, rfl, rfl, by decide +kernel, rfl, by decide +kernel, by decide +kernel⟩
theorem ok_draw {f : Addr} {fd : FuncData} (F : Fun K "_law_draw" "_law_draw" sDraw f fd) (T : Txt K mg C) : FnOk P w K mg base CX0 1 f fd ["_law_stream", "_law_many"] spDraw := by
  refine F.ok scDraw (fun vs H Q E h => ?_) (fun cdv A outer s H vs Q E hr h => ?_)
  · obtain ⟨a, l, n, many, rfl, _⟩ := h
    rfl
  · obtain ⟨a, l, n, many, rfl, ⟨ne, ns, x, z, h1, h2, hl, hx, hz0, hz1⟩, hn, hm, hms, k⟩ := h
    have hW : ∀ j : Int, CDivW j many := fun j => ⟨hm, Nat.lt_of_lt_of_le (PySem.Flt.log2_lt_of (by decide) hms) (Nat.le_refl _)⟩
    refine ⟨_, pss_cut (ps_asg (pe_op op_add (pe_ix ix_list (pv 0) pe_int (fun _ _ => rfl)) pe_int) (pg_sub (pv 0) pe_int set_list))
      (pss_cut (ps_if (PW.pt (pw_and (pt_cmpR op_eq (pe_ix ix_list (pv 0) pe_int (fun _ _ => rfl)) pe_int (nomark _)) (pw_and1 (pt_cmpR (op_neD hr.units) (pe_ix ix_list (pv 0) pe_int (fun _ _ => rfl)) (pe_lst pa_nil) (nomark _)))))
        (pss_cons (ps_asg (pe_bm PySem.F.plainAttrs_list PySem.F.slot_list_pop PySem.F.type_list_pop mt_popAt (pe_ix ix_list (pv 0) pe_int (fun _ _ => rfl)) (pa_cons pe_int pa_nil)) (pg_sub (pv 0) pe_int set_list))
          (pss_one (ps_if (pt_cmpR op_lt (pe_ix ix_list (pv 0) pe_int (fun _ _ => rfl)) (pe_op op_pow pe_int pe_int) (nomark _))
            (pss_cons (ps_asg (pe_op op_mod (pe_callTy call_int1 (by rfl) T.int_ boot_int' (pa_cons (pe_op op_add (pe_op op_add (pe_op op_mul (pe_ix ix_list (pv 0) pe_int (fun _ _ => rfl)) pe_int) (pe_ix ix_list (pv 0) pe_int (fun _ _ => rfl))) pe_int) pa_nil)) pe_int) (pg_sub (pv 0) pe_int set_list))
              (pss_one (ps_asg pe_int (pg_sub (pv 0) pe_int set_list)))) pss_nil))) pss_nil)
      (pss_cons (ps_if (pt_cmpR op_gt (pe_ix ix_list (pv 0) pe_int (fun _ _ => rfl)) pe_int (nomark _))
        (pss_cons (ps_set (i := 2) scDraw.nd rfl (Or.inl rfl) (pe_op op_mod (pe_callTy call_int1 (by rfl) T.int_ boot_int' (pa_cons (pe_ix ix_list (pv 0) pe_int (fun _ _ => rfl)) pa_nil)) (pv 1)))
          (pss_cons (ps_asg (pe_op op_fdivW (pe_ix ix_list (pv 0) pe_int (fun _ _ => rfl)) (pv 1)) (pg_sub (pv 0) pe_int set_list))
            (pss_one (ps_ret (pv 2))))) pss_nil)
      (pss_cons (ps_set (i := 3) scDraw.nd rfl (Or.inl rfl) (pe_op op_mod (pe_op op_pow (pe_op op_add (pe_op op_add (pe_ix ix_list (pv 0) pe_int (fun _ _ => rfl)) (pe_op op_mul pe_int (pe_ix ix_list (pv 0) pe_int (fun _ _ => rfl)))) pe_int) pe_int) pe_int))
      (pss_one (ps_ret (pe_op op_mod (pe_op op_mod (pe_op op_pow (pe_op op_add (pe_op op_add (pe_op op_mul (pv 3) pe_int) (pe_op op_mul (pe_op op_mul pe_int (pe_ix ix_list (pv 0) pe_int (fun _ _ => rfl))) (pe_ix ix_list (pv 0) pe_int (fun _ _ => rfl)))) pe_int) pe_int) pe_int) (pv 1))))))), ?_⟩
    refine ⟨fun σ' H' => σ' = [some (V.ref a), some (V.int many), none, none] ∧ H' = upd H a (.lst [.ref l, .int x, .int ((n : Int) + 1), .int z]), ?_, ?_⟩
    · exact ⟨_, rfl, a, _, 2, _, rfl, rfl, SqL.of h1, rfl, _, _, rfl, rfl, _, rfl, a, _, 2, 2, rfl, rfl, h1, rfl, rfl, rfl⟩
    rintro _ _ ⟨rfl, rfl⟩
    refine ⟨fun σ' H' => σ' = [some (V.ref a), some (V.int many), none, none] ∧ ∃ (ns' : List Int) (x' z' : Int), H' a = some (.lst [.ref l, .int x', .int ((n : Int) + 1), .int z']) ∧ H' l = some (.lst (ns'.map V.int)) ∧ ns'.length ≤ 63 ∧ 0 ≤ x' ∧ 0 ≤ z' ∧ z' < 2147483647 ∧ Keep a l H H', ?_, ?_⟩
    · have kp1 : Keep a l H (upd H a (.lst [.ref l, .int x, .int ((n : Int) + 1), .int z])) := fun c o ca _ e => by rw [upd_ne ca]; exact e
      have hl1 : (upd H a (.lst [.ref l, .int x, .int ((n : Int) + 1), .int z])) l = some (.lst (ns.map V.int)) := by rw [upd_ne ne.symm]; exact h2
      refine ⟨_, rfl, a, _, 1, _, rfl, rfl, SqL.of upd_same, rfl, rfl, _, rfl, ifD_2 (fun hx0 => ?_) (fun _ => iteF ?_)⟩
      · refine ⟨_, rfl, a, _, 0, _, rfl, rfl, SqL.of upd_same, rfl, Nat.zero_le _, fun p hp => ?_⟩
        have npa : a ≠ p := fun e => by rw [← e, upd_same] at hp; cases hp
        have npl : l ≠ p := ne_of_none hl1 hp
        have kp2 : Keep a l H (upd (upd H a (.lst [.ref l, .int x, .int ((n : Int) + 1), .int z])) p (.lst [])) := fun c o ca cl e => by
          rw [upd_ne (ne_of_none (kp1 c o ca cl e) hp)]; exact kp1 c o ca cl e
        refine ⟨.list (ns.map PyData.int), .list [], .lst (SqL.of (by rw [upd_ne npl]; exact hl1)) (dp_ints ns), .lst (SqL.of upd_same) .nil, ints_shaped ns, ints_shaped [], _, rfl, ?_⟩
        rw [ints_nil]
        cases ns with
        | nil => exact iteF ⟨rfl, [], x, z, by rw [upd_ne npa, upd_same], by rw [upd_ne npl]; exact hl1, Nat.zero_le _, hx, hz0, hz1, kp2⟩
        | cons y ys =>
          refine iteT ?_
          have ga : (upd (upd H a (.lst [.ref l, .int x, .int ((n : Int) + 1), .int z])) p (.lst [])) a = some (.lst [.ref l, .int x, .int ((n : Int) + 1), .int z]) := by rw [upd_ne npa, upd_same]
          have gl : (upd (upd H a (.lst [.ref l, .int x, .int ((n : Int) + 1), .int z])) p (.lst [])) l = some (.lst ((y :: ys).map V.int)) := by rw [upd_ne npl]; exact hl1
          generalize (upd (upd H a (.lst [.ref l, .int x, .int ((n : Int) + 1), .int z])) p (.lst [])) = Hb at ga gl kp2
          refine ⟨_, rfl, a, _, 0, _, rfl, rfl, SqL.of ga, rfl, .inl ⟨rfl, _, SqL.of gl⟩, l, _, 0, 0, .int y, rfl, rfl, gl, by decide, by decide, (ixN_seq (Evl.ixN_nat (j := 0) (by simp))).1, rfl, ?_⟩
          have ga2 : (upd Hb l (.lst (((y :: ys).map V.int).eraseIdx 0))) a = some (.lst [.ref l, .int x, .int ((n : Int) + 1), .int z]) := by rw [upd_ne ne]; exact ga
          refine ⟨_, rfl, a, _, 1, 1, rfl, rfl, ga2, rfl, ?_⟩
          have kp3 : ∀ o, Keep a l H (upd (upd Hb l (.lst (((y :: ys).map V.int).eraseIdx 0))) a o) := fun o c u ca cl e => by rw [upd_ne ca, upd_ne cl]; exact kp2 c u ca cl e
          have gl3 : ∀ o, (upd (upd Hb l (.lst (((y :: ys).map V.int).eraseIdx 0))) a o) l = some (.lst (ys.map V.int)) := fun o => by rw [upd_ne ne.symm, upd_same]; rfl
          have hys : ys.length ≤ 63 := Nat.le_trans (Nat.le_succ _) hl
          refine ⟨_, rfl, a, _, 1, _, rfl, rfl, SqL.of upd_same, rfl, 10, 18, rfl, rfl, (by show CPow 10 18; unfold CPow; decide), _, _, rfl, rfl, _, rfl, ifD_2 (fun hy => ?_) (fun hy => ?_)⟩
          · refine ⟨_, rfl, a, _, 3, _, rfl, rfl, SqL.of upd_same, rfl, _, _, rfl, rfl, .inr (by decide), _, rfl, a, _, 1, _, rfl, rfl, SqL.of upd_same, rfl, _, _, rfl, rfl, _, _, rfl, rfl, .inl ⟨_, rfl, _, _, rfl, rfl, (by show (0 : Int) < 2147483647; decide), _, rfl, a, _, 3, 3, rfl, rfl, upd_same, rfl, ?_⟩⟩
            refine ⟨_, rfl, a, _, 1, 1, rfl, rfl, upd_same, rfl, ?_⟩
            rw [upd_upd, upd_upd]
            exact ⟨rfl, ys, 0, (z * 31 + y + 7) % 2147483647, upd_same, gl3 _, hys, by decide, Int.emod_nonneg _ (by decide), Int.emod_lt_of_pos _ (by decide), kp3 _⟩
          · exact ⟨rfl, ys, y, z, upd_same, gl3 _, hys, by
              have h18 : (0 : Int) ≤ 10 ^ (18 : Int).toNat := by decide
              omega, hz0, hz1, kp3 _⟩
      · exact ⟨rfl, ns, x, z, upd_same, hl1, hl, hx, hz0, hz1, kp1⟩
    rintro _ H1 ⟨rfl, ns', x', z', g1, g2, gl, gx, gz0, gz1, kp⟩
    refine ⟨_, rfl, a, _, 1, _, rfl, rfl, SqL.of g1, rfl, _, _, rfl, rfl, _, rfl, ifD_2 (fun hp => ?_) (fun _ => ?_)⟩
    · refine ⟨_, rfl, a, _, 1, _, rfl, rfl, SqL.of g1, rfl, .inl ⟨_, rfl, _, rfl, _, _, rfl, rfl, hm, ?_⟩⟩
      refine ⟨_, rfl, a, _, 1, _, rfl, rfl, SqL.of g1, rfl, _, rfl, _, _, rfl, rfl, hW _, _, rfl, a, _, 1, 1, rfl, rfl, g1, rfl, _, rfl, ?_⟩
      refine k (x' % many) _ (Int.emod_nonneg _ (by omega)) (Int.emod_lt_of_pos _ hm) ⟨ne, ns', x' / many, z', upd_same, by rw [upd_ne ne.symm]; exact g2, gl, Int.ediv_nonneg gx (by omega), gz0, gz1⟩ fun c o ca cl e => by
        rw [upd_ne ca]; exact kp c o ca cl e
    · have hn' : (n : Int) ≤ 100000 := by omega
      have hn0 : (0 : Int) ≤ n := by omega
      refine ⟨_, rfl, a, _, 3, _, rfl, rfl, SqL.of g1, rfl, _, rfl, a, _, 2, _, rfl, rfl, SqL.of g1, rfl, _, _, rfl, rfl, .inl (by decide), _, _, rfl, rfl, _, _, rfl, rfl, _, _, rfl, rfl, ?_, _, _, rfl, rfl, (by show (0 : Int) < 2147483629; decide), ?_⟩
      · show CPow _ 5
        refine ⟨by decide, by decide, ?_⟩
        have e64 : (2 : Nat) ^ 64 = 18446744073709551616 := by decide
        rw [e64]
        omega
      · generalize hmx : ((z' + 104729 * ((n : Int) + 1) + 17) ^ (5 : Int).toNat) % 2147483629 = mx
        have m0 : 0 ≤ mx := by rw [← hmx]; exact Int.emod_nonneg _ (by decide)
        have m1 : mx < 2147483629 := by rw [← hmx]; exact Int.emod_lt_of_pos _ (by decide)
        refine ⟨_, rfl, _, _, rfl, rfl, .inr (by decide), _, rfl, a, _, 2, _, rfl, rfl, SqL.of g1, rfl, _, _, rfl, rfl, .inl (by decide), _, rfl, a, _, 2, _, rfl, rfl, SqL.of g1, rfl, _, _, rfl, rfl, .inr ?_, _, _, rfl, rfl, _, _, rfl, rfl, _, _, rfl, rfl, ?_, _, _, rfl, rfl, (by show (0 : Int) < 1000000007; decide), _, rfl, _, _, rfl, rfl, hm, ?_⟩
        · have e64 : (2 : Int) ^ 64 = 18446744073709551616 := by decide
          rw [e64]
          omega
        · show CPow _ 3
          refine ⟨by decide, by decide, ?_⟩
          have e64 : (2 : Nat) ^ 64 = 18446744073709551616 := by decide
          rw [e64]
          have q0 : 0 ≤ 40503 * ((n : Int) + 1) * ((n : Int) + 1) := Int.mul_nonneg (by omega) (by omega)
          have q1 : 40503 * ((n : Int) + 1) * ((n : Int) + 1) ≤ 40503 * 100001 * 100001 := Int.mul_le_mul (by omega) (by omega) (by omega) (by decide)
          omega
        · exact k _ _ (Int.emod_nonneg _ (by omega)) (Int.emod_lt_of_pos _ hm) ⟨ne, ns', x', z', g1, g2, gl, gx, gz0, gz1⟩ kp
end
theorem sm9000 {x : Int} {n : Nat} (h : Sm n x) (hn : n ≤ 9000) : Sm 9000 x := h.mono hn
theorem sm_small {x : Int} (h : x.natAbs < 8) : Sm 9000 x := sm9000 (n := 3) h (by decide)
def spStart (K : PySem.W.Frag) : Sp := fun vs H Q _ => ∃ (p : Addr) (ns : List Int), vs = [.ref p] ∧ SqL K H p (ns.map V.int) ∧ ns.length ≤ 63 ∧ ∀ (a l : Addr) (H' : Hp), StreamAt H' a l 0 → H a = none → H l = none → Same H H' → Q (.ref a) H'
section
variable {P : Program} {w : World} {K : PySem.W.Frag} {mg : Str → Option Value} {base : Heap} {C : Addr}
theorem scStart : FnScope ["_law_script"] ["_law_script"] (defScope sStart) := ⟨rfl, rfl, rfl, by decide +kernel, rfl, by decide +kernel, by decide +kernel⟩
theorem ok_start {f : Addr} {fd : FuncData} (F : Fun K "_law_start" "_law_start" sStart f fd) (T : Txt K mg C) : FnOk P w K mg base CX0 1 f fd ["_law_script"] (spStart K) := by
  refine F.ok scStart (fun vs H Q E h => ?_) (fun cdv A outer s H vs Q E hr h => ?_)
  · obtain ⟨p, ns, rfl, _⟩ := h
    rfl
  · obtain ⟨p, ns, rfl, hS, hl, k⟩ := h
    refine ⟨_, pss_one (ps_ret (pe_lst (pa_cons (pe_callTy call_list_of (by rfl) T.list_ boot_list' (pa_cons (pv 0) pa_nil)) (pa_cons pe_int (pa_cons pe_int (pa_cons pe_int pa_nil)))))), ?_⟩
    refine ⟨_, rfl, p, _, rfl, .inl hS, fun l hl' => ⟨by show 4 ≤ sizeLine; decide, fun a ha => ?_⟩⟩
    have nal : a ≠ l := fun e => by rw [e, upd_same] at ha; cases ha
    have ha0 : H a = Option.none := by rw [upd_ne nal] at ha; exact ha
    exact k a l _ ⟨nal, ns, 0, 0, upd_same, by rw [upd_ne nal.symm, upd_same], hl, by decide, by decide, by decide⟩ ha0 hl' ((Same.new hl').trans (Same.new ha))
end
end PA

set_option maxHeartbeats 4000000
namespace PA
open PySem L2 RZ
open C8 (pss_cut tCut)
def mv (r : Rw) (b : Bool) : List V := if b = true then [.int r.2.2.1, .bl r.2.2.2] else [.int r.1, .bl r.2.1]
theorem atI_nat {α : Type} {xs : List α} {i : Nat} {x : α} (h : xs[i]? = some x) : atI xs (i : Int) = some x := by
  unfold atI
  rw [Evl.ixN_nat (List.getElem?_eq_some_iff.mp h).1]
  exact h
theorem Each.get {H : Hp} {P : Hp → Addr → Rw → Prop} {xs : List V} {rows : List Rw} (e : Each H P xs rows) {i : Nat} {r : Rw} (h : rows[i]? = some r) : ∃ c, xs[i]? = some (.ref c) ∧ P H c r := by
  have hi : i < xs.length := by rw [e.1]; exact (List.getElem?_eq_some_iff.mp h).1
  obtain ⟨c, hc, q⟩ := e.2 i _ r (List.getElem?_eq_getElem hi) h
  exact ⟨c, by rw [List.getElem?_eq_getElem hi, hc], q⟩
def spStep (K : PySem.W.Frag) (C : Addr) : Sp := fun vs H Q _ => ∃ (p : Addr) (rows : List Rw) (starts : List Int) (k : Int) (i : Nat) (b : Bool) (r : Rw), vs = [.ref p, .int (i : Int), .bl b] ∧ RuleAt K C H p rows starts k ∧ rows[i]? = some r ∧
  ∀ t H', Same H H' → H' t = some (.tup (mv r b)) → Q (.ref t) H'
def spLen (K : PySem.W.Frag) (C : Addr) : Sp := fun vs H Q _ => ∃ (p : Addr) (rows : List Rw) (starts : List Int) (k : Int), vs = [.ref p] ∧ RuleAt K C H p rows starts k ∧ Q (.int (rows.length : Int)) H
/-- a row of the law's table (a tuple) -/
def spAfter : Sp := fun vs H Q _ => ∃ (c : Addr) (b : Bool) (r : Rw), vs = [.ref c, .bl b] ∧ isT H c r ∧ ∀ t H', Same H H' → H' t = some (.tup (mv r b)) → Q (.ref t) H'
section
variable {P : Program} {w : World} {K : PySem.W.Frag} {mg : Str → Option Value} {base : Heap} {C : Addr}
theorem scStep : FnScope ["self", "state", "behind", "next_ahead", "falls", "next_behind", "goes"] ["self", "state", "behind"] (defScope sStep) := ⟨rfl, rfl, rfl, by decide +kernel, rfl, by decide +kernel, by decide +kernel⟩
theorem ok_step {f : Addr} {fd : FuncData} (F : Fun K "step" "Rule.step" sStep f fd) (T : Txt K mg C) : FnOk P w K mg base CX0 1 f fd ["self", "state", "behind"] (spStep K C) := by
  refine F.ok scStep (fun vs H Q E h => ?_) (fun cdv A outer s H vs Q E hr h => ?_)
  · obtain ⟨p, _, _, _, _, _, _, rfl, _⟩ := h
    rfl
  · obtain ⟨p, rows, starts, k, i, b, ⟨ra, rb, rc, rd⟩, rfl, ⟨dx, R, S, refs, hp, hR, hE, hS⟩, hi, kk⟩ := h
    obtain ⟨c, hc, hcr⟩ := hE.get hi
    refine ⟨_, pss_cons (ps_asg (pe_ix ix_tup (pe_fld (pv 0) rfl) (pv 1) (fun _ _ => rfl)) (pg_tup rfl (pgs_cons (pg_name (i := 3) scStep.nd rfl (Or.inl rfl)) (pgs_cons (pg_name (i := 4) scStep.nd rfl (Or.inl rfl)) (pgs_cons (pg_name (i := 5) scStep.nd rfl (Or.inl rfl)) (pgs_cons (pg_name (i := 6) scStep.nd rfl (Or.inl rfl)) pgs_nil))))))
      (pss_cons (ps_if (pt_val (pv 2)) (pss_one (ps_ret (pe_tup (pa_cons (pv 5) (pa_cons (pv 6) pa_nil))))) pss_nil)
      (pss_one (ps_ret (pe_tup (pa_cons (pv 3) (pa_cons (pv 4) pa_nil)))))), ?_⟩
    refine ⟨_, rfl, p, C, dx, _, _, rfl, hp, T.cl, T.nR, rf_rows _ _ _, _, rfl, R, _, _, _, rfl, rfl, SqT.of hR, atI_nat hc, ?_⟩
    refine ⟨c, _, rfl, SqT.of hcr, rfl, _, _, rfl, _, _, rfl, _, _, rfl, _, _, rfl, rfl, ?_⟩
    refine ⟨_, rfl, b, rfl, ?_⟩
    cases b with
    | true =>
      refine iteT ⟨_, rfl, _, rfl, by show 2 ≤ sizeLine; decide, fun tp htp => ?_⟩
      exact kk tp _ (Same.new htp) upd_same
    | false =>
      refine iteF ⟨_, rfl, _, rfl, by show 2 ≤ sizeLine; decide, fun tp htp => ?_⟩
      exact kk tp _ (Same.new htp) upd_same
theorem scLen : FnScope ["self"] ["self"] (defScope sLen) := ⟨rfl, rfl, rfl, by decide +kernel, rfl, by decide +kernel, by decide +kernel⟩
theorem ok_len {f : Addr} {fd : FuncData} (F : Fun K "__len__" "Rule.__len__" sLen f fd) (T : Txt K mg C) : FnOk P w K mg base CX0 1 f fd ["self"] (spLen K C) := by
  refine F.ok scLen (fun vs H Q E h => ?_) (fun cdv A outer s H vs Q E hr h => ?_)
  · obtain ⟨p, _, _, _, rfl, _⟩ := h
    rfl
  · obtain ⟨p, rows, starts, k, rfl, ⟨dx, R, S, refs, hp, hR, hE, hS⟩, kk⟩ := h
    refine ⟨_, pss_one (ps_ret (pe_callB call_len_seq (by rfl) T.len_ PySem.boot_len (pa_cons (pe_fld (pv 0) rfl) pa_nil))), ?_⟩
    refine ⟨_, rfl, p, C, dx, _, _, rfl, hp, T.cl, T.nR, rf_rows _ _ _, R, _, rfl, .inr (SqT.of hR), ?_⟩
    rw [hE.1]
    exact kk
theorem scAfter : FnScope ["_law_row", "_law_behind"] ["_law_row", "_law_behind"] (defScope sAfter) := ⟨rfl, rfl, rfl, by decide +kernel, rfl, by decide +kernel, by decide +kernel⟩
theorem ok_after {f : Addr} {fd : FuncData} (F : Fun K "_law_m_after" "_law_m_after" sAfter f fd) (T : Txt K mg C) : FnOk P w K mg base CX0 1 f fd ["_law_row", "_law_behind"] spAfter := by
  refine F.ok scAfter (fun vs H Q E h => ?_) (fun cdv A outer s H vs Q E hr h => ?_)
  · obtain ⟨c, _, _, rfl, _⟩ := h
    rfl
  · obtain ⟨c, b, ⟨ra, rb, rc, rd⟩, rfl, hc, kk⟩ := h
    refine ⟨_, pss_one (ps_ret (pe_ifExp (pt_val (pv 1)) (pe_tup (pa_cons (pe_ix ix_tup (pv 0) pe_int (fun _ _ => rfl)) (pa_cons (pe_ix ix_tup (pv 0) pe_int (fun _ _ => rfl)) pa_nil))) (pe_tup (pa_cons (pe_ix ix_tup (pv 0) pe_int (fun _ _ => rfl)) (pa_cons (pe_ix ix_tup (pv 0) pe_int (fun _ _ => rfl)) pa_nil))))), ?_⟩
    refine ⟨_, rfl, b, rfl, ?_⟩
    cases b with
    | true =>
      refine iteT ⟨_, rfl, c, _, 2, _, rfl, rfl, SqT.of hc, rfl, _, rfl, c, _, 3, _, rfl, rfl, SqT.of hc, rfl, by show 2 ≤ sizeLine; decide, fun tp htp => ?_⟩
      exact kk tp _ (Same.new htp) upd_same
    | false =>
      refine iteF ⟨_, rfl, c, _, 0, _, rfl, rfl, SqT.of hc, rfl, _, rfl, c, _, 1, _, rfl, rfl, SqT.of hc, rfl, by show 2 ≤ sizeLine; decide, fun tp htp => ?_⟩
      exact kk tp _ (Same.new htp) upd_same
end
end PA

set_option maxHeartbeats 4000000
namespace PA
open PySem L2 RZ
/-! ### a comprehension over zip -/
section
variable {K : PySem.W.Frag} {a b : Addr} {xs ys : List V} {g : TG} {tt : TT} {te : TE} {vs : List Nat} {σ : L2.St} {H1 : Hp} {D : Addr} {Qd : Hp → Prop}
theorem lc_zipL (hl : xs.length = ys.length) (Pv : Nat → Hp → Prop) (h0 : Pv 0 (upd H1 D (.lst []))) (hq : ∀ i H, Pv i H → SqL K H a xs ∧ SqL K H b ys)
    (hs : ∀ (i : Nat) (x y : V) (T : Addr) (H : Hp), xs[i]? = some x → ys[i]? = some y → Pv i H → H T = none → g (.ref T) (wipe σ vs) (upd H T (.tup [x, y])) fun σ2 H2 => wipe σ2 vs = wipe σ vs ∧ tt σ2 H2 fun c H3 =>
      if c = true then te σ2 H3 fun z H4 => ∃ acc, H4 D = some (.lst acc) ∧ acc.length < sizeLine ∧ Pv (i + 1) (upd H4 D (.lst (acc ++ [z]))) else Pv (i + 1) H3) (hd : ∀ H, Pv xs.length H → Qd H) :
    ∃ W : Nat → Nat → Hp → Prop, (∃ m, W 0 m (upd H1 D (.lst []))) ∧ ∀ i m H, W i m H →
      ((Itz K a b).stop i H ∧ Qd H) ∨ ((Itz K a b).go i H ∧ ∃ Nx : Hp → Prop, (∀ H', Nx H' → ∃ m', m' < m ∧ W (i + 1) m' H') ∧ ∀ x H', (Itz K a b).yld i H x H' → g x (wipe σ vs) H' fun σ2 H2 => wipe σ2 vs = wipe σ vs ∧ tt σ2 H2 fun c H3 =>
        if c = true then te σ2 H3 fun z H4 => ∃ acc, H4 D = some (.lst acc) ∧ acc.length < sizeLine ∧ Nx (upd H4 D (.lst (acc ++ [z]))) else Nx H3) := by
  refine ⟨fun i m H => m = xs.length - i ∧ i ≤ xs.length ∧ Pv i H, ⟨xs.length, rfl, Nat.zero_le _, h0⟩, ?_⟩
  rintro i m H ⟨rfl, hi, p⟩
  obtain ⟨qx, qy⟩ := hq i H p
  by_cases hlt : i < xs.length
  · have hx : xs[i]? = some xs[i] := List.getElem?_eq_getElem hlt
    have hlt2 : i < ys.length := by omega
    have hy : ys[i]? = some ys[i] := List.getElem?_eq_getElem hlt2
    refine .inr ⟨⟨xs, ys, _, _, qx, qy, hx, hy⟩, Pv (i + 1), fun H' p' => ⟨xs.length - (i + 1), by omega, rfl, hlt, p'⟩, fun v H' y => ?_⟩
    obtain ⟨T, x', y', rfl, hT, rfl, f1, f2⟩ := y
    exact hs i x' y' T H (f1 xs qx) (f2 ys qy) p hT
  · have e : i = xs.length := by omega
    subst e
    exact .inl ⟨⟨xs, ys, qx, qy, Or.inl (Nat.le_refl _)⟩, hd H p⟩
theorem lc_zipT (hl : xs.length = ys.length) (Pv : Nat → Hp → Prop) (h0 : Pv 0 (upd H1 D (.lst []))) (hq : ∀ i H, Pv i H → SqT K H a xs ∧ SqT K H b ys)
    (hs : ∀ (i : Nat) (x y : V) (T : Addr) (H : Hp), xs[i]? = some x → ys[i]? = some y → Pv i H → H T = none → g (.ref T) (wipe σ vs) (upd H T (.tup [x, y])) fun σ2 H2 => wipe σ2 vs = wipe σ vs ∧ tt σ2 H2 fun c H3 =>
      if c = true then te σ2 H3 fun z H4 => ∃ acc, H4 D = some (.lst acc) ∧ acc.length < sizeLine ∧ Pv (i + 1) (upd H4 D (.lst (acc ++ [z]))) else Pv (i + 1) H3) (hd : ∀ H, Pv xs.length H → Qd H) :
    ∃ W : Nat → Nat → Hp → Prop, (∃ m, W 0 m (upd H1 D (.lst []))) ∧ ∀ i m H, W i m H →
      ((ItzT K a b).stop i H ∧ Qd H) ∨ ((ItzT K a b).go i H ∧ ∃ Nx : Hp → Prop, (∀ H', Nx H' → ∃ m', m' < m ∧ W (i + 1) m' H') ∧ ∀ x H', (ItzT K a b).yld i H x H' → g x (wipe σ vs) H' fun σ2 H2 => wipe σ2 vs = wipe σ vs ∧ tt σ2 H2 fun c H3 =>
        if c = true then te σ2 H3 fun z H4 => ∃ acc, H4 D = some (.lst acc) ∧ acc.length < sizeLine ∧ Nx (upd H4 D (.lst (acc ++ [z]))) else Nx H3) := by
  refine ⟨fun i m H => m = xs.length - i ∧ i ≤ xs.length ∧ Pv i H, ⟨xs.length, rfl, Nat.zero_le _, h0⟩, ?_⟩
  rintro i m H ⟨rfl, hi, p⟩
  obtain ⟨qx, qy⟩ := hq i H p
  by_cases hlt : i < xs.length
  · have hx : xs[i]? = some xs[i] := List.getElem?_eq_getElem hlt
    have hlt2 : i < ys.length := by omega
    have hy : ys[i]? = some ys[i] := List.getElem?_eq_getElem hlt2
    refine .inr ⟨⟨xs, ys, _, _, qx, qy, hx, hy⟩, Pv (i + 1), fun H' p' => ⟨xs.length - (i + 1), by omega, rfl, hlt, p'⟩, fun v H' y => ?_⟩
    obtain ⟨T, x', y', rfl, hT, rfl, f1, f2⟩ := y
    exact hs i x' y' T H (f1 xs qx) (f2 ys qy) p hT
  · have e : i = xs.length := by omega
    subst e
    exact .inl ⟨⟨xs, ys, qx, qy, Or.inl (Nat.le_refl _)⟩, hd H p⟩
end
/-! ### two values that are the same, to the depth n: ints, bools, lists and tuples of such -/
inductive Two (K : PySem.W.Frag) (H : Hp) : Nat → V → V → Prop where
  | bl (n : Nat) (b : Bool) : Two K H n (.bl b) (.bl b)
  | int (n : Nat) (i : Int) : Two K H n (.int i) (.int i)
  | lst {n : Nat} {a b : Addr} {xs ys : List V} (ha : H a = some (.lst xs)) (hb : H b = some (.lst ys)) (hl : xs.length = ys.length) (hsz : xs.length ≤ sizeLine) (hi : ∀ (i : Nat) (x y : V), xs[i]? = some x → ys[i]? = some y → Two K H n x y) : Two K H (n + 1) (.ref a) (.ref b)
  | tup {n : Nat} {a b : Addr} {xs ys : List V} (ha : SqT K H a xs) (hb : SqT K H b ys) (hl : xs.length = ys.length) (hsz : xs.length ≤ sizeLine) (hi : ∀ (i : Nat) (x y : V), xs[i]? = some x → ys[i]? = some y → Two K H n x y) : Two K H (n + 1) (.ref a) (.ref b)
theorem Two.same {K : PySem.W.Frag} {H H' : Hp} {n : Nat} {x y : V} (t : Two K H n x y) (s : Same H H') : Two K H' n x y := by
  induction t with
  | bl n b => exact .bl n b
  | int n i => exact .int n i
  | lst ha hb hl hz _ ih => exact .lst (s _ _ ha) (s _ _ hb) hl hz ih
  | tup ha hb hl hz _ ih => exact .tup (SqT.up ha s) (SqT.up hb s) hl hz ih
theorem tyT {K : PySem.W.Frag} {H : Hp} {a : Addr} {xs : List V} (h : SqT K H a xs) : TyX K H (.ref a) (.type "tuple") := by
  rcases h with (h | ⟨ob, h⟩) | ⟨o, its, n, h1, h2, _⟩
  · exact .base (.tup h)
  · exact .fTuple h
  · exact .kTuple h1 h2
def spSame (K : PySem.W.Frag) (n : Nat) : Sp := fun vs H Q _ => ∃ x y, vs = [x, y] ∧ Two K H n x y ∧ ∀ H', Same H H' → Q (.bl true) H'
section
variable {P : Program} {w : World} {K : PySem.W.Frag} {mg : Str → Option Value} {base : Heap} {C : Addr}
theorem scSame : FnScope ["_law_found", "_law_due", "_law_one", "_law_other"] ["_law_found", "_law_due"] (defScope sSame) := ⟨rfl, rfl, rfl, by decide +kernel, rfl, by decide +kernel, by decide +kernel⟩
theorem kit2 {t : String} {b1 b2 r : Bool} (h1 : kitB t "list" = some b1) (h2 : kitB t "tuple" = some b2) (hr : (b1 || b2) = r) : PySem.W.kitAny K (.type t) [.type "list", .type "tuple"] = some r := by
  subst hr
  refine kitAny_cons (b := b1) (kit_ty h1) (fun e => ?_) (fun e => by rw [e]; rfl)
  subst e
  refine kitAny_cons (b := b2) (kit_ty h2) (fun e => ?_) (fun e => by rw [e]; rfl)
  subst e
  exact kitAny_nil
theorem ok_same {f : Addr} {fd : FuncData} (D : Df K mg "_law_same" sSame f fd ["_law_found", "_law_due"]) (T : Txt K mg C) : ∀ n : Nat, FnOk P w K mg base CX0 (n + 1) f fd ["_law_found", "_law_due"] (spSame K n) := by
  have hlen : ∀ n, ∀ vs H Q E, spSame K n vs H Q E → vs.length = (["_law_found", "_law_due"] : List Str).length := fun n vs H Q E h => by
    obtain ⟨x, y, rfl, _⟩ := h
    rfl
  intro n
  induction n with
  | zero =>
    refine D.F.ok scSame (hlen 0) (fun cdv A outer s H vs Q E hr h => ?_)
    obtain ⟨x, y, rfl, t, k⟩ := h
    refine ⟨_, pss_cons (ps_if (pt_val (pe_callB call_isiT (by rfl) T.isi boot_isi (pa_cons (pv 1) (pa_cons (pe_tup (pa_cons (pe_bltn (v := .ty "list") (by rfl) T.list_ boot_list' rfl) (pa_cons (pe_bltn (v := .ty "tuple") (by rfl) T.tup_ boot_tuple' rfl) pa_nil))) pa_nil)))) pss_never pss_nil)
      (pss_cons (ps_if (pt_val (pe_callB call_isi (by rfl) T.isi boot_isi (pa_cons (pv 1) (pa_cons (pe_bltn (v := .ty "int") (by rfl) T.int_ boot_int' rfl) pa_nil))))
        (pss_one (ps_ret (pe_and (pe_callB call_isi (by rfl) T.isi boot_isi (pa_cons (pv 0) (pa_cons (pe_bltn (v := .ty "int") (by rfl) T.int_ boot_int' rfl) pa_nil)))
          (pe_and (pe_cmpR op_eq (pe_callB call_isi (by rfl) T.isi boot_isi (pa_cons (pv 0) (pa_cons (pe_bltn (v := .ty "bool") (by rfl) T.bool_ boot_bool' rfl) pa_nil))) (pe_callB call_isi (by rfl) T.isi boot_isi (pa_cons (pv 1) (pa_cons (pe_bltn (v := .ty "bool") (by rfl) T.bool_ boot_bool' rfl) pa_nil))) (nomark _))
            (pe_one (pe_cmpR op_eq (pv 0) (pv 1) (nomark _))))))) pss_nil) pss_never), ?_⟩
    cases t with
    | int _ i =>
      refine ⟨_, rfl, by show 2 ≤ sizeLine; decide, fun tp htp => ⟨_, tp, _, _, [.type "list", .type "tuple"], _, rfl, upd_same, .cons (.ty _) (.cons (.ty _) .nil), .base (.int i), kit2 (b1 := false) (b2 := false) (by decide +kernel) (by decide +kernel) rfl, _, rfl, iteF ?_⟩⟩
      refine ⟨_, rfl, _, _, _, _, _, rfl, .ty _, .base (.int i), kit_ty (b := "int") (r := true) (by decide +kernel), _, rfl, iteT ?_⟩
      refine ⟨_, rfl, _, _, _, _, _, rfl, .ty _, .base (.int i), kit_ty (b := "int") (r := true) (by decide +kernel), _, rfl, iteT ?_⟩
      refine ⟨_, rfl, _, _, _, _, _, rfl, .ty _, .base (.int i), kit_ty (b := "bool") (r := false) (by decide +kernel), _, rfl, _, _, _, _, _, rfl, .ty _, .base (.int i), kit_ty (b := "bool") (r := false) (by decide +kernel), rfl, _, rfl, ifD_yes rfl ?_⟩
      refine ⟨_, rfl, _, rfl, rfl, ?_⟩
      show Q (V.bl (decide (V.int i = V.int i))) _
      rw [decide_eq_true rfl]
      exact k _ (Same.new htp)
    | bl _ b =>
      refine ⟨_, rfl, by show 2 ≤ sizeLine; decide, fun tp htp => ⟨_, tp, _, _, [.type "list", .type "tuple"], _, rfl, upd_same, .cons (.ty _) (.cons (.ty _) .nil), .base (.bl b), kit2 (b1 := false) (b2 := false) (by decide +kernel) (by decide +kernel) rfl, _, rfl, iteF ?_⟩⟩
      refine ⟨_, rfl, _, _, _, _, _, rfl, .ty _, .base (.bl b), kit_ty (b := "int") (r := true) (by decide +kernel), _, rfl, iteT ?_⟩
      refine ⟨_, rfl, _, _, _, _, _, rfl, .ty _, .base (.bl b), kit_ty (b := "int") (r := true) (by decide +kernel), _, rfl, iteT ?_⟩
      refine ⟨_, rfl, _, _, _, _, _, rfl, .ty _, .base (.bl b), kit_ty (b := "bool") (r := true) (by decide +kernel), _, rfl, _, _, _, _, _, rfl, .ty _, .base (.bl b), kit_ty (b := "bool") (r := true) (by decide +kernel), rfl, _, rfl, ifD_yes rfl ?_⟩
      refine ⟨_, rfl, _, rfl, rfl, ?_⟩
      show Q (V.bl (decide (V.bl b = V.bl b))) _
      rw [decide_eq_true rfl]
      exact k _ (Same.new htp)
  | succ n ih =>
    refine D.F.ok scSame (hlen (n + 1)) (fun cdv A outer s H vs Q E hr h => ?_)
    obtain ⟨x, y, rfl, t, k⟩ := h
    cases t with
    | int _ i =>
      refine ⟨_, pss_cons (ps_if (pt_val (pe_callB call_isiT (by rfl) T.isi boot_isi (pa_cons (pv 1) (pa_cons (pe_tup (pa_cons (pe_bltn (v := .ty "list") (by rfl) T.list_ boot_list' rfl) (pa_cons (pe_bltn (v := .ty "tuple") (by rfl) T.tup_ boot_tuple' rfl) pa_nil))) pa_nil)))) pss_never pss_nil)
      (pss_cons (ps_if (pt_val (pe_callB call_isi (by rfl) T.isi boot_isi (pa_cons (pv 1) (pa_cons (pe_bltn (v := .ty "int") (by rfl) T.int_ boot_int' rfl) pa_nil))))
        (pss_one (ps_ret (pe_and (pe_callB call_isi (by rfl) T.isi boot_isi (pa_cons (pv 0) (pa_cons (pe_bltn (v := .ty "int") (by rfl) T.int_ boot_int' rfl) pa_nil)))
          (pe_and (pe_cmpR op_eq (pe_callB call_isi (by rfl) T.isi boot_isi (pa_cons (pv 0) (pa_cons (pe_bltn (v := .ty "bool") (by rfl) T.bool_ boot_bool' rfl) pa_nil))) (pe_callB call_isi (by rfl) T.isi boot_isi (pa_cons (pv 1) (pa_cons (pe_bltn (v := .ty "bool") (by rfl) T.bool_ boot_bool' rfl) pa_nil))) (nomark _))
            (pe_one (pe_cmpR op_eq (pv 0) (pv 1) (nomark _))))))) pss_nil) pss_never), ?_⟩
      refine ⟨_, rfl, by show 2 ≤ sizeLine; decide, fun tp htp => ⟨_, tp, _, _, [.type "list", .type "tuple"], _, rfl, upd_same, .cons (.ty _) (.cons (.ty _) .nil), .base (.int i), kit2 (b1 := false) (b2 := false) (by decide +kernel) (by decide +kernel) rfl, _, rfl, iteF ?_⟩⟩
      refine ⟨_, rfl, _, _, _, _, _, rfl, .ty _, .base (.int i), kit_ty (b := "int") (r := true) (by decide +kernel), _, rfl, iteT ?_⟩
      refine ⟨_, rfl, _, _, _, _, _, rfl, .ty _, .base (.int i), kit_ty (b := "int") (r := true) (by decide +kernel), _, rfl, iteT ?_⟩
      refine ⟨_, rfl, _, _, _, _, _, rfl, .ty _, .base (.int i), kit_ty (b := "bool") (r := false) (by decide +kernel), _, rfl, _, _, _, _, _, rfl, .ty _, .base (.int i), kit_ty (b := "bool") (r := false) (by decide +kernel), rfl, _, rfl, ifD_yes rfl ?_⟩
      refine ⟨_, rfl, _, rfl, rfl, ?_⟩
      show Q (V.bl (decide (V.int i = V.int i))) _
      rw [decide_eq_true rfl]
      exact k _ (Same.new htp)
    | bl _ b =>
      refine ⟨_, pss_cons (ps_if (pt_val (pe_callB call_isiT (by rfl) T.isi boot_isi (pa_cons (pv 1) (pa_cons (pe_tup (pa_cons (pe_bltn (v := .ty "list") (by rfl) T.list_ boot_list' rfl) (pa_cons (pe_bltn (v := .ty "tuple") (by rfl) T.tup_ boot_tuple' rfl) pa_nil))) pa_nil)))) pss_never pss_nil)
      (pss_cons (ps_if (pt_val (pe_callB call_isi (by rfl) T.isi boot_isi (pa_cons (pv 1) (pa_cons (pe_bltn (v := .ty "int") (by rfl) T.int_ boot_int' rfl) pa_nil))))
        (pss_one (ps_ret (pe_and (pe_callB call_isi (by rfl) T.isi boot_isi (pa_cons (pv 0) (pa_cons (pe_bltn (v := .ty "int") (by rfl) T.int_ boot_int' rfl) pa_nil)))
          (pe_and (pe_cmpR op_eq (pe_callB call_isi (by rfl) T.isi boot_isi (pa_cons (pv 0) (pa_cons (pe_bltn (v := .ty "bool") (by rfl) T.bool_ boot_bool' rfl) pa_nil))) (pe_callB call_isi (by rfl) T.isi boot_isi (pa_cons (pv 1) (pa_cons (pe_bltn (v := .ty "bool") (by rfl) T.bool_ boot_bool' rfl) pa_nil))) (nomark _))
            (pe_one (pe_cmpR op_eq (pv 0) (pv 1) (nomark _))))))) pss_nil) pss_never), ?_⟩
      refine ⟨_, rfl, by show 2 ≤ sizeLine; decide, fun tp htp => ⟨_, tp, _, _, [.type "list", .type "tuple"], _, rfl, upd_same, .cons (.ty _) (.cons (.ty _) .nil), .base (.bl b), kit2 (b1 := false) (b2 := false) (by decide +kernel) (by decide +kernel) rfl, _, rfl, iteF ?_⟩⟩
      refine ⟨_, rfl, _, _, _, _, _, rfl, .ty _, .base (.bl b), kit_ty (b := "int") (r := true) (by decide +kernel), _, rfl, iteT ?_⟩
      refine ⟨_, rfl, _, _, _, _, _, rfl, .ty _, .base (.bl b), kit_ty (b := "int") (r := true) (by decide +kernel), _, rfl, iteT ?_⟩
      refine ⟨_, rfl, _, _, _, _, _, rfl, .ty _, .base (.bl b), kit_ty (b := "bool") (r := true) (by decide +kernel), _, rfl, _, _, _, _, _, rfl, .ty _, .base (.bl b), kit_ty (b := "bool") (r := true) (by decide +kernel), rfl, _, rfl, ifD_yes rfl ?_⟩
      refine ⟨_, rfl, _, rfl, rfl, ?_⟩
      show Q (V.bl (decide (V.bl b = V.bl b))) _
      rw [decide_eq_true rfl]
      exact k _ (Same.new htp)
    | @lst _ a b xs ys ha hb hl hsz hi =>
      refine ⟨_, pss_cons (ps_if (pt_val (pe_callB call_isiT (by rfl) T.isi boot_isi (pa_cons (pv 1) (pa_cons (pe_tup (pa_cons (pe_bltn (v := .ty "list") (by rfl) T.list_ boot_list' rfl) (pa_cons (pe_bltn (v := .ty "tuple") (by rfl) T.tup_ boot_tuple' rfl) pa_nil))) pa_nil))))
      (pss_cons (ps_if (PW.pt (pw_or (pt_cmpR op_ne (pe_callB call_isi (by rfl) T.isi boot_isi (pa_cons (pv 0) (pa_cons (pe_bltn (v := .ty "list") (by rfl) T.list_ boot_list' rfl) pa_nil))) (pe_callB call_isi (by rfl) T.isi boot_isi (pa_cons (pv 1) (pa_cons (pe_bltn (v := .ty "list") (by rfl) T.list_ boot_list' rfl) pa_nil))) (nomark _)) (pw_or1 (pt_cmpR op_ne (pe_callB call_isi (by rfl) T.isi boot_isi (pa_cons (pv 0) (pa_cons (pe_bltn (v := .ty "tuple") (by rfl) T.tup_ boot_tuple' rfl) pa_nil))) (pe_callB call_isi (by rfl) T.isi boot_isi (pa_cons (pv 1) (pa_cons (pe_bltn (v := .ty "tuple") (by rfl) T.tup_ boot_tuple' rfl) pa_nil))) (nomark _))))) pss_never pss_nil)
        (pss_one (ps_ret (pe_and (pe_cmpR op_eq (pe_callB call_len_seq (by rfl) T.len_ PySem.boot_len (pa_cons (pv 0) pa_nil)) (pe_callB call_len_seq (by rfl) T.len_ PySem.boot_len (pa_cons (pv 1) pa_nil)) (nomark _))
          (pe_one (pe_callB (cr_all rfl) (by rfl) T.all_ boot_all' (pa_cons (pe_lc (own := [("_law_one", 2), ("_law_other", 3)]) (g := gTup K 2 (gCons (gName 2) (gCons (gName 3) gNil))) (tt := tYes) (by rfl) scSame.nd (pi_zipA (by rfl) T.zip_ (pa_cons (pv 0) (pa_cons (pv 1) pa_nil))) (blkOk_by (N := ["_law_found", "_law_due", "_law_one", "_law_other"]) (sc := defScope sSame) (by decide +kernel))
            (fun _ _ _ _ _ => by exact pg_tup rfl (pgs_cons (pg_name (i := 2) scSame.nd rfl (Or.inl rfl)) (pgs_cons (pg_name (i := 3) scSame.nd rfl (Or.inl rfl)) pgs_nil))) (fun _ _ _ _ _ => pts_nil)
            (fun _ _ _ _ _ => pe_call ih hr rfl D.M D.F.kp D.B .nil pass0 (pa_cons (pv 2) (pa_cons (pv 3) pa_nil)))) pa_nil))))))) pss_nil) pss_never, ?_⟩
      refine ⟨_, rfl, by show 2 ≤ sizeLine; decide, fun tp htp => ?_⟩
      have s1 : Same H (upd H tp (.tup [.ty "list", .ty "tuple"])) := Same.new htp
      have hA := s1 _ _ ha
      have hB := s1 _ _ hb
      refine ⟨_, tp, _, _, [.type "list", .type "tuple"], _, rfl, upd_same, .cons (.ty _) (.cons (.ty _) .nil), .base (.lst hB), kit2 (b1 := true) (b2 := false) (by decide +kernel) (by decide +kernel) rfl, _, rfl, iteT ?_⟩
      refine ⟨_, rfl, _, _, _, _, _, rfl, .ty _, .base (.lst hA), kit_ty (b := "list") (r := true) (by decide +kernel), _, rfl, _, _, _, _, _, rfl, .ty _, .base (.lst hB), kit_ty (b := "list") (r := true) (by decide +kernel), rfl, _, rfl, iteNS rfl ?_⟩
      refine ⟨_, rfl, _, _, _, _, _, rfl, .ty _, .base (.lst hA), kit_ty (b := "tuple") (r := false) (by decide +kernel), _, rfl, _, _, _, _, _, rfl, .ty _, .base (.lst hB), kit_ty (b := "tuple") (r := false) (by decide +kernel), rfl, _, rfl, iteNS rfl ?_⟩
      refine ⟨_, rfl, _, _, rfl, .inl (SqL.of hA), _, rfl, _, _, rfl, .inl (SqL.of hB), rfl, _, rfl, ifD_yes (by rw [hl]) ?_⟩
      refine ⟨_, rfl, _, rfl, _, _, xs, ys, rfl, .inl ⟨SqL.of hA, SqL.of hB, fun Dd hD => ?_⟩⟩
      refine lc_zipL hl (fun i H' => Same (upd H tp (.tup [.ty "list", .ty "tuple"])) H' ∧ H' Dd = some (.lst ((List.replicate i true).map V.bl))) ⟨Same.new hD, upd_same⟩ (fun i H' q => ⟨SqL.of (q.1 _ _ hA), SqL.of (q.1 _ _ hB)⟩) ?_ ?_
      · rintro i x y tt H' hx hy ⟨sm, hd⟩ ht
        refine ⟨tt, _, rfl, SqT.of upd_same, rfl, _, _, rfl, _, _, rfl, rfl, rfl, ?_⟩
        dsimp only [tYes]
        rw [if_pos rfl]
        have s2 : Same H' (upd H' tt (.tup [x, y])) := Same.new ht
        refine ⟨_, rfl, _, rfl, x, y, rfl, ((hi i x y hx hy).same s1).same (sm.trans s2), fun H2 s3 => ⟨_, s3 _ _ (s2 _ _ hd), ?_, ?_, ?_⟩⟩
        · rw [List.length_map, List.length_replicate]
          exact Nat.lt_of_lt_of_le (List.getElem?_eq_some_iff.mp hx).1 hsz
        · intro c o e
          rw [upd_ne (ne_of_none e hD)]
          exact s3 _ _ (s2 _ _ (sm _ _ e))
        · rw [upd_same, List.replicate_succ', List.map_append]
          rfl
      · rintro H' ⟨sm, hd⟩
        refine ⟨Dd, _, rfl, SqL.of hd, ?_⟩
        have ea : (List.replicate xs.length true).all id = true := by
          rw [List.all_eq_true]
          intro x hx
          rw [(List.mem_replicate.mp hx).2]
          rfl
        rw [ea]
        exact k _ (s1.trans sm)
    | @tup _ a b xs ys ha hb hl hsz hi =>
      refine ⟨_, pss_cons (ps_if (pt_val (pe_callB call_isiT (by rfl) T.isi boot_isi (pa_cons (pv 1) (pa_cons (pe_tup (pa_cons (pe_bltn (v := .ty "list") (by rfl) T.list_ boot_list' rfl) (pa_cons (pe_bltn (v := .ty "tuple") (by rfl) T.tup_ boot_tuple' rfl) pa_nil))) pa_nil))))
      (pss_cons (ps_if (PW.pt (pw_or (pt_cmpR op_ne (pe_callB call_isi (by rfl) T.isi boot_isi (pa_cons (pv 0) (pa_cons (pe_bltn (v := .ty "list") (by rfl) T.list_ boot_list' rfl) pa_nil))) (pe_callB call_isi (by rfl) T.isi boot_isi (pa_cons (pv 1) (pa_cons (pe_bltn (v := .ty "list") (by rfl) T.list_ boot_list' rfl) pa_nil))) (nomark _)) (pw_or1 (pt_cmpR op_ne (pe_callB call_isi (by rfl) T.isi boot_isi (pa_cons (pv 0) (pa_cons (pe_bltn (v := .ty "tuple") (by rfl) T.tup_ boot_tuple' rfl) pa_nil))) (pe_callB call_isi (by rfl) T.isi boot_isi (pa_cons (pv 1) (pa_cons (pe_bltn (v := .ty "tuple") (by rfl) T.tup_ boot_tuple' rfl) pa_nil))) (nomark _))))) pss_never pss_nil)
        (pss_one (ps_ret (pe_and (pe_cmpR op_eq (pe_callB call_len_seq (by rfl) T.len_ PySem.boot_len (pa_cons (pv 0) pa_nil)) (pe_callB call_len_seq (by rfl) T.len_ PySem.boot_len (pa_cons (pv 1) pa_nil)) (nomark _))
          (pe_one (pe_callB (cr_all rfl) (by rfl) T.all_ boot_all' (pa_cons (pe_lc (own := [("_law_one", 2), ("_law_other", 3)]) (g := gTup K 2 (gCons (gName 2) (gCons (gName 3) gNil))) (tt := tYes) (by rfl) scSame.nd (pi_zipA (by rfl) T.zip_ (pa_cons (pv 0) (pa_cons (pv 1) pa_nil))) (blkOk_by (N := ["_law_found", "_law_due", "_law_one", "_law_other"]) (sc := defScope sSame) (by decide +kernel))
            (fun _ _ _ _ _ => by exact pg_tup rfl (pgs_cons (pg_name (i := 2) scSame.nd rfl (Or.inl rfl)) (pgs_cons (pg_name (i := 3) scSame.nd rfl (Or.inl rfl)) pgs_nil))) (fun _ _ _ _ _ => pts_nil)
            (fun _ _ _ _ _ => pe_call ih hr rfl D.M D.F.kp D.B .nil pass0 (pa_cons (pv 2) (pa_cons (pv 3) pa_nil)))) pa_nil))))))) pss_nil) pss_never, ?_⟩
      refine ⟨_, rfl, by show 2 ≤ sizeLine; decide, fun tp htp => ?_⟩
      have s1 : Same H (upd H tp (.tup [.ty "list", .ty "tuple"])) := Same.new htp
      have hA := SqT.up ha s1
      have hB := SqT.up hb s1
      refine ⟨_, tp, _, _, [.type "list", .type "tuple"], _, rfl, upd_same, .cons (.ty _) (.cons (.ty _) .nil), tyT hB, kit2 (b1 := false) (b2 := true) (by decide +kernel) (by decide +kernel) rfl, _, rfl, iteT ?_⟩
      refine ⟨_, rfl, _, _, _, _, _, rfl, .ty _, tyT hA, kit_ty (b := "list") (r := false) (by decide +kernel), _, rfl, _, _, _, _, _, rfl, .ty _, tyT hB, kit_ty (b := "list") (r := false) (by decide +kernel), rfl, _, rfl, iteNS rfl ?_⟩
      refine ⟨_, rfl, _, _, _, _, _, rfl, .ty _, tyT hA, kit_ty (b := "tuple") (r := true) (by decide +kernel), _, rfl, _, _, _, _, _, rfl, .ty _, tyT hB, kit_ty (b := "tuple") (r := true) (by decide +kernel), rfl, _, rfl, iteNS rfl ?_⟩
      refine ⟨_, rfl, _, _, rfl, .inr (hA), _, rfl, _, _, rfl, .inr (hB), rfl, _, rfl, ifD_yes (by rw [hl]) ?_⟩
      refine ⟨_, rfl, _, rfl, _, _, xs, ys, rfl, .inr ⟨hA, hB, fun Dd hD => ?_⟩⟩
      refine lc_zipT hl (fun i H' => Same (upd H tp (.tup [.ty "list", .ty "tuple"])) H' ∧ H' Dd = some (.lst ((List.replicate i true).map V.bl))) ⟨Same.new hD, upd_same⟩ (fun i H' q => ⟨SqT.up hA q.1, SqT.up hB q.1⟩) ?_ ?_
      · rintro i x y tt H' hx hy ⟨sm, hd⟩ ht
        refine ⟨tt, _, rfl, SqT.of upd_same, rfl, _, _, rfl, _, _, rfl, rfl, rfl, ?_⟩
        dsimp only [tYes]
        rw [if_pos rfl]
        have s2 : Same H' (upd H' tt (.tup [x, y])) := Same.new ht
        refine ⟨_, rfl, _, rfl, x, y, rfl, ((hi i x y hx hy).same s1).same (sm.trans s2), fun H2 s3 => ⟨_, s3 _ _ (s2 _ _ hd), ?_, ?_, ?_⟩⟩
        · rw [List.length_map, List.length_replicate]
          exact Nat.lt_of_lt_of_le (List.getElem?_eq_some_iff.mp hx).1 hsz
        · intro c o e
          rw [upd_ne (ne_of_none e hD)]
          exact s3 _ _ (s2 _ _ (sm _ _ e))
        · rw [upd_same, List.replicate_succ', List.map_append]
          rfl
      · rintro H' ⟨sm, hd⟩
        refine ⟨Dd, _, rfl, SqL.of hd, ?_⟩
        have ea : (List.replicate xs.length true).all id = true := by
          rw [List.all_eq_true]
          intro x hx
          rw [(List.mem_replicate.mp hx).2]
          rfl
        rw [ea]
        exact k _ (s1.trans sm)
end
end PA

set_option maxHeartbeats 4000000
namespace PA
open PySem L2 RZ
open C8 (pss_cut tCut)
theorem StreamAt.ne {H : Hp} {a l p : Addr} {n : Nat} (S : StreamAt H a l n) (h : H p = none) : p ≠ a ∧ p ≠ l := by
  obtain ⟨ne, ns, x, z, h1, h2, _⟩ := S
  exact ⟨(ne_of_none h1 h).symm, (ne_of_none h2 h).symm⟩
theorem sm48 {z : Int} (h1 : 1 ≤ z) (h2 : z ≤ 48) : Sm 9000 z := by
  refine sm9000 (n := 6) ?_ (by decide)
  have e : (2 : Nat) ^ 6 = 64 := by decide
  show z.natAbs < 2 ^ 6
  rw [e]
  omega
theorem isT.kp {H H' : Hp} {a l c : Addr} {n : Nat} {r : Rw} (q : isT H c r) (S : StreamAt H a l n) (k : Keep a l H H') : isT H' c r := by
  obtain ⟨ne, ns, x, z, h1, h2, _⟩ := S
  exact k _ _ (ne_of (H := H) q h1 (by intro z; cases z)) (ne_of (H := H) q h2 (by intro z; cases z)) q
theorem StreamAt.at_ {H : Hp} {a l : Addr} {n m : Nat} (S : StreamAt H a l n) (e : n = m) : StreamAt H a l m := e ▸ S
theorem StreamAt.lst {H : Hp} {a l p : Addr} {n : Nat} {xs ys : List V} (S : StreamAt H a l n) (hp : H p = some (.lst xs)) (pa : p ≠ a) (pl : p ≠ l) : StreamAt (upd H p (.lst ys)) a l n := by
  obtain ⟨ne, ns, x, z, h1, h2, h3⟩ := S
  exact ⟨ne, ns, x, z, by rw [upd_ne pa.symm]; exact h1, by rw [upd_ne pl.symm]; exact h2, h3⟩
def spTable : Sp := fun vs H Q _ => ∃ (a l : Addr) (n : Nat) (most marks : Int), vs = [.ref a, .int most, .int marks] ∧ StreamAt H a l n ∧ n ≤ 1000 ∧ 1 ≤ most ∧ most ≤ 48 ∧ 1 ≤ marks ∧ marks ≤ 4 ∧
  ∀ (t R S : Addr) (refs : List V) (rows : List Rw) (starts : List Int) (k : Int) (n' : Nat) (H' : Hp), H' t = some (.tup [.ref R, .ref S, .int k]) → H' R = some (.lst refs) → Each H' isT refs rows → H' S = some (.lst (starts.map V.int)) → Good rows starts k →
    StreamAt H' a l n' → n' ≤ n + 300 → Keep a l H H' → R ≠ a → R ≠ l → S ≠ a → S ≠ l → H R = none → H S = none → Q (.ref t) H'
section
variable {P : Program} {w : World} {K : PySem.W.Frag} {mg : Str → Option Value} {base : Heap} {C : Addr}
theorem scTable : FnScope ["_law_stream", "_law_most", "_law_marks", "_law_size", "_law_many", "_law_rows", "_law_k", "_law_low", "_law_high"] ["_law_stream", "_law_most", "_law_marks"] (defScope sTable) := ⟨rfl, rfl, rfl, by decide +kernel, rfl, by decide +kernel, by decide +kernel⟩
theorem ok_table {f g : Addr} {fd gd : FuncData} (F : Fun K "_law_m_table" "_law_m_table" sTable f fd) (T : Txt K mg C) (D : Df K mg "_law_draw" sDraw g gd ["_law_stream", "_law_many"]) : FnOk P w K mg base CX0 2 f fd ["_law_stream", "_law_most", "_law_marks"] spTable := by
  have G : FnOk P w K mg base CX0 1 g gd ["_law_stream", "_law_many"] spDraw := ok_draw D.F T
  refine F.ok scTable (fun vs H Q E h => ?_) (fun cdv A outer s H vs Q E hr h => ?_)
  · obtain ⟨a, l, n, _, _, rfl, _⟩ := h
    rfl
  · obtain ⟨a, l, n, most, marks, rfl, S0, hn, m1, m48, k1, k4, kk⟩ := h
    refine ⟨_, pss_cut (ps_asg (pe_tup (pa_cons (pe_op op_add pe_int (pe_call G hr rfl D.M D.F.kp D.B .nil pass0 (pa_cons (pv 0) (pa_cons (pv 1) pa_nil)))) (pa_cons (pe_op op_add pe_int (pe_call G hr rfl D.M D.F.kp D.B .nil pass0 (pa_cons (pv 0) (pa_cons (pv 2) pa_nil)))) pa_nil)))
        (pg_tup rfl (pgs_cons (pg_name (i := 3) scTable.nd rfl (Or.inr rfl)) (pgs_cons (pg_name (i := 4) scTable.nd rfl (Or.inl rfl)) pgs_nil))))
      (pss_cons (ps_set (i := 5) scTable.nd rfl (Or.inl rfl) (pe_lst pa_nil))
      (pss_cut (ps_for PassesOwn.never rfl (pi_range1 (by rfl) T.range_ (pa_cons (pv 3) pa_nil)) (pg_name (i := 6) scTable.nd rfl (Or.inl rfl))
        (pss_cons (ps_par (i := 7) (j := 8) (by rfl) scTable.nd rfl rfl (by decide) rfl rfl (pa_cons (pe_call G hr rfl D.M D.F.kp D.B .nil pass0 (pa_cons (pv 0) (pa_cons (pv 3) pa_nil))) (pa_cons (pe_call G hr rfl D.M D.F.kp D.B .nil pass0 (pa_cons (pv 0) (pa_cons (pv 3) pa_nil))) pa_nil)) (by rfl))
        (pss_one (ps_expr (pe_bm PySem.F.plainAttrs_list PySem.F.slot_list_append PySem.F.type_list_append mt_append (pv 5) (pa_cons (pe_tup (pa_cons (pv 7) (pa_cons (pe_cmpR op_eq (pe_call G hr rfl D.M D.F.kp D.B .nil pass0 (pa_cons (pv 0) (pa_cons pe_int pa_nil))) pe_int (nomark _)) (pa_cons (pv 8) (pa_cons (pe_cmpR op_eq (pe_call G hr rfl D.M D.F.kp D.B .nil pass0 (pa_cons (pv 0) (pa_cons pe_int pa_nil))) pe_int (nomark _)) pa_nil))))) pa_nil))))))
      (pss_one (ps_ret (pe_tup (pa_cons (pv 5) (pa_cons (pe_lc (own := [("_law_k", 6)]) (g := gName 6) (tt := tYes) (by rfl) scTable.nd (pi_range1 (by rfl) T.range_ (pa_cons (pe_op op_mul (pv 4) (pv 4)) pa_nil)) (blkOk_by (N := ["_law_stream", "_law_most", "_law_marks", "_law_size", "_law_many", "_law_rows", "_law_k", "_law_low", "_law_high"]) (sc := defScope sTable) (by decide +kernel))
          (fun _ _ _ _ _ => pg_name (i := 6) scTable.nd rfl (Or.inl rfl)) (fun _ _ _ _ _ => pts_nil)
          (fun _ _ _ _ _ => pe_call G hr rfl D.M D.F.kp D.B .nil pass0 (pa_cons (pv 0) (pa_cons (pv 3) pa_nil)))) (pa_cons (pv 4) pa_nil)))))))), ?_⟩
    have e24 := @sm48
    refine ⟨fun σ' H' => ∃ (sz mn : Nat), 1 ≤ sz ∧ sz ≤ 48 ∧ 1 ≤ mn ∧ mn ≤ 4 ∧ σ' = [some (V.ref a), some (V.int most), some (V.int marks), some (V.int (sz : Int)), some (V.int (mn : Int)), none, none, none, none] ∧ StreamAt H' a l (n + 2) ∧ Keep a l H H', ?_, ?_⟩
    · refine ⟨_, rfl, _, rfl, a, l, n, most, rfl, S0, by omega, by omega, e24 m1 m48, fun r1 H1 r10 r11 S1 kp1 => ⟨_, _, rfl, rfl, ?_⟩⟩
      refine ⟨_, rfl, _, rfl, a, l, n + 1, marks, rfl, S1, by omega, by omega, e24 k1 (by omega), fun r2 H2 r20 r21 S2 kp2 => ⟨_, _, rfl, rfl, by show 2 ≤ sizeLine; decide, fun tp htp => ?_⟩⟩
      refine ⟨tp, _, rfl, SqT.of upd_same, rfl, _, _, rfl, _, _, rfl, rfl, ?_⟩
      refine ⟨(1 + r1).toNat, (1 + r2).toNat, by omega, by omega, by omega, by omega, ?_, S2.same (Same.new htp), (kp1.trans kp2).trans (Keep.of (Same.new htp))⟩
      rw [Int.toNat_of_nonneg (by omega), Int.toNat_of_nonneg (by omega)]
      rfl
    rintro _ H2 ⟨sz, mn, sz1, sz48, mn1, mn4, rfl, S2, kp2⟩
    refine ⟨Nat.zero_le _, fun R hR0 => ?_⟩
    obtain ⟨Ra, Rl⟩ := S2.ne hR0
    have HR : H R = none := by
      cases e : H R with
      | none => rfl
      | some o => have := kp2 R o Ra Rl e; rw [hR0] at this; cases this
    refine ⟨fun σ' H' => ∃ x6 x7 x8 refs rows, σ' = [some (V.ref a), some (V.int most), some (V.int marks), some (V.int (sz : Int)), some (V.int (mn : Int)), some (V.ref R), x6, x7, x8] ∧ StreamAt H' a l (n + 2 + 4 * sz) ∧ Keep a l H H' ∧ H' R = some (.lst refs) ∧ Each H' isT refs rows ∧ rows.length = sz ∧ (∀ r ∈ rows, RwOk sz r), ?_, ?_⟩
    · refine ⟨_, rfl, (sz : Int), rfl, by omega, by omega, ?_⟩
      refine for_range (n := sz) (fun i σ' H' => ∃ x6 x7 x8 refs rows, σ' = [some (V.ref a), some (V.int most), some (V.int marks), some (V.int (sz : Int)), some (V.int (mn : Int)), some (V.ref R), x6, x7, x8] ∧ StreamAt H' a l (n + 2 + 4 * i) ∧ Keep a l H H' ∧ H' R = some (.lst refs) ∧ Each H' isT refs rows ∧ rows.length = i ∧ (∀ r ∈ rows, RwOk sz r)) ?_ ?_ ?_
      · refine ⟨none, none, none, [], [], rfl, S2.same (Same.new hR0), kp2.trans (Keep.of (Same.new hR0)), upd_same, Each.nil, rfl, fun r hr => by cases hr⟩
      · rintro i _ H3 hi ⟨x6, x7, x8, refs, rows, rfl, S3, kp3, hR, hE, hlen, hok⟩
        refine ⟨_, rfl, _, rfl, a, l, _, _, rfl, S3, by omega, by omega, e24 (by omega) (by omega), fun r1 H4 r10 r11 S4 kp4 => ?_⟩
        refine ⟨_, rfl, _, rfl, a, l, _, _, rfl, S4, by omega, by omega, e24 (by omega) (by omega), fun r2 H5 r20 r21 S5 kp5 => ⟨_, _, rfl, ?_⟩⟩
        have hR5 : H5 R = some (.lst refs) := kp5 _ _ Ra Rl (kp4 _ _ Ra Rl hR)
        refine ⟨_, rfl, .inl ⟨rfl, _, SqL.of hR5⟩, ?_⟩
        refine ⟨_, rfl, ?_⟩
        refine ⟨_, rfl, a, l, _, _, rfl, S5, by omega, by decide, e24 (by decide) (by decide), fun r3 H6 r30 r31 S6 kp6 => ⟨rfl, ?_⟩⟩
        refine ⟨_, rfl, ?_⟩
        refine ⟨_, rfl, a, l, _, _, rfl, S6, by omega, by decide, e24 (by decide) (by decide), fun r4 H7 r40 r41 S7 kp7 => ⟨rfl, by show 4 ≤ sizeLine; decide, fun tp htp => ?_⟩⟩
        have hR7 : H7 R = some (.lst refs) := kp7 _ _ Ra Rl (kp6 _ _ Ra Rl hR5)
        have kp37 : Keep a l H3 H7 := ((kp4.trans kp5).trans kp6).trans kp7
        have hE7 : Each H7 isT refs rows := hE.imp fun c r q => q.kp S3 kp37
        have hR8 := Same.new (o := .tup [.int r1, .bl (decide (V.int r3 = V.int 0)), .int r2, .bl (decide (V.int r4 = V.int 0))]) htp _ _ hR7
        have hE8 : Each _ isT refs rows := hE7.sameT (Same.new (o := .tup [.int r1, .bl (decide (V.int r3 = V.int 0)), .int r2, .bl (decide (V.int r4 = V.int 0))]) htp)
        refine ⟨R, refs, _, rfl, rfl, hR8, ?_, ?_⟩
        · rw [hE.1, hlen]
          exact Nat.lt_of_lt_of_le hi (Nat.le_trans sz48 (by decide))
        refine ⟨_, _, _, _, rows ++ [(r1, decide (V.int r3 = V.int 0), r2, decide (V.int r4 = V.int 0))], rfl, ?_, ?_, upd_same, ?_, ?_, ?_⟩
        · refine StreamAt.at_ (n := n + 2 + 4 * i + 4) ?_ (by omega)
          exact (S7.same (Same.new htp)).lst hR8 Ra Rl
        · intro c o ca cl e
          rw [upd_ne (ne_of_none e HR)]
          exact Same.new htp _ _ ((kp3.trans kp37) c o ca cl e)
        · exact (hE8.imp fun c r q => q.lst hR8).push ((show isT _ tp (r1, decide (V.int r3 = V.int 0), r2, decide (V.int r4 = V.int 0)) from upd_same).lst hR8)
        · rw [List.length_append, hlen]
          rfl
        · intro r hr
          rcases List.mem_append.mp hr with hr | hr
          · exact hok r hr
          · cases List.mem_singleton.mp hr
            exact ⟨⟨r10, r11⟩, r20, r21⟩
      · rintro σ' H' ⟨x6, x7, x8, refs, rows, rfl, S3, kp3, hR, hE, hlen, hok⟩
        exact ⟨x6, x7, x8, refs, rows, rfl, S3, kp3, hR, hE, hlen, hok⟩
    rintro _ H3 ⟨x6, x7, x8, refs, rows, rfl, S3, kp3, hR, hE, hlen, hok⟩
    have hm : ((mn : Int) * (mn : Int)).toNat = mn * mn := by
      rw [← Int.natCast_mul, Int.toNat_natCast]
    have hmm : mn * mn ≤ 16 := Nat.mul_le_mul mn4 mn4
    have hmi : (mn : Int) * (mn : Int) = ((mn * mn : Nat) : Int) := (Int.natCast_mul mn mn).symm
    refine ⟨_, rfl, ?_⟩
    refine ⟨_, rfl, _, rfl, _, _, rfl, rfl, .inl ⟨by omega, by omega⟩, _, rfl, by omega, by omega, fun Dd hD => ?_⟩
    obtain ⟨Da, Dl⟩ := S3.ne hD
    refine lc_range (n := ((mn : Int) * (mn : Int)).toNat) (fun i H' => StreamAt H' a l (n + 2 + 4 * sz + i) ∧ Keep a l H3 H' ∧ ∃ zs : List Int, H' Dd = some (.lst (zs.map V.int)) ∧ zs.length = i ∧ ∀ z ∈ zs, 0 ≤ z ∧ z < (sz : Int)) ?_ ?_ ?_
    · exact ⟨S3.same (Same.new hD), Keep.of (Same.new hD), [], upd_same, rfl, fun z hz => by cases hz⟩
    · rintro i H4 hi ⟨S4, kp4, zs, hd, hl, hz⟩
      rw [hm] at hi
      refine ⟨rfl, ?_⟩
      dsimp only [tYes]
      rw [if_pos rfl]
      refine ⟨_, rfl, _, rfl, a, l, _, _, rfl, S4, by omega, by omega, e24 (by omega) (by omega), fun r H5 r0 r1 S5 kp5 => ?_⟩
      have hd5 := kp5 _ _ Da Dl hd
      refine ⟨_, hd5, ?_, ?_, ?_, zs ++ [r], ?_, ?_, ?_⟩
      · rw [List.length_map, hl]
        exact Nat.lt_of_lt_of_le (Nat.lt_of_lt_of_le hi hmm) (by decide)
      · exact S5.lst hd5 Da Dl
      · intro c o ca cl e
        rw [upd_ne (ne_of_none e hD)]
        exact kp5 _ _ ca cl (kp4 _ _ ca cl e)
      · rw [upd_same, List.map_append]
        rfl
      · rw [List.length_append, hl]
        rfl
      · intro z hz'
        rcases List.mem_append.mp hz' with hz' | hz'
        · exact hz z hz'
        · cases List.mem_singleton.mp hz'
          exact ⟨r0, r1⟩
    · rintro H4 ⟨S4, kp4, zs, hd, hl, hz⟩
      rw [hm] at hl S4
      refine ⟨_, rfl, by show 3 ≤ sizeLine; decide, fun tp htp => ?_⟩
      have hR4 := kp4 _ _ Ra Rl hR
      have hD0 : H Dd = none := by
        cases e : H Dd with
        | none => rfl
        | some o => have := kp3 Dd o Da Dl e; rw [hD] at this; cases this
      refine kk tp R Dd refs rows zs mn _ _ upd_same (Same.new htp _ _ hR4) ?_ (Same.new htp _ _ hd) ⟨by omega, by omega, ?_, ?_, ?_⟩ (S4.same (Same.new htp)) (by omega) ((kp3.trans kp4).trans (Keep.of (Same.new htp))) Ra Rl Da Dl HR hD0
      · exact (hE.imp fun c r q => q.kp S3 kp4).sameT (Same.new htp)
      · intro r hr
        rw [hlen]
        exact hok r hr
      · rw [hl]
        rcases (by omega : mn = 1 ∨ mn = 2 ∨ mn = 3 ∨ mn = 4) with rfl | rfl | rfl | rfl
        · exact .r1
        · exact .r2
        · exact .r3
        · exact .r4
      · intro z hz'
        rw [hlen]
        exact hz z hz'
end
end PA

set_option maxHeartbeats 4000000
namespace PA
open PySem L2 RZ
open C8 (pss_cut tCut)
/-- a row as a tuple, or as a list that was not there in H0 -/
def isN (H0 : Hp) (H : Hp) (c : Addr) (r : Rw) : Prop := H c = some (.tup (rv r)) ∨ (H0 c = none ∧ H c = some (.lst (rv r)))
/-- the list or tuple G of xs -/
def LT (H : Hp) (G : Addr) (xs : List V) : Prop := H G = some (.lst xs) ∨ H G = some (.tup xs)
theorem Each.impM {H H' : Hp} {P P' : Hp → Addr → Rw → Prop} {xs : List V} {rows : List Rw} (e : Each H P xs rows) (f : ∀ c r, V.ref c ∈ xs → P H c r → P' H' c r) : Each H' P' xs rows :=
  ⟨e.1, fun i x r h1 h2 => let ⟨c, hx, q⟩ := e.2 i x r h1 h2; ⟨c, hx, f c r (hx ▸ List.mem_of_getElem? h1) q⟩⟩
theorem isN.kp {H0 H H' : Hp} {a l c : Addr} {n m : Nat} {r : Rw} (q : isN H0 H c r) (S0 : StreamAt H0 a l m) (S : StreamAt H a l n) (k : Keep a l H H') : isN H0 H' c r := by
  rcases q with q | ⟨q0, q⟩
  · exact .inl (isT.kp q S k)
  · exact .inr ⟨q0, k _ _ (S0.ne q0).1 (S0.ne q0).2 q⟩
theorem isN.same {H0 H H' : Hp} {c : Addr} {r : Rw} (q : isN H0 H c r) (s : Same H H') : isN H0 H' c r := q.imp (fun q => s _ _ q) fun q => ⟨q.1, s _ _ q.2⟩
theorem isN.lst {H0 H : Hp} {c p : Addr} {r : Rw} {xs ys : List V} (q : isN H0 H c r) (hp : H p = some (.lst xs)) (ne : c ≠ p) : isN H0 (upd H p (.lst ys)) c r := by
  unfold isN
  rw [upd_ne ne]
  exact q
def spHanded : Sp := fun vs H Q _ => ∃ (a l R : Addr) (n : Nat) (refs : List V) (rows : List Rw), vs = [.ref a, .ref R] ∧ StreamAt H a l n ∧ n ≤ 2000 ∧ H R = some (.lst refs) ∧ R ≠ a ∧ R ≠ l ∧ Each H isT refs rows ∧ rows.length ≤ 48 ∧
  ∀ (G : Addr) (refs' : List V) (n' : Nat) (H' : Hp), LT H' G refs' → H G = none → Each H' (isN H) refs' rows → (∀ x ∈ refs', x ≠ .ref G) → StreamAt H' a l n' → n' ≤ n + 60 → Keep a l H H' → Q (.ref G) H'
def rLstK (K : PySem.W.Frag) : List V → Hp → (V → Hp → Prop) → Prop := fun xs H Q => ∃ p ys, xs = [.ref p] ∧ (SqL K H p ys ∨ SqT K H p ys) ∧ ∀ l, H l = none → Q (.ref l) (upd H l (.lst ys))
theorem call_listK {X : Cx} {K : PySem.W.Frag} (h : X.K = K) : CallR X (.type "list") (rLstK K) := h ▸ call_list_of
section
variable {P : Program} {w : World} {K : PySem.W.Frag} {mg : Str → Option Value} {base : Heap} {C : Addr}
theorem scHanded : FnScope ["_law_stream", "_law_rows", "_law_some", "_law_row"] ["_law_stream", "_law_rows"] (defScope sHanded) := ⟨rfl, rfl, rfl, by decide +kernel, rfl, by decide +kernel, by decide +kernel⟩
theorem ok_handed {f g : Addr} {fd gd : FuncData} (F : Fun K "_law_m_handed" "_law_m_handed" sHanded f fd) (T : Txt K mg C) (D : Df K mg "_law_draw" sDraw g gd ["_law_stream", "_law_many"]) : FnOk P w K mg base CX0 2 f fd ["_law_stream", "_law_rows"] spHanded := by
  have G : FnOk P w K mg base CX0 1 g gd ["_law_stream", "_law_many"] spDraw := ok_draw D.F T
  refine F.ok scHanded (fun vs H Q E h => ?_) (fun cdv A outer s H vs Q E hr h => ?_)
  · obtain ⟨a, l, R, _, _, _, rfl, _⟩ := h
    rfl
  · obtain ⟨a, l, R, n, refs, rows, rfl, S0, hn, hR, Ra, Rl, hE, h48, kk⟩ := h
    have e24 := @sm48
    have hlr : refs.length = rows.length := hE.1
    refine ⟨_, pss_cons (ps_setLc (i := 2) (own := [("_law_row", 3)]) (g := gName 3) (tt := tYes) (by rfl) scHanded.nd rfl rfl (sw_true rfl rfl rfl (by decide +kernel)) (pi_list (pv 1)) (blkOk_by (N := ["_law_stream", "_law_rows", "_law_some", "_law_row"]) (sc := defScope sHanded) (by decide +kernel))
          (fun _ _ _ _ _ => pg_name (i := 3) scHanded.nd rfl (Or.inl rfl)) (fun _ _ _ _ _ => pts_nil)
          (fun _ _ _ _ _ => pe_ifExp (pt_cmpR op_eq (pe_call G hr rfl D.M D.F.kp D.B .nil pass0 (pa_cons (pv 0) (pa_cons pe_int pa_nil))) pe_int (nomark _)) (pe_callTy (call_listK (K := K) rfl) (by rfl) T.list_ boot_list' (pa_cons (pv 3) pa_nil)) (pe_callTy (call_tupleK (K := K) rfl) (by rfl) T.tup_ boot_tuple' (pa_cons (pv 3) pa_nil))))
      (pss_one (ps_ret (pe_ifExp (pt_cmpR op_eq (pe_call G hr rfl D.M D.F.kp D.B .nil pass0 (pa_cons (pv 0) (pa_cons pe_int pa_nil))) pe_int (nomark _)) (pv 2) (pe_callTy call_tuple_of (by rfl) T.tup_ boot_tuple' (pa_cons (pv 2) pa_nil))))), ?_⟩
    refine ⟨_, rfl, R, rfl, ⟨_, SqL.of hR⟩, fun Dd hD => ?_⟩
    obtain ⟨Da, Dl⟩ := S0.ne hD
    refine lc_list (K := K) (a := R) (xs := refs) (fun i H' => StreamAt H' a l (n + i) ∧ Keep a l H H' ∧ ∃ acc, H' Dd = some (.lst acc) ∧ Each H' (isN H) acc (rows.take i) ∧ ∀ x ∈ acc, x ≠ .ref Dd) ?_ ?_ ?_ ?_
    · exact ⟨S0.same (Same.new hD), Keep.of (Same.new hD), [], upd_same, by rw [List.take_zero]; exact Each.nil, fun x hx => by cases hx⟩
    · exact fun i H' _ q => SqL.of (q.2.1 _ _ Ra Rl hR)
    · rintro i x H1 hx ⟨S1, kp1, acc, hd, he, hne⟩
      have hi : i < rows.length := by rw [← hlr]; exact (List.getElem?_eq_some_iff.mp hx).1
      have hr' : rows[i]? = some rows[i] := List.getElem?_eq_getElem hi
      obtain ⟨c, rfl, hc⟩ := hE.2 i x _ hx hr'
      have hal : acc.length < sizeLine := by
        rw [he.1, List.length_take]
        exact Nat.lt_of_le_of_lt (Nat.le_trans (Nat.min_le_left _ _) (Nat.le_of_lt hi)) (Nat.lt_of_le_of_lt h48 (by decide))
      refine ⟨rfl, ?_⟩
      dsimp only [tYes]
      rw [if_pos rfl]
      refine ⟨_, rfl, a, l, _, _, rfl, S1, by omega, by decide, e24 (by decide) (by decide), fun r H2 r0 r1 S2 kp2 => ⟨rfl, _, rfl, ?_⟩⟩
      have hd2 := kp2 _ _ Da Dl hd
      have hc2 : isT H2 c rows[i] := (hc.kp S0 kp1).kp S1 kp2
      have he2 : Each H2 (isN H) acc (rows.take i) := he.imp fun c' r' q => q.kp S0 S1 kp2
      refine ifD_2 (fun _ => ?_) (fun _ => ?_)
      · refine ⟨_, rfl, c, _, rfl, .inr (SqT.of hc2), fun p hp => ?_⟩
        have hp0 : H p = none := by
          obtain ⟨pa, pl⟩ := S2.ne hp
          cases e : H p with
          | none => rfl
          | some o => have := kp2 _ _ pa pl (kp1 _ _ pa pl e); rw [hp] at this; cases this
        have hd3 := Same.new (o := .lst (rv rows[i])) hp _ _ hd2
        have pD : p ≠ Dd := (ne_of_none hd2 hp).symm
        refine ⟨acc, hd3, hal, (S2.same (Same.new hp)).lst hd3 Da Dl, ?_, acc ++ [.ref p], upd_same, ?_, ?_⟩
        · intro c' o ca cl e
          rw [upd_ne (ne_of_none e hD)]
          exact Same.new hp _ _ (kp2 _ _ ca cl (kp1 _ _ ca cl e))
        · rw [take_succ' hr']
          refine Each.push ((he2.imp fun c' r' q => q.same (Same.new hp)).impM fun c' r' hm q => q.lst hd3 fun e => hne _ hm (by rw [e])) ?_
          exact .inr ⟨hp0, by rw [upd_ne pD, upd_same]⟩
        · intro x hx
          rcases List.mem_append.mp hx with hx | hx
          · exact hne x hx
          · cases List.mem_singleton.mp hx
            exact fun e => pD (by injection e)
      · refine ⟨_, rfl, c, _, rfl, .inr ⟨SqT.of hc2, acc, hd2, hal, S2.lst hd2 Da Dl, ?_, acc ++ [.ref c], upd_same, ?_, ?_⟩⟩
        · intro c' o ca cl e
          rw [upd_ne (ne_of_none e hD)]
          exact kp2 _ _ ca cl (kp1 _ _ ca cl e)
        · rw [take_succ' hr']
          refine Each.push (he2.impM fun c' r' hm q => q.lst hd2 fun e => hne _ hm (by rw [e])) ?_
          exact .inl (hc2.lst hd2)
        · intro x hx
          rcases List.mem_append.mp hx with hx | hx
          · exact hne x hx
          · cases List.mem_singleton.mp hx
            exact fun e => (ne_of_none (H := H) hc hD) (by injection e)
    · rintro H1 ⟨S1, kp1, acc, hd, he, hne⟩
      rw [hlr] at S1
      rw [hlr, List.take_length] at he
      refine ⟨_, rfl, a, l, _, _, rfl, S1, by omega, by decide, e24 (by decide) (by decide), fun r H2 r0 r1 S2 kp2 => ⟨rfl, _, rfl, ?_⟩⟩
      have hd2 := kp2 _ _ Da Dl hd
      have he2 : Each H2 (isN H) acc rows := he.imp fun c' r' q => q.kp S0 S1 kp2
      refine ifD_2 (fun _ => ?_) (fun _ => ?_)
      · exact ⟨_, rfl, kk Dd acc _ H2 (.inl hd2) hD he2 hne S2 (by omega) (kp1.trans kp2)⟩
      · refine ⟨_, rfl, Dd, _, rfl, .inl ⟨SqL.of hd2, fun p hp => ?_⟩⟩
        have hp0 : H p = none := by
          obtain ⟨pa, pl⟩ := S2.ne hp
          cases e : H p with
          | none => rfl
          | some o => have := kp2 _ _ pa pl (kp1 _ _ pa pl e); rw [hp] at this; cases this
        refine kk p acc _ _ (.inr upd_same) hp0 (he2.imp fun c' r' q => q.same (Same.new hp)) ?_ (S2.same (Same.new hp)) (by omega) ((kp1.trans kp2).trans (Keep.of (Same.new hp)))
        intro x hx e
        subst e
        obtain ⟨i, hi⟩ := List.getElem?_of_mem hx
        have hir : i < rows.length := by rw [← he2.1]; exact (List.getElem?_eq_some_iff.mp hi).1
        obtain ⟨c, hc, q⟩ := he2.2 i _ _ hi (List.getElem?_eq_getElem hir)
        have e2 : p = c := by injection hc
        subst e2
        rcases q with q | ⟨_, q⟩
        · rw [show H2 p = none from hp] at q; cases q
        · rw [show H2 p = none from hp] at q; cases q
end
end PA

set_option maxHeartbeats 4000000
namespace PA
open PySem L2 RZ
open C8 (pss_cut tCut)
/-- x is a row that may be spoilt -/
def Row (H : Hp) (m : Nat) (x : V) : Prop := ∃ c, x = .ref c ∧ ((∃ xs, H c = some (.tup xs)) ∨ ∃ xs, H c = some (.lst xs) ∧ 1 ≤ xs.length ∧ xs.length ≤ m)
/-- all but G and the lists of refs is kept -/
def KeepG (G : Addr) (refs : List V) (H H' : Hp) : Prop := ∀ c o, H c = some o → ((∀ xs, o ≠ .lst xs) ∨ (c ≠ G ∧ V.ref c ∉ refs)) → H' c = some o
theorem Row.up {H : Hp} {m : Nat} {x : V} (h : Row H m x) : Row H (m + 1) x := by
  obtain ⟨c, e, h | ⟨xs, h1, h2, h3⟩⟩ := h
  · exact ⟨c, e, .inl h⟩
  · exact ⟨c, e, .inr ⟨xs, h1, h2, Nat.le_succ_of_le h3⟩⟩
theorem Row.put {H : Hp} {m : Nat} {x : V} {c : Addr} {xs ys : List V} (h : Row H m x) (hc : H c = some (.lst xs)) (h1 : 1 ≤ ys.length) (h2 : ys.length ≤ m + 1) : Row (upd H c (.lst ys)) (m + 1) x := by
  obtain ⟨d, e, h⟩ := h
  refine ⟨d, e, ?_⟩
  by_cases dc : d = c
  · subst dc
    exact .inr ⟨ys, upd_same, h1, h2⟩
  · rw [upd_ne dc]
    rcases h with h | ⟨zs, a, b, k⟩
    · exact .inl h
    · exact .inr ⟨zs, a, b, Nat.le_succ_of_le k⟩
theorem KeepG.put {G c : Addr} {refs xs ys : List V} {H H1 : Hp} (k : KeepG G refs H H1) (hc : H1 c = some (.lst xs)) (hm : V.ref c ∈ refs) : KeepG G refs H (upd H1 c (.lst ys)) := by
  intro d o e q
  have h1 := k d o e q
  have dc : d ≠ c := by
    intro z
    subst z
    rw [hc] at h1
    rcases q with q | q
    · exact q xs (by injection h1 with h1; exact h1.symm)
    · exact q.2 hm
  rw [upd_ne dc]
  exact h1
def spSpoilt : Sp := fun vs H Q _ => ∃ (G : Addr) (refs : List V), vs = [.ref G] ∧ LT H G refs ∧ refs.length ≤ 48 ∧ (∀ x ∈ refs, Row H 4 x) ∧ (∀ x ∈ refs, x ≠ .ref G) ∧
  ∀ (n : Nat) (H' : Hp), refs.length ≤ n → KeepG G refs H H' → Q (.int (n : Int)) H'
section
variable {P : Program} {w : World} {K : PySem.W.Frag} {mg : Str → Option Value} {base : Heap} {C : Addr}
theorem scSpoilt : FnScope ["_law_rows", "_law_row"] ["_law_rows"] (defScope sSpoilt) := ⟨rfl, rfl, rfl, by decide +kernel, rfl, by decide +kernel, by decide +kernel⟩
theorem ok_spoilt {f : Addr} {fd : FuncData} (F : Fun K "_law_spoilt" "_law_spoilt" sSpoilt f fd) (T : Txt K mg C) : FnOk P w K mg base CX0 1 f fd ["_law_rows"] spSpoilt := by
  refine F.ok scSpoilt (fun vs H Q E h => ?_) (fun cdv A outer s H vs Q E hr h => ?_)
  · obtain ⟨G, _, rfl, _⟩ := h
    rfl
  · obtain ⟨G, refs, rfl, hG, h48, hrow, hne, kk⟩ := h
    refine ⟨_, pss_cut (ps_for PassesOwn.never rfl ((pi_list (pv 0)).or (pi_tup (pv 0))) (pg_name (i := 1) scSpoilt.nd rfl (Or.inl rfl))
        (pss_one (ps_if (pt_val (pe_callB call_isi (by rfl) T.isi boot_isi (pa_cons (pv 1) (pa_cons (pe_bltn (v := .ty "list") (by rfl) T.list_ boot_list' rfl) pa_nil))))
          (pss_cons (ps_asg pe_int (pg_sub (pv 1) pe_int set_list)) (pss_one (ps_expr (pe_bm PySem.F.plainAttrs_list PySem.F.slot_list_append PySem.F.type_list_append mt_append (pv 1) (pa_cons pe_int pa_nil))))) pss_nil)))
      (pss_cut (ps_if (pt_val (pe_callB call_isi (by rfl) T.isi boot_isi (pa_cons (pv 0) (pa_cons (pe_bltn (v := .ty "list") (by rfl) T.list_ boot_list' rfl) pa_nil))))
          (pss_one (ps_expr (pe_bm PySem.F.plainAttrs_list PySem.F.slot_list_append PySem.F.type_list_append mt_append (pv 0) (pa_cons (pe_tup (pa_cons pe_int (pa_cons pe_bl (pa_cons pe_int (pa_cons pe_bl pa_nil))))) pa_nil)))) pss_nil)
      (pss_one (ps_ret (pe_callB call_len_seq (by rfl) T.len_ PySem.boot_len (pa_cons (pv 0) pa_nil))))), ?_⟩
    refine ⟨fun σ' H' => ∃ x, σ' = [some (V.ref G), x] ∧ LT H' G refs ∧ KeepG G refs H H', ?_, ?_⟩
    · rcases hG with hG | hG
      · refine .inl ⟨_, rfl, G, rfl, ⟨_, SqL.of hG⟩, ?_⟩
        refine for_list (K := K) (a := G) (xs := refs) (fun i σ' H1 => ∃ x1, σ' = [some (V.ref G), x1] ∧ H1 G = some (.lst refs) ∧ KeepG G refs H H1 ∧ ∀ y ∈ refs, Row H1 (4 + i) y) ?_ ?_ ?_ ?_
        · exact ⟨none, rfl, hG, fun c o e _ => e, hrow⟩
        · exact fun i σ' H1 _ q => by obtain ⟨_, _, q, _⟩ := q; exact SqL.of q
        · rintro i x _ H1 hx ⟨x1, rfl, hG1, kp, hr1⟩
          have hm := List.mem_of_getElem? hx
          obtain ⟨c, rfl, hc⟩ := hr1 x hm
          have cG : c ≠ G := fun e => hne _ hm (by rw [e])
          rcases hc with ⟨xs, hc⟩ | ⟨xs, hc, l1, l2⟩
          · refine ⟨_, rfl, _, _, _, _, _, rfl, .ty _, .base (.tup hc), kit_ty (b := "list") (r := false) (by decide +kernel), _, rfl, iteF ?_⟩
            exact ⟨_, rfl, hG1, kp, fun y hy => (hr1 y hy).up⟩
          · refine ⟨_, rfl, _, _, _, _, _, rfl, .ty _, .base (.lst hc), kit_ty (b := "list") (r := true) (by decide +kernel), _, rfl, iteT ?_⟩
            refine ⟨_, rfl, c, _, 0, 0, rfl, rfl, hc, Evl.ixN_nat (j := 0) (by omega), ?_⟩
            refine ⟨_, rfl, .inl ⟨rfl, _, SqL.of upd_same⟩, ?_⟩
            have hil : i < refs.length := (List.getElem?_eq_some_iff.mp hx).1
            refine ⟨c, _, _, rfl, rfl, upd_same, ?_, ?_⟩
            · rw [List.length_set]
              exact Nat.lt_of_le_of_lt (Nat.le_trans l2 (by omega : 4 + i ≤ 60)) (by decide)
            rw [upd_upd]
            refine ⟨_, rfl, ?_, kp.put hc hm, fun y hy => (hr1 y hy).put hc ?_ ?_⟩
            · rw [upd_ne cG.symm]
              exact hG1
            · rw [List.length_append, List.length_set]; exact Nat.le_add_left _ _
            · rw [List.length_append, List.length_set]; exact Nat.succ_le_succ l2
        · rintro σ' H1 ⟨x1, rfl, hG1, kp, _⟩
          exact ⟨x1, rfl, .inl hG1, kp⟩
      · refine .inr ⟨_, rfl, G, rfl, ⟨_, SqT.of hG⟩, ?_⟩
        refine for_tup (K := K) (a := G) (xs := refs) (fun i σ' H1 => ∃ x1, σ' = [some (V.ref G), x1] ∧ H1 G = some (.tup refs) ∧ KeepG G refs H H1 ∧ ∀ y ∈ refs, Row H1 (4 + i) y) ?_ ?_ ?_ ?_
        · exact ⟨none, rfl, hG, fun c o e _ => e, hrow⟩
        · exact fun i σ' H1 _ q => by obtain ⟨_, _, q, _⟩ := q; exact SqT.of q
        · rintro i x _ H1 hx ⟨x1, rfl, hG1, kp, hr1⟩
          have hm := List.mem_of_getElem? hx
          obtain ⟨c, rfl, hc⟩ := hr1 x hm
          have cG : c ≠ G := fun e => hne _ hm (by rw [e])
          rcases hc with ⟨xs, hc⟩ | ⟨xs, hc, l1, l2⟩
          · refine ⟨_, rfl, _, _, _, _, _, rfl, .ty _, .base (.tup hc), kit_ty (b := "list") (r := false) (by decide +kernel), _, rfl, iteF ?_⟩
            exact ⟨_, rfl, hG1, kp, fun y hy => (hr1 y hy).up⟩
          · refine ⟨_, rfl, _, _, _, _, _, rfl, .ty _, .base (.lst hc), kit_ty (b := "list") (r := true) (by decide +kernel), _, rfl, iteT ?_⟩
            refine ⟨_, rfl, c, _, 0, 0, rfl, rfl, hc, Evl.ixN_nat (j := 0) (by omega), ?_⟩
            refine ⟨_, rfl, .inl ⟨rfl, _, SqL.of upd_same⟩, ?_⟩
            have hil : i < refs.length := (List.getElem?_eq_some_iff.mp hx).1
            refine ⟨c, _, _, rfl, rfl, upd_same, ?_, ?_⟩
            · rw [List.length_set]
              exact Nat.lt_of_le_of_lt (Nat.le_trans l2 (by omega : 4 + i ≤ 60)) (by decide)
            rw [upd_upd]
            refine ⟨_, rfl, ?_, kp.put hc hm, fun y hy => (hr1 y hy).put hc ?_ ?_⟩
            · rw [upd_ne cG.symm]
              exact hG1
            · rw [List.length_append, List.length_set]; exact Nat.le_add_left _ _
            · rw [List.length_append, List.length_set]; exact Nat.succ_le_succ l2
        · rintro σ' H1 ⟨x1, rfl, hG1, kp, _⟩
          exact ⟨x1, rfl, .inr hG1, kp⟩
    rintro _ H1 ⟨x, rfl, hG1, kp1⟩
    refine ⟨fun σ' H' => σ' = [some (V.ref G), x] ∧ (∃ ys, LT H' G ys ∧ refs.length ≤ ys.length) ∧ KeepG G refs H H', ?_, ?_⟩
    · rcases hG1 with hG1 | hG1
      · refine ⟨_, rfl, _, _, _, _, _, rfl, .ty _, .base (.lst hG1), kit_ty (b := "list") (r := true) (by decide +kernel), _, rfl, iteT ?_⟩
        refine ⟨_, rfl, .inl ⟨rfl, _, SqL.of hG1⟩, ?_⟩
        refine ⟨by show 4 ≤ sizeLine; decide, fun tp htp => ?_⟩
        have hG2 := Same.new (o := .tup [.int 0, .bl false, .int 0, .bl false]) htp _ _ hG1
        refine ⟨G, _, _, rfl, rfl, hG2, Nat.lt_of_le_of_lt h48 (by decide), rfl, ⟨_, .inl upd_same, ?_⟩, ?_⟩
        · rw [List.length_append]
          exact Nat.le_add_right _ _
        · intro c o e q
          have h1 := Same.new (o := .tup [.int 0, .bl false, .int 0, .bl false]) htp _ _ (kp1 c o e q)
          have ne : c ≠ G := by
            intro z
            subst z
            rcases q with q | q
            · rw [hG2] at h1
              exact q refs (by injection h1 with h1; exact h1.symm)
            · exact q.1 rfl
          rw [upd_ne ne]
          exact h1
      · refine ⟨_, rfl, _, _, _, _, _, rfl, .ty _, .base (.tup hG1), kit_ty (b := "list") (r := false) (by decide +kernel), _, rfl, iteF ?_⟩
        exact ⟨rfl, ⟨_, .inr hG1, Nat.le_refl _⟩, kp1⟩
    rintro _ H2 ⟨rfl, ⟨ys, hy, hl⟩, kp2⟩
    refine ⟨_, rfl, G, ys, rfl, ?_, kk _ H2 hl kp2⟩
    exact hy.imp (fun h => SqL.of h) fun h => SqT.of h
end
end PA

set_option maxHeartbeats 4000000
namespace PA
open PySem L2 RZ
open C8 (pss_cut tCut)
def Flat (x : V) : Prop := (∃ i, x = .int i) ∨ ∃ b, x = .bl b
theorem Two.flat {K : PySem.W.Frag} {H : Hp} {n : Nat} {x : V} (f : Flat x) : Two K H n x x := by
  rcases f with ⟨i, rfl⟩ | ⟨b, rfl⟩
  · exact .int n i
  · exact .bl n b
theorem Two.flatT {K : PySem.W.Frag} {H : Hp} {n : Nat} {a b : Addr} {xs : List V} (ha : SqT K H a xs) (hb : SqT K H b xs) (hz : xs.length ≤ sizeLine) (f : ∀ x ∈ xs, Flat x) : Two K H (n + 1) (.ref a) (.ref b) := by
  refine .tup ha hb rfl hz fun i x y h1 h2 => ?_
  rw [h1] at h2
  have e : x = y := by injection h2
  subst e
  exact .flat (f x (List.mem_of_getElem? h1))
theorem mv_flat (r : Rw) (b : Bool) : ∀ x ∈ mv r b, Flat x := by
  intro x hx
  cases b with
  | true =>
    rcases List.mem_cons.mp hx with rfl | hx
    · exact .inl ⟨_, rfl⟩
    · cases List.mem_singleton.mp hx
      exact .inr ⟨_, rfl⟩
  | false =>
    rcases List.mem_cons.mp hx with rfl | hx
    · exact .inl ⟨_, rfl⟩
    · cases List.mem_singleton.mp hx
      exact .inr ⟨_, rfl⟩
theorem mv_len (r : Rw) (b : Bool) : (mv r b).length ≤ sizeLine := by
  cases b
  · show 2 ≤ sizeLine; decide
  · show 2 ≤ sizeLine; decide
def spSteps (K : PySem.W.Frag) (C : Addr) : Sp := fun vs H Q _ => ∃ (p R : Addr) (refs : List V) (rows : List Rw) (starts : List Int) (k : Int), vs = [.ref p, .ref R] ∧ RuleAt K C H p rows starts k ∧ H R = some (.lst refs) ∧ Each H isT refs rows ∧ rows.length ≤ 48 ∧
  ∀ H', Same H H' → Q (.bl true) H'
section
variable {P : Program} {w : World} {K : PySem.W.Frag} {mg : Str → Option Value} {base : Heap} {C : Addr}
theorem scSteps : FnScope ["_law_rule", "_law_rows", "_law_state", "_law_behind"] ["_law_rule", "_law_rows"] (defScope sSteps) := ⟨rfl, rfl, rfl, by decide +kernel, rfl, by decide +kernel, by decide +kernel⟩
theorem ok_steps {f g1 g2 g3 : Addr} {fd gd1 gd2 gd3 : FuncData} (F : Fun K "_law_steps" "_law_steps" sSteps f fd) (T : Txt K mg C) (D1 : Df K mg "_law_same" sSame g1 gd1 ["_law_found", "_law_due"]) (D2 : Df K mg "_law_m_after" sAfter g2 gd2 ["_law_row", "_law_behind"])
    (FS : Fun K "step" "Rule.step" sStep g3 gd3) (mS : Meth K C "step" g3) (bS : Binds K gd3 ["self", "state", "behind"] []) : FnOk P w K mg base CX0 3 f fd ["_law_rule", "_law_rows"] (spSteps K C) := by
  have G1 : FnOk P w K mg base CX0 2 g1 gd1 ["_law_found", "_law_due"] (spSame K 1) := ok_same D1 T 1
  have G2 : FnOk P w K mg base CX0 1 g2 gd2 ["_law_row", "_law_behind"] spAfter := ok_after D2.F T
  have G3 : FnOk P w K mg base CX0 1 g3 gd3 ["self", "state", "behind"] (spStep K C) := ok_step FS T
  refine F.ok scSteps (fun vs H Q E h => ?_) (fun cdv A outer s H vs Q E hr h => ?_)
  · obtain ⟨p, R, _, _, _, _, rfl, _⟩ := h
    rfl
  · obtain ⟨p, R, refs, rows, starts, k, rfl, hp, hR, hE, h48, kk⟩ := h
    have hr1 : Room 1 _ := hr.mono (by decide)
    have hlr : refs.length = rows.length := hE.1
    refine ⟨_, pss_cut (ps_for PassesOwn.never rfl (pi_range1 (by rfl) T.range_ (pa_cons (pe_callB call_len_seq (by rfl) T.len_ PySem.boot_len (pa_cons (pv 1) pa_nil)) pa_nil)) (pg_name (i := 2) scSteps.nd rfl (Or.inl rfl))
        (pss_one (ps_for PassesOwn.never rfl (pi_tup (pe_tup (pa_cons pe_bl (pa_cons pe_bl pa_nil)))) (pg_name (i := 3) scSteps.nd rfl (Or.inl rfl))
          (pss_one (ps_if (pt_not (pt_val (pe_call G1 hr rfl D1.M D1.F.kp D1.B .nil pass0 (pa_cons (pe_meth (pv 0) T.cl mS G3 hr1 bS .nil pass0 (pa_cons (pv 2) (pa_cons (pv 3) pa_nil)))
            (pa_cons (pe_call G2 hr1 rfl D2.M D2.F.kp D2.B .nil pass0 (pa_cons (pe_ix ix_list (pv 1) (pv 2) (fun _ _ => rfl)) (pa_cons (pv 3) pa_nil))) pa_nil))))) pss_never pss_nil)))))
      (pss_one (ps_ret pe_bl)), ?_⟩
    refine ⟨fun σ' H' => Same H H', ?_, fun σ' H' q => kk H' q⟩
    refine ⟨_, rfl, R, _, rfl, .inl (SqL.of hR), _, rfl, by omega, by omega, ?_⟩
    refine for_range (fun i σ' H' => ∃ x2 x3, σ' = [some (V.ref p), some (V.ref R), x2, x3] ∧ Same H H') ?_ ?_ ?_
    · exact ⟨none, none, rfl, fun _ _ e => e⟩
    · rintro i _ H1 hi ⟨x2, x3, rfl, s1⟩
      have hi' : i < rows.length := by
        have : ((refs.length : Int) - 0).toNat = refs.length := by omega
        omega
      refine ⟨by show 2 ≤ sizeLine; decide, fun tp htp => ⟨tp, rfl, ⟨_, SqT.of upd_same⟩, ?_⟩⟩
      refine for_tup (K := K) (a := tp) (xs := [.bl false, .bl true]) (fun j σ' H' => ∃ x3, σ' = [some (V.ref p), some (V.ref R), some (V.int (0 + (i : Int))), x3] ∧ Same H H' ∧ H' tp = some (.tup [.bl false, .bl true])) ?_ ?_ ?_ ?_
      · exact ⟨x3, rfl, s1.trans (Same.new htp), upd_same⟩
      · exact fun j σ' H' _ q => by obtain ⟨_, _, _, q⟩ := q; exact SqT.of q
      · rintro j x _ H2 hx ⟨x3, rfl, s2, ht⟩
        obtain ⟨b, rfl⟩ : ∃ b, x = .bl b := by
          have := List.mem_of_getElem? hx
          rcases List.mem_cons.mp this with rfl | h
          · exact ⟨_, rfl⟩
          · cases List.mem_singleton.mp h
            exact ⟨_, rfl⟩
        have hri : rows[i]? = some rows[i] := List.getElem?_eq_getElem hi'
        have hp2 := hp.same s2
        obtain ⟨dx, RR, SS, rr, hpo, _⟩ := id hp2
        refine ⟨_, rfl, p, dx, _, rfl, hpo, ?_, ?_⟩
        · exact rf_no _ _ _ (by decide +kernel) (by decide +kernel) (by decide +kernel)
        refine ⟨_, rfl, _, rfl, p, rows, starts, k, i, b, rows[i], ?_, hp2, hri, fun t1 H3 s3 ht1 => ?_⟩
        · rw [Int.zero_add]
          rfl
        have hE2 := hE.sameT s2
        obtain ⟨c, hc, hcr⟩ := hE2.get hri
        refine ⟨_, rfl, _, rfl, R, refs, _, _, rfl, rfl, SqL.of (s3 _ _ (s2 _ _ hR)), (by rw [Int.zero_add]; exact atI_nat hc), _, rfl, c, b, rows[i], rfl, s3 _ _ hcr, fun t2 H4 s4 ht2 => ?_⟩
        refine ⟨_, _, rfl, .flatT (SqT.of (s4 _ _ ht1)) (SqT.of ht2) (mv_len _ _) (mv_flat _ _), fun H5 s5 => ?_⟩
        refine ⟨true, rfl, iteF ?_⟩
        exact ⟨_, rfl, ((s2.trans s3).trans s4).trans s5, s5 _ _ (s4 _ _ (s3 _ _ ht))⟩
      · rintro σ' H2 ⟨x3, rfl, s2, _⟩
        exact ⟨_, _, rfl, s2⟩
    · rintro σ' H1 ⟨x2, x3, rfl, s1⟩
      exact s1
end
end PA

set_option maxHeartbeats 8000000
namespace PA
open PySem L2 RZ
open C8 (pss_cut tCut)
/-! ### rows as data -/
def isL (H : Hp) (c : Addr) (r : Rw) : Prop := H c = some (.lst (rv r))
def rd (r : Rw) : PyData := .list [.int r.1, .bool r.2.1, .int r.2.2.1, .bool r.2.2.2]
theorem rd_dp {K : PySem.W.Frag} {H : Hp} {c : Addr} {r : Rw} (h : isL H c r) : Dp K H (.ref c) (rd r) :=
  .lst (SqL.of h) (.cons (.int _) (.cons (.bl _) (.cons (.int _) (.cons (.bl _) .nil))))
theorem rds_dp {K : PySem.W.Frag} {H : Hp} : ∀ {xs : List V} {rows : List Rw}, Each H isL xs rows → DpAll K H xs (rows.map rd)
  | [], [], _ => .nil
  | [], _ :: _, e => by cases e.1
  | _ :: _, [], e => by cases e.1
  | x :: xs, r :: rows, e => by
    obtain ⟨c, hx, q⟩ := e.2 0 x r rfl rfl
    subst hx
    exact .cons (rd_dp q) (rds_dp ⟨by have := e.1; simpa using this, fun i y s h1 h2 => e.2 (i + 1) y s (by simpa using h1) (by simpa using h2)⟩)
theorem rd_lay (r : Rw) : (rd r).canLay0 = true := by simp [rd, PyData.canLay0, PyData.canLayAll0]
theorem rds_lay : ∀ rows : List Rw, PyData.canLayAll0 (rows.map rd) = true
  | [] => by simp [PyData.canLayAll0]
  | r :: rows => by simp [PyData.canLayAll0, rd_lay r, rds_lay rows]
theorem rd_depth (r : Rw) : PyData.depth (rd r) ≤ 3 := by simp [rd, PyData.depth, PyData.depthAll]
theorem rds_depth : ∀ rows : List Rw, PyData.depthAll (rows.map rd) ≤ 4
  | [] => by simp [PyData.depthAll]
  | r :: rows => by
    have h1 := rds_depth rows
    have h2 := rd_depth r
    simp only [List.map_cons, PyData.depthAll]
    omega
theorem rds_shaped (rows : List Rw) : SeqAt.shaped (.list (rows.map rd)) = true := by
  have h1 := rds_depth rows
  have h2 : PyData.depth (.list (rows.map rd)) ≤ 64 := by
    simp only [PyData.depth]
    omega
  show (PyData.canLay0 (.list (rows.map rd)) && decide (PyData.depth (.list (rows.map rd)) ≤ 64)) = true
  rw [Bool.and_eq_true]
  exact ⟨by simp only [PyData.canLay0]; exact rds_lay rows, decide_eq_true h2⟩
theorem rds_eqv (rows : List Rw) : PyData.eqv (.list (rows.map rd)) (.list (rows.map rd)) = true := SeqAt.eqv_refl _ (by simp only [PyData.canLay0]; exact rds_lay rows)
theorem ints_eqv (ns : List Int) : PyData.eqv (.list (ns.map PyData.int)) (.list (ns.map PyData.int)) = true := SeqAt.eqv_refl _ (by simp only [PyData.canLay0]; exact ints_lay ns)
theorem ints_zero {ns : List Int} (h : PyData.eqv (.list (ns.map PyData.int)) (.list [.int 0]) = true) : ns = [0] := by
  cases ns with
  | nil => simp [PyData.eqv, PyData.eqvAll] at h
  | cons z zs =>
    cases zs with
    | nil =>
      simp [PyData.eqv, PyData.eqvAll] at h
      rw [h]
    | cons y ys => simp [PyData.eqv, PyData.eqvAll] at h
theorem mk_rule {K : PySem.W.Frag} {C : Addr} {H : Hp} {Q : VK} {E : XK} {G S : Addr} {refs : List V} {rows : List Rw} {starts : List Int} {k : Int} (hG : Sq K H G refs) (hE : Each H isLT refs rows) (hS : Sq K H S (starts.map V.int)) (gd : Good rows starts k)
    {x dx : Addr} (nx : H x = none) (ndx : H dx = none) (nex : dx ≠ x) (kk : ∀ H', Same H H' → RuleAt K C H' x rows starts k → Q .non H') :
    spInit K C [V.ref x, V.ref G, V.ref S] (upd (upd H dx (.own x)) x (.ins C dx [])) Q E := by
  have s1 : Same H (upd (upd H dx (.own x)) x (.ins C dx [])) := fun c o e => by
    rw [upd_ne (ne_of_none e nx), upd_ne (ne_of_none e ndx)]
    exact e
  refine ⟨x, dx, G, S, refs, rows, starts, k, rfl, upd_same, hG.up s1, hE.sameLT s1, hS.up s1, gd, fun H' ⟨R, S', refs', h1, h2, h3, h4⟩ kp => kk H' (fun c o e => kp c o (s1 _ _ e) (ne_of_none e nx)) ⟨dx, R, S', refs', h1, h2, h3, h4⟩⟩
/-- after the table -/
structure TA (H : Hp) (sa sl : Addr) (n : Nat) (R S : Addr) (refs : List V) (rows : List Rw) (starts : List Int) (k : Int) : Prop where
  st : StreamAt H sa sl n
  hn : n ≤ 1400
  hR : H R = some (.lst refs)
  hE : Each H isT refs rows
  hS : H S = some (.lst (starts.map V.int))
  gd : Good rows starts k
  Ra : R ≠ sa
  Rl : R ≠ sl
  Sa : S ≠ sa
  Sl : S ≠ sl
/-- after the handing in -/
structure CC (H : Hp) (sa sl : Addr) (n : Nat) (R S G B : Addr) (refs refsG : List V) (rows : List Rw) (starts : List Int) (k : Int) : Prop where
  ta : TA H sa sl n R S refs rows starts k
  hG : LT H G refsG
  hEG : Each H isLT refsG rows
  hB : LT H B (starts.map V.int)
  Ga : G ≠ sa
  Gl : G ≠ sl
  Ba : B ≠ sa
  Bl : B ≠ sl
  RG : R ≠ G
  SG : S ≠ G
  BG : B ≠ G
  RB : R ≠ B
  SB : S ≠ B
  rR : V.ref R ∉ refsG
  rS : V.ref S ∉ refsG
  rB : V.ref B ∉ refsG
  rG : V.ref G ∉ refsG
  ra : V.ref sa ∉ refsG
  rl : V.ref sl ∉ refsG
theorem LT.up {H H' : Hp} {G : Addr} {xs : List V} (h : LT H G xs) (s : Same H H') : LT H' G xs := h.imp (fun h => s _ _ h) fun h => s _ _ h
theorem LT.sq {K : PySem.W.Frag} {H : Hp} {G : Addr} {xs : List V} (h : LT H G xs) : Sq K H G xs := h.imp (fun h => SqL.of h) fun h => SqT.of h
theorem TA.kp {H H' : Hp} {sa sl : Addr} {n n' : Nat} {R S : Addr} {refs : List V} {rows : List Rw} {starts : List Int} {k : Int} (t : TA H sa sl n R S refs rows starts k) (S' : StreamAt H' sa sl n') (hn : n' ≤ 1400) (kp : Keep sa sl H H') : TA H' sa sl n' R S refs rows starts k :=
  ⟨S', hn, kp _ _ t.Ra t.Rl t.hR, t.hE.imp fun c r q => q.kp t.st kp, kp _ _ t.Sa t.Sl t.hS, t.gd, t.Ra, t.Rl, t.Sa, t.Sl⟩
theorem TA.same {H H' : Hp} {sa sl : Addr} {n : Nat} {R S : Addr} {refs : List V} {rows : List Rw} {starts : List Int} {k : Int} (t : TA H sa sl n R S refs rows starts k) (s : Same H H') : TA H' sa sl n R S refs rows starts k :=
  t.kp (t.st.same s) t.hn (Keep.of s)
theorem Each.mem {H : Hp} {P : Hp → Addr → Rw → Prop} {xs : List V} {rows : List Rw} (e : Each H P xs rows) {c : Addr} (h : V.ref c ∈ xs) : ∃ r, P H c r := by
  obtain ⟨i, hi⟩ := List.getElem?_of_mem h
  have hir : i < rows.length := by rw [← e.1]; exact (List.getElem?_eq_some_iff.mp hi).1
  obtain ⟨d, hd, q⟩ := e.2 i _ _ hi (List.getElem?_eq_getElem hir)
  have e2 : c = d := by injection hd
  subst e2
  exact ⟨_, q⟩
theorem CC.kp {H H' : Hp} {sa sl : Addr} {n n' : Nat} {R S G B : Addr} {refs refsG : List V} {rows : List Rw} {starts : List Int} {k : Int} (t : CC H sa sl n R S G B refs refsG rows starts k) (S' : StreamAt H' sa sl n') (hn : n' ≤ 1400) (kp : Keep sa sl H H') : CC H' sa sl n' R S G B refs refsG rows starts k :=
  { t with
    ta := t.ta.kp S' hn kp
    hG := t.hG.imp (fun h => kp _ _ t.Ga t.Gl h) fun h => kp _ _ t.Ga t.Gl h
    hB := t.hB.imp (fun h => kp _ _ t.Ba t.Bl h) fun h => kp _ _ t.Ba t.Bl h
    hEG := t.hEG.impM fun c r hm q => by
      have ca : c ≠ sa := fun e => t.ra (e ▸ hm)
      have cl : c ≠ sl := fun e => t.rl (e ▸ hm)
      exact q.imp (fun q => kp _ _ ca cl q) fun q => kp _ _ ca cl q }
theorem CC.same {H H' : Hp} {sa sl : Addr} {n : Nat} {R S G B : Addr} {refs refsG : List V} {rows : List Rw} {starts : List Int} {k : Int} (t : CC H sa sl n R S G B refs refsG rows starts k) (s : Same H H') : CC H' sa sl n R S G B refs refsG rows starts k :=
  t.kp (t.ta.st.same s) t.ta.hn (Keep.of s)
theorem SqT.nl {K : PySem.W.Frag} {H H' : Hp} {a : Addr} {xs : List V} (h : SqT K H a xs) (nl : ∀ c o, H c = some o → (∀ xs, o ≠ .lst xs) → H' c = some o) : SqT K H' a xs := by
  rcases h with (h | ⟨ob, h⟩) | h
  · exact .inl (.inl (nl _ _ h (by intro xs e; cases e)))
  · exact .inl (.inr ⟨ob, nl _ _ h (by intro xs e; cases e)⟩)
  · exact .inr h
theorem RuleAt.nl {K : PySem.W.Frag} {C : Addr} {H H' : Hp} {p : Addr} {rows : List Rw} {starts : List Int} {k : Int} (r : RuleAt K C H p rows starts k) (nl : ∀ c o, H c = some o → (∀ xs, o ≠ .lst xs) → H' c = some o) : RuleAt K C H' p rows starts k := by
  obtain ⟨dx, R, S, refs, h1, h2, h3, h4⟩ := r
  exact ⟨dx, R, S, refs, nl _ _ h1 (by intro xs e; cases e), nl _ _ h2 (by intro xs e; cases e), h3.imp fun c r q => nl _ _ q (by intro xs e; cases e), SqT.nl h4 nl⟩
structure FF (K : PySem.W.Frag) (C : Addr) (H : Hp) (p R S : Addr) (refs : List V) (rows : List Rw) (starts : List Int) (k : Int) : Prop where
  hR : H R = some (.lst refs)
  hE : Each H isT refs rows
  hS : H S = some (.lst (starts.map V.int))
  ra : RuleAt K C H p rows starts k
theorem FF.same {K : PySem.W.Frag} {C : Addr} {H H' : Hp} {p R S : Addr} {refs : List V} {rows : List Rw} {starts : List Int} {k : Int} (f : FF K C H p R S refs rows starts k) (s : Same H H') : FF K C H' p R S refs rows starts k :=
  ⟨s _ _ f.hR, f.hE.sameT s, s _ _ f.hS, f.ra.same s⟩
theorem FF.put {K : PySem.W.Frag} {C : Addr} {H : Hp} {p R S B : Addr} {refs xs ys : List V} {rows : List Rw} {starts : List Int} {k : Int} (f : FF K C H p R S refs rows starts k) (hB : H B = some (.lst xs)) (RB : R ≠ B) (SB : S ≠ B) : FF K C (upd H B (.lst ys)) p R S refs rows starts k := by
  have nl : ∀ c o, H c = some o → (∀ xs, o ≠ .lst xs) → (upd H B (.lst ys)) c = some o := by
    intro c o e q
    have ne : c ≠ B := by
      intro z
      subst z
      rw [hB] at e
      exact q xs (by injection e with e; exact e.symm)
    rw [upd_ne ne]
    exact e
  exact ⟨by rw [upd_ne RB]; exact f.hR, f.hE.imp fun c r q => nl _ _ q (by intro xs e; cases e), by rw [upd_ne SB]; exact f.hS, f.ra.nl nl⟩
theorem Each.row {H : Hp} {xs : List V} {rows : List Rw} (e : Each H isLT xs rows) : ∀ x ∈ xs, Row H 4 x := by
  intro x hx
  obtain ⟨i, hi⟩ := List.getElem?_of_mem hx
  have hir : i < rows.length := by rw [← e.1]; exact (List.getElem?_eq_some_iff.mp hi).1
  obtain ⟨d, hd, q⟩ := e.2 i _ _ hi (List.getElem?_eq_getElem hir)
  refine ⟨d, hd, q.imp (fun q => ⟨_, q⟩) fun q => ⟨_, q, by show 1 ≤ 4; decide, Nat.le_refl _⟩⟩
theorem rv_flat (r : Rw) : ∀ x ∈ rv r, Flat x := by
  intro x hx
  rcases List.mem_cons.mp hx with rfl | hx
  · exact .inl ⟨_, rfl⟩
  rcases List.mem_cons.mp hx with rfl | hx
  · exact .inr ⟨_, rfl⟩
  rcases List.mem_cons.mp hx with rfl | hx
  · exact .inl ⟨_, rfl⟩
  cases List.mem_singleton.mp hx
  exact .inr ⟨_, rfl⟩
theorem ints_flat (ns : List Int) : ∀ x ∈ ns.map V.int, Flat x := by
  intro x hx
  obtain ⟨z, _, rfl⟩ := List.mem_map.mp hx
  exact .inl ⟨z, rfl⟩
theorem two_rows {K : PySem.W.Frag} {H : Hp} {t1 t2 : Addr} {xs ys : List V} {rows : List Rw} (h1 : H t1 = some (.tup xs)) (h2 : H t2 = some (.tup ys)) (e1 : Each H isT xs rows) (e2 : Each H isT ys rows) (h48 : rows.length ≤ 48) : Two K H 2 (.ref t1) (.ref t2) := by
  refine .tup (SqT.of h1) (SqT.of h2) (by rw [e1.1, e2.1]) (by rw [e1.1]; exact Nat.le_trans h48 (by decide)) fun i x y hx hy => ?_
  have hi : i < rows.length := by rw [← e1.1]; exact (List.getElem?_eq_some_iff.mp hx).1
  obtain ⟨c, rfl, q⟩ := e1.2 i x _ hx (List.getElem?_eq_getElem hi)
  obtain ⟨d, rfl, q'⟩ := e2.2 i y _ hy (List.getElem?_eq_getElem hi)
  exact .flatT (SqT.of q) (SqT.of q') (by show 4 ≤ sizeLine; decide) (rv_flat _)
theorem two_due {K : PySem.W.Frag} {H : Hp} {tp due RR SS t1 t2 : Addr} {rr refs : List V} {rows : List Rw} {starts : List Int} {k n : Int} (h1 : H tp = some (.tup [.ref RR, .ref SS, .int k, .int n])) (h2 : H due = some (.tup [.ref t1, .ref t2, .int k, .int n])) (hRR : H RR = some (.tup rr)) (ht1 : H t1 = some (.tup refs)) (e1 : Each H isT rr rows) (e2 : Each H isT refs rows)
    (hSS : SqT K H SS (starts.map V.int)) (ht2 : SqT K H t2 (starts.map V.int)) (h48 : rows.length ≤ 48) (h16 : (starts.length : Int) ≤ 16) : Two K H 3 (.ref tp) (.ref due) := by
  refine .tup (SqT.of h1) (SqT.of h2) rfl (by show 4 ≤ sizeLine; decide) fun i x y hx hy => ?_
  match i, hx, hy with
  | 0, hx, hy =>
    cases hx
    cases hy
    exact two_rows hRR ht1 e1 e2 h48
  | 1, hx, hy =>
    cases hx
    cases hy
    exact .flatT hSS ht2 (by rw [List.length_map]; exact Nat.le_trans (by omega : starts.length ≤ 16) (by decide)) (ints_flat _)
  | 2, hx, hy =>
    cases hx
    cases hy
    exact .int _ _
  | 3, hx, hy =>
    cases hx
    cases hy
    exact .int _ _
  | (j + 4), hx, _ => simp at hx
theorem isL.nst {H : Hp} {sa sl : Addr} {n : Nat} {acc : List V} {rows : List Rw} (S : StreamAt H sa sl n) (e : Each H isL acc rows) : V.ref sa ∉ acc ∧ V.ref sl ∉ acc := by
  obtain ⟨ne, ns, x, z, h1, h2, _⟩ := S
  constructor
  · intro hm
    obtain ⟨r, q⟩ := e.mem hm
    have q' : H sa = some (.lst (rv r)) := q
    rw [h1] at q'
    injection q' with q'
    injection q' with q'
    unfold rv at q'
    injection q' with q1 q2
    cases q1
  · intro hm
    obtain ⟨r, q⟩ := e.mem hm
    have q' : H sl = some (.lst (rv r)) := q
    rw [h2] at q'
    injection q' with q'
    injection q' with q'
    unfold rv at q'
    cases ns with
    | nil => cases q'
    | cons a as =>
      cases as with
      | nil => cases q'
      | cons b bs =>
        injection q' with q1 q2
        injection q2 with q3 q4
        cases q3
structure Adr where
  dd : Addr
  fI : Addr
  dI : FuncData
  fStep : Addr
  dStep : FuncData
  fLen : Addr
  dLen : FuncData
  f1 : Addr
  d1 : FuncData
  f2 : Addr
  d2 : FuncData
  f3 : Addr
  d3 : FuncData
  f4 : Addr
  d4 : FuncData
  fDraw : Addr
  dDraw : FuncData
  fStart : Addr
  dStart : FuncData
  fSame : Addr
  dSame : FuncData
  fTable : Addr
  dTable : FuncData
  fHanded : Addr
  dHanded : FuncData
  fAfter : Addr
  dAfter : FuncData
  fSpoilt : Addr
  dSpoilt : FuncData
  fSteps : Addr
  dSteps : FuncData
structure Prog (K : PySem.W.Frag) (mg : Str → Option Value) (C : Addr) (A : Adr) : Prop where
  T : Txt K mg C
  I : FunI K A.fI A.dI A.dd
  M : Mk K C A.fI
  b2 : Binds K A.dI ["self", "rows", "starts"] []
  b1 : ∃ ds, Vals [V.ref A.dd] ds ∧ Binds K A.dI ["self", "rows", "starts"] ds
  dd : ∀ H, SqT K H A.dd [V.int 0]
  step : Fun K "step" "Rule.step" sStep A.fStep A.dStep
  bStep : Binds K A.dStep ["self", "state", "behind"] []
  len : Fun K "__len__" "Rule.__len__" sLen A.fLen A.dLen
  bLen : Binds K A.dLen ["self"] []
  mStep : Meth K C "step" A.fStep
  mLen : Meth K C "__len__" A.fLen
  isInt : Df K mg "is_integer" sIsInt A.f1 A.d1 ["value"]
  below : Df K mg "is_below" sBelow A.f2 A.d2 ["value", "count"]
  isRow : Df K mg "_is_row" sIsRow A.f3 A.d3 ["row", "count"]
  check : Df K mg "_check_table" sCheck A.f4 A.d4 ["rows", "starts"]
  draw : Df K mg "_law_draw" sDraw A.fDraw A.dDraw ["_law_stream", "_law_many"]
  start : Df K mg "_law_start" sStart A.fStart A.dStart ["_law_script"]
  same : Df K mg "_law_same" sSame A.fSame A.dSame ["_law_found", "_law_due"]
  table : Df K mg "_law_m_table" sTable A.fTable A.dTable ["_law_stream", "_law_most", "_law_marks"]
  handed : Df K mg "_law_m_handed" sHanded A.fHanded A.dHanded ["_law_stream", "_law_rows"]
  after : Df K mg "_law_m_after" sAfter A.fAfter A.dAfter ["_law_row", "_law_behind"]
  spoilt : Df K mg "_law_spoilt" sSpoilt A.fSpoilt A.dSpoilt ["_law_rows"]
  steps : Df K mg "_law_steps" sSteps A.fSteps A.dSteps ["_law_rule", "_law_rows"]
def spLaw (K : PySem.W.Frag) : Sp := fun vs H Q _ => ∃ (a : Addr) (ns : List Int), vs = [.ref a] ∧ SqL K H a (ns.map V.int) ∧ ns.length ≤ 63 ∧ ∀ H', Q (.bl true) H'
section
variable {P : Program} {w : World} {K : PySem.W.Frag} {mg : Str → Option Value} {base : Heap} {C : Addr} {A : Adr}
theorem scLaw : FnScope ["_law_script", "_law_stream", "_law_rows", "_law_starts", "_law_marks", "_law_given", "_law_begins", "_law_before", "_law_rule", "_law_due", "_law_row"] ["_law_script"] (defScope sLaw) := ⟨rfl, rfl, rfl, by decide +kernel, rfl, by decide +kernel, by decide +kernel⟩
theorem ok_law {f : Addr} {fd : FuncData} (F : Fun K "law" "law" sLaw f fd) (GG : Prog K mg C A) : FnOk P w K mg base CX0 7 f fd ["_law_script"] (spLaw K) := by
  have T := GG.T
  obtain ⟨ds, vd, bd⟩ := GG.b1
  have GI : FnOk P w K mg base CX0 5 A.fI A.dI ["self", "rows", "starts"] (spInit K C) := ok_init GG.I T GG.isInt GG.below GG.isRow GG.check
  have GLen : FnOk P w K mg base CX0 1 A.fLen A.dLen ["self"] (spLen K C) := ok_len GG.len T
  have GDraw : FnOk P w K mg base CX0 1 A.fDraw A.dDraw ["_law_stream", "_law_many"] spDraw := ok_draw GG.draw.F T
  have GStart : FnOk P w K mg base CX0 1 A.fStart A.dStart ["_law_script"] (spStart K) := ok_start GG.start.F T
  have GSame : FnOk P w K mg base CX0 4 A.fSame A.dSame ["_law_found", "_law_due"] (spSame K 3) := ok_same GG.same T 3
  have GTable : FnOk P w K mg base CX0 2 A.fTable A.dTable ["_law_stream", "_law_most", "_law_marks"] spTable := ok_table GG.table.F T GG.draw
  have GHanded : FnOk P w K mg base CX0 2 A.fHanded A.dHanded ["_law_stream", "_law_rows"] spHanded := ok_handed GG.handed.F T GG.draw
  have GSpoilt : FnOk P w K mg base CX0 1 A.fSpoilt A.dSpoilt ["_law_rows"] spSpoilt := ok_spoilt GG.spoilt.F T
  have GSteps : FnOk P w K mg base CX0 3 A.fSteps A.dSteps ["_law_rule", "_law_rows"] (spSteps K C) := ok_steps GG.steps.F T GG.same GG.after GG.step GG.mStep GG.bStep
  refine F.ok scLaw (fun vs H Q E h => ?_) (fun cdv A0 outer s H vs Q E hr h => ?_)
  · obtain ⟨a, ns, rfl, _⟩ := h
    rfl
  · obtain ⟨a, ns, rfl, hS, hlen, kk⟩ := h
    have hr4 : Room 4 _ := hr.mono (by decide)
    have hr3 : Room 3 _ := hr.mono (by decide)
    have hr2 : Room 2 _ := hr.mono (by decide)
    have hr1 : Room 1 _ := hr.mono (by decide)
    have e24 := @sm48
    refine ⟨_, pss_cons (ps_set (i := 1) scLaw.nd rfl (Or.inl rfl) (pe_call GStart hr1 rfl GG.start.M GG.start.F.kp GG.start.B .nil pass0 (pa_cons (pv 0) pa_nil)))
      (pss_cut (ps_asg (pe_call GTable hr2 rfl GG.table.M GG.table.F.kp GG.table.B .nil pass0 (pa_cons (pv 1) (pa_cons (pe_ix ix_list (pe_lst (pa_cons pe_int (pa_cons pe_int (pa_cons pe_int pa_nil)))) (pe_call GDraw hr1 rfl GG.draw.M GG.draw.F.kp GG.draw.B .nil pass0 (pa_cons (pv 1) (pa_cons pe_int pa_nil))) (fun _ _ => rfl)) (pa_cons pe_int pa_nil))))
        (pg_tup rfl (pgs_cons (pg_name (i := 2) scLaw.nd rfl (Or.inl rfl)) (pgs_cons (pg_name (i := 3) scLaw.nd rfl (Or.inl rfl)) (pgs_cons (pg_name (i := 4) scLaw.nd rfl (Or.inl rfl)) pgs_nil)))))
      (pss_cut (ps_if (pt_cmpR op_eq (pe_call GDraw hr1 rfl GG.draw.M GG.draw.F.kp GG.draw.B .nil pass0 (pa_cons (pv 1) (pa_cons pe_int pa_nil))) pe_int (nomark _))
        (pss_one (ps_par (i := 3) (j := 4) (by rfl) scLaw.nd rfl rfl (by decide) rfl rfl (pa_cons (pe_lst (pa_cons pe_int pa_nil)) (pa_cons pe_int pa_nil)) (by rfl))) pss_nil)
      (pss_cons (ps_set (i := 5) scLaw.nd rfl (Or.inl rfl) (pe_call GHanded hr2 rfl GG.handed.M GG.handed.F.kp GG.handed.B .nil pass0 (pa_cons (pv 1) (pa_cons (pv 2) pa_nil))))
      (pss_cut (ps_set (i := 6) scLaw.nd rfl (Or.inl rfl) (pe_ifExp (pt_cmpR op_eq (pe_call GDraw hr1 rfl GG.draw.M GG.draw.F.kp GG.draw.B .nil pass0 (pa_cons (pv 1) (pa_cons pe_int pa_nil))) pe_int (nomark _)) (pe_callTy call_list_of (by rfl) T.list_ boot_list' (pa_cons (pv 3) pa_nil)) (pe_callTy call_tuple_of (by rfl) T.tup_ boot_tuple' (pa_cons (pv 3) pa_nil))))
      (pss_cut (ps_setLc (i := 7) (own := [("_law_row", 10)]) (g := gName 10) (tt := tYes) (by rfl) scLaw.nd rfl rfl (sw_true rfl rfl rfl (by decide +kernel)) ((pi_list (pv 5)).or (pi_tup (pv 5))) (blkOk_by (N := ["_law_script", "_law_stream", "_law_rows", "_law_starts", "_law_marks", "_law_given", "_law_begins", "_law_before", "_law_rule", "_law_due", "_law_row"]) (sc := defScope sLaw) (by decide +kernel))
          (fun _ _ _ _ _ => pg_name (i := 10) scLaw.nd rfl (Or.inl rfl)) (fun _ _ _ _ _ => pts_nil)
          (fun _ _ _ _ _ => pe_callTy (call_listK (K := K) rfl) (by rfl) T.list_ boot_list' (pa_cons (pv 10) pa_nil)))
      (pss_cut (ps_if (PW.pt (pw_and (pt_cmpR (op_eqD hr.units) (pv 3) (pe_lst (pa_cons pe_int pa_nil)) (nomark _)) (pw_and1 (pt_cmpR op_eq (pe_call GDraw hr1 rfl GG.draw.M GG.draw.F.kp GG.draw.B .nil pass0 (pa_cons (pv 1) (pa_cons pe_int pa_nil))) pe_int (nomark _)))))
        (pss_one (ps_set (i := 8) scLaw.nd rfl (Or.inl rfl) (pe_make GG.M GI hr rfl T.mgC bd vd pass0 (pa_cons (pv 5) pa_nil))))
        (pss_one (ps_set (i := 8) scLaw.nd rfl (Or.inl rfl) (pe_make GG.M GI hr rfl T.mgC GG.b2 .nil pass0 (pa_cons (pv 5) (pa_cons (pv 6) pa_nil))))))
      (pss_cut (ps_if (PW.pt (pw_or (pt_cmpR (op_neD hr.units) (pe_lc (own := [("_law_row", 10)]) (g := gName 10) (tt := tYes) (by rfl) scLaw.nd ((pi_list (pv 5)).or (pi_tup (pv 5))) (blkOk_by (N := ["_law_script", "_law_stream", "_law_rows", "_law_starts", "_law_marks", "_law_given", "_law_begins", "_law_before", "_law_rule", "_law_due", "_law_row"]) (sc := defScope sLaw) (by decide +kernel))
          (fun _ _ _ _ _ => pg_name (i := 10) scLaw.nd rfl (Or.inl rfl)) (fun _ _ _ _ _ => pts_nil)
          (fun _ _ _ _ _ => pe_callTy (call_listK (K := K) rfl) (by rfl) T.list_ boot_list' (pa_cons (pv 10) pa_nil))) (pv 7) (nomark _))
          (pw_or1 (pt_cmpR (op_neD hr.units) (pe_callTy call_list_of (by rfl) T.list_ boot_list' (pa_cons (pv 6) pa_nil)) (pv 3) (nomark _))))) pss_never pss_nil)
      (pss_cut (ps_if (pt_cmpR op_lt (pe_call GSpoilt hr1 rfl GG.spoilt.M GG.spoilt.F.kp GG.spoilt.B .nil pass0 (pa_cons (pv 5) pa_nil)) (pe_callB call_len_seq (by rfl) T.len_ PySem.boot_len (pa_cons (pv 2) pa_nil)) (nomark _)) pss_never pss_nil)
      (pss_cut (ps_if (pt_val (pe_callB call_isi (by rfl) T.isi boot_isi (pa_cons (pv 6) (pa_cons (pe_bltn (v := .ty "list") (by rfl) T.list_ boot_list' rfl) pa_nil))))
        (pss_cons (ps_expr (pe_bm PySem.F.plainAttrs_list PySem.F.slot_list_append PySem.F.type_list_append mt_append (pv 6) (pa_cons pe_int pa_nil))) (pss_one (ps_asg pe_int (pg_sub (pv 6) pe_int set_list)))) pss_nil)
      (pss_cut (ps_set (i := 9) scLaw.nd rfl (Or.inl rfl) (pe_tup (pa_cons (pe_callTy call_tuple_of (by rfl) T.tup_ boot_tuple' (pa_cons (pe_lc (own := [("_law_row", 10)]) (g := gName 10) (tt := tYes) (by rfl) scLaw.nd (pi_list (pv 2)) (blkOk_by (N := ["_law_script", "_law_stream", "_law_rows", "_law_starts", "_law_marks", "_law_given", "_law_begins", "_law_before", "_law_rule", "_law_due", "_law_row"]) (sc := defScope sLaw) (by decide +kernel))
          (fun _ _ _ _ _ => pg_name (i := 10) scLaw.nd rfl (Or.inl rfl)) (fun _ _ _ _ _ => pts_nil)
          (fun _ _ _ _ _ => pe_callTy (call_tupleK (K := K) rfl) (by rfl) T.tup_ boot_tuple' (pa_cons (pv 10) pa_nil))) pa_nil))
          (pa_cons (pe_callTy call_tuple_of (by rfl) T.tup_ boot_tuple' (pa_cons (pv 3) pa_nil)) (pa_cons (pv 4) (pa_cons (pe_callB call_len_seq (by rfl) T.len_ PySem.boot_len (pa_cons (pv 2) pa_nil)) pa_nil))))))
      (pss_cut (ps_if (pt_not (pt_val (pe_call GSame hr4 rfl GG.same.M GG.same.F.kp GG.same.B .nil pass0 (pa_cons (pe_tup (pa_cons (pe_fld (pv 8) rfl) (pa_cons (pe_fld (pv 8) rfl) (pa_cons (pe_fld (pv 8) rfl) (pa_cons (pe_callB (call_lenOwn (E := E0) GG.mLen.at_ GG.mLen.fn GLen hr2 GG.bLen pass0) (by rfl) T.len_ PySem.boot_len (pa_cons (pv 8) pa_nil)) pa_nil))))) (pa_cons (pv 9) pa_nil))))) pss_never pss_nil)
      (pss_cons (ps_if (pt_not (pt_val (pe_call GSteps hr3 rfl GG.steps.M GG.steps.F.kp GG.steps.B .nil pass0 (pa_cons (pv 8) (pa_cons (pv 2) pa_nil))))) pss_never pss_nil)
      (pss_one (ps_ret (pe_call GSame hr4 rfl GG.same.M GG.same.F.kp GG.same.B .nil pass0 (pa_cons (pe_tup (pa_cons (pe_fld (pv 8) rfl) (pa_cons (pe_fld (pv 8) rfl) (pa_cons (pe_fld (pv 8) rfl) (pa_cons (pe_callB (call_lenOwn (E := E0) GG.mLen.at_ GG.mLen.fn GLen hr2 GG.bLen pass0) (by rfl) T.len_ PySem.boot_len (pa_cons (pv 8) pa_nil)) pa_nil))))) (pa_cons (pv 9) pa_nil))))))))))))))))), ?_⟩
    refine ⟨_, rfl, a, ns, rfl, hS, hlen, fun sa sl H1 S1 _ _ _ => ?_⟩
    refine ⟨fun σ' H' => ∃ (R S : Addr) (refs : List V) (rows : List Rw) (starts : List Int) (k : Int) (n : Nat), σ' = [some (V.ref a), some (V.ref sa), some (V.ref R), some (V.ref S), some (V.int k), none, none, none, none, none, none] ∧ n ≤ 1100 ∧ TA H' sa sl n R S refs rows starts k, ?_, ?_⟩
    · refine ⟨_, rfl, by show 3 ≤ sizeLine; decide, fun p hp => ?_⟩
      refine ⟨_, rfl, sa, sl, 0, 3, rfl, S1.same (Same.new hp), by decide, by decide, e24 (by decide) (by decide), fun r H2 r0 r1 S2 kp2 => ?_⟩
      obtain ⟨pa, pl⟩ := S1.ne hp
      have hpp := kp2 p _ pa pl upd_same
      rcases (by omega : r = 0 ∨ r = 1 ∨ r = 2) with rfl | rfl | rfl
      · refine ⟨p, _, _, _, rfl, rfl, SqL.of hpp, rfl, ?_⟩
        exact ⟨sa, sl, 1, 4, 4, rfl, S2, by decide, by decide, by decide, by decide, by decide, fun t R S refs rows starts k n' H' ht hR hE hS' gd S' hn' kp Ra Rl Sa Sl _ _ => ⟨t, _, rfl, SqT.of ht, rfl, _, _, rfl, _, _, rfl, _, _, rfl, rfl, R, S, refs, rows, starts, k, n', rfl, by omega, ⟨S', by omega, hR, hE, hS', gd, Ra, Rl, Sa, Sl⟩⟩⟩
      · refine ⟨p, _, _, _, rfl, rfl, SqL.of hpp, rfl, ?_⟩
        exact ⟨sa, sl, 1, 12, 4, rfl, S2, by decide, by decide, by decide, by decide, by decide, fun t R S refs rows starts k n' H' ht hR hE hS' gd S' hn' kp Ra Rl Sa Sl _ _ => ⟨t, _, rfl, SqT.of ht, rfl, _, _, rfl, _, _, rfl, _, _, rfl, rfl, R, S, refs, rows, starts, k, n', rfl, by omega, ⟨S', by omega, hR, hE, hS', gd, Ra, Rl, Sa, Sl⟩⟩⟩
      · refine ⟨p, _, _, _, rfl, rfl, SqL.of hpp, rfl, ?_⟩
        exact ⟨sa, sl, 1, 48, 4, rfl, S2, by decide, by decide, by decide, by decide, by decide, fun t R S refs rows starts k n' H' ht hR hE hS' gd S' hn' kp Ra Rl Sa Sl _ _ => ⟨t, _, rfl, SqT.of ht, rfl, _, _, rfl, _, _, rfl, _, _, rfl, rfl, R, S, refs, rows, starts, k, n', rfl, by omega, ⟨S', by omega, hR, hE, hS', gd, Ra, Rl, Sa, Sl⟩⟩⟩
    rintro _ H2 ⟨R, S, refs, rows, starts, k, n, rfl, hn, ta⟩
    refine ⟨fun σ' H' => ∃ (S : Addr) (starts : List Int) (k : Int), σ' = [some (V.ref a), some (V.ref sa), some (V.ref R), some (V.ref S), some (V.int k), none, none, none, none, none, none] ∧ TA H' sa sl (n + 1) R S refs rows starts k, ?_, ?_⟩
    · refine ⟨_, rfl, sa, sl, n, 4, rfl, ta.st, by omega, by decide, e24 (by decide) (by decide), fun r H3 r0 r1 S3 kp3 => ⟨rfl, _, rfl, ?_⟩⟩
      have ta3 := ta.kp S3 (by omega) kp3
      refine ifD_2 (fun _ => ?_) (fun _ => ⟨S, starts, k, rfl, ta3⟩)
      refine ⟨by show 1 ≤ sizeLine; decide, fun q hq => ⟨_, _, rfl, q, [0], 1, rfl, ?_⟩⟩
      have ta4 := ta3.same (Same.new (o := .lst [.int 0]) hq)
      obtain ⟨qa, ql⟩ := S3.ne hq
      exact { ta4 with hS := upd_same, Sa := qa, Sl := ql, gd := ⟨ta.gd.one, ta.gd.most, ta.gd.ok, .r1, fun s hs => by cases List.mem_singleton.mp hs; have := ta.gd.one; omega⟩ }
    rintro _ H3 ⟨S, starts, k, rfl, ta⟩
    refine ⟨_, rfl, _, rfl, sa, sl, R, n + 1, refs, rows, rfl, ta.st, by omega, ta.hR, ta.Ra, ta.Rl, ta.hE, ta.gd.most, fun G refsG n4 H4 hG G0 hEG hGne S4 hn4 kp4 => ?_⟩
    have ta4 := ta.kp S4 (by omega) kp4
    obtain ⟨Ga, Gl⟩ := ta.st.ne G0
    have nG : ∀ {c : Addr} {xs : List V}, H3 c = some (.lst xs) → H4 c = some (.lst xs) → V.ref c ∉ refsG := by
      intro c xs h3 h4 hm
      obtain ⟨r, q⟩ := hEG.mem hm
      rcases q with q | ⟨q, _⟩
      · rw [h4] at q; cases q
      · rw [h3] at q; cases q
    have rR := nG ta.hR ta4.hR
    have rS := nG ta.hS ta4.hS
    obtain ⟨_, _, _, _, za3, zl3, _⟩ := id ta.st
    refine ⟨fun σ' H' => ∃ (B : Addr), σ' = [some (V.ref a), some (V.ref sa), some (V.ref R), some (V.ref S), some (V.int k), some (V.ref G), some (V.ref B), none, none, none, none] ∧ CC H' sa sl (n4 + 1) R S G B refs refsG rows starts k, ?_, ?_⟩
    · refine ⟨_, rfl, sa, sl, n4, 2, rfl, S4, by omega, by decide, e24 (by decide) (by decide), fun r H5 r0 r1 S5 kp5 => ⟨rfl, _, rfl, ?_⟩⟩
      have ta5 := ta4.kp S5 (by omega) kp5
      have raG : ∀ {c : Addr}, c = sa ∨ c = sl → V.ref c ∉ refsG := by
        intro c hc hm
        obtain ⟨r, q⟩ := hEG.mem hm
        obtain ⟨_, _, _, _, za, zl, _⟩ := id S4
        rcases hc with rfl | rfl
        · rcases q with q | ⟨q, _⟩
          · rw [za] at q; cases q
          · rw [za3] at q; cases q
        · rcases q with q | ⟨q, _⟩
          · rw [zl] at q; cases q
          · rw [zl3] at q; cases q
      have hEG5 : Each H5 isLT refsG rows := hEG.impM fun c r' hm q => by
        have ca : c ≠ sa := fun e => raG (.inl e) hm
        have cl : c ≠ sl := fun e => raG (.inr e) hm
        exact q.imp (fun q => kp5 _ _ ca cl q) fun q => kp5 _ _ ca cl q.2
      have hG5 : LT H5 G refsG := hG.imp (fun h => kp5 _ _ Ga Gl h) fun h => kp5 _ _ Ga Gl h
      have mkC : ∀ (B : Addr) (o : HO), H5 B = none → (o = .lst (starts.map V.int) ∨ o = .tup (starts.map V.int)) → CC (upd H5 B o) sa sl (n4 + 1) R S G B refs refsG rows starts k := by
        intro B o hB ho
        have sm := Same.new (o := o) hB
        obtain ⟨Ba, Bl⟩ := S5.ne hB
        refine ⟨ta5.same sm, hG5.up sm, hEG5.sameLT sm, ?_, Ga, Gl, Ba, Bl, ?_, ?_, ?_, ?_, ?_, rR, rS, ?_, ?_, raG (.inl rfl), raG (.inr rfl)⟩
        · rcases ho with rfl | rfl
          · exact .inl upd_same
          · exact .inr upd_same
        · exact ne_of_none ta.hR G0
        · exact ne_of_none ta.hS G0
        · rcases hG5 with h | h
          · exact (ne_of_none h hB).symm
          · exact (ne_of_none h hB).symm
        · exact ne_of_none ta5.hR hB
        · exact ne_of_none ta5.hS hB
        · intro hm
          obtain ⟨r, q | q⟩ := hEG5.mem hm
          · rw [hB] at q; cases q
          · rw [hB] at q; cases q
        · exact fun hm => hGne _ hm rfl
      refine ifD_2 (fun _ => ?_) (fun _ => ?_)
      · exact ⟨_, rfl, S, _, rfl, .inl (SqL.of ta5.hS), fun B hB => ⟨B, rfl, mkC B _ hB (.inl rfl)⟩⟩
      · exact ⟨_, rfl, S, _, rfl, .inl ⟨SqL.of ta5.hS, fun B hB => ⟨B, rfl, mkC B _ hB (.inr rfl)⟩⟩⟩
    rintro _ H5 ⟨B, rfl, cc⟩
    have hlG : refsG.length = rows.length := cc.hEG.1
    refine ⟨fun σ' H' => ∃ (b : Addr) (bef : List V), σ' = [some (V.ref a), some (V.ref sa), some (V.ref R), some (V.ref S), some (V.int k), some (V.ref G), some (V.ref B), some (V.ref b), none, none, none] ∧ CC H' sa sl (n4 + 1) R S G B refs refsG rows starts k ∧ H' b = some (.lst bef) ∧ Each H' isL bef rows ∧ b ≠ sa ∧ b ≠ sl ∧ V.ref sa ∉ bef ∧ V.ref sl ∉ bef, ?_, ?_⟩
    · rcases cc.hG with hG | hG
      · refine .inl ⟨_, rfl, G, rfl, ⟨_, SqL.of hG⟩, fun Dd hD => ?_⟩
        refine lc_list (K := K) (a := G) (xs := refsG) (fun i H' => Same H5 H' ∧ ∃ acc, H' Dd = some (.lst acc) ∧ Each H' isL acc (rows.take i) ∧ V.ref Dd ∉ acc) ⟨Same.new hD, [], upd_same, by rw [List.take_zero]; exact Each.nil, fun hm => by cases hm⟩ (fun i H' _ q => SqL.of (q.1 _ _ hG)) ?_ ?_
        · rintro i x H' hx ⟨sm, acc, hd, he, hne⟩
          have hi : i < rows.length := by rw [← hlG]; exact (List.getElem?_eq_some_iff.mp hx).1
          have hr' : rows[i]? = some rows[i] := List.getElem?_eq_getElem hi
          obtain ⟨c, rfl, hc⟩ := cc.hEG.2 i x _ hx hr'
          have hal : acc.length < sizeLine := by
            rw [he.1, List.length_take]
            exact Nat.lt_of_le_of_lt (Nat.le_trans (Nat.min_le_left _ _) (Nat.le_of_lt hi)) (Nat.lt_of_le_of_lt cc.ta.gd.most (by decide))
          refine ⟨rfl, ?_⟩
          dsimp only [tYes]
          rw [if_pos rfl]
          refine ⟨_, rfl, c, rv rows[i], rfl, ?_, fun l hl => ⟨acc, ?_, hal, ?_, _, upd_same, ?_, ?_⟩⟩
          · exact (isLT.sq (K := K) hc).up sm
          · rw [upd_ne (ne_of_none hd hl)]
            exact hd
          · intro c' o e
            rw [upd_ne (ne_of_none e hD), upd_ne (ne_of_none (sm _ _ e) hl)]
            exact sm _ _ e
          · have hd' : (upd H' l (.lst (rv rows[i]))) Dd = some (.lst acc) := by rw [upd_ne (ne_of_none hd hl)]; exact hd
            have lD : l ≠ Dd := (ne_of_none hd hl).symm
            rw [take_succ' hr']
            refine Each.push (he.impM fun c' r' hm q => ?_) (show _ = _ from ?_)
            · show _ = _
              rw [upd_ne (fun e => hne (by rw [← e]; exact hm)), upd_ne (ne_of_none (H := H') q hl)]
              exact q
            · rw [upd_ne lD, upd_same]
          · intro hm
            rcases List.mem_append.mp hm with hm | hm
            · exact hne hm
            · have := List.mem_singleton.mp hm
              exact (ne_of_none hd hl) (by injection this)
        rintro H1 ⟨s1, acc, hd, he, hne⟩
        rw [hlG, List.take_length] at he
        have cc1 := cc.same s1
        obtain ⟨Da, Dl⟩ := cc.ta.st.ne hD
        obtain ⟨n1, n2⟩ := isL.nst cc1.ta.st he
        exact ⟨Dd, acc, rfl, cc1, hd, he, Da, Dl, n1, n2⟩
      · refine .inr ⟨_, rfl, G, rfl, ⟨_, SqT.of hG⟩, fun Dd hD => ?_⟩
        refine lc_tup (K := K) (a := G) (xs := refsG) (fun i H' => Same H5 H' ∧ ∃ acc, H' Dd = some (.lst acc) ∧ Each H' isL acc (rows.take i) ∧ V.ref Dd ∉ acc) ⟨Same.new hD, [], upd_same, by rw [List.take_zero]; exact Each.nil, fun hm => by cases hm⟩ (fun i H' _ q => SqT.of (q.1 _ _ hG)) ?_ ?_
        · rintro i x H' hx ⟨sm, acc, hd, he, hne⟩
          have hi : i < rows.length := by rw [← hlG]; exact (List.getElem?_eq_some_iff.mp hx).1
          have hr' : rows[i]? = some rows[i] := List.getElem?_eq_getElem hi
          obtain ⟨c, rfl, hc⟩ := cc.hEG.2 i x _ hx hr'
          have hal : acc.length < sizeLine := by
            rw [he.1, List.length_take]
            exact Nat.lt_of_le_of_lt (Nat.le_trans (Nat.min_le_left _ _) (Nat.le_of_lt hi)) (Nat.lt_of_le_of_lt cc.ta.gd.most (by decide))
          refine ⟨rfl, ?_⟩
          dsimp only [tYes]
          rw [if_pos rfl]
          refine ⟨_, rfl, c, rv rows[i], rfl, ?_, fun l hl => ⟨acc, ?_, hal, ?_, _, upd_same, ?_, ?_⟩⟩
          · exact (isLT.sq (K := K) hc).up sm
          · rw [upd_ne (ne_of_none hd hl)]
            exact hd
          · intro c' o e
            rw [upd_ne (ne_of_none e hD), upd_ne (ne_of_none (sm _ _ e) hl)]
            exact sm _ _ e
          · have hd' : (upd H' l (.lst (rv rows[i]))) Dd = some (.lst acc) := by rw [upd_ne (ne_of_none hd hl)]; exact hd
            have lD : l ≠ Dd := (ne_of_none hd hl).symm
            rw [take_succ' hr']
            refine Each.push (he.impM fun c' r' hm q => ?_) (show _ = _ from ?_)
            · show _ = _
              rw [upd_ne (fun e => hne (by rw [← e]; exact hm)), upd_ne (ne_of_none (H := H') q hl)]
              exact q
            · rw [upd_ne lD, upd_same]
          · intro hm
            rcases List.mem_append.mp hm with hm | hm
            · exact hne hm
            · have := List.mem_singleton.mp hm
              exact (ne_of_none hd hl) (by injection this)
        rintro H1 ⟨s1, acc, hd, he, hne⟩
        rw [hlG, List.take_length] at he
        have cc1 := cc.same s1
        obtain ⟨Da, Dl⟩ := cc.ta.st.ne hD
        obtain ⟨n1, n2⟩ := isL.nst cc1.ta.st he
        exact ⟨Dd, acc, rfl, cc1, hd, he, Da, Dl, n1, n2⟩
    rintro _ H6 ⟨b, bef, rfl, cc6, hb, heb, ba, bl, rba, rbl⟩
    refine ⟨fun σ' H' => ∃ (p : Addr) (n : Nat), σ' = [some (V.ref a), some (V.ref sa), some (V.ref R), some (V.ref S), some (V.int k), some (V.ref G), some (V.ref B), some (V.ref b), some (V.ref p), none, none] ∧ CC H' sa sl n R S G B refs refsG rows starts k ∧ H' b = some (.lst bef) ∧ Each H' isL bef rows ∧ RuleAt K C H' p rows starts k, ?_, ?_⟩
    · refine ⟨_, rfl, by show 1 ≤ sizeLine; decide, fun q hq => ?_⟩
      have sq := Same.new (o := .lst [.int 0]) hq
      have cc7 := cc6.same sq
      refine ⟨.list (starts.map PyData.int), .list [.int 0], .lst (SqL.of cc7.ta.hS) (dp_ints starts), .lst (SqL.of upd_same) (.cons (.int 0) .nil), ints_shaped starts, ints_shaped [0], _, rfl, ?_⟩
      have both : ∀ (H7 : Hp) (n : Nat), CC H7 sa sl n R S G B refs refsG rows starts k → H7 b = some (.lst bef) → Each H7 isL bef rows → ∀ (x : Addr) (H8 : Hp), H7 x = none → Same H7 H8 → RuleAt K C H8 x rows starts k →
          CC H8 sa sl n R S G B refs refsG rows starts k ∧ H8 b = some (.lst bef) ∧ Each H8 isL bef rows ∧ RuleAt K C H8 x rows starts k :=
        fun H7 n c7 h7 e7 x H8 nx s8 ra => ⟨c7.same s8, s8 _ _ h7, e7.imp fun c r q => s8 _ _ q, ra⟩
      by_cases he : PyData.eqv (.list (starts.map PyData.int)) (.list [.int 0]) = true
      · rw [he]
        refine iteT ?_
        have hz := ints_zero he
        refine ⟨_, rfl, sa, sl, _, 2, rfl, cc7.ta.st, by omega, by decide, e24 (by decide) (by decide), fun r H8 r0 r1 S8 kp8 => ⟨rfl, _, rfl, ?_⟩⟩
        have cc8 := cc7.kp S8 (by omega) kp8
        have hb8 := kp8 _ _ ba bl (sq _ _ hb)
        have he8 : Each H8 isL bef rows := heb.impM fun c r' hm q' => by
          have ca : c ≠ sa := fun e => rba (by rw [← e]; exact hm)
          have cl : c ≠ sl := fun e => rbl (by rw [← e]; exact hm)
          exact kp8 _ _ ca cl (sq _ _ q')
        refine ifD_2 (fun _ => ?_) (fun _ => ?_)
        · refine ⟨_, rfl, ?_⟩
          exact fun x dx nx ndx nex => mk_rule (refs := refsG) (starts := starts) (k := k) cc8.hG.sq cc8.hEG (.inr (by rw [hz]; exact GG.dd H8)) cc8.ta.gd nx ndx nex fun H9 s9 ra => ⟨rfl, x, _, rfl, both H8 _ cc8 hb8 he8 x H9 nx s9 ra⟩
        · refine ⟨_, rfl, _, rfl, ?_⟩
          exact fun x dx nx ndx nex => mk_rule cc8.hG.sq cc8.hEG cc8.hB.sq cc8.ta.gd nx ndx nex fun H9 s9 ra => ⟨rfl, x, _, rfl, both H8 _ cc8 hb8 he8 x H9 nx s9 ra⟩
      · rw [Bool.not_eq_true] at he
        rw [he]
        refine iteF ?_
        refine ⟨_, rfl, _, rfl, ?_⟩
        exact fun x dx nx ndx nex => mk_rule cc7.hG.sq cc7.hEG cc7.hB.sq cc7.ta.gd nx ndx nex fun H9 s9 ra => ⟨rfl, x, _, rfl, both _ _ cc7 (sq _ _ hb) (heb.imp fun c r q => sq _ _ q) x H9 nx s9 ra⟩
    rintro _ H7 ⟨p, n7, rfl, cc7, hb7, he7, ra7⟩
    have SIG : True := trivial
    refine ⟨fun σ' H' => σ' = [some (V.ref a), some (V.ref sa), some (V.ref R), some (V.ref S), some (V.int k), some (V.ref G), some (V.ref B), some (V.ref b), some (V.ref p), none, none] ∧ CC H' sa sl n7 R S G B refs refsG rows starts k ∧ RuleAt K C H' p rows starts k, ?_, ?_⟩
    · have hne8 : ∀ H8, Same H7 H8 → ∀ q, H8 q = none → Same H7 (upd H8 q (.lst (starts.map V.int))) := fun H8 s8 q hq => s8.trans (Same.new hq)
      rcases cc7.hG with hG | hG
      · refine .inl ⟨_, rfl, G, rfl, ⟨_, SqL.of hG⟩, fun Dd hD => ?_⟩
        refine lc_list (K := K) (a := G) (xs := refsG) (fun i H' => Same H7 H' ∧ ∃ acc, H' Dd = some (.lst acc) ∧ Each H' isL acc (rows.take i) ∧ V.ref Dd ∉ acc) ⟨Same.new hD, [], upd_same, by rw [List.take_zero]; exact Each.nil, fun hm => by cases hm⟩ (fun i H' _ q => SqL.of (q.1 _ _ hG)) ?_ ?_
        · rintro i x H' hx ⟨sm, acc, hd, he, hne⟩
          have hi : i < rows.length := by rw [← hlG]; exact (List.getElem?_eq_some_iff.mp hx).1
          have hr' : rows[i]? = some rows[i] := List.getElem?_eq_getElem hi
          obtain ⟨c, rfl, hc⟩ := cc7.hEG.2 i x _ hx hr'
          have hal : acc.length < sizeLine := by
            rw [he.1, List.length_take]
            exact Nat.lt_of_le_of_lt (Nat.le_trans (Nat.min_le_left _ _) (Nat.le_of_lt hi)) (Nat.lt_of_le_of_lt cc7.ta.gd.most (by decide))
          refine ⟨rfl, ?_⟩
          dsimp only [tYes]
          rw [if_pos rfl]
          refine ⟨_, rfl, c, rv rows[i], rfl, ?_, fun l hl => ⟨acc, ?_, hal, ?_, _, upd_same, ?_, ?_⟩⟩
          · exact (isLT.sq (K := K) hc).up sm
          · rw [upd_ne (ne_of_none hd hl)]
            exact hd
          · intro c' o e
            rw [upd_ne (ne_of_none e hD), upd_ne (ne_of_none (sm _ _ e) hl)]
            exact sm _ _ e
          · have hd' : (upd H' l (.lst (rv rows[i]))) Dd = some (.lst acc) := by rw [upd_ne (ne_of_none hd hl)]; exact hd
            have lD : l ≠ Dd := (ne_of_none hd hl).symm
            rw [take_succ' hr']
            refine Each.push (he.impM fun c' r' hm q => ?_) (show _ = _ from ?_)
            · show _ = _
              rw [upd_ne (fun e => hne (by rw [← e]; exact hm)), upd_ne (ne_of_none (H := H') q hl)]
              exact q
            · rw [upd_ne lD, upd_same]
          · intro hm
            rcases List.mem_append.mp hm with hm | hm
            · exact hne hm
            · have := List.mem_singleton.mp hm
              exact (ne_of_none hd hl) (by injection this)
        rintro H1 ⟨s1, acc, hd, he, hne⟩
        rw [hlG, List.take_length] at he
        have cc8 := cc7.same s1
        refine ⟨_, rfl, .list (rows.map rd), .list (rows.map rd), .lst (SqL.of hd) (rds_dp he), .lst (SqL.of (s1 _ _ hb7)) (rds_dp (he7.imp fun c r q => s1 _ _ q)), rds_shaped rows, rds_shaped rows, _, rfl, ?_⟩
        rw [rds_eqv]
        refine iteF ?_
        refine ⟨_, rfl, B, _, rfl, cc8.hB.sq, fun q hq => ?_⟩
        have cc9 := cc8.same (Same.new (o := .lst (starts.map V.int)) hq)
        refine ⟨_, rfl, .list (starts.map PyData.int), .list (starts.map PyData.int), .lst (SqL.of upd_same) (dp_ints starts), .lst (SqL.of cc9.ta.hS) (dp_ints starts), ints_shaped starts, ints_shaped starts, _, rfl, ?_⟩
        rw [ints_eqv]
        refine iteF ?_
        exact ⟨rfl, cc9, ra7.same (hne8 _ s1 q hq)⟩
      · refine .inr ⟨_, rfl, G, rfl, ⟨_, SqT.of hG⟩, fun Dd hD => ?_⟩
        refine lc_tup (K := K) (a := G) (xs := refsG) (fun i H' => Same H7 H' ∧ ∃ acc, H' Dd = some (.lst acc) ∧ Each H' isL acc (rows.take i) ∧ V.ref Dd ∉ acc) ⟨Same.new hD, [], upd_same, by rw [List.take_zero]; exact Each.nil, fun hm => by cases hm⟩ (fun i H' _ q => SqT.of (q.1 _ _ hG)) ?_ ?_
        · rintro i x H' hx ⟨sm, acc, hd, he, hne⟩
          have hi : i < rows.length := by rw [← hlG]; exact (List.getElem?_eq_some_iff.mp hx).1
          have hr' : rows[i]? = some rows[i] := List.getElem?_eq_getElem hi
          obtain ⟨c, rfl, hc⟩ := cc7.hEG.2 i x _ hx hr'
          have hal : acc.length < sizeLine := by
            rw [he.1, List.length_take]
            exact Nat.lt_of_le_of_lt (Nat.le_trans (Nat.min_le_left _ _) (Nat.le_of_lt hi)) (Nat.lt_of_le_of_lt cc7.ta.gd.most (by decide))
          refine ⟨rfl, ?_⟩
          dsimp only [tYes]
          rw [if_pos rfl]
          refine ⟨_, rfl, c, rv rows[i], rfl, ?_, fun l hl => ⟨acc, ?_, hal, ?_, _, upd_same, ?_, ?_⟩⟩
          · exact (isLT.sq (K := K) hc).up sm
          · rw [upd_ne (ne_of_none hd hl)]
            exact hd
          · intro c' o e
            rw [upd_ne (ne_of_none e hD), upd_ne (ne_of_none (sm _ _ e) hl)]
            exact sm _ _ e
          · have hd' : (upd H' l (.lst (rv rows[i]))) Dd = some (.lst acc) := by rw [upd_ne (ne_of_none hd hl)]; exact hd
            have lD : l ≠ Dd := (ne_of_none hd hl).symm
            rw [take_succ' hr']
            refine Each.push (he.impM fun c' r' hm q => ?_) (show _ = _ from ?_)
            · show _ = _
              rw [upd_ne (fun e => hne (by rw [← e]; exact hm)), upd_ne (ne_of_none (H := H') q hl)]
              exact q
            · rw [upd_ne lD, upd_same]
          · intro hm
            rcases List.mem_append.mp hm with hm | hm
            · exact hne hm
            · have := List.mem_singleton.mp hm
              exact (ne_of_none hd hl) (by injection this)
        rintro H1 ⟨s1, acc, hd, he, hne⟩
        rw [hlG, List.take_length] at he
        have cc8 := cc7.same s1
        refine ⟨_, rfl, .list (rows.map rd), .list (rows.map rd), .lst (SqL.of hd) (rds_dp he), .lst (SqL.of (s1 _ _ hb7)) (rds_dp (he7.imp fun c r q => s1 _ _ q)), rds_shaped rows, rds_shaped rows, _, rfl, ?_⟩
        rw [rds_eqv]
        refine iteF ?_
        refine ⟨_, rfl, B, _, rfl, cc8.hB.sq, fun q hq => ?_⟩
        have cc9 := cc8.same (Same.new (o := .lst (starts.map V.int)) hq)
        refine ⟨_, rfl, .list (starts.map PyData.int), .list (starts.map PyData.int), .lst (SqL.of upd_same) (dp_ints starts), .lst (SqL.of cc9.ta.hS) (dp_ints starts), ints_shaped starts, ints_shaped starts, _, rfl, ?_⟩
        rw [ints_eqv]
        refine iteF ?_
        exact ⟨rfl, cc9, ra7.same (hne8 _ s1 q hq)⟩
    rintro _ H8 ⟨rfl, cc8, ra8⟩
    refine ⟨fun σ' H' => σ' = [some (V.ref a), some (V.ref sa), some (V.ref R), some (V.ref S), some (V.int k), some (V.ref G), some (V.ref B), some (V.ref b), some (V.ref p), none, none] ∧ FF K C H' p R S refs rows starts k ∧ LT H' B (starts.map V.int), ?_, ?_⟩
    · refine ⟨_, rfl, G, refsG, rfl, cc8.hG, ?_, cc8.hEG.row, fun x hx e => cc8.rG (by rw [← e]; exact hx), fun n9 H9 hn9 kg => ?_⟩
      · rw [hlG]; exact cc8.ta.gd.most
      have hR9 := kg _ _ cc8.ta.hR (.inr ⟨cc8.RG, cc8.rR⟩)
      have nl : ∀ c o, H8 c = some o → (∀ xs, o ≠ .lst xs) → H9 c = some o := fun c o e q => kg c o e (.inl q)
      refine ⟨_, rfl, R, _, rfl, .inl (SqL.of hR9), _, _, rfl, rfl, _, rfl, ifD_no ?_ ⟨rfl, ⟨hR9, ?_, kg _ _ cc8.ta.hS (.inr ⟨cc8.SG, cc8.rS⟩), ra8.nl nl⟩, ?_⟩⟩
      · have h1 := cc8.ta.hE.1
        omega
      · exact cc8.ta.hE.imp fun c r q => nl _ _ q (by intro xs e; cases e)
      · exact cc8.hB.imp (fun h => kg _ _ h (.inr ⟨cc8.BG, cc8.rB⟩)) fun h => nl _ _ h (by intro xs e; cases e)
    rintro _ H9 ⟨rfl, ff9, hB9⟩
    refine ⟨fun σ' H' => σ' = [some (V.ref a), some (V.ref sa), some (V.ref R), some (V.ref S), some (V.int k), some (V.ref G), some (V.ref B), some (V.ref b), some (V.ref p), none, none] ∧ FF K C H' p R S refs rows starts k, ?_, ?_⟩
    · rcases hB9 with hB9 | hB9
      · refine ⟨_, rfl, _, _, _, _, _, rfl, .ty _, .base (.lst hB9), kit_ty (b := "list") (r := true) (by decide +kernel), _, rfl, iteT ?_⟩
        refine ⟨_, rfl, .inl ⟨rfl, _, SqL.of hB9⟩, ?_⟩
        refine ⟨B, _, _, rfl, rfl, hB9, ?_, ?_⟩
        · rw [List.length_map]
          have := root_le cc8.ta.gd.root
          exact Nat.lt_of_le_of_lt (by omega : starts.length ≤ 16) (by decide)
        refine ⟨_, rfl, B, _, 0, 0, rfl, rfl, upd_same, Evl.ixN_nat (j := 0) (by simp), rfl, ?_⟩
        rw [upd_upd]
        exact ff9.put hB9 cc8.RB cc8.SB
      · refine ⟨_, rfl, _, _, _, _, _, rfl, .ty _, .base (.tup hB9), kit_ty (b := "list") (r := false) (by decide +kernel), _, rfl, iteF ?_⟩
        exact ⟨rfl, ff9⟩
    rintro _ H10 ⟨rfl, ff⟩
    have hlr : refs.length = rows.length := ff.hE.1
    have gd := cc8.ta.gd
    refine ⟨fun σ' H' => ∃ due t1 t2, σ' = [some (V.ref a), some (V.ref sa), some (V.ref R), some (V.ref S), some (V.int k), some (V.ref G), some (V.ref B), some (V.ref b), some (V.ref p), some (V.ref due), none] ∧ FF K C H' p R S refs rows starts k ∧ H' due = some (.tup [.ref t1, .ref t2, .int k, .int (rows.length : Int)]) ∧ H' t1 = some (.tup refs) ∧ H' t2 = some (.tup (starts.map V.int)), ?_, ?_⟩
    · refine ⟨_, rfl, R, rfl, ⟨_, SqL.of ff.hR⟩, fun Dd hD => ?_⟩
      refine lc_list (K := K) (a := R) (xs := refs) (fun i H' => Same H10 H' ∧ H' Dd = some (.lst (refs.take i))) ⟨Same.new hD, by rw [List.take_zero]; exact upd_same⟩ (fun i H' _ q => SqL.of (q.1 _ _ ff.hR)) ?_ ?_
      · rintro i x H' hx ⟨sm, hd⟩
        have hi : i < rows.length := by rw [← hlr]; exact (List.getElem?_eq_some_iff.mp hx).1
        have hr' : rows[i]? = some rows[i] := List.getElem?_eq_getElem hi
        obtain ⟨c, rfl, hc⟩ := ff.hE.2 i x _ hx hr'
        refine ⟨rfl, ?_⟩
        dsimp only [tYes]
        rw [if_pos rfl]
        refine ⟨_, rfl, c, _, rfl, .inr ⟨SqT.of (sm _ _ hc), refs.take i, hd, ?_, ?_, ?_⟩⟩
        · rw [List.length_take]
          exact Nat.lt_of_le_of_lt (Nat.le_trans (Nat.min_le_left _ _) (Nat.le_of_lt hi)) (Nat.lt_of_le_of_lt gd.most (by decide))
        · intro c' o e
          rw [upd_ne (ne_of_none e hD)]
          exact sm _ _ e
        · rw [take_succ' hx]
          exact upd_same
      · rintro H1 ⟨s1, hd⟩
        rw [List.take_length] at hd
        have f1 := ff.same s1
        refine ⟨Dd, _, rfl, .inl ⟨SqL.of hd, fun t1 ht1 => ?_⟩⟩
        have f2 := f1.same (Same.new (o := .tup refs) ht1)
        refine ⟨_, rfl, S, _, rfl, .inl ⟨SqL.of f2.hS, fun t2 ht2 => ?_⟩⟩
        have sm2 := Same.new (o := .tup (starts.map V.int)) ht2
        have f3 := f2.same sm2
        refine ⟨_, rfl, _, rfl, R, _, rfl, .inl (SqL.of f3.hR), by show 4 ≤ sizeLine; decide, fun due hdue => ?_⟩
        refine ⟨due, t1, t2, rfl, f3.same (Same.new hdue), ?_, Same.new hdue _ _ (sm2 _ _ upd_same), Same.new hdue _ _ upd_same⟩
        rw [upd_same, hlr]
    rintro _ H11 ⟨due, t1, t2, rfl, ff11, hdue, ht1, ht2⟩
    have h48 := gd.most
    refine ⟨fun σ' H' => σ' = [some (V.ref a), some (V.ref sa), some (V.ref R), some (V.ref S), some (V.int k), some (V.ref G), some (V.ref B), some (V.ref b), some (V.ref p), some (V.ref due), none] ∧ Same H11 H', ?_, ?_⟩
    · have ra := ff11.ra
      obtain ⟨dx, RR, SS, rr, hp, hRR, hEE, hSS⟩ := id ra
      refine ⟨_, rfl, p, C, dx, _, _, rfl, hp, T.cl, T.nR, rf_rows _ _ _, _, rfl, p, C, dx, _, _, rfl, hp, T.cl, T.nS, rf_starts _ _ _, _, rfl, p, C, dx, _, _, rfl, hp, T.cl, T.nM, rf_marks _ _ _, ?_⟩
      refine ⟨_, rfl, p, dx, _, rfl, hp, p, rows, starts, k, rfl, ra, rows.length, rfl, by omega, by show 4 ≤ sizeLine; decide, fun tp htp => ?_⟩
      have sm := Same.new (o := .tup [.ref RR, .ref SS, .int k, .int (rows.length : Int)]) htp
      refine ⟨_, rfl, .ref tp, .ref due, rfl, two_due upd_same (sm _ _ hdue) (sm _ _ hRR) (sm _ _ ht1) (hEE.sameT sm) (ff11.hE.sameT sm) (SqT.up hSS sm) (SqT.of (sm _ _ ht2)) h48 (root_le gd.root), fun H12 s12 => ⟨true, rfl, iteF ?_⟩⟩
      exact ⟨rfl, sm.trans s12⟩
    rintro _ H12 ⟨rfl, s12⟩
    have ff12 := ff11.same s12
    refine ⟨_, rfl, _, rfl, p, R, refs, rows, starts, k, rfl, ff12.ra, ff12.hR, ff12.hE, h48, fun H13 s13 => ⟨true, rfl, iteF ?_⟩⟩
    have s := s12.trans s13
    have ff13 := ff11.same s
    have ra := ff13.ra
    obtain ⟨dx, RR, SS, rr, hp, hRR, hEE, hSS⟩ := id ra
    refine ⟨_, rfl, p, C, dx, _, _, rfl, hp, T.cl, T.nR, rf_rows _ _ _, _, rfl, p, C, dx, _, _, rfl, hp, T.cl, T.nS, rf_starts _ _ _, _, rfl, p, C, dx, _, _, rfl, hp, T.cl, T.nM, rf_marks _ _ _, ?_⟩
    refine ⟨_, rfl, p, dx, _, rfl, hp, p, rows, starts, k, rfl, ra, rows.length, rfl, by omega, by show 4 ≤ sizeLine; decide, fun tp htp => ?_⟩
    have sm := Same.new (o := .tup [.ref RR, .ref SS, .int k, .int (rows.length : Int)]) htp
    exact ⟨_, rfl, .ref tp, .ref due, rfl, two_due upd_same (sm _ _ (s _ _ hdue)) (sm _ _ hRR) (sm _ _ (s _ _ ht1)) (hEE.sameT sm) (ff13.hE.sameT sm) (SqT.up hSS sm) (SqT.of (sm _ _ (s _ _ ht2))) h48 (root_le gd.root), fun H14 _ => kk H14⟩
end
end PA

set_option maxHeartbeats 8000000
namespace PA
open PySem L2 RZ
theorem bI2_of {K : PySem.W.Frag} {f dd : Addr} {fd : FuncData} (F : FunI K f fd dd) : Binds K fd ["self", "rows", "starts"] [] := by
  obtain ⟨ds, hv, hb⟩ := F.binds1 (ps := ["self", "rows", "starts"]) 3 1 (by simp) rfl (fun T kV doc pm an cdv ct us its h1 h2 => match us, h1, its, h2 with | [_, _, _], _, [_], _ => ⟨_, rfl, rfl⟩)
  cases hv
  exact hb
theorem all_mk {l : PySem.W.OpenLaw} {w : World} {K : PySem.W.Frag} {h : Heap} {mg : Str → Option Value} {fa C TT DD DM gI gLaw gStep gLen g1 g2 g3 g4 gDraw gStart gSame gTable gHanded gAfter gSpoilt gSteps : Addr} (X : K.In h) (G : h.Ns mainGlobals mg) (hfa : mg "law" = some (.ref fa))
    {ocI kVI dcI pmI cdI ctI : Value} {odI anI : Option Addr} {slI : Array (Option Value)} {oT : Value} {odT : Option Addr} {mT : Nat} {slT : Array (Option Value)} {odD : Option Addr} {tkD : Tok} {mD : Nat} {slD : Array (Option Value)} {x1 x2 x3 x4 y1 y2 y3 y4 : Tok} {nM_ : Nat} {tkM : Tok} {ocStep kVStep dcStep pmStep cdStep ctStep : Value} {odStep anStep : Option Addr} {slStep : Array (Option Value)} {ocLen kVLen dcLen pmLen cdLen ctLen : Value} {odLen anLen : Option Addr} {slLen : Array (Option Value)} {oc1 kV1 dc1 pm1 cd1 ct1 : Value} {od1 an1 : Option Addr} {sl1 : Array (Option Value)} {oc2 kV2 dc2 pm2 cd2 ct2 : Value} {od2 an2 : Option Addr} {sl2 : Array (Option Value)} {oc3 kV3 dc3 pm3 cd3 ct3 : Value} {od3 an3 : Option Addr} {sl3 : Array (Option Value)} {oc4 kV4 dc4 pm4 cd4 ct4 : Value} {od4 an4 : Option Addr} {sl4 : Array (Option Value)} {ocDraw kVDraw dcDraw pmDraw cdDraw ctDraw : Value} {odDraw anDraw : Option Addr} {slDraw : Array (Option Value)} {ocStart kVStart dcStart pmStart cdStart ctStart : Value} {odStart anStart : Option Addr} {slStart : Array (Option Value)} {ocSame kVSame dcSame pmSame cdSame ctSame : Value} {odSame anSame : Option Addr} {slSame : Array (Option Value)} {ocTable kVTable dcTable pmTable cdTable ctTable : Value} {odTable anTable : Option Addr} {slTable : Array (Option Value)} {ocHanded kVHanded dcHanded pmHanded cdHanded ctHanded : Value} {odHanded anHanded : Option Addr} {slHanded : Array (Option Value)} {ocAfter kVAfter dcAfter pmAfter cdAfter ctAfter : Value} {odAfter anAfter : Option Addr} {slAfter : Array (Option Value)} {ocSpoilt kVSpoilt dcSpoilt pmSpoilt cdSpoilt ctSpoilt : Value} {odSpoilt anSpoilt : Option Addr} {slSpoilt : Array (Option Value)} {ocSteps kVSteps dcSteps pmSteps cdSteps ctSteps : Value} {odSteps anSteps : Option Addr} {slSteps : Array (Option Value)} {ocLaw kVLaw dcLaw pmLaw cdLaw ctLaw : Value} {odLaw anLaw : Option Addr} {slLaw : Array (Option Value)}
    (aC : PySem.W.nsIn K mainGlobals "Rule" = some (some (.ref C)))
    (aI : PySem.W.findIn K (.ref C) "__init__" = some (some (.ref gI)))
    (lI : K.lookup gI = some ⟨ocI, odI, .func (PySem.W.fnOf "__init__" "Rule.__init__" (defArgs sInit) (defBody sInit) (defScope sInit) (.ref TT) kVI dcI pmI anI cdI ctI), slI⟩)
    (cI : PySem.W.codeIn K cdI "Rule.__init__" = true)
    (kI : PySem.W.keepIn K (.ref gI) = true)
    (lT : K.lookup TT = some ⟨oT, odT, .seq #[.ref DD] mT, slT⟩)
    (lD : K.lookup DD = some ⟨.type "tuple", odD, .seq #[.int 0 tkD] mD, slD⟩)
    (aM : PySem.W.nsIn K mainGlobals "MARKS_OF_STARTS" = some (some (.ref DM)))
    (lM : K.lookup DM = some ⟨.type "dict", none, .dict #[⟨1, .int 1 x1, .int 1 y1⟩, ⟨4, .int 4 x2, .int 2 y2⟩, ⟨9, .int 9 x3, .int 3 y3⟩, ⟨16, .int 16 x4, .int 4 y4⟩] nM_, #[]⟩)
    (lw : (DM == sysModules) = false)
    (aMost : PySem.W.nsIn K mainGlobals "MOST_ROWS" = some (some (.int 48 tkM)))
    (iI : PySem.W.isFn K (.ref gI) = true)
    (aStep : PySem.W.findIn K (.ref C) "step" = some (some (.ref gStep)))
    (lStep : K.lookup gStep = some ⟨ocStep, odStep, .func (PySem.W.fnOf "step" "Rule.step" (defArgs sStep) (defBody sStep) (defScope sStep) .none kVStep dcStep pmStep anStep cdStep ctStep), slStep⟩)
    (cStep : PySem.W.codeIn K cdStep "Rule.step" = true)
    (kStep : PySem.W.keepIn K (.ref gStep) = true)
    (iStep : PySem.W.isFn K (.ref gStep) = true)
    (aLen : PySem.W.findIn K (.ref C) "__len__" = some (some (.ref gLen)))
    (lLen : K.lookup gLen = some ⟨ocLen, odLen, .func (PySem.W.fnOf "__len__" "Rule.__len__" (defArgs sLen) (defBody sLen) (defScope sLen) .none kVLen dcLen pmLen anLen cdLen ctLen), slLen⟩)
    (cLen : PySem.W.codeIn K cdLen "Rule.__len__" = true)
    (kLen : PySem.W.keepIn K (.ref gLen) = true)
    (iLen : PySem.W.isFn K (.ref gLen) = true)
    (a1 : PySem.W.nsIn K mainGlobals "is_integer" = some (some (.ref g1)))
    (l1 : K.lookup g1 = some ⟨oc1, od1, .func (PySem.W.fnOf "is_integer" "is_integer" (defArgs sIsInt) (defBody sIsInt) (defScope sIsInt) .none kV1 dc1 pm1 an1 cd1 ct1), sl1⟩)
    (c1 : PySem.W.codeIn K cd1 "is_integer" = true)
    (k1 : PySem.W.keepIn K (.ref g1) = true)
    (a2 : PySem.W.nsIn K mainGlobals "is_below" = some (some (.ref g2)))
    (l2 : K.lookup g2 = some ⟨oc2, od2, .func (PySem.W.fnOf "is_below" "is_below" (defArgs sBelow) (defBody sBelow) (defScope sBelow) .none kV2 dc2 pm2 an2 cd2 ct2), sl2⟩)
    (c2 : PySem.W.codeIn K cd2 "is_below" = true)
    (k2 : PySem.W.keepIn K (.ref g2) = true)
    (a3 : PySem.W.nsIn K mainGlobals "_is_row" = some (some (.ref g3)))
    (l3 : K.lookup g3 = some ⟨oc3, od3, .func (PySem.W.fnOf "_is_row" "_is_row" (defArgs sIsRow) (defBody sIsRow) (defScope sIsRow) .none kV3 dc3 pm3 an3 cd3 ct3), sl3⟩)
    (c3 : PySem.W.codeIn K cd3 "_is_row" = true)
    (k3 : PySem.W.keepIn K (.ref g3) = true)
    (a4 : PySem.W.nsIn K mainGlobals "_check_table" = some (some (.ref g4)))
    (l4 : K.lookup g4 = some ⟨oc4, od4, .func (PySem.W.fnOf "_check_table" "_check_table" (defArgs sCheck) (defBody sCheck) (defScope sCheck) .none kV4 dc4 pm4 an4 cd4 ct4), sl4⟩)
    (c4 : PySem.W.codeIn K cd4 "_check_table" = true)
    (k4 : PySem.W.keepIn K (.ref g4) = true)
    (aDraw : PySem.W.nsIn K mainGlobals "_law_draw" = some (some (.ref gDraw)))
    (lDraw : K.lookup gDraw = some ⟨ocDraw, odDraw, .func (PySem.W.fnOf "_law_draw" "_law_draw" (defArgs sDraw) (defBody sDraw) (defScope sDraw) .none kVDraw dcDraw pmDraw anDraw cdDraw ctDraw), slDraw⟩)
    (cDraw : PySem.W.codeIn K cdDraw "_law_draw" = true)
    (kDraw : PySem.W.keepIn K (.ref gDraw) = true)
    (aStart : PySem.W.nsIn K mainGlobals "_law_start" = some (some (.ref gStart)))
    (lStart : K.lookup gStart = some ⟨ocStart, odStart, .func (PySem.W.fnOf "_law_start" "_law_start" (defArgs sStart) (defBody sStart) (defScope sStart) .none kVStart dcStart pmStart anStart cdStart ctStart), slStart⟩)
    (cStart : PySem.W.codeIn K cdStart "_law_start" = true)
    (kStart : PySem.W.keepIn K (.ref gStart) = true)
    (aSame : PySem.W.nsIn K mainGlobals "_law_same" = some (some (.ref gSame)))
    (lSame : K.lookup gSame = some ⟨ocSame, odSame, .func (PySem.W.fnOf "_law_same" "_law_same" (defArgs sSame) (defBody sSame) (defScope sSame) .none kVSame dcSame pmSame anSame cdSame ctSame), slSame⟩)
    (cSame : PySem.W.codeIn K cdSame "_law_same" = true)
    (kSame : PySem.W.keepIn K (.ref gSame) = true)
    (aTable : PySem.W.nsIn K mainGlobals "_law_m_table" = some (some (.ref gTable)))
    (lTable : K.lookup gTable = some ⟨ocTable, odTable, .func (PySem.W.fnOf "_law_m_table" "_law_m_table" (defArgs sTable) (defBody sTable) (defScope sTable) .none kVTable dcTable pmTable anTable cdTable ctTable), slTable⟩)
    (cTable : PySem.W.codeIn K cdTable "_law_m_table" = true)
    (kTable : PySem.W.keepIn K (.ref gTable) = true)
    (aHanded : PySem.W.nsIn K mainGlobals "_law_m_handed" = some (some (.ref gHanded)))
    (lHanded : K.lookup gHanded = some ⟨ocHanded, odHanded, .func (PySem.W.fnOf "_law_m_handed" "_law_m_handed" (defArgs sHanded) (defBody sHanded) (defScope sHanded) .none kVHanded dcHanded pmHanded anHanded cdHanded ctHanded), slHanded⟩)
    (cHanded : PySem.W.codeIn K cdHanded "_law_m_handed" = true)
    (kHanded : PySem.W.keepIn K (.ref gHanded) = true)
    (aAfter : PySem.W.nsIn K mainGlobals "_law_m_after" = some (some (.ref gAfter)))
    (lAfter : K.lookup gAfter = some ⟨ocAfter, odAfter, .func (PySem.W.fnOf "_law_m_after" "_law_m_after" (defArgs sAfter) (defBody sAfter) (defScope sAfter) .none kVAfter dcAfter pmAfter anAfter cdAfter ctAfter), slAfter⟩)
    (cAfter : PySem.W.codeIn K cdAfter "_law_m_after" = true)
    (kAfter : PySem.W.keepIn K (.ref gAfter) = true)
    (aSpoilt : PySem.W.nsIn K mainGlobals "_law_spoilt" = some (some (.ref gSpoilt)))
    (lSpoilt : K.lookup gSpoilt = some ⟨ocSpoilt, odSpoilt, .func (PySem.W.fnOf "_law_spoilt" "_law_spoilt" (defArgs sSpoilt) (defBody sSpoilt) (defScope sSpoilt) .none kVSpoilt dcSpoilt pmSpoilt anSpoilt cdSpoilt ctSpoilt), slSpoilt⟩)
    (cSpoilt : PySem.W.codeIn K cdSpoilt "_law_spoilt" = true)
    (kSpoilt : PySem.W.keepIn K (.ref gSpoilt) = true)
    (aSteps : PySem.W.nsIn K mainGlobals "_law_steps" = some (some (.ref gSteps)))
    (lSteps : K.lookup gSteps = some ⟨ocSteps, odSteps, .func (PySem.W.fnOf "_law_steps" "_law_steps" (defArgs sSteps) (defBody sSteps) (defScope sSteps) .none kVSteps dcSteps pmSteps anSteps cdSteps ctSteps), slSteps⟩)
    (cSteps : PySem.W.codeIn K cdSteps "_law_steps" = true)
    (kSteps : PySem.W.keepIn K (.ref gSteps) = true)
    (aLaw : PySem.W.nsIn K mainGlobals "law" = some (some (.ref gLaw)))
    (lLaw : K.lookup gLaw = some ⟨ocLaw, odLaw, .func (PySem.W.fnOf "law" "law" (defArgs sLaw) (defBody sLaw) (defScope sLaw) .none kVLaw dcLaw pmLaw anLaw cdLaw ctLaw), slLaw⟩)
    (cLaw : PySem.W.codeIn K cdLaw "law" = true)
    (kLaw : PySem.W.keepIn K (.ref gLaw) = true)
    (pg : PySem.W.plainGet K C Str.empty = true)
    (hd : PySem.W.hasDictIn K C = true)
    (po : PySem.W.plainOver K C = true)
    (sa : PySem.W.findIn K (.ref C) "__setattr__" = some (some (.builtin "object.__setattr__")))
    (mk : PySem.W.makesIn K C = true)
    (kc : PySem.W.keepIn K (.ref C) = true)
    (nR : PySem.W.findIn K (.ref C) "rows" = some none)
    (nS : PySem.W.findIn K (.ref C) "starts" = some none)
    (nMk : PySem.W.findIn K (.ref C) "marks" = some none)
    (zisi : PySem.W.nsIn K mainGlobals "isinstance" = some none)
    (zint : PySem.W.nsIn K mainGlobals "int" = some none)
    (zboo : PySem.W.nsIn K mainGlobals "bool" = some none)
    (zlis : PySem.W.nsIn K mainGlobals "list" = some none)
    (ztup : PySem.W.nsIn K mainGlobals "tuple" = some none)
    (zlen : PySem.W.nsIn K mainGlobals "len" = some none)
    (zall : PySem.W.nsIn K mainGlobals "all" = some none)
    (zzip : PySem.W.nsIn K mainGlobals "zip" = some none)
    (zran : PySem.W.nsIn K mainGlobals "range" = some none) :
    ∃ fd : FuncData, (∀ (s : Shared) (v : Value), BindsTo s fd ⟨[v], []⟩ [("_law_script", v)]) ∧ ∀ base : Heap, K.In base → base.Ns mainGlobals mg → FnOk l.prog w K mg base CX0 7 fa fd ["_law_script"] (spLaw K) := by
  have e := hfa.symm.trans (PySem.W.mg_of X G aLaw)
  cases e
  have T : Txt K mg C := ⟨⟨pg, hd, po, sa⟩, nR, nS, nMk, PySem.W.mg_of X G aC, PySem.W.mg_none_of X G zisi, PySem.W.mg_none_of X G zint, PySem.W.mg_none_of X G zboo, PySem.W.mg_none_of X G zlis, PySem.W.mg_none_of X G ztup, PySem.W.mg_none_of X G zlen, PySem.W.mg_none_of X G zall, PySem.W.mg_none_of X G zzip, PySem.W.mg_none_of X G zran, ⟨tkM, PySem.W.mg_of X G aMost⟩, ⟨DM, PySem.W.mg_of X G aM, ⟨⟨x1, x2, x3, x4, y1, y2, y3, y4, nM_, lM⟩, lw⟩⟩⟩
  have FI : FunI K gI (PySem.W.fnOf "__init__" "Rule.__init__" (defArgs sInit) (defBody sInit) (defScope sInit) (.ref TT) kVI dcI pmI anI cdI ctI) DD := ⟨⟨_, _, _, _, _, _, _, _, _, _, rfl, lI, cI, .inr ⟨by simp, TT, _, [.ref DD], mT, rfl, lT, rfl, .cons rfl .nil⟩, .inl rfl⟩, kI⟩
  have bI1 := FI.binds1 (ps := ["self", "rows", "starts"]) 2 0 (by simp) rfl (fun T kV doc pm an cdv ct us its h1 h2 => match us, h1, its, h2 with | [_, _], _, [_], _ => ⟨_, rfl, rfl⟩)
  have bI2 : Binds K _ ["self", "rows", "starts"] [] := bI2_of FI
  have hdd : ∀ H, SqT K H DD [V.int 0] := fun H => .inr ⟨_, #[.int 0 tkD], mD, lD, rfl, rfl, (by show 1 ≤ sizeLine; decide), .cons ⟨tkD, rfl⟩ .nil⟩
  have FStep := fun_mk (st := sStep) lStep cStep kStep
  have bStep := FStep.binds (ps := ["self", "state", "behind"]) fun _ _ _ _ _ _ us hl => match us, hl with | [_, _, _], _ => rfl
  have FLen := fun_mk (st := sLen) lLen cLen kLen
  have bLen := FLen.binds (ps := ["self"]) fun _ _ _ _ _ _ us hl => match us, hl with | [_], _ => rfl
  have F1 := fun_mk (st := sIsInt) l1 c1 k1
  have b1 := F1.binds (ps := ["value"]) fun _ _ _ _ _ _ us hl => match us, hl with | [_], _ => rfl
  have F2 := fun_mk (st := sBelow) l2 c2 k2
  have b2 := F2.binds (ps := ["value", "count"]) fun _ _ _ _ _ _ us hl => match us, hl with | [_, _], _ => rfl
  have F3 := fun_mk (st := sIsRow) l3 c3 k3
  have b3 := F3.binds (ps := ["row", "count"]) fun _ _ _ _ _ _ us hl => match us, hl with | [_, _], _ => rfl
  have F4 := fun_mk (st := sCheck) l4 c4 k4
  have b4 := F4.binds (ps := ["rows", "starts"]) fun _ _ _ _ _ _ us hl => match us, hl with | [_, _], _ => rfl
  have FDraw := fun_mk (st := sDraw) lDraw cDraw kDraw
  have bDraw := FDraw.binds (ps := ["_law_stream", "_law_many"]) fun _ _ _ _ _ _ us hl => match us, hl with | [_, _], _ => rfl
  have FStart := fun_mk (st := sStart) lStart cStart kStart
  have bStart := FStart.binds (ps := ["_law_script"]) fun _ _ _ _ _ _ us hl => match us, hl with | [_], _ => rfl
  have FSame := fun_mk (st := sSame) lSame cSame kSame
  have bSame := FSame.binds (ps := ["_law_found", "_law_due"]) fun _ _ _ _ _ _ us hl => match us, hl with | [_, _], _ => rfl
  have FTable := fun_mk (st := sTable) lTable cTable kTable
  have bTable := FTable.binds (ps := ["_law_stream", "_law_most", "_law_marks"]) fun _ _ _ _ _ _ us hl => match us, hl with | [_, _, _], _ => rfl
  have FHanded := fun_mk (st := sHanded) lHanded cHanded kHanded
  have bHanded := FHanded.binds (ps := ["_law_stream", "_law_rows"]) fun _ _ _ _ _ _ us hl => match us, hl with | [_, _], _ => rfl
  have FAfter := fun_mk (st := sAfter) lAfter cAfter kAfter
  have bAfter := FAfter.binds (ps := ["_law_row", "_law_behind"]) fun _ _ _ _ _ _ us hl => match us, hl with | [_, _], _ => rfl
  have FSpoilt := fun_mk (st := sSpoilt) lSpoilt cSpoilt kSpoilt
  have bSpoilt := FSpoilt.binds (ps := ["_law_rows"]) fun _ _ _ _ _ _ us hl => match us, hl with | [_], _ => rfl
  have FSteps := fun_mk (st := sSteps) lSteps cSteps kSteps
  have bSteps := FSteps.binds (ps := ["_law_rule", "_law_rows"]) fun _ _ _ _ _ _ us hl => match us, hl with | [_, _], _ => rfl
  have PR : Prog K mg C ⟨DD, gI, PySem.W.fnOf "__init__" "Rule.__init__" (defArgs sInit) (defBody sInit) (defScope sInit) (.ref TT) kVI dcI pmI anI cdI ctI, gStep, PySem.W.fnOf "step" "Rule.step" (defArgs sStep) (defBody sStep) (defScope sStep) .none kVStep dcStep pmStep anStep cdStep ctStep, gLen, PySem.W.fnOf "__len__" "Rule.__len__" (defArgs sLen) (defBody sLen) (defScope sLen) .none kVLen dcLen pmLen anLen cdLen ctLen, g1, PySem.W.fnOf "is_integer" "is_integer" (defArgs sIsInt) (defBody sIsInt) (defScope sIsInt) .none kV1 dc1 pm1 an1 cd1 ct1, g2, PySem.W.fnOf "is_below" "is_below" (defArgs sBelow) (defBody sBelow) (defScope sBelow) .none kV2 dc2 pm2 an2 cd2 ct2, g3, PySem.W.fnOf "_is_row" "_is_row" (defArgs sIsRow) (defBody sIsRow) (defScope sIsRow) .none kV3 dc3 pm3 an3 cd3 ct3, g4, PySem.W.fnOf "_check_table" "_check_table" (defArgs sCheck) (defBody sCheck) (defScope sCheck) .none kV4 dc4 pm4 an4 cd4 ct4, gDraw, PySem.W.fnOf "_law_draw" "_law_draw" (defArgs sDraw) (defBody sDraw) (defScope sDraw) .none kVDraw dcDraw pmDraw anDraw cdDraw ctDraw, gStart, PySem.W.fnOf "_law_start" "_law_start" (defArgs sStart) (defBody sStart) (defScope sStart) .none kVStart dcStart pmStart anStart cdStart ctStart, gSame, PySem.W.fnOf "_law_same" "_law_same" (defArgs sSame) (defBody sSame) (defScope sSame) .none kVSame dcSame pmSame anSame cdSame ctSame, gTable, PySem.W.fnOf "_law_m_table" "_law_m_table" (defArgs sTable) (defBody sTable) (defScope sTable) .none kVTable dcTable pmTable anTable cdTable ctTable, gHanded, PySem.W.fnOf "_law_m_handed" "_law_m_handed" (defArgs sHanded) (defBody sHanded) (defScope sHanded) .none kVHanded dcHanded pmHanded anHanded cdHanded ctHanded, gAfter, PySem.W.fnOf "_law_m_after" "_law_m_after" (defArgs sAfter) (defBody sAfter) (defScope sAfter) .none kVAfter dcAfter pmAfter anAfter cdAfter ctAfter, gSpoilt, PySem.W.fnOf "_law_spoilt" "_law_spoilt" (defArgs sSpoilt) (defBody sSpoilt) (defScope sSpoilt) .none kVSpoilt dcSpoilt pmSpoilt anSpoilt cdSpoilt ctSpoilt, gSteps, PySem.W.fnOf "_law_steps" "_law_steps" (defArgs sSteps) (defBody sSteps) (defScope sSteps) .none kVSteps dcSteps pmSteps anSteps cdSteps ctSteps⟩ := ⟨T, FI, ⟨mk, aI, iI, kc⟩, bI2, bI1, hdd, FStep, bStep, FLen, bLen, ⟨aStep, iStep, kStep⟩, ⟨aLen, iLen, kLen⟩, ⟨F1, b1, PySem.W.mg_of X G a1⟩, ⟨F2, b2, PySem.W.mg_of X G a2⟩, ⟨F3, b3, PySem.W.mg_of X G a3⟩, ⟨F4, b4, PySem.W.mg_of X G a4⟩, ⟨FDraw, bDraw, PySem.W.mg_of X G aDraw⟩, ⟨FStart, bStart, PySem.W.mg_of X G aStart⟩, ⟨FSame, bSame, PySem.W.mg_of X G aSame⟩, ⟨FTable, bTable, PySem.W.mg_of X G aTable⟩, ⟨FHanded, bHanded, PySem.W.mg_of X G aHanded⟩, ⟨FAfter, bAfter, PySem.W.mg_of X G aAfter⟩, ⟨FSpoilt, bSpoilt, PySem.W.mg_of X G aSpoilt⟩, ⟨FSteps, bSteps, PySem.W.mg_of X G aSteps⟩⟩
  exact ⟨PySem.W.fnOf "law" "law" (defArgs sLaw) (defBody sLaw) (defScope sLaw) .none kVLaw dcLaw pmLaw anLaw cdLaw ctLaw, fun s v => .of_eq rfl, fun base _ _ => ok_law (fun_mk (st := sLaw) lLaw cLaw kLaw) PR⟩
theorem walk {l : PySem.W.OpenLaw} {q : Program} {loose : List Str} {XP : (Str → Option Value) → Heap → Prop} {YP : World → Heap → Prop} {d : DefRec} {K : Params → PySem.W.Frag} (hn : l.most = some 63) (hdf : d.params.defaults = [])
    (hY : ∀ (w : World) (h : Heap), YP w h → (K w.params).In h)
    (F : ∀ (w : World) (mg : Str → Option Value) (fa : Addr) (h : Heap), (K w.params).In h → h.Ns mainGlobals mg → mg d.name = some (.ref fa) →
      ∃ fd : FuncData, (∀ (s : Shared) (u : Value), BindsTo s fd ⟨[u], []⟩ [("_law_script", u)]) ∧ ∀ base : Heap, (K w.params).In base → base.Ns mainGlobals mg → FnOk l.prog w (K w.params) mg base CX0 7 fa fd ["_law_script"] (spLaw (K w.params))) :
    PySem.W.WalkO q loose XP YP l.row.toRowW d [] (fun f vs => PySem.call f vs) :=
  L2.walk_of (n := 63) (k := 7) (x := "_law_script") (CX := fun _ => CX0) (sp := fun w => spLaw (K w.params)) hn (by decide) hdf ⟨rfl, by decide, by decide⟩ hY F (fun _ _ a ns hl _ hS => ⟨a, ns, rfl, hS, hl, fun _ => rfl⟩) fun _ _ _ _ _ z => z
end PA

open PySem PySem.W PyProof.Rows
set_option maxRecDepth 100000 in
set_option maxHeartbeats 0 in
theorem PySem.Challenge.cw_pairahead_k04_rules_made_holds : PySem.Challenge.rw_pairahead_k04_rules_made.Holds := by
  w_on; o_law; k_head; (case hw => w_witness2)
  k_fill
  refine PA.walk (l := PySem.Challenge.rw_pairahead_k04_rules_made) rfl rfl (fun w h Y => PySem.W.kIn_of Y) ?F
  case F =>
    intro w mg fa h KX G hmg
    refine' PA.all_mk KX G hmg ?aC ?aI ?lI ?cI ?kI ?lT ?lD ?aM ?lM ?lw ?aMost ?iI ?aStep ?lStep ?cStep ?kStep ?iStep ?aLen ?lLen ?cLen ?kLen ?iLen ?a1 ?l1 ?c1 ?k1 ?a2 ?l2 ?c2 ?k2 ?a3 ?l3 ?c3 ?k3 ?a4 ?l4 ?c4 ?k4 ?aDraw ?lDraw ?cDraw ?kDraw ?aStart ?lStart ?cStart ?kStart ?aSame ?lSame ?cSame ?kSame ?aTable ?lTable ?cTable ?kTable ?aHanded ?lHanded ?cHanded ?kHanded ?aAfter ?lAfter ?cAfter ?kAfter ?aSpoilt ?lSpoilt ?cSpoilt ?kSpoilt ?aSteps ?lSteps ?cSteps ?kSteps ?aLaw ?lLaw ?cLaw ?kLaw ?pg ?hd ?po ?sa ?mk ?kc ?nR ?nS ?nMk ?zisi ?zint ?zboo ?zlis ?ztup ?zlen ?zall ?zzip ?zran
    (case aC => k_is)
    (case aI => k_is)
    (case lI => k_is)
    (case cI => k_is)
    (case kI => k_is)
    (case lT => k_is)
    (case lD => k_is)
    (case aM => k_is)
    (case lM => k_is)
    (case lw => first | rfl | decide | k_is)
    (case aMost => k_is)
    (case iI => k_is)
    (case aStep => k_is)
    (case lStep => k_is)
    (case cStep => k_is)
    (case kStep => k_is)
    (case iStep => k_is)
    (case aLen => k_is)
    (case lLen => k_is)
    (case cLen => k_is)
    (case kLen => k_is)
    (case iLen => k_is)
    (case a1 => k_is)
    (case l1 => k_is)
    (case c1 => k_is)
    (case k1 => k_is)
    (case a2 => k_is)
    (case l2 => k_is)
    (case c2 => k_is)
    (case k2 => k_is)
    (case a3 => k_is)
    (case l3 => k_is)
    (case c3 => k_is)
    (case k3 => k_is)
    (case a4 => k_is)
    (case l4 => k_is)
    (case c4 => k_is)
    (case k4 => k_is)
    (case aDraw => k_is)
    (case lDraw => k_is)
    (case cDraw => k_is)
    (case kDraw => k_is)
    (case aStart => k_is)
    (case lStart => k_is)
    (case cStart => k_is)
    (case kStart => k_is)
    (case aSame => k_is)
    (case lSame => k_is)
    (case cSame => k_is)
    (case kSame => k_is)
    (case aTable => k_is)
    (case lTable => k_is)
    (case cTable => k_is)
    (case kTable => k_is)
    (case aHanded => k_is)
    (case lHanded => k_is)
    (case cHanded => k_is)
    (case kHanded => k_is)
    (case aAfter => k_is)
    (case lAfter => k_is)
    (case cAfter => k_is)
    (case kAfter => k_is)
    (case aSpoilt => k_is)
    (case lSpoilt => k_is)
    (case cSpoilt => k_is)
    (case kSpoilt => k_is)
    (case aSteps => k_is)
    (case lSteps => k_is)
    (case cSteps => k_is)
    (case kSteps => k_is)
    (case aLaw => k_is)
    (case lLaw => k_is)
    (case cLaw => k_is)
    (case kLaw => k_is)
    (case pg => k_is)
    (case hd => k_is)
    (case po => k_is)
    (case sa => k_is)
    (case mk => k_is)
    (case kc => k_is)
    (case nR => k_is)
    (case nS => k_is)
    (case nMk => k_is)
    (case zisi => k_is)
    (case zint => k_is)
    (case zboo => k_is)
    (case zlis => k_is)
    (case ztup => k_is)
    (case zlen => k_is)
    (case zall => k_is)
    (case zzip => k_is)
    (case zran => k_is)
#print axioms PySem.Challenge.cw_pairahead_k04_rules_made_holds
